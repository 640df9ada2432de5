import PyProof.Rows.All
import Wide.All
import OpenK.AllK
import Wide.FinOn
import Lean
import PyProof.EqAt
import PyProof.EqKinds
import PyProof.TupleCall
import PySem.Challenge.RW_twomarks_k39_means_of_rules
set_option Elab.async false
set_option linter.all false
set_option maxRecDepth 100000
set_option maxHeartbeats 0
noncomputable abbrev My.vw : PySem.Program := PySem.W.view
 PySem.Challenge.rw_twomarks_k39_means_of_rules.row.prog [1, 2, 3, 5, 6, 7, 8, 9, 10, 11, 12, 13, 14, 15, 16, 18, 19, 21, 23, 24, 25, 27, 28, 29, 30, 31, 32, 33, 35, 36, 37, 38, 39, 40, 41, 42, 43, 44, 45, 46, 47]
open PySem PySem.W in
theorem My.hd_l {p q:Program} {loose:List Str} {Xt:Shared->Bool} {α:Type} {Yf:Shared->α} {Ya:World->α} {N:Nat} (a:∀ w,(openEnds treeTable p w N).map (λs=>openSeen q loose (importedModules p.main.body) Xt true s)=some (openGood q loose)) (b:∀ w,(openEnds treeTable p w N).map Yf=some (Ya w)):LeftO p q loose Xt Yf Ya N:=λw=>by
 have h:=a w
 have g:=b w
 cases e:openEnds treeTable p w N with
 | none=>rw [e] at h;exact nomatch h
 | some s=>rw [e,Option.map_some] at h g;rw [Option.map_some,Option.some.inj h,Option.some.inj g]
theorem My.hd_b {A B C H:Prop} (f:A->B->C->H) (p:A∧B∧C):H:=f p.1 p.2.1 p.2.2
local macro_rules
 | `(tactic| o_head $H:term) => `(tactic| (
  refine My.hd_b (λa b c => PySem.W.holds_open (q := My.vw) (loose := [])
   (Xt := λs => PySem.W.xlAt My.vw [] s && PySem.W.recOk
    (PySem.W.RowW.records PySem.Challenge.rw_twomarks_k39_means_of_rules.row.toRowW) s)
   (XP := PySem.W.XL My.vw []) (Yf := ($H).obs)
   (Ya := ($H).val) (YP := ($H).says) (N := 20000) (My.hd_l a b)
   ($H).of ($H).keeps (λs e => PySem.W.xl_of s
    (Bool.and_eq_true_iff.mp e).1) PySem.W.XL.keeps
   (by rfl) (by rfl) (by rfl)
   (λs e => PySem.W.recFacts_of
    (Bool.and_eq_true_iff.mp e).2)
   (by rfl) ?k1 (by decide +kernel)
   ⟨rfl, rfl, rfl, rfl, rfl, by decide +kernel⟩ ?hw c) ?hc
  (case k1 => assumption)))
open_top My.hd_0 for PySem.Challenge.rw_twomarks_k39_means_of_rules
noncomputable def My.hd_1:=λb c=>My.hd_0 ⟨λw=>by kernel_rfl,b,c⟩
noncomputable def My.hd:=λc=>My.hd_1 (λw=>by kernel_rfl) c
set_option maxHeartbeats 4000000
namespace L2
open PySem PySem.Spec PyProof.Rows
noncomputable abbrev aA:=Sum Int Str
noncomputable def jv:aA->Value->Bool
 | .inl k,v=>Value.isInt k v
 | .inr x,v=>Value.isStrOf x v
noncomputable def Zl0 (w:World):aA->Int
 | .inl k=>hashInt k
 | .inr x=>hashStr w x
theorem fQ:∀ {k:aA} {v:Value},jv k v=true->(∃ i t,k=Sum.inl i/\v=Value.int i t)\/(∃ x t,k=Sum.inr x/\v=Value.str x t)
 | .inl i,v,h=>by
  obtain ⟨t,e⟩:=Value.isInt_shape (k:=i) (v:=v) h
  exact .inl ⟨i,t,rfl,e⟩
 | .inr x,v,h=>by
  obtain ⟨t,e⟩:=Value.isStrOf_shape (x:=x) (v:=v) h
  exact .inr ⟨x,t,rfl,e⟩
theorem ZlZ (i:Int) (t:Tok):jv (.inl i) (.int i t)=true:=by simp [jv,Value.isInt]
theorem ZlY (x:Str) (t:Tok):jv (.inr x) (.str x t)=true:=by simp [jv,Value.isStrOf]
theorem ZlX (a b:Int):decide ((Sum.inl a:aA)=Sum.inl b)=(a == b):=by
 by_cases e:a=b
 ·subst e; simp
 ·have h:¬ (Sum.inl a:aA)=Sum.inl b:=λq=>e (Sum.inl.inj q)
  rw [decide_eq_false h]
  exact (beq_eq_false_iff_ne.mpr e).symm
theorem ZlU (a b:Str):decide ((Sum.inr a:aA)=Sum.inr b)=decide (a=b):=by
 by_cases e:a=b
 ·subst e; simp
 ·have h:¬ (Sum.inr a:aA)=Sum.inr b:=λq=>e (Sum.inr.inj q)
  rw [decide_eq_false h,decide_eq_false e]
theorem ZlW (a:Int) (b:Str):decide ((Sum.inl a:aA)=Sum.inr b)=false:=decide_eq_false (λq=>nomatch q)
theorem ZlV (a:Str) (b:Int):decide ((Sum.inr a:aA)=Sum.inl b)=false:=decide_eq_false (λq=>nomatch q)
noncomputable def cJ (prog:Program) (w:World):PySem.KeyKind prog w aA where
 is:=jv
 hash:=Zl0 w
 inj:=λv a b ha hb=>by
  rcases fQ ha with ⟨i,t,rfl,rfl⟩ | ⟨x,t,rfl,rfl⟩
  ·rcases fQ hb with ⟨j,u,rfl,e⟩ | ⟨y,u,rfl,e⟩
   ·injection e with e1 _; rw [e1]
   ·exact nomatch e
  ·rcases fQ hb with ⟨j,u,rfl,e⟩ | ⟨y,u,rfl,e⟩
   ·exact nomatch e
   ·injection e with e1 _; rw [e1]
 byValue:=λk v h=>by
  rcases fQ h with ⟨i,t,rfl,rfl⟩ | ⟨x,t,rfl,rfl⟩ <;> rfl
 pyHash:=λhv h=>by
  rcases fQ hv with ⟨i,t,rfl,rfl⟩ | ⟨x,t,rfl,rfl⟩
  ·exact wpAny_pyHash_int h
  ·exact wpAny_pyHash_str h
 eqBool:=λhu hv h=>by
  rcases fQ hu with ⟨i,t,rfl,rfl⟩ | ⟨x,t,rfl,rfl⟩
  ·rcases fQ hv with ⟨j,u,rfl,rfl⟩ | ⟨y,u,rfl,rfl⟩
   ·rw [ZlX] at h; exact wpAny_eqBool_int h
   ·rw [ZlW] at h; exact SeqAt.EqAt.int_str i t y u _ _ _ _ h
  ·rcases fQ hv with ⟨j,u,rfl,rfl⟩ | ⟨y,u,rfl,rfl⟩
   ·rw [ZlV] at h; exact SeqAt.EqAt.str_int x t j u _ _ _ _ h
   ·rw [ZlU] at h; exact wpAny_eqBool_str h
 «strs»:=λk x t v h=>by
  rcases fQ h with ⟨i,u,rfl,e⟩ | ⟨y,u,rfl,e⟩
  ·exact nomatch e
  ·injection e with e1 _
   subst e1
   cases v <;> rfl
theorem Zlu (prog:Program) (w:World) (i:Int) (t:Tok):(cJ prog w).is (.inl i) (.int i t)=true:=ZlZ i t
theorem Zlt (prog:Program) (w:World) (x:Str) (t:Tok):(cJ prog w).is (.inr x) (.str x t)=true:=ZlY x t
inductive V where
 | non | bl (b:Bool) | int (i:Int) | str (x:Str) | byt (b:Array UInt8) | flt (b:UInt64) | ref (a:Addr) | ty (n:String)
 deriving DecidableEq
noncomputable def RelV:V->Value->Prop
 | .non,u=>u=Value.none
 | .bl b,u=>u=Value.bool b
 | .int i,u=>∃ t,u=Value.int i t
 | .str x,u=>∃ t,u=Value.str x t
 | .byt b,u=>∃ t,u=Value.bytes b t
 | .flt b,u=>∃ t,u=Value.float b t
 | .ref a,u=>u=Value.ref a
 | .ty n,u=>u=Value.type n
noncomputable abbrev Vals:List V->List Value->Prop:=Paired RelV
theorem Vals.length {xs:List V} {us:List Value} (r:Vals xs us):xs.length=us.length:=Paired.length r
theorem Vals.get {xs:List V} {us:List Value} {i:Nat} {x:V} (h:Vals xs us) (e:xs[i]?=some x):∃ u,us[i]?=some u/\RelV x u:=by
 induction h generalizing i with
 | nil=>cases e
 | cons r t ih=>cases i with | zero=>cases e; exact ⟨_,rfl,r⟩ | succ i=>exact ih (i:=i) e
theorem Vals.set {x:V} {u:Value} (r:RelV x u) {xs:List V} {us:List Value} (i:Nat) (h:Vals xs us):Vals (xs.set i x) (us.set i u):=by
 induction h generalizing i with
 | nil=>exact .nil
 | cons q t ih=>cases i with | zero=>exact .cons r t | succ i=>exact .cons q (ih i)
theorem Vals.append {xs ys:List V} {us ws:List Value} (h:Vals xs us) (s:Vals ys ws):Vals (xs++ys) (us++ws):=by
 induction h with
 | nil=>exact s
 | cons r t ih=>exact .cons r ih
theorem Vals.take {xs:List V} {us:List Value} (n:Nat) (h:Vals xs us):Vals (xs.take n) (us.take n):=by
 induction h generalizing n with
 | nil=>rw [List.take_nil,List.take_nil]; exact .nil
 | cons r t ih=>cases n with | zero=>exact .nil | succ n=>exact .cons r (ih n)
theorem Vals.drop {xs:List V} {us:List Value} (n:Nat) (h:Vals xs us):Vals (xs.drop n) (us.drop n):=by
 induction h generalizing n with
 | nil=>rw [List.drop_nil,List.drop_nil]; exact .nil
 | cons r t ih=>cases n with | zero=>exact .cons r t | succ n=>exact ih n
theorem Vals.none_of:∀ {xs:List V} {us:List Value} {i:Nat},Vals xs us->xs[i]?=none->us[i]?=none:=λ{xs us i} r e=>by
 have h1:=r.length
 have h2:xs.length<=i:=List.getElem?_eq_none_iff.mp e
 exact List.getElem?_eq_none_iff.mpr (by omega)
noncomputable def RelO:Option V->Option Value->Prop
 | some v,some u=>RelV v u
 | none,none=>True
 | _,_=>False
noncomputable def KV {κ:Type}:List (κ×V)->List (κ×Value)->Prop:=Paired λ(p:κ×V) (q:κ×Value)=>p.1=q.1/\RelV p.2 q.2
noncomputable def kV:aA->V
 | .inl i=>.int i
 | .inr x=>.str x
inductive HO where
 /-- a list -/
 | lst (xs:List V)
 /-- a tuple (never changes) -/
 | tup (xs:List V)
 /-- a dict whose keys are ints and texts; one whose keys are tuples of ints and texts (the empty one is both) -/
 | dK (kvs:List (aA×V)) | dT (kvs:List (List aA×V))
 /-- a set of ints: its members,its size -/
 | set (S:Int->Bool) (n:Nat)
 /-- an instance of the class at C,its dict at dx,its attributes -/
 | ins (C dx:Addr) (fs:List (Str×V))
 /-- the dict of the instance at x -/
 | own (x:Addr)
 /-- the dict of an exception -/
 | xd (fs:List (Str×V))
 /-- a bound method,f of x -/
 | met (f x:Addr)
 /-- a range object lo,lo+1,.. below hi -/
 | rng (lo hi:Int)
 /-- a thing that is known to the object (the script; a dict while a loop walks it): read,never written while it is so -/
 | frz (o:Obj) (u:HO)
 /-- a code object's table -/
 | tbl (ps:Array Value)
 /-- any other thing,by what is true of its one object (a def of one's own: SetO a S n:=HO.ext λh=>..) -/
 | ext (φ:Heap->Prop)
noncomputable abbrev Hp:=Addr->Option HO
noncomputable def upd (H:Hp) (a:Addr) (o:HO):Hp:=λb=>if b=a then some o else H b
theorem bZ {H:Hp} {a:Addr} {o:HO}:upd H a o a=some o:=by unfold upd; rw [if_pos rfl]
theorem aL {H:Hp} {a b:Addr} {o:HO} (h:b≠a):upd H a o b=H b:=by unfold upd; rw [if_neg h]
theorem kD {H:Hp} {a b:Addr} {o u:HO} (h:H a=some o) (h':H b=some u) (d:o≠u):a≠b:=by
 intro e; subst e; rw [h] at h'; exact d (Option.some.inj h')
theorem cm {H:Hp} {a b:Addr} {o:HO} (h:H a=some o) (h':H b=none):a≠b:=by
 intro e; subst e; rw [h] at h'; cases h'
section
variable (P:Program) (w:World)
noncomputable def ObjOk (H:Hp) (h:Heap) (a:Addr):HO->Prop
 | .lst xs=>xs.length<=sizeLine/\∃ (its:List Value) (n:Nat),Vals xs its/\h.get? a=some { cls:=.type "list",data:=.seq its.toArray n }
 | .tup xs=>xs.length<=sizeLine/\∃ its:List Value,Vals xs its/\IsTup h a its.toArray
 | .dK kvs=>kvs.length<=sizeLine/\(a == sysModules)=false/\∃ vs,KV kvs vs/\h.DictOf (cJ P w) a vs
 | .dT kvs=>kvs.length<=sizeLine/\(a == sysModules)=false/\∃ xs:List (List aA×Addr×Value),
   Paired (λ(p:List aA×V) (q:List aA×Addr×Value)=>p.1=q.1/\H q.2.1=some (.tup (p.1.map kV))/\RelV p.2 q.2.2) kvs xs /\
   ∃ o es ep,h.get? a=some o/\o.ExactDict/\o.data=.dict es ep/\es.toList=xs.map (entryOfKey (tupleKind (cJ P w)))/\(xs.map (·.1)).Nodup
 | .set S n=>h.SetOf (intKind P w) a S n
 | .ins C dx fs=>H dx=some (.own a)/\fs.length<=1000/\dx≠a/\h.get? a=some (PySem.W.instObj C dx) /\
   ∃ mA,h.Ns1 dx mA/\(∀ f,RelO (fs.lookup f) (mA f))/\PySem.Within mA (fs.map (·.1))
 | .own _=>∃ o,h.get? a=some o
 | .xd fs=>∃ mA,h.Ns1 a mA/\∀ f,RelO (fs.lookup f) (mA f)
 | .rng lo hi=>∃ t u v,h.get? a=some { cls:=.type "range",data:=.fields #[.int lo t,.int hi u,.int 1 v] }
 | .frz o u=>h.get? a=some o/\ObjOk H h a u
 | .tbl ps=>h.get? a=some { cls:=.none,data:=.fields ps }
 | .met f x=>h.get? a=some (PySem.W.methodObj (.ref f) (.ref x))
 | .ext φ=>φ h/\(∃ o,h.get? a=some o)/\∀ h1 h2:Heap,φ h1->(∀ o,h1.get? a=some o->h2.get? a=some o)->φ h2
noncomputable def HOk (H:Hp) (h:Heap):Prop:=∀ a o,H a=some o->ObjOk P w H h a o
end
section
variable {P:Program} {w:World} {H H':Hp} {h h':Heap} {a:Addr} {o:HO}
theorem ObjOk.lt (x:ObjOk P w H h a o):a < h.objs.size:=by
 cases o with
 | lst xs=>obtain ⟨_,_,_,_,e⟩:=x; exact Heap.lt_size e
 | tup xs=>obtain ⟨_,_,_,p⟩:=x; exact p.lt
 | dK kvs=>obtain ⟨_,_,_,_,o,_,_,e,_⟩:=x; exact Heap.lt_size e
 | dT kvs=>obtain ⟨_,_,_,_,o,_,_,e,_⟩:=x; exact Heap.lt_size e
 | set S n=>obtain ⟨o,_,_,_,e,_⟩:=x; exact Heap.lt_size e
 | ins C dx fs=>obtain ⟨_,_,_,e,_⟩:=x; exact Heap.lt_size e
 | own y=>obtain ⟨_,e⟩:=x; exact Heap.lt_size e
 | xd fs=>obtain ⟨_,⟨_,_,_,e,_⟩,_⟩:=x; exact Heap.lt_size e
 | rng lo hi=>obtain ⟨_,_,_,e⟩:=x; exact Heap.lt_size e
 | frz ob u=>obtain ⟨e,_⟩:=x; exact Heap.lt_size e
 | tbl ps=>exact Heap.lt_size (show h.get? a=some _ from x)
 | met f y=>exact Heap.lt_size (show h.get? a=some _ from x)
 | ext φ=>obtain ⟨_,⟨_,e⟩,_⟩:=x; exact Heap.lt_size e
theorem Paired.mapP {α β:Type} {F G:α->β->Prop} {l₁:List α} {l₂:List β} (h:Paired F l₁ l₂) (f:∀ a b,F a b->G a b):Paired G l₁ l₂:=by
 induction h with
 | nil=>exact .nil
 | cons r t ih=>exact .cons (f _ _ r) ih
theorem ObjOk.stay (x:ObjOk P w H h a o) (k:∀ b u,(b=a\/H b=some (.own a))->h.get? b=some u->h'.get? b=some u)
  (ho:∀ b,H b=some (.own a)->H' b=some (.own a)) (ht:∀ b xs,H b=some (.tup xs)->H' b=some (.tup xs)):ObjOk P w H' h' a o:=by
 induction o with
 | lst xs=>obtain ⟨z,its,n,r,e⟩:=x; exact ⟨z,its,n,r,k _ _ (.inl rfl) e⟩
 | tup xs=>obtain ⟨z,its,r,ob,e,c⟩:=x; exact ⟨z,its,r,ob,k _ _ (.inl rfl) e,c⟩
 | dK kvs=>obtain ⟨z,y,vs,r,ob,es,ep,e,c⟩:=x; exact ⟨z,y,vs,r,ob,es,ep,k _ _ (.inl rfl) e,c⟩
 | dT kvs =>
  obtain ⟨z,y,xs,r,ob,es,ep,e,c⟩:=x
  exact ⟨z,y,xs,Paired.mapP r λp q z=>⟨z.1,ht _ _ z.2.1,z.2.2⟩,ob,es,ep,k _ _ (.inl rfl) e,c⟩
 | set S n=>obtain ⟨ob,es,ep,t,e,c⟩:=x; exact ⟨ob,es,ep,t,k _ _ (.inl rfl) e,c⟩
 | ins C dx fs =>
  obtain ⟨d,z,ne,e,mA,⟨od,es,ep,e2,c⟩,r⟩:=x
  exact ⟨ho _ d,z,ne,k _ _ (.inl rfl) e,mA,⟨od,es,ep,k _ _ (.inr d) e2,c⟩,r⟩
 | own y=>obtain ⟨ob,e⟩:=x; exact ⟨ob,k _ _ (.inl rfl) e⟩
 | xd fs=>obtain ⟨mA,⟨od,es,ep,e,c⟩,r⟩:=x; exact ⟨mA,⟨od,es,ep,k _ _ (.inl rfl) e,c⟩,r⟩
 | rng lo hi=>obtain ⟨t,u,v,e⟩:=x; exact ⟨t,u,v,k _ _ (.inl rfl) e⟩
 | frz ob u ih=>obtain ⟨e,q⟩:=x; exact ⟨k _ _ (.inl rfl) e,ih q⟩
 | tbl ps =>
  have e:h.get? a=some { cls:=.none,data:=.fields ps }:=x
  show h'.get? a=some { cls:=.none,data:=.fields ps }
  exact k a _ (.inl rfl) e
 | met f y =>
  have e:h.get? a=some (PySem.W.methodObj (.ref f) (.ref y)):=x
  show h'.get? a=some (PySem.W.methodObj (.ref f) (.ref y))
  exact k a _ (.inl rfl) e
 | ext φ=>obtain ⟨p,⟨o,e⟩,st⟩:=x; exact ⟨st _ _ p λo q=>k _ _ (.inl rfl) q,⟨o,k _ _ (.inl rfl) e⟩,st⟩
theorem HOk.lt (x:HOk P w H h) (e:H a=some o):a < h.objs.size:=(x a o e).lt
theorem HOk.fresh (x:HOk P w H h) (e:h.objs.size<=a):H a=none:=by
 cases q:H a with
 | none=>rfl
 | some u=>exact absurd (Nat.lt_of_lt_of_le (x.lt q) e) (Nat.lt_irrefl _)
theorem HOk.kept (x:HOk P w H h) (k:∀ b u,h.get? b=some u->h'.get? b=some u):HOk P w H h':=λa o e =>
 (x a o e).stay (λb u _ q=>k b u q) (λ_ q=>q) λ_ _ q=>q
theorem HOk.laid (x:HOk P w H h) (k:∀ b u,h.get? b=some u->h'.get? b=some u) (hp:h.objs.size<=a) (new:ObjOk P w (upd H a o) h' a o):HOk P w (upd H a o) h':=λb u e=>by
 have hn:=x.fresh hp
 by_cases hb:b=a
 ·subst hb; rw [bZ] at e; cases e; exact new
 ·rw [aL hb] at e
  exact (x b u e).stay (λc v _ q=>k c v q) (λc q=>by rw [aL (cm q hn)]; exact q) λc xs q=>by rw [aL (cm q hn)]; exact q
end
noncomputable def Rd (H:Hp) (a:Addr) (u:HO):Prop:=H a=some u\/∃ o,H a=some (.frz o u)
theorem Rd.ok {P:Program} {w:World} {H:Hp} {h:Heap} {a:Addr} {u:HO} (r:Rd H a u) (x:HOk P w H h):ObjOk P w H h a u:=by
 rcases r with r | ⟨o,r⟩
 ·exact x a u r
 ·obtain ⟨_,q⟩:=x a _ r
  exact q
noncomputable def lA:Option HO->Prop
 | some (.lst _)=>True
 | some (.dK _)=>True
 | some (.dT _)=>True
 | some (.set _ _)=>True
 | some (.ins _ _ _)=>True
 | some (.ext _)=>True
 | _=>False
section
variable {P:Program} {w:World} {H:Hp} {h h':Heap} {x e:Addr} {o':HO}
theorem HOk.write (ok:HOk P w H h) (mu:lA (H x)) (he:e=x\/H e=some (.own x)) (k:∀ b u,b≠e->h.get? b=some u->h'.get? b=some u) (heo:∃ u,h'.get? e=some u)
  (new:ObjOk P w (upd H x o') h' x o'):HOk P w (upd H x o') h':=λb u q=>by
 have nown:∀ c y,H c=some (.own y)->c≠x:=λc y r z=>by subst z; rw [r] at mu; exact mu
 have ntup:∀ c xs,H c=some (.tup xs)->c≠x:=λc xs r z=>by subst z; rw [r] at mu; exact mu
 by_cases hb:b=x
 ·subst hb; rw [bZ] at q; cases q; exact new
 ·rw [aL hb] at q
  by_cases hbe:b=e
  ·have q':H b=some (.own x):=by
    rcases he with z | z
    ·exact absurd (hbe.trans z) hb
    ·rw [hbe]; exact z
   rw [q] at q'; cases q'
   obtain ⟨v,hv⟩:=heo
   exact ⟨v,by rw [hbe]; exact hv⟩
  ·refine (ok b u q).stay (λc v hc r=>k c v ?_ r) (λc r=>by rw [aL (nown c b r)]; exact r) λc xs r=>by rw [aL (ntup c xs r)]; exact r
   rcases hc with rfl | hc
   ·exact hbe
   ·rintro rfl
    rcases he with z | z
    ·exact nown c b hc z
    ·rw [hc] at z; cases z; exact hb rfl
end
structure Un (fs ex:List Addr) (H H':Hp) (h h':Heap):Prop where
 keep:∀ b o,h.get? b=some o->H b=none->b ∉ fs->b ∉ ex->h'.get? b=some o
 slot:∀ b o,h.get? b=some o->H b=none->b∈fs->b ∉ ex->∃ sl,h'.get? b=some { o with slots:=sl }
 free:∀ b o,h.get? b=some o->H b=none->b ∉ ex->H' b=none
 there:∀ b o,h.get? b=some o->b ∉ ex->∃ o',h'.get? b=some o'
 tups:∀ b xs,H b=some (.tup xs)->H' b=some (.tup xs)
 frzs:∀ b o u,H b=some (.frz o u)->H' b=some (.frz o u)
 tbls:∀ b ps,H b=some (.tbl ps)->∃ more,H' b=some (.tbl (ps++more))
section
variable {fs fs' ex ex':List Addr} {H H1 H2:Hp} {h h1 h2 h':Heap} {a x e:Addr} {o:HO}
theorem Un.any (u:Un fs ex H H1 h h1) {b:Addr} {ob:Obj} (q:h.get? b=some ob) (n:H b=none) (hx:b ∉ ex):∃ sl,h1.get? b=some { ob with slots:=sl }:=by
 by_cases hb:b∈fs
 ·exact u.slot b ob q n hb hx
 ·exact ⟨ob.slots,u.keep b ob q n hb hx⟩
theorem Un.kept (k:∀ b u,h.get? b=some u->h'.get? b=some u):Un fs ex H H h h' :=
 ⟨λb ob q _ _ _=>k b ob q,λb ob q _ _ _=>⟨ob.slots,k b ob q⟩,λ_ _ _ n _=>n,λb ob q _=>⟨ob,k b ob q⟩,λ_ _ q=>q,λ_ _ _ q=>q,λ_ ps q=>⟨#[],by rw [q]; simp⟩⟩
theorem Un.refl:Un fs ex H H h h:=Un.kept λ_ _ q=>q
theorem Un.laid (k:∀ b u,h.get? b=some u->h'.get? b=some u) (hp:h.objs.size<=a) (hn:H a=none):Un fs ex H (upd H a o) h h' where
 keep:=λb u q _ _ _=>k b u q
 slot:=λb u q _ _ _=>⟨u.slots,k b u q⟩
 free:=λb u q n _=>by rw [aL (Nat.ne_of_lt (Nat.lt_of_lt_of_le (Heap.lt_size q) hp))]; exact n
 there:=λb u q _=>⟨u,k b u q⟩
 tups:=λb xs q=>by rw [aL (cm q hn)]; exact q
 frzs:=λb u xs q=>by rw [aL (cm q hn)]; exact q
 tbls:=λb ps q=>⟨#[],by rw [aL (cm q hn),q]; simp⟩
theorem Un.write (mu:lA (H x)) (he:e=x\/H e=some (.own x)) (k:∀ b u,b≠e->h.get? b=some u->h'.get? b=some u) (heo:∃ u,h'.get? e=some u):Un fs ex H (upd H x o) h h':=by
 have hx:∀ b,H b=none->b≠x:=λb n z=>by subst z; rw [n] at mu; exact mu
 have hb:∀ b,H b=none->b≠e:=λb n z=>by
  subst z
  rcases he with r | r
  ·exact hx b n r
  ·rw [n] at r; cases r
 have hm:∀ b u,H b=some u->¬ lA (some u)->b≠x:=λb u q nm z=>by subst z; rw [q] at mu; exact nm mu
 refine ⟨λb u q n _ _=>k b u (hb b n) q,λb u q n _ _=>⟨u.slots,k b u (hb b n) q⟩,λb u q n _=>by rw [aL (hx b n)]; exact n,λb u q _=>?_,
  λb xs q=>by rw [aL (hm b _ q λz=>z)]; exact q,λb u xs q=>by rw [aL (hm b _ q λz=>z)]; exact q,λb ps q=>⟨#[],by rw [aL (hm b _ q λz=>z),q]; simp⟩⟩
 by_cases hbe:b=e
 ·subst hbe; exact heo
 ·exact ⟨u,k b u hbe q⟩
end
noncomputable def trk (h:Heap) (H:Hp):List Addr:=(List.range h.objs.size).filter λa=>(H a).isSome
noncomputable def fR (h:Heap) (H:Hp):Heap:=PySem.W.hideAll h (trk h H)
theorem Zmc (h:Heap) (H:Hp):(fR h H).objs.size=h.objs.size:=PySem.W.hideAll_size _ _
theorem Zmd {h:Heap} {H:Hp} {b:Addr} {o:Obj} (e:h.get? b=some o) (n:H b=none):(fR h H).get? b=some o :=
 PySem.W.hideAll_get _ e λhm=>by
  have q:(H b).isSome=true:=(List.mem_filter.mp hm).2
  rw [n] at q; simp at q
theorem Zlf {h:Heap} {H:Hp} {b:Addr} {o:Obj} (e:(fR h H).get? b=some o):h.get? b=some o/\H b=none:=by
 have e':h.get? b=some o:=PySem.W.of_hideAll (trk h H) e
 refine ⟨e',?_⟩
 cases q:H b with
 | none=>rfl
 | some x =>
  have hm:b∈trk h H:=List.mem_filter.mpr ⟨List.mem_range.mpr (Heap.lt_size e'),by simp [q]⟩
  have z:(fR h H).get? b=none:=PySem.W.hideAll_none (trk h H) hm
  rw [z] at e; cases e
noncomputable def Zoq (g h:Heap) (L:Addr):List (Addr×Obj):=(List.range h.objs.size).filterMap λa=>if a=L\/(g.get? a).isSome=true then none else (h.get? a).map λo=>(a,o)
noncomputable def rest (g h:Heap) (L d:Addr):List (Addr×Obj):=(Zoq g h L).filter λp=>decide (p.1≠d)
structure Mod (K:PySem.W.Frag) (mg:Str->Option Value) (base:Heap):Prop where
 kin:K.In base
 glob:base.Ns mainGlobals mg
 blt:∃ mb,base.Ns builtinsNs mb/\∀ x:Str,x≠"__name__"->mb x=bootBuiltins x
 nolimit:base.NoLimit
 nodig:base.NoDigits
structure Cx where
 prog:Program
 w:World
 K:PySem.W.Frag
 mg:Str->Option Value
 base:Heap
 A:Around
 N:List Str
 s₀:Shared
 H₀:Hp
 env:Env
 outer:List Env
 stack:List Env
 ex:List Addr
 fn:Str->Bool
 calm:Bool
 pn:List (Addr×Obj)
 xe:Value->Shared->Prop
noncomputable def frs (l:List Env):List Addr:=l.filterMap (·.frame)
noncomputable abbrev Cx.fs (X:Cx):List Addr:=frs X.outer
noncomputable def nO (sc:Scope) (x:Str):Prop:=sc.names.lookup x=some .local\/sc.names.lookup x=some .cell\/sc.names.lookup x=some .free
noncomputable def lB (sc:Scope) (x:Str):Prop:=sc.names.lookup x=some .local\/sc.names.lookup x=some .cell
noncomputable def Zo9 (env:Env) (h:Heap) (m:Str->Option Value) (x:Str) (u:Value):Prop :=
 (env.kindOf x=some .local/\m x=some u)\/((env.kindOf x=some .cell\/env.kindOf x=some .free)/\∃ c,env.cells.lookup x=some c/\h.IsCell c (some u))
structure Cx.Ok (X:Cx):Prop where
 mod:Mod X.K X.mg X.base
 kind:X.env.scope.kind=.function
 glob:X.env.globals=mainGlobals
 blt:X.env.builtins=builtinsNs
 above:X.s₀.heap.objs.size<=X.env.locals
 inj:∀ x y c,X.env.cells.lookup x=some c->X.env.cells.lookup y=some c->x=y
 has:∀ x,(X.env.kindOf x=some .cell\/X.env.kindOf x=some .free)->∃ c,X.env.cells.lookup x=some c
 cab:∀ x c,X.fn x=true->X.env.cells.lookup x=some c->X.s₀.heap.objs.size<=c
 hd:X.calm=true->X.A.handled=none
 frames:X.A.frames=some X.stack
 stk:X.stack=X.outer\/(X.stack=X.env::X.outer/\X.env.frame=some X.env.locals)
 exf:∀ b∈X.ex,b≠X.env.locals/\∀ x c,X.env.cells.lookup x=some c->c≠b
 bs:∀ b o,X.base.get? b=some o->X.s₀.heap.get? b=some o/\X.H₀ b=none
 bsz:X.base.objs.size<=X.s₀.heap.objs.size
 noex:∀ b o,X.base.get? b=some o->b ∉ X.ex
 exfs:∀ b∈X.ex,b ∉ X.fs
 funs:X.s₀.heap.FunFrames X.base X.outer
 frf:∀ b∈X.fs,X.H₀ b=none
structure Inv (X:Cx) (pins:List (Addr×Obj)) (σ:List (Option V)) (H:Hp) (s:Shared):Prop where
 ok:X.Ok
 os:s.os=X.s₀.os
 bare:AllBare s.gens
 base:Un X.fs X.ex X.H₀ H X.s₀.heap s.heap
 loc:∃ m,s.heap.Ns X.env.locals m/\∀ (i:Nat) (x:Str) (v:V),X.N[i]?=some x->σ[i]?=some (some v)->nO X.env.scope x->∃ u,RelV v u/\Zo9 X.env s.heap m x u
 cell:∀ x c,X.env.cells.lookup x=some c->∃ v,s.heap.IsCell c v
 free:H X.env.locals=none
 freeC:∀ x c,X.env.cells.lookup x=some c->H c=none
 pin:∀ p∈X.pn++pins,s.heap.get? p.1=some p.2/\H p.1=none/\p.1≠X.env.locals/\p.1 ∉ X.fs/\∀ v,p.2.data≠.cell v
 hok:HOk X.prog X.w H s.heap
 len:σ.length=X.N.length
section
variable {X:Cx} {pins:List (Addr×Obj)} {σ:List (Option V)} {H H':Hp} {s:Shared} {h':Heap}
theorem Cx.Ok.nofr (ok:X.Ok) {b:Addr} {o:Obj} (e:X.base.get? b=some o):b ∉ X.fs:=λhb=>by
 have:=(ok.funs.mem hb).1
 rw [e] at this; cases this
theorem Inv.bs (I:Inv X pins σ H s):∀ b o,X.base.get? b=some o->s.heap.get? b=some o/\H b=none:=λb o e =>
 ⟨I.base.keep b o (I.ok.bs b o e).1 (I.ok.bs b o e).2 (I.ok.nofr e) (I.ok.noex b o e),I.base.free b o (I.ok.bs b o e).1 (I.ok.bs b o e).2 (I.ok.noex b o e)⟩
theorem Inv.bk (I:Inv X pins σ H s):∀ b o,X.base.get? b=some o->s.heap.get? b=some o:=λb o e=>(I.bs b o e).1
theorem Inv.mod (I:Inv X pins σ H s):Mod X.K X.mg X.base:=I.ok.mod
theorem Inv.kIn (I:Inv X pins σ H s):X.K.In s.heap:=I.ok.mod.kin.keeps I.bk
theorem Inv.lt (I:Inv X pins σ H s):X.env.locals < s.heap.objs.size:=let ⟨_,hn,_⟩:=I.loc; hn.lt
theorem Inv.sz (I:Inv X pins σ H s):X.s₀.heap.objs.size<=s.heap.objs.size:=Nat.le_trans I.ok.above (Nat.le_of_lt I.lt)
theorem Inv.nofs (I:Inv X pins σ H s) {a:Addr} (h:s.heap.objs.size<=a):a ∉ X.fs:=λhb=>by
 obtain ⟨_,o,ho,_⟩:=I.ok.funs.mem hb
 exact absurd (Nat.lt_of_lt_of_le (Heap.lt_size ho) (Nat.le_trans I.sz h)) (Nat.lt_irrefl _)
theorem Inv.cne (I:Inv X pins σ H s):∀ x c,X.env.cells.lookup x=some c->c≠X.env.locals:=λx c e z=>by
 obtain ⟨v,o,ho,hd⟩:=I.cell x c e
 obtain ⟨m,⟨o',es,ep,ho',hd',_⟩,_⟩:=I.loc
 rw [z,ho'] at ho; cases ho; rw [hd'] at hd; cases hd
theorem Inv.funs (I:Inv X pins σ H s):s.heap.FunFrames X.base X.outer:=by
 have all:∀ (l:List Env),(∀ b∈frs l,b∈X.fs)->X.s₀.heap.FunFrames X.base l->s.heap.FunFrames X.base l:=by
  intro l
  induction l with
  | nil=>intro _ _; trivial
  | cons env r ih =>
   intro hs hl
   obtain ⟨hk,⟨L,o,hf,hn,ho,hd⟩,hr⟩:=hl
   have hL:L∈X.fs:=hs L (by unfold frs; rw [List.filterMap_cons,hf]; exact List.mem_cons_self)
   obtain ⟨sl,e⟩:=I.base.slot L o ho (I.ok.frf L hL) hL λz=>I.ok.exfs L z hL
   exact ⟨hk,⟨L,_,hf,hn,e,hd⟩,ih (λb hb=>hs b (by unfold frs; rw [List.filterMap_cons,hf]; exact List.mem_cons_of_mem _ hb)) hr⟩
 exact all X.outer (λ_ hb=>hb) I.ok.funs
theorem Inv.stack (I:Inv X pins σ H s):s.heap.FunFrames X.base X.stack:=by
 rcases I.ok.stk with e | ⟨e,hf⟩
 ·rw [e]; exact I.funs
 ·rw [e]
  obtain ⟨m,hn,_⟩:=I.loc
  refine .cons (by rw [I.ok.kind]; decide) hf hn ?_ I.funs
  exact Heap.get?_none_of_le (Nat.le_trans I.ok.bsz I.ok.above)
theorem Inv.stkSub (I:Inv X pins σ H s):∀ b∈frs X.stack,b∈X.env.locals::X.fs:=λb hb=>by
 rcases I.ok.stk with e | ⟨e,hf⟩
 ·rw [e] at hb; exact List.mem_cons_of_mem _ hb
 ·rw [e] at hb
  unfold frs at hb
  rw [List.filterMap_cons,hf] at hb
  exact hb
theorem Inv.stkFree (I:Inv X pins σ H s):∀ b∈frs X.stack,H b=none:=λb hb=>by
 rcases List.mem_cons.mp (I.stkSub b hb) with e | hb
 ·rw [e]; exact I.free
 ·obtain ⟨_,o,ho,_⟩:=I.ok.funs.mem hb
  exact I.base.free b o ho (I.ok.frf b hb) λz=>I.ok.exfs b z hb
theorem Inv.step {g':Array GenState} {t':Nat} {d':Drawn} {ch:List Addr} (I:Inv X pins σ H s)
  (hch:∀ b∈ch,(b∈X.ex\/X.s₀.heap.objs.size<=b)/\b≠X.env.locals/\(∀ x c,X.env.cells.lookup x=some c->c≠b)/\∀ p∈X.pn++pins,p.1≠b)
  (keep:∀ b o,b≠X.env.locals->b ∉ X.fs->b ∉ ch->s.heap.get? b=some o->H b=none->h'.get? b=some o)
  (slot:∀ b o,b≠X.env.locals->b∈X.fs->b ∉ ch->s.heap.get? b=some o->H b=none->∃ sl,h'.get? b=some { o with slots:=sl }) (free:∀ b o,b ∉ ch->s.heap.get? b=some o->H b=none->H' b=none)
  (there:∀ b o,b ∉ ch->s.heap.get? b=some o->∃ o',h'.get? b=some o')
  (tups:∀ b xs,H b=some (.tup xs)->H' b=some (.tup xs)) (frzs:∀ b o u,H b=some (.frz o u)->H' b=some (.frz o u)) (tbls:∀ b ps,H b=some (.tbl ps)->∃ more,H' b=some (.tbl (ps++more)))
  (ns:∀ m,s.heap.Ns X.env.locals m->h'.Ns X.env.locals m) (hok:HOk X.prog X.w H' h') (hg:AllBare g') :
  Inv X pins σ H' { s with heap:=h',gens:=g',drawn:=d',toks:=t' }:=by
 have neL:∀ b o,X.s₀.heap.get? b=some o->b≠X.env.locals:=λb o e=>Nat.ne_of_lt (Nat.lt_of_lt_of_le (Heap.lt_size e) I.ok.above)
 have neC:∀ b o,X.s₀.heap.get? b=some o->b ∉ X.ex->b ∉ ch:=λb o e hx hb=>by
  rcases (hch b hb).1 with z | z
  ·exact hx z
  ·exact absurd (Nat.lt_of_lt_of_le (Heap.lt_size e) z) (Nat.lt_irrefl _)
 have cellK:∀ x c,X.env.cells.lookup x=some c->∀ v,s.heap.IsCell c v->h'.IsCell c v:=λx c e v hz0=>by
  obtain ⟨o,ho,hd⟩:=hz0
  have nch:c ∉ ch:=λz=>(hch c z).2.2.1 x c e rfl
  by_cases hc:c∈X.fs
  ·obtain ⟨sl,q⟩:=slot c o (I.cne x c e) hc nch ho (I.freeC x c e)
   exact ⟨_,q,hd⟩
  ·exact ⟨o,keep c o (I.cne x c e) hc nch ho (I.freeC x c e),hd⟩
 refine ⟨I.ok,I.os,hg,⟨λb o e n hb hx=>?_,λb o e n hb hx=>?_,λb o e n hx=>?_,λb o e hx=>?_,λb xs e=>tups b xs (I.base.tups b xs e),λb o xs e=>frzs b o xs (I.base.frzs b o xs e),λb ps e=>?_⟩,?_,λx c e=>?_,?_,λx c e=>?_,λp hp=>?_,hok,I.len⟩
 ·exact keep b o (neL b o e) hb (neC b o e hx) (I.base.keep b o e n hb hx) (I.base.free b o e n hx)
 ·obtain ⟨sl,e1⟩:=I.base.slot b o e n hb hx
  obtain ⟨sl',e2⟩:=slot b _ (neL b o e) hb (neC b o e hx) e1 (I.base.free b o e n hx)
  exact ⟨sl',e2⟩
 ·obtain ⟨o',e1⟩:=I.base.there b o e hx
  exact free b o' (neC b o e hx) e1 (I.base.free b o e n hx)
 ·obtain ⟨o',e1⟩:=I.base.there b o e hx
  exact there b o' (neC b o e hx) e1
 ·obtain ⟨m1,e1⟩:=I.base.tbls b ps e
  obtain ⟨m2,e2⟩:=tbls b _ e1
  exact ⟨m1++m2,by rw [e2,Array.append_assoc]⟩
 ·obtain ⟨m,hn,hl⟩:=I.loc
  refine ⟨m,ns m hn,λi x v e1 e2 e3=>?_⟩
  obtain ⟨u,r,l⟩:=hl i x v e1 e2 e3
  refine ⟨u,r,?_⟩
  rcases l with l | ⟨k,c,e,z⟩
  ·exact .inl l
  ·exact .inr ⟨k,c,e,cellK x c e _ z⟩
 ·obtain ⟨v,z⟩:=I.cell x c e
  exact ⟨v,cellK x c e v z⟩
 ·obtain ⟨m,⟨o,_,_,ho,_⟩,_⟩:=I.loc
  exact free _ o (λz=>(hch _ z).2.1 rfl) ho I.free
 ·obtain ⟨v,o,ho,hd⟩:=I.cell x c e
  exact free c o (λz=>(hch c z).2.2.1 x c e rfl) ho (I.freeC x c e)
 ·obtain ⟨e,n,ne,nf,d⟩:=I.pin p hp
  have nch:p.1 ∉ ch:=λz=>(hch p.1 z).2.2.2 p hp rfl
  exact ⟨keep p.1 p.2 ne nf nch e n,free p.1 p.2 nch e n,ne,nf,d⟩
theorem Inv.un {t':Nat} (I:Inv X pins σ H s) (u:Un X.fs [] H H' s.heap h') (hok:HOk X.prog X.w H' h'):Inv X pins σ H' { s with heap:=h',toks:=t' }:=by
 obtain ⟨m,⟨o,es,ep,ho,r⟩,_⟩:=id I.loc
 obtain ⟨sl,hL⟩:=u.any ho I.free (by simp)
 exact I.step (g':=s.gens) (d':=s.drawn) (ch:=[]) (λ_ z=>nomatch z) (λb o _ hb _ e n=>u.keep b o e n hb (by simp)) (λb o _ hb _ e n=>u.slot b o e n hb (by simp)) (λb o _ e n=>u.free b o e n (by simp)) (λb o _ e=>u.there b o e (by simp)) u.tups u.frzs u.tbls (λm' hm=>by
  obtain ⟨o',es',ep',ho',r'⟩:=hm
  rw [ho] at ho'; cases ho'
  exact ⟨_,es',ep',hL,r'⟩) hok I.bare
theorem Inv.call {g':Array GenState} {t':Nat} {d':Drawn} {ch:List Addr} (I:Inv X pins σ H s) (u:Un (frs X.stack) ch H H' s.heap h') (hok:HOk X.prog X.w H' h') (hg:AllBare g')
  (hch:∀ b∈ch,(b∈X.ex\/X.s₀.heap.objs.size<=b)/\b≠X.env.locals/\(∀ x c,X.env.cells.lookup x=some c->c≠b)/\∀ p∈X.pn++pins,p.1≠b) :
  Inv X pins σ H' { s with heap:=h',gens:=g',drawn:=d',toks:=t' }:=by
 obtain ⟨m,⟨o,es,ep,ho,r⟩,_⟩:=id I.loc
 obtain ⟨sl,hL⟩:=u.any ho I.free λz=>(hch _ z).2.1 rfl
 exact I.step (ch:=ch) hch (λb o hL hb hc e n=>u.keep b o e n (λz=>(List.mem_cons.mp (I.stkSub b z)).elim hL hb) hc) (λb o _ _ hc e n=>u.any e n hc) (λb o hc e n=>u.free b o e n hc) (λb o hc e=>u.there b o e hc) u.tups u.frzs u.tbls (λm' hm=>by
  obtain ⟨o',es',ep',ho',r'⟩:=hm
  rw [ho] at ho'; cases ho'
  exact ⟨_,es',ep',hL,r'⟩) hok hg
theorem Inv.turned {t':Nat} {it:Addr} (I:Inv X pins σ H s) (k:∀ b o,b≠it->s.heap.get? b=some o->h'.get? b=some o) (hn:H it=none) (hL:it≠X.env.locals)
  (h1:it∈X.ex\/X.s₀.heap.objs.size<=it) (h2:∀ x c,X.env.cells.lookup x=some c->c≠it) (h3:∀ p∈X.pn++pins,p.1≠it):Inv X pins σ H { s with heap:=h',toks:=t' }:=by
 have nit:∀ b u,H b=some u->b≠it:=λb u e z=>by rw [z,hn] at e; cases e
 refine I.step (g':=s.gens) (d':=s.drawn) (ch:=[it]) (λb hb=>?_) (λb o _ _ hc e _=>k b o (λz=>hc (by simp [z])) e) (λb o _ _ hc e _=>⟨o.slots,k b o (λz=>hc (by simp [z])) e⟩) (λ_ _ _ _ n=>n)
  (λb o hc e=>⟨o,k b o (λz=>hc (by simp [z])) e⟩) (λ_ _ e=>e) (λ_ _ _ e=>e) (λb ps e=>⟨#[],by rw [e]; simp⟩) (λm hm=>?_) (λb u e=>?_) I.bare
 ·have e:b=it:=by simpa using hb
  subst e
  exact ⟨h1,hL,h2,h3⟩
 ·obtain ⟨o,es,ep,ho,r⟩:=hm
  exact ⟨o,es,ep,k _ o (Ne.symm hL) ho,r⟩
 ·refine (I.hok b u e).stay (λc v hc q=>k c v ?_ q) (λ_ q=>q) λ_ _ q=>q
  rcases hc with z | z
  ·rw [z]; exact nit b u e
  ·exact nit c _ z
theorem Inv.tok (I:Inv X pins σ H s) (t:Nat):Inv X pins σ H { s with toks:=t }:=I.un (h':=s.heap) (t':=t) Un.refl I.hok
theorem Inv.kept {t':Nat} (I:Inv X pins σ H s) (k:∀ b u,s.heap.get? b=some u->h'.get? b=some u):Inv X pins σ H { s with heap:=h',toks:=t' }:=I.un (Un.kept k) (I.hok.kept k)
theorem Inv.laid {a:Addr} {o:HO} {t':Nat} (I:Inv X pins σ H s) (k:∀ b u,s.heap.get? b=some u->h'.get? b=some u) (hp:s.heap.objs.size<=a) (new:ObjOk X.prog X.w (upd H a o) h' a o) :
  Inv X pins σ (upd H a o) { s with heap:=h',toks:=t' }:=I.un (Un.laid k hp (I.hok.fresh hp)) (I.hok.laid k hp new)
theorem Inv.write {x e:Addr} {o:HO} {t':Nat} (I:Inv X pins σ H s) (mu:lA (H x)) (he:e=x\/H e=some (.own x)) (k:∀ b u,b≠e->s.heap.get? b=some u->h'.get? b=some u) (heo:∃ u,h'.get? e=some u)
  (new:ObjOk X.prog X.w (upd H x o) h' x o):Inv X pins σ (upd H x o) { s with heap:=h',toks:=t' }:=I.un (Un.write mu he k heo) (I.hok.write mu he k heo new)
theorem Inv.pins_of {pins':List (Addr×Obj)} (I:Inv X pins σ H s) (h:∀ p∈pins',s.heap.get? p.1=some p.2/\H p.1=none/\p.1≠X.env.locals/\p.1 ∉ X.fs/\∀ v,p.2.data≠.cell v):Inv X pins' σ H s :=
 ⟨I.ok,I.os,I.bare,I.base,I.loc,I.cell,I.free,I.freeC,λp hp=>(List.mem_append.mp hp).elim (λz=>I.pin p (List.mem_append_left _ z)) (h p),I.hok,I.len⟩
theorem ZcD {N:List Str} (hN:N.Nodup) {i j:Nat} {x:Str} (a:N[i]?=some x) (b:N[j]?=some x):i=j:=by
 obtain ⟨h1,e1⟩:=List.getElem?_eq_some_iff.mp a
 obtain ⟨h2,e2⟩:=List.getElem?_eq_some_iff.mp b
 exact (List.getElem_inj hN).mp (e1.trans e2.symm)
theorem oJ {M:Model} {A:Around} {E:Value->Shared->Prop} {i:Nat} {x:Str} {v:V} {u:Value} {Q:Unit->Shared->Prop} (I:Inv X pins σ H s) (hN:X.N.Nodup) (hi:X.N[i]?=some x) (hx:lB X.env.scope x) (r:RelV v u)
  (h:∀ s',Inv X pins (σ.set i (some v)) H s'->(∃ a,Heap.SameBut a s.heap s'.heap/\(a=X.env.locals\/X.env.cells.lookup x=some a))->Q () s') (hf:X.fn x=true\/X.env.scope.names.lookup x=some .local:=by first | exact .inl rfl | exact .inr rfl | assumption):wpAny M A (storeName X.env x u) Q E s:=by
 obtain ⟨m,hn,hl⟩:=id I.loc
 have hcls:(X.env.scope.kind == .class || (X.env.scope.kind == .module && X.env.locals != X.env.globals))=false:=by rw [I.ok.kind]; rfl
 have hiσ:i < σ.length:=by rw [I.len]; exact (List.getElem?_eq_some_iff.mp hi).1
 have cne:=I.cne
 have tracked:∀ {a:Addr} {h':Heap},(∃ o,s.heap.get? a=some o/\H a=none)->Heap.SameBut a s.heap h'->HOk X.prog X.w H h':=λ{a h'} ha hs b ob e=>by
  obtain ⟨_,_,hfree⟩:=ha
  refine (I.hok b ob e).stay (λc w' hc q=>(hs.2 c ?_).trans q) (λ_ q=>q) λ_ _ q=>q
  rintro rfl
  rcases hc with rfl | hc
  ·rw [hfree] at e; cases e
  ·rw [hfree] at hc; cases hc
 rcases hx with hk | hk
 ·refine wpAny_storeName_local hk hn (λh' hn' hs=>?_) hcls
  obtain ⟨oL,_,_,hoL,_⟩:=id hn
  refine h _ ⟨I.ok,I.os,I.bare,⟨λb o e n hb hx=>?_,λb o e n hb hx=>?_,I.base.free,λb o e hx=>?_,I.base.tups,I.base.frzs,I.base.tbls⟩,⟨_,hn',λj y v' e1 e2 e3=>?_⟩,λy c e=>?_,I.free,I.freeC,λp hp=>?_,tracked ⟨oL,hoL,I.free⟩ hs,by simpa using I.len⟩ ⟨_,hs,.inl rfl⟩
  ·exact (hs.2 b (Nat.ne_of_lt (Nat.lt_of_lt_of_le (Heap.lt_size e) I.ok.above))).trans (I.base.keep b o e n hb hx)
  ·obtain ⟨sl,e1⟩:=I.base.slot b o e n hb hx
   exact ⟨sl,(hs.2 b (Nat.ne_of_lt (Nat.lt_of_lt_of_le (Heap.lt_size e) I.ok.above))).trans e1⟩
  ·obtain ⟨o',e1⟩:=I.base.there b o e hx
   exact ⟨o',(hs.2 b (Nat.ne_of_lt (Nat.lt_of_lt_of_le (Heap.lt_size e) I.ok.above))).trans e1⟩
  ·by_cases hj:j=i
   ·subst hj
    rw [hi] at e1; cases e1
    rw [List.getElem?_set_self hiσ] at e2
    cases e2
    exact ⟨u,r,.inl ⟨hk,by simp⟩⟩
   ·rw [List.getElem?_set_ne (Ne.symm hj)] at e2
    obtain ⟨u',r',q⟩:=hl j y v' e1 e2 e3
    refine ⟨u',r',?_⟩
    rcases q with ⟨k,e⟩ | ⟨k,c,e,z⟩
    ·refine .inl ⟨k,?_⟩
     have:y≠x:=λe=>hj (ZcD hN e1 (e ▸ hi))
     simp [this,e]
    ·exact .inr ⟨k,c,e,z.sameBut hs (cne y c e)⟩
  ·obtain ⟨w',z⟩:=I.cell y c e
   exact ⟨w',z.sameBut hs (cne y c e)⟩
  ·obtain ⟨e,n,ne,nf,d⟩:=I.pin p hp
   exact ⟨(hs.2 p.1 ne).trans e,n,ne,nf,d⟩
 ·have hfn:X.fn x=true:=by
   rcases hf with z | z
   ·exact z
   ·rw [z] at hk; cases hk
  obtain ⟨c,hc⟩:=I.ok.has x (.inl hk)
  obtain ⟨w',z⟩:=I.cell x c hc
  refine wpAny_storeName_cell I.ok.kind hk hc z (λh' hc' hs=>?_)
  obtain ⟨oc,hoc,hocd⟩:=id z
  refine h { s with heap:=h' } ⟨I.ok,I.os,I.bare,⟨λb o e n hb hx=>?_,λb o e n hb hx=>?_,I.base.free,λb o e hx=>?_,I.base.tups,I.base.frzs,I.base.tbls⟩,⟨m,hn.sameBut hs (Ne.symm (cne x c hc)),λj y v' e1 e2 e3=>?_⟩,λy c' e=>?_,I.free,I.freeC,λp hp=>?_,tracked ⟨oc,hoc,I.freeC x c hc⟩ hs,by simpa using I.len⟩ ⟨c,hs,.inr hc⟩
  ·exact (hs.2 b (Nat.ne_of_lt (Nat.lt_of_lt_of_le (Heap.lt_size e) (I.ok.cab x c hfn hc)))).trans (I.base.keep b o e n hb hx)
  ·obtain ⟨sl,e1⟩:=I.base.slot b o e n hb hx
   exact ⟨sl,(hs.2 b (Nat.ne_of_lt (Nat.lt_of_lt_of_le (Heap.lt_size e) (I.ok.cab x c hfn hc)))).trans e1⟩
  ·obtain ⟨o',e1⟩:=I.base.there b o e hx
   exact ⟨o',(hs.2 b (Nat.ne_of_lt (Nat.lt_of_lt_of_le (Heap.lt_size e) (I.ok.cab x c hfn hc)))).trans e1⟩
  ·by_cases hj:j=i
   ·subst hj
    rw [hi] at e1; cases e1
    rw [List.getElem?_set_self hiσ] at e2
    cases e2
    exact ⟨u,r,.inr ⟨.inl hk,c,hc,hc'⟩⟩
   ·rw [List.getElem?_set_ne (Ne.symm hj)] at e2
    obtain ⟨u',r',q⟩:=hl j y v' e1 e2 e3
    refine ⟨u',r',?_⟩
    rcases q with q | ⟨k,c',e,z'⟩
    ·exact .inl q
    ·refine .inr ⟨k,c',e,z'.sameBut hs ?_⟩
     rintro rfl
     exact hj (ZcD hN e1 (I.ok.inj _ _ _ e hc ▸ hi))
  ·by_cases hcc:c'=c
   ·subst hcc; exact ⟨_,hc'⟩
   ·obtain ⟨w2,z2⟩:=I.cell y c' e
    exact ⟨w2,z2.sameBut hs hcc⟩
  ·obtain ⟨e,n,ne,nf,d⟩:=I.pin p hp
   refine ⟨(hs.2 p.1 ?_).trans e,n,ne,nf,d⟩
   intro q
   rw [q,hoc] at e
   have q':oc=p.2:=Option.some.inj e
   exact d w' (by rw [<- q']; exact hocd)
theorem j3 {M:Model} {A:Around} {E:Value->Shared->Prop} {i:Nat} {x:Str} {v:V} {u:Value} {Q:Unit->Shared->Prop} (I:Inv X pins σ H s) (hN:X.N.Nodup) (hi:X.N[i]?=some x) (hx:lB X.env.scope x) (r:RelV v u)
  (h:∀ s',Inv X pins (σ.set i (some v)) H s'->Q () s') (hf:X.fn x=true\/X.env.scope.names.lookup x=some .local:=by first | exact .inl rfl | exact .inr rfl | assumption):wpAny M A (storeName X.env x u) Q E s :=
 oJ I hN hi hx r (λs' I' _=>h s' I') hf
theorem Inv.call' {s':Shared} {ch:List Addr} (I:Inv X pins σ H s) (ho:s'.os=s.os) (u:Un (frs X.stack) ch H H' s.heap s'.heap) (hok:HOk X.prog X.w H' s'.heap) (hg:AllBare s'.gens)
  (hch:∀ b∈ch,(b∈X.ex\/X.s₀.heap.objs.size<=b)/\b≠X.env.locals/\(∀ x c,X.env.cells.lookup x=some c->c≠b)/\∀ p∈X.pn++pins,p.1≠b):Inv X pins σ H' s':=by
 obtain ⟨h',g',d',t',o'⟩:=s'
 have e:o'=s.os:=ho
 subst e
 exact I.call (g':=g') (t':=t') (d':=d') u hok hg hch
end
noncomputable abbrev XK:=Value->Option Addr->Hp->Prop
noncomputable abbrev St:=List (Option V)
noncomputable abbrev VK:=V->Hp->Prop
noncomputable abbrev TE:=St->Hp->VK->Prop
noncomputable abbrev TT:=St->Hp->(Bool->Hp->Prop)->Prop
noncomputable abbrev TA:=St->Hp->(List V->Hp->Prop)->Prop
structure Ends where
 nx:St->Hp->Prop
 rt:VK
 bk:St->Hp->Prop:=λ_ _=>False
 ct:St->Hp->Prop:=λ_ _=>False
noncomputable abbrev TS:=Ends->St->Hp->Prop
noncomputable def EP (X:Cx) (pins:List (Addr×Obj)) (σ:St) (Q:VK) (u:Value) (s':Shared):Prop:=∃ v H',Inv X pins σ H' s'/\RelV v u/\Q v H'
noncomputable def TP (X:Cx) (pins:List (Addr×Obj)) (σ:St) (Q:Bool->Hp->Prop) (b:Bool) (s':Shared):Prop:=∃ H',Inv X pins σ H' s'/\Q b H'
noncomputable def AP (X:Cx) (pins:List (Addr×Obj)) (σ:St) (Q:List V->Hp->Prop) (us:List Value) (s':Shared):Prop:=∃ vs H',Inv X pins σ H' s'/\Vals vs us/\Q vs H'
noncomputable def SP (X:Cx) (pins:List (Addr×Obj)) (D:Ends) (f:Flow) (s':Shared):Prop :=
 match f with
 | .next=>∃ σ' H',Inv X pins σ' H' s'/\D.nx σ' H'
 | .brk=>∃ σ' H',Inv X pins σ' H' s'/\D.bk σ' H'
 | .cont=>∃ σ' H',Inv X pins σ' H' s'/\D.ct σ' H'
 | .ret u=>∃ v σ' H',Inv X pins σ' H' s'/\RelV v u/\D.rt v H'
noncomputable def PE (X:Cx) (e:Expr) (t:TE):Prop :=
 ∀ (pins:List (Addr×Obj)) (s:Shared) (σ:St) (H:Hp) (Q:VK),Inv X pins σ H s->t σ H Q->wpAny (model X.prog X.w) X.A (eval e X.env) (EP X pins σ Q) X.xe s
noncomputable def PT (X:Cx) (e:Expr) (t:TT):Prop :=
 ∀ (pins:List (Addr×Obj)) (s:Shared) (σ:St) (H:Hp) (Q:Bool->Hp->Prop),Inv X pins σ H s->t σ H Q->wpAny (model X.prog X.w) X.A (isTrue e X.env (eval e X.env)) (TP X pins σ Q) X.xe s
noncomputable def PW (X:Cx) (e:Expr) (t:TT):Prop :=
 ∀ (whole:Sem Value) (pins:List (Addr×Obj)) (s:Shared) (σ:St) (H:Hp) (Q:Bool->Hp->Prop),Inv X pins σ H s->t σ H Q->wpAny (model X.prog X.w) X.A (isTrue e X.env whole) (TP X pins σ Q) X.xe s
theorem PW.pt {X:Cx} {e:Expr} {t:TT} (h:PW X e t):PT X e t:=h _
noncomputable def PA (X:Cx) (es:List Expr) (t:TA):Prop :=
 ∀ (pos:Pos) (pins:List (Addr×Obj)) (s:Shared) (σ:St) (H:Hp) (Q:List V->Hp->Prop),Inv X pins σ H s->t σ H Q->wpAny (model X.prog X.w) X.A (spliced (backTo pos (starEach es X.env))) (AP X pins σ Q) X.xe s
noncomputable def PS (X:Cx) (st:Stmt) (t:TS):Prop :=
 ∀ (pins:List (Addr×Obj)) (s:Shared) (σ:St) (H:Hp) (D:Ends),Inv X pins σ H s->t D σ H->wpAny (model X.prog X.w) X.A (exec st X.env) (SP X pins D) X.xe s
noncomputable def PSs (X:Cx) (st:List Stmt) (t:TS):Prop :=
 ∀ (pins:List (Addr×Obj)) (s:Shared) (σ:St) (H:Hp) (D:Ends),Inv X pins σ H s->t D σ H->wpAny (model X.prog X.w) X.A (execs st X.env) (SP X pins D) X.xe s
theorem thn {α:Type} {t:Sem α} {Q Q':α->Shared->Prop} {M:Model} {A:Around} {E:Value->Shared->Prop} {s:Shared} (h:wpAny M A t Q E s) (hQ:∀ a s,Q a s->Q' a s):wpAny M A t Q' E s:=wpAny_mono h hQ λ_ _ x=>x
section
variable {X:Cx}
noncomputable def cU (i:Nat):TE:=λσ H Q=>∃ v,σ[i]?=some (some v)/\Q v H
noncomputable def tC (v:V):TE:=λ_ H Q=>Q v H
theorem ZkG {i:Nat} {x:Str} {pos:Pos} (hN:X.N[i]?=some x) (hv:nO X.env.scope x) (hd:(x == ("__debug__":Str))=false:=by decide) (hcd:(x == ("__classdict__":Str))=false:=by decide):PE X (.Name x pos) (cU i):=by
 intro pins s σ H Q I h
 obtain ⟨v,e,h⟩:=h
 obtain ⟨m,hn,hl⟩:=I.loc
 obtain ⟨u,r,l⟩:=hl i x v hN e hv
 have fin:EP X pins σ Q u s:=⟨v,H,I,r,h⟩
 rcases l with ⟨hk,hm⟩ | ⟨hk,c,hc,hcell⟩
 ·exact wpAny_Name (wpAny_loadName_local I.ok.kind hk hn hm fin) hd
 ·rcases hk with hk | hk
  ·exact wpAny_Name (wpAny_loadName_cell I.ok.kind hk hc hcell fin) hd
  ·exact wpAny_Name (wpAny_loadName_free I.ok.kind hk hc hcell fin hcd) hd
theorem b7 {i j pos}:PE X (.Constant (.int i) j pos) (tC (.int i)):=λ_ _ _ H _ I h=>wpAny_Constant_int ⟨.int i,H,I.tok _,⟨_,rfl⟩,h⟩
theorem ZkR {b j pos}:PE X (.Constant (.bool b) j pos) (tC (.bl b)):=λ_ _ _ H _ I h=>Constant_bool ⟨.bl b,H,I,rfl,h⟩
theorem dC {x j pos}:PE X (.Constant (.str x) j pos) (tC (.str x)):=λ_ _ _ H _ I h=>Calls.Constant_str ⟨.str x,H,I.tok _,⟨_,rfl⟩,h⟩
noncomputable def Gl (X:Cx) (x:Str):Prop:=X.env.kindOf x=some .globalImplicit
theorem Zda {E:Value->Shared->Prop} {pins:List (Addr×Obj)} {s:Shared} {σ:St} {H:Hp} {x:Str} {u:Value} {pos:Pos} {Q:Value->Shared->Prop} (I:Inv X pins σ H s) (hg:Gl X x) (hm:X.mg x=some u) (h:Q u s)
  (hd:(x == ("__debug__":Str))=false:=by decide):wpAny (model X.prog X.w) X.A (eval (.Name x pos) X.env) Q E s :=
 Calls.Name_function_global I.ok.kind hg (Calls.loadGlobal_global (by rw [I.ok.glob]; exact I.mod.glob.keeps I.bk) hm h) hd
theorem iE {E:Value->Shared->Prop} {pins:List (Addr×Obj)} {s:Shared} {σ:St} {H:Hp} {x:Str} {u:Value} {pos:Pos} {Q:Value->Shared->Prop} (I:Inv X pins σ H s) (hg:Gl X x) (hm:X.mg x=none) (hv:bootBuiltins x=some u) (h:Q u s)
  (hn:x≠"__name__":=by decide) (hd:(x == ("__debug__":Str))=false:=by decide):wpAny (model X.prog X.w) X.A (eval (.Name x pos) X.env) Q E s:=by
 obtain ⟨mb,h1,h2⟩:=I.mod.blt
 exact Calls.Name_function_global I.ok.kind hg (Calls.loadGlobal_builtin (by rw [I.ok.glob]; exact I.mod.glob.keeps I.bk) hm (by rw [I.ok.blt]; exact h1.keeps I.bk) ((h2 x hn).trans hv) h) hd
theorem ZkL {x:Str} {v:V} {u:Value} {pos:Pos} (hg:Gl X x) (hm:X.mg x=some u) (r:RelV v u) (hd:(x == ("__debug__":Str))=false:=by decide):PE X (.Name x pos) (tC v) :=
 λ_ _ _ H _ I h=>Zda I hg hm ⟨v,H,I,r,h⟩ hd
variable {a b:Expr} {ta tb:TE} {pos:Pos}
noncomputable def tB (t:TE):TT:=λσ H Q=>t σ H λx H1=>∃ c,x=.bl c/\Q c H1
theorem Zkl {e:Expr} {t:TE} (h:PE X e t) (he:∀ whole,isTrue e X.env whole=(do let v <- whole; standAt e.pos; holding [v] (truthy v)):=by intro _; rfl):PT X e (tB t):=by
 intro pins s σ H Q I hw
 refine isTrue_plain (thn (h pins s σ H _ I hw) λv s1 hz0=>?_) (he _)
 obtain ⟨x,H1,I1,r1,q1⟩:=hz0
 obtain ⟨d,rfl,q⟩:=q1
 cases r1
 exact wpAny_truthy_bool ⟨H1,I1,q⟩
variable {tA tB':TT} {rest:List Expr}
noncomputable def Zi9 (t u:TT):TT:=λσ H Q=>t σ H λc H1=>if c=true then u σ H1 Q else Q false H1
noncomputable def tOr (t u:TT):TT:=λσ H Q=>t σ H λc H1=>if c=true then Q true H1 else u σ H1 Q
theorem Zkj (ha:PT X a tA):PW X (.BoolOp .And [a] pos) tA:=by
 intro wh pins s σ H Q I h
 refine isTrue_and (thn (ha pins s σ H Q I h) λc s1 e=>?_)
 cases c with
 | true=>exact isTrue_and_nil e
 | false=>exact e
theorem Zkh (ha:PT X a tA):PW X (.BoolOp .Or [a] pos) tA:=by
 intro wh pins s σ H Q I h
 refine isTrue_or (thn (ha pins s σ H Q I h) λc s1 e=>?_)
 cases c with
 | false=>exact isTrue_or_nil e
 | true=>exact e
theorem Zkk (ha:PT X a tA) (hb:PW X (.BoolOp .And (b::rest) pos) tB'):PW X (.BoolOp .And (a::b::rest) pos) (Zi9 tA tB'):=by
 intro wh pins s σ H Q I h
 refine isTrue_and (thn (ha pins s σ H _ I h) λc s1 hz0=>?_)
 obtain ⟨H1,I1,q1⟩:=hz0
 cases c with
 | true=>exact hb wh pins s1 σ H1 Q I1 q1
 | false=>exact ⟨H1,I1,q1⟩
theorem Zki (ha:PT X a tA) (hb:PW X (.BoolOp .Or (b::rest) pos) tB'):PW X (.BoolOp .Or (a::b::rest) pos) (tOr tA tB'):=by
 intro wh pins s σ H Q I h
 refine isTrue_or (thn (ha pins s σ H _ I h) λc s1 hz0=>?_)
 obtain ⟨H1,I1,q1⟩:=hz0
 cases c with
 | true=>exact ⟨H1,I1,q1⟩
 | false=>exact hb wh pins s1 σ H1 Q I1 q1
noncomputable def tIf (t:TT) (ta tb:TE):TE:=λσ H Q=>t σ H λc H1=>if c=true then ta σ H1 Q else tb σ H1 Q
theorem ZkK {c:Expr} (hc:PT X c tA) (ha:PE X a ta) (hb:PE X b tb):PE X (.IfExp c a b pos) (tIf tA ta tb):=by
 intro pins s σ H Q I h
 refine wpAny_IfExp (thn (hc pins s σ H _ I h) λd s1 hz0=>?_)
 obtain ⟨H1,I1,q1⟩:=hz0
 cases d with
 | true=>exact ha pins s1 σ H1 Q I1 q1
 | false=>exact hb pins s1 σ H1 Q I1 q1
end
noncomputable def SqL (K:PySem.W.Frag) (H:Hp) (a:Addr) (xs:List V):Prop :=
 Rd H a (.lst xs) \/
  ∃ (o:Obj) (its:Array Value) (n:Nat),K.lookup a=some o/\o.cls=.type "list"/\o.dict=none/\o.data=.seq its n/\its.size<=sizeLine/\Vals xs its.toList
noncomputable def SqT (K:PySem.W.Frag) (H:Hp) (a:Addr) (xs:List V):Prop :=
 Rd H a (.tup xs) \/
  ∃ (o:Obj) (its:Array Value) (n:Nat),K.lookup a=some o/\o.cls=.type "tuple"/\o.data=.seq its n/\its.size<=sizeLine/\Vals xs its.toList
noncomputable def ZoB:Value->Option V
 | .none=>some .non
 | .bool b=>some (.bl b)
 | .int i _=>some (.int i)
 | .str x _=>some (.str x)
 | .bytes b _=>some (.byt b)
 | .float b _=>some (.flt b)
 | .ref a=>some (.ref a)
 | .type n=>some (.ty n)
 | _=>none
theorem RelV.abs {x:V} {u:Value} (r:RelV x u):ZoB u=some x:=by
 cases x with
 | non=>cases r; rfl
 | bl _=>cases r; rfl
 | int _=>obtain ⟨t,rfl⟩:=r; rfl
 | str _=>obtain ⟨t,rfl⟩:=r; rfl
 | byt _=>obtain ⟨t,rfl⟩:=r; rfl
 | flt _=>obtain ⟨t,rfl⟩:=r; rfl
 | ref _=>cases r; rfl
 | ty _=>cases r; rfl
theorem RelV.inj {x y:V} {u:Value} (r:RelV x u) (q:RelV y u):x=y:=Option.some.inj (r.abs.symm.trans q.abs)
theorem Vals.inj {xs ys:List V} {us:List Value} (h:Vals xs us) (h':Vals ys us):xs=ys:=by
 induction h generalizing ys with
 | nil=>cases h'; rfl
 | cons r t ih=>cases h' with | cons r' t'=>rw [r.inj r',ih t']
section
variable {X:Cx} {pins:List (Addr×Obj)} {σ:St} {H:Hp} {s:Shared} {a:Addr} {xs ys:List V}
theorem SqL.of {K:PySem.W.Frag} (h:H a=some (.lst xs)):SqL K H a xs:=.inl (.inl h)
theorem SqT.of {K:PySem.W.Frag} (h:H a=some (.tup xs)):SqT K H a xs:=.inl (.inl h)
theorem Inv.list (I:Inv X pins σ H s) (h:SqL X.K H a xs):∃ its:List Value,Vals xs its/\PlainL s.heap a its.toArray/\xs.length<=sizeLine:=by
 rcases h with h | ⟨o,its,n,hk,hc,hd,hs,hz,r⟩
 ·obtain ⟨z,its,n,r,e⟩:=h.ok I.hok
  exact ⟨its,r,⟨_,n,e,rfl,rfl,rfl⟩,z⟩
 ·refine ⟨its.toList,r,⟨o,n,I.kIn a o hk,hc,hd,by simpa using hs⟩,?_⟩
  have e:=r.length
  simp only [Array.length_toList] at e
  omega
theorem Inv.tuple (I:Inv X pins σ H s) (h:SqT X.K H a xs):∃ its:List Value,Vals xs its/\IsTup s.heap a its.toArray/\xs.length<=sizeLine:=by
 rcases h with h | ⟨o,its,n,hk,hc,hs,hz,r⟩
 ·obtain ⟨z,its,r,p⟩:=h.ok I.hok
  exact ⟨its,r,p,z⟩
 ·refine ⟨its.toList,r,⟨o,I.kIn a o hk,hc,n,by simpa using hs⟩,?_⟩
  have e:=r.length
  simp only [Array.length_toList] at e
  omega
theorem Inv.list_inj (I:Inv X pins σ H s) (h:SqL X.K H a xs) (h':SqL X.K H a ys):xs=ys:=by
 obtain ⟨its,r,⟨o,n,e,_,_,d⟩,_⟩:=I.list h
 obtain ⟨its',r',⟨o',n',e',_,_,d'⟩,_⟩:=I.list h'
 rw [e] at e'; cases e'
 rw [d] at d'
 injection d' with d1 _
 have:its=its':=by simpa using congrArg Array.toList d1
 subst this
 exact r.inj r'
theorem Inv.tuple_inj (I:Inv X pins σ H s) (h:SqT X.K H a xs) (h':SqT X.K H a ys):xs=ys:=by
 obtain ⟨its,r,⟨o,e,_,n,d⟩,_⟩:=I.tuple h
 obtain ⟨its',r',⟨o',e',_,n',d'⟩,_⟩:=I.tuple h'
 rw [e] at e'; cases e'
 rw [d] at d'
 injection d' with d1 _
 have:its=its':=by simpa using congrArg Array.toList d1
 subst this
 exact r.inj r'
end
noncomputable abbrev Cx.wish (X:Cx) (E:Value->Shared->Prop):Cx:={ X with xe:=E }
noncomputable abbrev Cx.nox (X:Cx):Cx:=X.wish λ_ _=>False
theorem Cx.Ok.wish {X:Cx} (ok:X.Ok) (E:Value->Shared->Prop):(X.wish E).Ok :=
 ⟨ok.mod,ok.kind,ok.glob,ok.blt,ok.above,ok.inj,ok.has,ok.cab,ok.hd,ok.frames,ok.stk,ok.exf,ok.bs,ok.bsz,ok.noex,ok.exfs,ok.funs,ok.frf⟩
theorem Cx.Ok.unwish {X:Cx} {E:Value->Shared->Prop} (ok:(X.wish E).Ok):X.Ok :=
 ⟨ok.mod,ok.kind,ok.glob,ok.blt,ok.above,ok.inj,ok.has,ok.cab,ok.hd,ok.frames,ok.stk,ok.exf,ok.bs,ok.bsz,ok.noex,ok.exfs,ok.funs,ok.frf⟩
section
variable {X:Cx} {pins:List (Addr×Obj)} {σ:St} {H:Hp} {s:Shared} {E:Value->Shared->Prop}
theorem Inv.wish (I:Inv X pins σ H s) (E:Value->Shared->Prop):Inv (X.wish E) pins σ H s:=⟨I.ok.wish E,I.os,I.bare,I.base,I.loc,I.cell,I.free,I.freeC,I.pin,I.hok,I.len⟩
theorem Inv.unwish (I:Inv (X.wish E) pins σ H s):Inv X pins σ H s:=⟨I.ok.unwish,I.os,I.bare,I.base,I.loc,I.cell,I.free,I.freeC,I.pin,I.hok,I.len⟩
theorem SP.unwish {D:Ends} {f:Flow} {s':Shared} (h:SP (X.wish E) pins D f s'):SP X pins D f s':=by
 cases f with
 | next=>obtain ⟨σ',H',I,q⟩:=h; exact ⟨σ',H',I.unwish,q⟩
 | brk=>obtain ⟨σ',H',I,q⟩:=h; exact ⟨σ',H',I.unwish,q⟩
 | cont=>obtain ⟨σ',H',I,q⟩:=h; exact ⟨σ',H',I.unwish,q⟩
 | ret u=>obtain ⟨v,σ',H',I,r,q⟩:=h; exact ⟨v,σ',H',I.unwish,r,q⟩
theorem PSs.nox {st:List Stmt} {t:TS} (h:PSs X.nox st t):PSs X st t:=λpins s σ H D I hw =>
 wpAny_mono (h pins s σ H D (I.wish _) hw) (λ_ _ q=>q.unwish) λ_ _ z=>False.elim z
end
section
variable {X:Cx} {st:Stmt} {rest:List Stmt} {t u:TS} {e:Expr} {te:TE} {pos:Pos}
noncomputable def Zi0:TS:=λD σ H=>D.nx σ H
noncomputable def Zau (t u:TS):TS:=λD σ H=>t { D with nx:=u D } σ H
theorem lZ:PSs X [] Zi0:=λ_ _ σ H _ I h=>wpAny_execs_nil ⟨σ,H,I,h⟩
theorem dw (h1:PS X st t) (h2:PSs X rest u):PSs X (st::rest) (Zau t u):=by
 intro pins s σ H D I h
 refine wpAny_execs_cons (thn (h1 pins s σ H { D with nx:=u D } I h) λf s1 q=>?_)
 cases f with
 | next =>
  obtain ⟨σ',H',I',q⟩:=q
  exact h2 pins s1 σ' H' D I' q
 | ret v=>exact q
 | brk=>exact q
 | cont=>exact q
theorem io (h1:PS X st t):PSs X [st] t:=by
 intro pins s σ H D I h
 refine wpAny_execs_cons (thn (h1 pins s σ H D I h) λf s1 q=>?_)
 cases f with
 | next=>exact wpAny_execs_nil q
 | ret v=>exact q
 | brk=>exact q
 | cont=>exact q
theorem Inv.quiet {pins:List (Addr×Obj)} {σ:St} {H:Hp} {s:Shared} (I:Inv X pins σ H s):interactive X.env=false:=by simp [interactive,I.ok.kind]
noncomputable def oD (te:TE):TS:=λD σ H=>te σ H λ_ H1=>D.nx σ H1
theorem gx (he:PE X e te) (hs:swapsWith e none pos.line X.env=pure false:=by rfl):PS X (.Expr e pos) (oD te):=by
 intro pins s σ H D I h
 exact wpAny_Expr_any (thn (he pins s σ H _ I h) λv s1 ⟨x,H1,I1,r1,q1⟩=>⟨σ,H1,I1,q1⟩) I.quiet hs
noncomputable def ZiW (te:TE):TS:=λD σ H=>te σ H D.rt
theorem fK (he:PE X e te):PS X (.Return (some e) pos) (ZiW te):=by
 intro pins s σ H D I h
 exact wpAny_Return_some (thn (he pins s σ H _ I h) λv s1 ⟨x,H1,I1,r1,q1⟩=>⟨x,σ,H1,I1,r1,q1⟩)
noncomputable def Zi4 (c:TT) (t u:TS):TS:=λD σ H=>c σ H λb H1=>if b=true then t D σ H1 else u D σ H1
theorem l3 {c:Expr} {a b:List Stmt} {tc:TT} (hc:PT X c tc) (ha:PSs X a t) (hb:PSs X b u):PS X (.If c a b pos) (Zi4 tc t u):=by
 intro pins s σ H D I h
 refine wpAny_If (thn (hc pins s σ H _ I h) λd s1 hz0=>?_)
 obtain ⟨H1,I1,q1⟩:=hz0
 cases d with
 | true=>exact ha pins s1 σ H1 D I1 q1
 | false=>exact hb pins s1 σ H1 D I1 q1
end
noncomputable abbrev TG:=V->St->Hp->(St->Hp->Prop)->Prop
noncomputable abbrev gf:=List V->St->Hp->(St->Hp->Prop)->Prop
noncomputable def PG (X:Cx) (target:Expr) (t:TG):Prop :=
 ∀ (pins:List (Addr×Obj)) (s:Shared) (σ:St) (H:Hp) (v:V) (u:Value) (Q:St->Hp->Prop),Inv X pins σ H s->RelV v u->t v σ H Q ->
  wpAny (model X.prog X.w) X.A (assign target X.env u) (λ_ s'=>∃ σ' H',Inv X pins σ' H' s'/\Q σ' H') X.xe s
noncomputable def PGs (X:Cx) (ts:List Expr) (t:gf):Prop :=
 ∀ (pins:List (Addr×Obj)) (s:Shared) (σ:St) (H:Hp) (vs:List V) (us:List Value) (Q:St->Hp->Prop),Inv X pins σ H s->Vals vs us->t vs σ H Q ->
  wpAny (model X.prog X.w) X.A (assignInOrder ((assignEach ts X.env).map (·.2)) us) (λ_ s'=>∃ σ' H',Inv X pins σ' H' s'/\Q σ' H') X.xe s
noncomputable abbrev lu:=V->V->V->Hp->(Hp->Prop)->Prop
noncomputable def rW (X:Cx) (t:lu):Prop :=
 ∀ (pins:List (Addr×Obj)) (s:Shared) (σ:St) (H:Hp) (o i v:V) (ov iv u:Value) (Q:Hp->Prop),Inv X pins σ H s->RelV o ov->RelV i iv->RelV v u->t o i v H Q ->
  wpAny (model X.prog X.w) X.A (setItem ov iv u) (λ_ s'=>∃ H',Inv X pins σ H' s'/\Q H') X.xe s
noncomputable abbrev jS:=V->V->Hp->VK->Prop
noncomputable def lw (X:Cx) (op:Operator) (t:jS):Prop :=
 ∀ (pins:List (Addr×Obj)) (s:Shared) (σ:St) (H:Hp) (x y:V) (v u:Value) (Q:VK),Inv X pins σ H s->RelV x v->RelV y u->t x y H Q ->
  wpAny (model X.prog X.w) X.A (inplaceOp op v u) (EP X pins σ Q) X.xe s
section
variable {X:Cx} {pos:Pos}
noncomputable def eZ (i:Nat):TG:=λv σ H Q=>Q (σ.set i (some v)) H
theorem aO {i:Nat} {x:Str} (hN:X.N.Nodup) (hi:X.N[i]?=some x) (hx:lB X.env.scope x) (hf:X.fn x=true\/X.env.scope.names.lookup x=some .local:=by first | exact .inl rfl | exact .inr rfl | assumption):PG X (.Name x pos) (eZ i):=by
 intro pins s σ H v u Q I r h
 exact wpAny_assign_Name (j3 I hN hi hx r (λs' I'=>⟨_,H,I',h⟩) hf)
noncomputable def ZdK:gf:=λvs σ H Q=>vs=[]/\Q σ H
noncomputable def qv (t:TG) (u:gf):gf:=λvs σ H Q=>∃ v r,vs=v::r/\t v σ H λσ' H'=>u r σ' H' Q
theorem Zcl:PGs X [] ZdK:=by
 intro pins s σ H vs us Q I r h
 obtain ⟨e,h⟩:=h
 subst e
 cases r
 exact assignInOrder_nil ⟨σ,H,I,h⟩
theorem pB {e:Expr} {es:List Expr} {t:TG} {u:gf} (h1:PG X e t) (h2:PGs X es u)
  (hs:(assignEach (e::es) X.env).map (·.2)=assign e X.env::(assignEach es X.env).map (·.2):=by rfl):PGs X (e::es) (qv t u):=by
 intro pins s σ H vs us Q I r h
 obtain ⟨v,vr,e1,h⟩:=h
 subst e1
 cases r with
 | cons r rr =>
  rw [hs]
  refine assignInOrder_cons (thn (h1 pins s σ H _ _ _ I r h) λ_ s1 hz0=>?_)
  obtain ⟨σ1,H1,I1,q1⟩:=hz0
  exact h2 pins s1 σ1 H1 _ _ Q I1 rr q1
noncomputable def ZdJ (K:PySem.W.Frag) (n:Nat) (t:gf):TG:=λv σ H Q=>∃ a xs,v=.ref a/\SqT K H a xs/\xs.length=n/\t xs σ H Q
theorem Zcm {es:List Expr} {k:Nat} {t:gf} {n:Nat} (hc:X.calm=true) (h:PGs X es t)
  (hn:(assignEach es X.env).length=n:=by rfl) (hst:(assignEach es X.env).findIdx? (·.1)=none:=by rfl):PG X (.Tuple es k pos) (ZdJ X.K n t):=by
 intro pins s σ H v u Q I r hw
 obtain ⟨a,xs,e1,hq,hl,hw⟩:=hw
 subst e1
 cases r
 obtain ⟨its,rv,ht,hz⟩:=I.tuple hq
 refine assign_Tuple_tuple (I.ok.hd hc) ht (by simp [hn,<- hl,rv.length]) hst λh' hx=>?_
 have I1:Inv X pins σ H { s with heap:=h' }:=I.kept (t':=s.toks) λb o e=>hx b o (Nat.ne_of_lt (Heap.lt_size e)) e
 exact h pins _ σ H xs _ Q I1 (by simpa using rv) hw
noncomputable def kY (to ti:TE) (t:lu):TG:=λv σ H Q=>to σ H λo H1=>ti σ H1 λi H2=>t o i v H2 λH3=>Q σ H3
theorem gz {o i:Expr} {to ti:TE} {t:lu} (ho:PE X o to) (hi:PE X i ti) (hs:rW X t)
  (ha:∀ v,assign (.Subscript o i pos) X.env v=(do
   let ov <- holding [v] (eval o X.env)
   let iv <- holding [v,ov] (eval i X.env)
   standAt pos
   holding [v,ov,iv] (setItem ov iv v)
   release [v,ov,iv] []):=by intro _; rfl):PG X (.Subscript o i pos) (kY to ti t):=by
 intro pins s σ H v u Q I r h
 rw [ha]
 refine wpAny_bind (wpAny_holding (thn (ho pins s σ H _ I h) λov s1 hz0=>?_))
 obtain ⟨x,H1,I1,r1,q1⟩:=hz0
 refine wpAny_bind (wpAny_holding (thn (hi pins s1 σ H1 _ I1 q1) λiv s2 hz0=>?_))
 obtain ⟨y,H2,I2,r2,q2⟩:=hz0
 refine wpAny_bind (wpAny_standAt (wpAny_bind (wpAny_holding (thn (hs pins s2 σ H2 x y v ov iv u _ I2 r1 r2 r q2) λ_ s3 hz0=>?_))))
 obtain ⟨H3,I3,q3⟩:=hz0
 exact wpAny_release ⟨σ,H3,I3,q3⟩
noncomputable def dL (te:TE) (g:TG):TS:=λD σ H=>te σ H λx H1=>g x σ H1 D.nx
theorem dA {tg e:Expr} {te:TE} {g:TG} (he:PE X e te) (hg:PG X tg g) (hs:swapsWithSole [tg] e pos.line X.env=pure false:=by rfl) (hw:swappedStores [tg] e X.env=pure none:=by rfl)
  (h1:(assignEach [tg] X.env).map (·.2)=[assign tg X.env]:=by rfl):PS X (.Assign [tg] e pos) (dL te g):=by
 intro pins s σ H D I h
 refine wpAny_Assign_stores (thn (he pins s σ H _ I h) λv s1 hz0=>?_) hs hw
 obtain ⟨x,H1,I1,r1,q1⟩:=hz0
 rw [h1]
 exact thn (hg pins s1 σ H1 x v _ I1 r1 q1) λ_ s2 q=>q
theorem aM {i:Nat} {x:Str} {e:Expr} {te:TE} {pos':Pos} (hN:X.N.Nodup) (hi:X.N[i]?=some x) (hx:lB X.env.scope x) (he:PE X e te) (hs:swapsWith e (some (.Name x pos')) pos.line X.env=pure false:=by rfl) (hf:X.fn x=true\/X.env.scope.names.lookup x=some .local:=by first | exact .inl rfl | exact .inr rfl | assumption) :
  PS X (.Assign [.Name x pos'] e pos) (dL te (eZ i)):=by
 intro pins s σ H D I h
 refine wpAny_Assign_Name (thn (he pins s σ H _ I h) λv s1 hz0=>?_) hs
 obtain ⟨y,H1,I1,r1,q1⟩:=hz0
 exact j3 I1 hN hi hx r1 (λs2 I2=>⟨_,H1,I2,q1⟩) hf
noncomputable def Zav (i j:Nat) (ta:TA):TS:=λD σ H=>ta σ H λvs H1=>∃ v w,vs=[v,w]/\D.nx ((σ.set i (some v)).set j (some w)) H1
theorem l0 {i j:Nat} {x y:Str} {a b:Expr} {ta:TA} {px py pt:Pos} {kt k2 pt2} (hc:X.calm=true) (hN:X.N.Nodup) (hi:X.N[i]?=some x) (hj:X.N[j]?=some y) (hij:i≠j)
  (hx:X.env.scope.names.lookup x=some .local) (hy:X.env.scope.names.lookup y=some .local) (ha:PA X [a,b] ta)
  (hw:swappedStores [.Tuple [.Name x px,.Name y py] kt pt] (.Tuple [a,b] k2 pt2) X.env=pure (some [x,y]))
  (hs:swapsWithSole [.Tuple [.Name x px,.Name y py] kt pt] (.Tuple [a,b] k2 pt2) pos.line X.env=pure false:=by rfl) :
  PS X (.Assign [.Tuple [.Name x px,.Name y py] kt pt] (.Tuple [a,b] k2 pt2) pos) (Zav i j ta):=by
 intro pins s σ H D I h
 rw [exec_Assign_arm]
 refine wpAny_bind (wpAny_standAt ?_)
 rw [hs]
 refine wpAny_bind (wpAny_pure ?_)
 rw [if_neg (by decide)]
 refine wpAny_bind (Tuple_ (thn (ha _ pins s σ H _ I h) λus s1 hz0=>?_))
 obtain ⟨vs,H1,I1,r1,q1⟩:=hz0
 obtain ⟨v,w,e1,q1⟩:=q1
 subst e1
 obtain ⟨u1,u2,rfl,rv,rw'⟩:∃ u1 u2,us=[u1,u2]/\RelV v u1/\RelV w u2:=by
  cases r1 with
  | cons p q =>
   cases q with
   | cons p' q' =>
    cases q'
    exact ⟨_,_,rfl,p,p'⟩
 refine wpAny_newObj_type ?_ (by show 2<=sizeLine; decide)
 have I2:Inv X pins σ H1 { s1 with heap:=s1.heap.push { cls:=.type "tuple",data:=.seq [u1,u2].toArray } }:=I1.kept (t':=s1.toks) λb o e=>Heap.get?_push_of_some _ e
 rw [hw]
 refine wpAny_bind (wpAny_pure ?_)
 show wpAny (model X.prog X.w) X.A (do rule "assign.swapped-stores"; let items <- unpackItems (.ref s1.heap.objs.size) 2 none; assignInOrder [λv=>bindName X.env y v,λv=>bindName X.env x v] items.reverse; pure Flow.next) _ _ _
 refine wpAny_bind (wpAny_rule (wpAny_bind (unpackItems_tuple (items:=#[u1,u2]) (I.ok.hd hc) (IsTup.new s1.heap _) λh' hx'=>?_)))
 have I3:=I2.kept (h':=h') (t':=s1.toks) λb o e=>hx' b o (Nat.ne_of_lt (Heap.lt_size e)) e
 show wpAny _ _ (assignInOrder [λv=>bindName X.env y v,λv=>bindName X.env x v] [u2,u1] >>= λ_=>pure Flow.next) _ _ _
 refine wpAny_bind (assignInOrder_cons (wpAny_bindName (j3 I3 hN hj (.inl hy) rw' (λs2 I4=>?_) (.inr hy))))
 refine assignInOrder_cons (wpAny_bindName (j3 I4 hN hi (.inl hx) rv (λs3 I5=>assignInOrder_nil (wpAny_pure ?_)) (.inr hx)))
 rw [List.set_comm _ _ (Ne.symm hij)] at I5
 exact ⟨_,H1,I5,q1⟩
noncomputable def ZaC (i:Nat) (te:TE) (ti:jS):TS:=λD σ H=>∃ x,σ[i]?=some (some x)/\te σ H λy H1=>ti x y H1 λz H2=>D.nx (σ.set i (some z)) H2
theorem Zks {i:Nat} {x:Str} {e:Expr} {te:TE} {op:Operator} {ti:jS} {pos':Pos} (hN:X.N.Nodup) (hi:X.N[i]?=some x) (hx:lB X.env.scope x) (he:PE X e te) (ho:lw X op ti) (hf:X.fn x=true\/X.env.scope.names.lookup x=some .local:=by first | exact .inl rfl | exact .inr rfl | assumption) :
  PS X (.AugAssign (.Name x pos') op e pos) (ZaC i te ti):=by
 intro pins s σ H D I h
 obtain ⟨v,e1,h⟩:=h
 obtain ⟨m,hn,hl⟩:=I.loc
 have vis:nO X.env.scope x:=by rcases hx with k | k; exact .inl k; exact .inr (.inl k)
 obtain ⟨u,r,l⟩:=hl i x v hi e1 vis
 refine wpAny_AugAssign_Name ?_
 have go:wpAny (model X.prog X.w) X.A (eval e X.env) (λw s₂=>wpAny (model X.prog X.w) X.A (inplaceOp op u w) (λr s₃=>wpAny (model X.prog X.w) X.A (storeName X.env x r) (λ_=>SP X pins D .next) X.xe s₃) X.xe s₂) X.xe s:=by
  refine thn (he pins s σ H _ I h) λw s1 hz0=>?_
  obtain ⟨y,H1,I1,r1,q1⟩:=hz0
  refine thn (ho pins s1 σ H1 v y u w _ I1 r r1 q1) λz s2 hz0=>?_
  obtain ⟨zv,H2,I2,r2,q2⟩:=hz0
  exact j3 I2 hN hi hx r2 (λs3 I3=>⟨_,H2,I3,q2⟩) hf
 rcases l with ⟨hk,hm⟩ | ⟨hk,c,hc,hcell⟩
 ·exact wpAny_loadName_local I.ok.kind hk hn hm go
 ·rcases hk with hk | hk
  ·exact wpAny_loadName_cell I.ok.kind hk hc hcell go
  ·rcases hx with k | k
   ·have:X.env.scope.names.lookup x=some .free:=hk
    rw [k] at this; cases this
   ·have:X.env.scope.names.lookup x=some .free:=hk
    rw [k] at this; cases this
noncomputable def ZaB (to ti te:TE) (tget:V->V->Hp->VK->Prop) (tip:jS) (tset:lu):TS:=λD σ H=>to σ H λo H1=>ti σ H1 λi H2=>tget o i H2 λx H3=>te σ H3 λy H4=>tip x y H4 λz H5=>tset o i z H5 λH6=>D.nx σ H6
noncomputable def Zia (X:Cx) (t:V->V->Hp->VK->Prop):Prop :=
 ∀ (pins:List (Addr×Obj)) (s:Shared) (σ:St) (H:Hp) (o i:V) (ov iv:Value) (Q:VK),Inv X pins σ H s->RelV o ov->RelV i iv->t o i H Q ->
  wpAny (model X.prog X.w) X.A (getItem ov iv) (EP X pins σ Q) X.xe s
theorem Zch {o i e:Expr} {to ti te:TE} {tget:V->V->Hp->VK->Prop} {tip:jS} {tset:lu} {op:Operator} {tpos:Pos} (ho:PE X o to) (hi:PE X i ti) (hg:Zia X tget) (he:PE X e te) (hp:lw X op tip) (hs:rW X tset)
  (ha:∀ ov iv new,augStore i ov iv new=(do holding [new,ov,iv] (setItem ov iv new); release [new,ov,iv] []; pure .next):=by intros; rfl):PS X (.AugAssign (.Subscript o i tpos) op e pos) (ZaB to ti te tget tip tset):=by
 intro pins s σ H D I h
 refine wpAny_AugAssign_SubscriptAny (thn (ho pins s σ H _ I h) λov s1 hz0=>?_) ha
 obtain ⟨x1,H1,I1,r1,q1⟩:=hz0
 refine thn (hi pins s1 σ H1 _ I1 q1) λiv s2 hz0=>?_
 obtain ⟨x2,H2,I2,r2,q2⟩:=hz0
 refine thn (hg pins s2 σ H2 x1 x2 ov iv _ I2 r1 r2 q2) λold s3 hz0=>?_
 obtain ⟨x3,H3,I3,r3,q3⟩:=hz0
 refine thn (he pins s3 σ H3 _ I3 q3) λv s4 hz0=>?_
 obtain ⟨x4,H4,I4,r4,q4⟩:=hz0
 refine thn (hp pins s4 σ H4 x3 x4 old v _ I4 r3 r4 q4) λnew s5 hz0=>?_
 obtain ⟨x5,H5,I5,r5,q5⟩:=hz0
 exact thn (hs pins s5 σ H5 x1 x2 x5 ov iv new _ I5 r1 r2 r5 q5) λ_ s6 hz0=>by
  obtain ⟨H6,I6,q6⟩:=hz0
  exact ⟨σ,H6,I6,q6⟩
noncomputable def qk (f:Int->Int->Int):jS:=λx y H Q=>∃ i j,x=.int i/\y=.int j/\Q (.int (f i j)) H
theorem Zl9:lw X .Add (qk λi j=>i+j):=by
 intro pins s σ H x y v u Q I r1 r2 h
 obtain ⟨i,j,e1,e2,q⟩:=h
 subst e1; subst e2
 obtain ⟨t,rfl⟩:=r1
 obtain ⟨t',rfl⟩:=r2
 exact iadd_int ⟨.int _,H,I.tok _,⟨_,rfl⟩,q⟩
theorem Zl8:lw X .Sub (qk λi j=>i - j):=by
 intro pins s σ H x y v u Q I r1 r2 h
 obtain ⟨i,j,e1,e2,q⟩:=h
 subst e1; subst e2
 obtain ⟨t,rfl⟩:=r1
 obtain ⟨t',rfl⟩:=r2
 exact isub_int ⟨.int _,H,I.tok _,⟨_,rfl⟩,q⟩
end
section
variable {X:Cx} {pos:Pos}
noncomputable def ZiP (c:TT) (tb:TS):TS:=λD σ H=>∃ W:Nat->St->Hp->Prop,(∃ m,W m σ H)/\∀ m σ H,W m σ H ->
 c σ H λb H1=>if b=true then ∃ N:St->Hp->Prop,(∀ σ' H',N σ' H'->∃ m',m' < m/\W m' σ' H')/\tb { D with nx:=N,ct:=N,bk:=D.nx } σ H1 else D.nx σ H1
theorem Zko {c:Expr} {body:List Stmt} {tc:TT} {tb:TS} (hp:PassesOwn (model X.prog X.w) X.A X.env X.xe) (hc:PT X c tc) (hb:PSs X body tb):PS X (.While c body [] pos) (ZiP tc tb):=by
 intro pins s σ H D I h
 obtain ⟨W,⟨m0,w0⟩,turn⟩:=h
 refine wpAny_While (codeAny_whileLoop (λn s'=>∃ σ' H',Inv X pins σ' H' s'/\W n σ' H') ?_ m0 ⟨σ,H,I,w0⟩)
 rintro n s1 ⟨σ1,H1,I1,w1⟩
 refine wpAny_passesOwn hp (thn (hc pins s1 σ1 H1 _ I1 (turn n σ1 H1 w1)) λb s2 hz0=>?_)
 obtain ⟨H2,I2,q2⟩:=hz0
 cases b with
 | true =>
  obtain ⟨N,hN,q2⟩:=q2
  rw [if_pos rfl]
  refine wpAny_passesOwn hp (thn (hb pins s2 σ1 H2 _ I2 q2) λf s3 q3=>?_)
  cases f with
  | next =>
   obtain ⟨σ3,H3,I3,n3⟩:=q3
   obtain ⟨m',hm,w3⟩:=hN σ3 H3 n3
   exact ⟨m',hm,σ3,H3,I3,w3⟩
  | cont =>
   obtain ⟨σ3,H3,I3,n3⟩:=q3
   obtain ⟨m',hm,w3⟩:=hN σ3 H3 n3
   exact ⟨m',hm,σ3,H3,I3,w3⟩
  | brk=>exact q3
  | ret v=>exact q3
 | false =>
  rw [if_neg Bool.false_ne_true]
  exact wpAny_execs_nil ⟨σ1,H2,I2,q2⟩
end
structure It where
 go:Nat->Hp->Prop
 yld:Nat->Hp->V->Hp->Prop
 stop:Nat->Hp->Prop
noncomputable def fj (X:Cx) (pins:List (Addr×Obj)) (H:Hp) (b:Addr):Prop :=
 H b=none/\b≠X.env.locals/\b ∉ X.fs/\(b∈X.ex\/X.s₀.heap.objs.size<=b)/\(∀ x c,X.env.cells.lookup x=some c->c≠b)/\∀ p∈X.pn++pins,p.1≠b
theorem Inv.fpOk {X:Cx} {pins:List (Addr×Obj)} {σ:St} {H H':Hp} {s:Shared} {b:Addr} (I:Inv X pins σ H s) (hb:s.heap.objs.size<=b) (hn:H' b=none):fj X pins H' b:=by
 refine ⟨hn,Nat.ne_of_gt (Nat.lt_of_lt_of_le I.lt hb),I.nofs hb,.inr (Nat.le_trans I.sz hb),λx c e z=>?_,λp hp z=>?_⟩
 ·obtain ⟨v,q⟩:=I.cell x c e
  exact absurd (Nat.lt_of_lt_of_le q.lt (by rw [z]; exact hb)) (Nat.lt_irrefl _)
 ·exact absurd (Nat.lt_of_lt_of_le (Heap.lt_size (I.pin p hp).1) (by rw [z]; exact hb)) (Nat.lt_irrefl _)
structure Turn (P:Program) (w:World) (K:PySem.W.Frag) (tg:Expr) (J:It) (fp:List Addr) (it:Addr) (tn:Nat->Heap->Prop):Prop where
 mem:it∈fp
 obj:∀ i h,tn i h->∀ b∈fp,∃ o,h.get? b=some o/\∀ v,o.data≠.cell v
 keep:∀ i h h',tn i h->(∀ b∈fp,∀ o,h.get? b=some o->h'.get? b=some o)->tn i h'
 item:∀ (X:Cx),X.prog=P->X.w=w->X.K=K->X.calm=true->∀ (i:Nat) (pins:List (Addr×Obj)) (s:Shared) (σ:St) (H:Hp) (E:Value->Shared->Prop),Inv X pins σ H s->(∀ b∈fp,fj X pins H b)->tn i s.heap->J.go i H ->
  wpAny (model P w) X.A (pyNext (.ref it)) (λr s1=>∃ u,r=some u /\
   wpAny (model P w) X.A (letOwnedTupleGo tg (.ref it) u) (λ_ s2=>∃ x H',Inv X pins σ H' s2/\RelV x u/\J.yld i H x H'/\tn (i+1) s2.heap/\∀ b∈fp,H' b=none) E s1) E s
 done:∀ (X:Cx),X.prog=P->X.w=w->X.K=K->X.calm=true->∀ (i:Nat) (pins:List (Addr×Obj)) (s:Shared) (σ:St) (H:Hp) (E:Value->Shared->Prop),Inv X pins σ H s->(∀ b∈fp,fj X pins H b)->tn i s.heap->J.stop i H ->
  wpAny (model P w) X.A (pyNext (.ref it)) (λr s1=>r=none/\Inv X pins σ H s1) E s
 self:∀ (A:Around) (i:Nat) (s:Shared) (Q:Value->Shared->Prop) (E:Value->Shared->Prop),tn i s.heap->Q (.ref it) s->wpAny (model P w) A (pyIter (.ref it)) Q E s
noncomputable abbrev TI:=St->Hp->(It->Hp->Prop)->Prop
noncomputable def nT (X:Cx) (pins:List (Addr×Obj)) (σ:St) (tg:Expr) (R:It->Hp->Prop) (itv:Value) (s2:Shared):Prop :=
 ∃ (it:Addr) (fp:List Addr) (tn:Nat->Heap->Prop) (J:It) (H':Hp),itv=.ref it/\Inv X pins σ H' s2/\Turn X.prog X.w X.K tg J fp it tn/\tn 0 s2.heap/\(∀ b∈fp,fj X pins H' b)/\R J H'
noncomputable def PI (X:Cx) (tg iter:Expr) (wi:TI):Prop :=
 ∀ (pins:List (Addr×Obj)) (s:Shared) (σ:St) (H:Hp) (R:It->Hp->Prop),Inv X pins σ H s->wi σ H R ->
  wpAny (model X.prog X.w) X.A (eval iter X.env) (λv s1=>wpAny (model X.prog X.w) X.A (pyIter v) (nT X pins σ tg R) X.xe s1) X.xe s
theorem kW {M:Model} {A:Around} {E:Value->Shared->Prop} {s:Shared} {tg:Expr} {it:Addr} {u:Value} {o:Obj} {n:String} {vs:Array Value} {Q:Unit->Shared->Prop} (ho:s.heap.get? it=some o) (hc:o.cls=.type n) (hd:o.data=.fields vs)
  (hn:["enumerate","zip","dict_itemiterator","dict_reverseitemiterator","odict_iterator","itertools.zip_longest","itertools.pairwise"].contains n=false) (hQ:Q () s):wpAny M A (letOwnedTupleGo tg (.ref it) u) Q E s:=by
 unfold letOwnedTupleGo
 cases tg <;> first
  | exact wpAny_pure hQ
  | (cases u <;> first
    | exact wpAny_pure hQ
    | (refine wpAny_bind (wpAny_load ho ?_)
       rw [hc,hd]
       show wpAny M A (if (["enumerate","zip","dict_itemiterator","dict_reverseitemiterator","odict_iterator","itertools.zip_longest","itertools.pairwise"].contains n && vs[0]? == some (rawInt _))=true then _ else _) Q E s
       rw [if_neg (by intro h; rw [hn,Bool.false_and] at h; cases h)]
       exact wpAny_pure hQ))
noncomputable def rZ (K:PySem.W.Frag) (a:Addr):It :=
 ⟨λi H=>∃ xs x,SqL K H a xs/\xs[i]?=some x,λi H x H'=>H'=H/\∀ xs,SqL K H a xs->xs[i]?=some x,λi H=>∃ xs,SqL K H a xs/\xs.length<=i⟩
noncomputable def rY (K:PySem.W.Frag) (a:Addr):It :=
 ⟨λi H=>∃ xs x,SqT K H a xs/\xs[i]?=some x,λi H x H'=>H'=H/\∀ xs,SqT K H a xs->xs[i]?=some x,λi H=>∃ xs,SqT K H a xs/\xs.length<=i⟩
noncomputable def iU (lo:Int) (n:Nat):It:=⟨λi _=>i < n,λi H x H'=>H'=H/\x=.int (lo+i),λi _=>n<=i⟩
theorem ZiH {P:Program} {w:World} {K:PySem.W.Frag} {tg:Expr} (a it:Addr):Turn P w K tg (rZ K a) [it] it (λi h=>h.IsListIter it a i) where
 mem:=by simp
 obj:=λi h st b hb=>by
  have e:b=it:=by simpa using hb
  subst e
  obtain ⟨o,e,c,d⟩:=st
  exact ⟨o,e,λv z=>by rw [d] at z; cases z⟩
 keep:=λi h h' st k=>st.at λo e=>k it (by simp) o e
 item:=by
  intro X hP hw hK hc i pins s σ H E I hf st hg
  subst hP hw hK
  obtain ⟨xs,x,hq,hx⟩:=hg
  obtain ⟨its,rv,p,hz⟩:=I.list hq
  obtain ⟨u,hu,ru⟩:=rv.get hx
  obtain ⟨f0,f1,f2,f3,f4,f5⟩:=hf it (by simp)
  refine wpAny_pyNext_list_item st p.isList (x:=u) (by simpa using hu) λh' st' sb=>?_
  have I1:Inv X pins σ H { s with heap:=h' }:=I.turned (t':=s.toks) (λb o hb e=>(sb.2 b hb).trans e) f0 f1 f3 f4 f5
  obtain ⟨o,e,c,d⟩:=id st'
  exact ⟨u,rfl,kW (s:={ s with heap:=h' }) e c d (by decide) ⟨x,H,I1,ru,⟨rfl,λys hy=>by rw [I.list_inj hy hq]; exact hx⟩,st',λb hb=>(hf b hb).1⟩⟩
 done:=by
  intro X hP hw hK hc i pins s σ H E I hf st hg
  subst hP hw hK
  obtain ⟨xs,hq,hx⟩:=hg
  obtain ⟨its,rv,p,hz⟩:=I.list hq
  obtain ⟨f0,f1,f2,f3,f4,f5⟩:=hf it (by simp)
  have hl:=rv.length
  exact wpAny_pyNext_list_end (I.ok.hd hc) st p.isList (by simp; omega) λh' eb=>⟨rfl,I.turned (t':=s.toks) (λb o hb e=>eb b o hb e) f0 f1 f3 f4 f5⟩
 self:=λ_ _ _ _ _ st h=>wpAny_pyIter_listiter st h
theorem ZiE {P:Program} {w:World} {K:PySem.W.Frag} {tg:Expr} (a it:Addr):Turn P w K tg (rY K a) [it] it (λi h=>h.IsTupleIter it a i) where
 mem:=by simp
 obj:=λi h st b hb=>by
  have e:b=it:=by simpa using hb
  subst e
  obtain ⟨o,e,c,d⟩:=st
  exact ⟨o,e,λv z=>by rw [d] at z; cases z⟩
 keep:=λi h h' st k=>st.at λo e=>k it (by simp) o e
 item:=by
  intro X hP hw hK hc i pins s σ H E I hf st hg
  subst hP hw hK
  obtain ⟨xs,x,hq,hx⟩:=hg
  obtain ⟨its,rv,p,hz⟩:=I.tuple hq
  obtain ⟨u,hu,ru⟩:=rv.get hx
  obtain ⟨f0,f1,f2,f3,f4,f5⟩:=hf it (by simp)
  refine wpAny_pyNext_tuple_item st (show s.heap.IsTuple a its.toArray from p) (x:=u) (by simpa using hu) λh' st' sb=>?_
  have I1:Inv X pins σ H { s with heap:=h' }:=I.turned (t':=s.toks) (λb o hb e=>(sb.2 b hb).trans e) f0 f1 f3 f4 f5
  obtain ⟨o,e,c,d⟩:=id st'
  exact ⟨u,rfl,kW (s:={ s with heap:=h' }) e c d (by decide) ⟨x,H,I1,ru,⟨rfl,λys hy=>by rw [I.tuple_inj hy hq]; exact hx⟩,st',λb hb=>(hf b hb).1⟩⟩
 done:=by
  intro X hP hw hK hc i pins s σ H E I hf st hg
  subst hP hw hK
  obtain ⟨xs,hq,hx⟩:=hg
  obtain ⟨its,rv,p,hz⟩:=I.tuple hq
  obtain ⟨f0,f1,f2,f3,f4,f5⟩:=hf it (by simp)
  have hl:=rv.length
  exact wpAny_pyNext_tuple_end (I.ok.hd hc) st (show s.heap.IsTuple a its.toArray from p) (by simp; omega) λh' eb=>⟨rfl,I.turned (t':=s.toks) (λb o hb e=>eb b o hb e) f0 f1 f3 f4 f5⟩
 self:=λ_ _ _ _ _ st h=>wpAny_pyIter_tupleiter st h
theorem ZiG {P:Program} {w:World} {K:PySem.W.Frag} {tg:Expr} (it:Addr) (lo:Int) (n:Nat):Turn P w K tg (iU lo n) [it] it (λi h=>IsRangeIter h it (lo+(i:Nat) * 1) ((n:Int) - (i:Nat)) 1) where
 mem:=by simp
 obj:=λi h st b hb=>by
  have e:b=it:=by simpa using hb
  subst e
  exact ⟨_,st,λv z=>by
   have z':Data.fields _=Data.cell v:=z
   cases z'⟩
 keep:=λi h h' st k=>k it (by simp) _ st
 item:=by
  intro X hP hw hK hc i pins s σ H E I hf st hg
  subst hP hw hK
  obtain ⟨f0,f1,f2,f3,f4,f5⟩:=hf it (by simp)
  have W:=Walks.range (prog:=X.prog) (w:=X.w) (I.ok.hd hc) it lo 1 n
  refine W.item i s _ _ hg st λv h' tk hv st' kk=>?_
  obtain ⟨t,rfl⟩:=hv
  have I1:Inv X pins σ H { s with heap:=h',toks:=tk }:=I.turned (λb o hb e=>kk b o (by simpa using hb) e) f0 f1 f3 f4 f5
  refine ⟨_,rfl,kW (s:={ s with heap:=h',toks:=tk }) (n:="range_iterator") st' rfl rfl (by decide) ⟨.int (lo+i),H,I1,⟨t,?_⟩,⟨rfl,rfl⟩,st',λb hb=>(hf b hb).1⟩⟩
  rw [Int.mul_one]
 done:=by
  intro X hP hw hK hc i pins s σ H E I hf st hg
  subst hP hw hK
  obtain ⟨f0,f1,f2,f3,f4,f5⟩:=hf it (by simp)
  exact wpAny_pyNext_range_end (I.ok.hd hc) st (by have:n<=i:=hg; omega) λh' eb=>⟨rfl,I.turned (t':=s.toks) (λb o hb e=>eb b o hb e) f0 f1 f3 f4 f5⟩
 self:=λ_ _ _ _ _ st h=>wpAny_pyIter_rangeiter st h
section
variable {X:Cx} {tg:Expr}
theorem ZbT {pins:List (Addr×Obj)} {σ:St} {H:Hp} {s:Shared} {R:It->Hp->Prop} {E:Value->Shared->Prop} {lo hi:Int} {t u v:Tok} {tk:Nat} (I:Inv X pins σ H s) (h1:-(2 ^ 62)<=lo) (h2:lo < 2 ^ 62) (h3:-(2 ^ 62)<=hi) (h4:hi < 2 ^ 62)
  (q:R (iU lo (hi - lo).toNat) H):wpAny (model X.prog X.w) X.A (pyIter (.ref s.heap.objs.size)) (nT X pins σ tg R) E { s with heap:=s.heap.push { cls:=.type "range",data:=.fields #[.int lo t,.int hi u,.int 1 v] },toks:=tk }:=by
 refine wpAny_pyIter_range (IsRange.new ..) (small_one h1 h2 h3 h4) ?_
 have I1:Inv X pins σ H { s with heap:=s.heap.push { cls:=.type "range",data:=.fields #[.int lo t,.int hi u,.int 1 v] },toks:=tk }:=I.kept λb o e=>Heap.get?_push_of_some _ e
 refine ⟨(s.heap.push { cls:=.type "range",data:=.fields #[.int lo t,.int hi u,.int 1 v] }).objs.size,[(s.heap.push { cls:=.type "range",data:=.fields #[.int lo t,.int hi u,.int 1 v] }).objs.size],_,_,H,rfl,
  I1.kept (t':=tk) λb o e=>Heap.get?_push_of_some _ e,ZiG _ lo (hi - lo).toNat,?_,λb hb=>?_,q⟩
 ·have e1:lo+((0:Nat):Int) * 1=lo:=by simp
  have e2:(((hi - lo).toNat:Nat):Int) - ((0:Nat):Int)=Builtin.Range.rangeSize lo hi 1:=by rw [rangeSize_one]; split <;> omega
  show IsRangeIter _ _ (lo+((0:Nat):Int) * 1) ((((hi - lo).toNat:Nat):Int) - ((0:Nat):Int)) 1
  rw [e1,e2]
  exact Heap.get?_push_size _ rfl
 ·have e:b=(s.heap.push { cls:=.type "range",data:=.fields #[.int lo t,.int hi u,.int 1 v] }).objs.size:=by simpa using hb
  subst e
  exact I1.fpOk (Nat.le_refl _) (I1.hok.fresh (Nat.le_refl _))
noncomputable def Zdz (ta:TA):TI:=λσ H R=>ta σ H λvs H1=>∃ j:Int,vs=[.int j]/\-(2 ^ 62)<=j/\j < 2 ^ 62/\R (iU 0 j.toNat) H1
noncomputable def Zdy (ta:TA):TI:=λσ H R=>ta σ H λvs H1=>∃ i j:Int,vs=[.int i,.int j]/\(-(2 ^ 62)<=i/\i < 2 ^ 62/\-(2 ^ 62)<=j/\j < 2 ^ 62)/\R (iU i (j - i).toNat) H1
theorem eW {a:Expr} {ta:TA} {p pos:Pos} (hg:Gl X "range") (hm:X.mg "range"=none) (ha:PA X [a] ta) (hs:starEach [a] X.env=[(false,eval a X.env)]:=by rfl):PI X tg (.Call (.Name "range" p) [a] [] pos) (Zdz ta):=by
 intro pins s σ H R I h
 refine Call_ (iE I hg hm boot_range (PyProof.Rows.callWith_type1 (thn (ha pos pins s σ H _ I h) λus s1 hz0=>?_) hs rfl))
 obtain ⟨vs,H1,I1,r1,q1⟩:=hz0
 obtain ⟨j,e,q1,q2,q⟩:=q1
 subst e
 cases r1 with
 | cons r rr =>
  cases rr
  obtain ⟨t,rfl⟩:=r
  exact call_range_1 (ZbT I1 (by omega) (by omega) q1 q2 (by simpa using q))
theorem Zck {a b:Expr} {ta:TA} {p pos:Pos} (hg:Gl X "range") (hm:X.mg "range"=none) (ha:PA X [a,b] ta) (hs:starEach [a,b] X.env=[(false,eval a X.env),(false,eval b X.env)]:=by rfl) (hs2:starEach [b] X.env=[(false,eval b X.env)]:=by rfl) :
  PI X tg (.Call (.Name "range" p) [a,b] [] pos) (Zdy ta):=by
 intro pins s σ H R I h
 refine Call_ (iE I hg hm boot_range (PyProof.Rows.callWith_type1 (thn (ha pos pins s σ H _ I h) λus s1 hz0=>?_) (by rw [hs,hs2]) (by rw [hs2]; rfl)))
 obtain ⟨vs,H1,I1,r1,q1⟩:=hz0
 obtain ⟨i,j,e,⟨q1,q2,q3,q4⟩,q⟩:=q1
 subst e
 cases r1 with
 | cons r rr =>
  cases rr with
  | cons r' rr =>
   cases rr
   obtain ⟨t,rfl⟩:=r
   obtain ⟨t',rfl⟩:=r'
   exact call_range_2 (ZbT I1 q1 q2 q3 q4 q)
noncomputable def Zi6 (wi:TI) (g:TG) (tb:TS):TS:=λD σ H=>wi σ H λJ H1=>∃ W:Nat->Nat->St->Hp->Prop,(∃ m,W 0 m σ H1)/\∀ i m σ H,W i m σ H ->
 (J.stop i H/\D.nx σ H)\/(J.go i H/\∃ N:St->Hp->Prop,(∀ σ' H',N σ' H'->∃ m',m' < m/\W (i+1) m' σ' H')/\∀ x H',J.yld i H x H'->g x σ H' λσ2 H2=>tb { D with nx:=N,ct:=N,bk:=D.nx } σ2 H2)
noncomputable def l4 (fp:List Addr) (h:Heap):List (Addr×Obj):=fp.filterMap λb=>(h.get? b).map λo=>(b,o)
theorem gL {fp:List Addr} {h:Heap} {b:Addr} {o:Obj} (hb:b∈fp) (e:h.get? b=some o):(b,o)∈l4 fp h:=List.mem_filterMap.mpr ⟨b,hb,by rw [e]; rfl⟩
theorem Zlc {fp:List Addr} {h:Heap} {p:Addr×Obj} (hp:p∈l4 fp h):p.1∈fp/\h.get? p.1=some p.2:=by
 obtain ⟨b,hb,e⟩:=List.mem_filterMap.mp hp
 cases q:h.get? b with
 | none=>rw [q] at e; cases e
 | some o =>
  rw [q] at e
  have e':(b,o)=p:=Option.some.inj e
  subst e'
  exact ⟨hb,q⟩
theorem Inv.pinned {pins:List (Addr×Obj)} {σ:St} {H:Hp} {s:Shared} {fp:List Addr} (I:Inv X pins σ H s) (hf:∀ b∈fp,fj X pins H b) (ho:∀ b∈fp,∃ o,s.heap.get? b=some o/\∀ v,o.data≠.cell v):Inv X (pins++l4 fp s.heap) σ H s :=
 I.pins_of λp hp=>(List.mem_append.mp hp).elim (λz=>I.pin p (List.mem_append_right _ z)) λz=>by
  obtain ⟨hb,e⟩:=Zlc z
  obtain ⟨f0,f1,f2,_⟩:=hf p.1 hb
  obtain ⟨o,e',d⟩:=ho p.1 hb
  rw [e] at e'; cases e'
  exact ⟨e,f0,f1,f2,d⟩
theorem Inv.unpinned {pins pl:List (Addr×Obj)} {σ:St} {H:Hp} {s:Shared} (I:Inv X (pins++pl) σ H s):Inv X pins σ H s:=I.pins_of λp hp=>I.pin p (List.mem_append_right _ (List.mem_append_left _ hp))
theorem Zkr {iter:Expr} {body:List Stmt} {wi:TI} {g:TG} {tb:TS} {pos:Pos} (hp:PassesOwn (model X.prog X.w) X.A X.env X.xe) (hc:X.calm=true) (hi:PI X tg iter wi) (hg:PG X tg g) (hb:PSs X body tb)
  (hs:∀ x,foldedSetIterable iter X.env x=pure x:=by intro _; rfl):PS X (.For tg iter body [] pos) (Zi6 wi g tb):=by
 intro pins s σ H D I h
 refine wpAny_For (thn (hi pins s σ H _ I h) λv s1 h1=>thn h1 λitv s2 h2=>?_) hs
 obtain ⟨it,fp,tn,J,H2,e,I2,T,st2,f2,W,⟨m0,w0⟩,turn⟩:=h2
 subst e
 -- what stays true of the iterator's objects through the loop
 have stat:∀ {H':Hp},(∀ b∈fp,H' b=none)->∀ b∈fp,fj X pins H' b:=λhn b hb=>⟨hn b hb,(f2 b hb).2⟩
 refine codeAny_forLoop_any (λn s'=>∃ i σ' H',Inv X pins σ' H' s'/\tn i s'.heap/\(∀ b∈fp,H' b=none)/\W i n σ' H') ?_ m0 ⟨0,σ,H2,I2,st2,λb hb=>(f2 b hb).1,w0⟩
 rintro n s3 ⟨i,σ3,H3,I3,st3,fr3,w3⟩
 rcases turn i n σ3 H3 w3 with ⟨stop,qn⟩ | ⟨go,N,hN,step⟩
 ·refine wpAny_passesOwn hp (thn (T.done X rfl rfl rfl hc i pins s3 σ3 H3 X.xe I3 (stat fr3) st3 stop) λr s4 hz0=>?_)
  obtain ⟨hr,I4⟩:=hz0
  subst hr
  exact wpAny_execs_nil ⟨σ3,H3,I4,qn⟩
 ·refine wpAny_passesOwn hp (thn (T.item X rfl rfl rfl hc i pins s3 σ3 H3 X.xe I3 (stat fr3) st3 go) λr s4 hz0=>?_)
  obtain ⟨u,hr,h4⟩:=hz0
  subst hr
  refine wpAny_passesOwn hp (thn h4 λ_ s5 hz0=>?_)
  obtain ⟨x,H5,I5,r5,y5,st5,fr5⟩:=hz0
  have I5':=I5.pinned (stat fr5) (T.obj _ _ st5)
  refine wpAny_passesOwn hp (thn (hg _ s5 σ3 H5 x u _ I5' r5 (step x H5 y5)) λ_ s6 hz0=>?_)
  obtain ⟨σ6,H6,I6,q6⟩:=hz0
  refine wpAny_passesOwn hp (thn (hb _ s6 σ6 H6 _ I6 q6) λf s7 q7=>?_)
  have again:∀ {σ7:St} {H7:Hp},Inv X (pins++l4 fp s5.heap) σ7 H7 s7->N σ7 H7->∃ m,m < n/\∃ i σ' H',Inv X pins σ' H' s7/\tn i s7.heap/\(∀ b∈fp,H' b=none)/\W i m σ' H':=λ{σ7 H7} I7 n7=>by
   obtain ⟨m',hm,w7⟩:=hN σ7 H7 n7
   refine ⟨m',hm,i+1,σ7,H7,I7.unpinned,T.keep _ _ _ st5 λb hb o e=>(I7.pin (b,o) (List.mem_append_right _ (List.mem_append_right _ (gL hb e)))).1,λb hb=>?_,w7⟩
   obtain ⟨o,e,d⟩:=T.obj _ _ st5 b hb
   exact (I7.pin (b,o) (List.mem_append_right _ (List.mem_append_right _ (gL hb e)))).2.1
  cases f with
  | next=>obtain ⟨σ7,H7,I7,n7⟩:=q7; exact again I7 n7
  | cont=>obtain ⟨σ7,H7,I7,n7⟩:=q7; exact again I7 n7
  | brk=>obtain ⟨σ7,H7,I7,q7⟩:=q7; exact ⟨σ7,H7,I7.unpinned,q7⟩
  | ret v=>obtain ⟨x7,σ7,H7,I7,r7,q7⟩:=q7; exact ⟨x7,σ7,H7,I7.unpinned,r7,q7⟩
end
noncomputable abbrev R2:=V->V->Hp->VK->Prop
noncomputable def OpR (X:Cx) (f:Value->Value->Sem Value) (r:R2):Prop :=
 ∀ (pins:List (Addr×Obj)) (s:Shared) (σ:St) (H:Hp) (x y:V) (v u:Value) (Q:VK),Inv X pins σ H s->RelV x v->RelV y u->r x y H Q ->
  wpAny (model X.prog X.w) X.A (f v u) (EP X pins σ Q) X.xe s
noncomputable def rO (X:Cx) (f:Value->Sem Value) (r:V->Hp->VK->Prop):Prop :=
 ∀ (pins:List (Addr×Obj)) (s:Shared) (σ:St) (H:Hp) (x:V) (v:Value) (Q:VK),Inv X pins σ H s->RelV x v->r x H Q ->
  wpAny (model X.prog X.w) X.A (f v) (EP X pins σ Q) X.xe s
noncomputable def dJ (X:Cx) (f:Value) (r:List V->Hp->VK->Prop):Prop :=
 ∀ (pins:List (Addr×Obj)) (s:Shared) (σ:St) (H:Hp) (xs:List V) (us:List Value) (Q:VK),Inv X pins σ H s->Vals xs us->r xs H Q ->
  wpAny (model X.prog X.w) X.A (call f us) (EP X pins σ Q) X.xe s
noncomputable def ZoJ (X:Cx) (r:V->Hp->(Bool->Hp->Prop)->Prop):Prop :=
 ∀ (pins:List (Addr×Obj)) (s:Shared) (σ:St) (H:Hp) (x:V) (v:Value) (Q:Bool->Hp->Prop),Inv X pins σ H s->RelV x v->r x H Q ->
  wpAny (model X.prog X.w) X.A (truthy v) (TP X pins σ Q) X.xe s
noncomputable def h9 (r:R2) (ta tb:TE):TE:=λσ H Q=>ta σ H λx H1=>tb σ H1 λy H2=>r x y H2 Q
noncomputable def tUn (r:V->Hp->VK->Prop) (ta:TE):TE:=λσ H Q=>ta σ H λx H1=>r x H1 Q
noncomputable def rI (C:Int->Int->Prop) (g:Int->Int->V):R2:=λx y H Q=>∃ i j,x=.int i/\y=.int j/\C i j/\Q (g i j) H
noncomputable def dO (g:Int->Int->V):R2:=λx y H Q=>∃ i j,x=.int i/\y=.int j/\Q (g i j) H
noncomputable def rU (g:Int->V):V->Hp->VK->Prop:=λx H Q=>∃ i,x=.int i/\Q (g i) H
section
variable {X:Cx} {a b c:Expr} {ta tb tc:TE} {pos:Pos}
theorem qX (ha:PE X a ta) (hb:PE X b tb) {pins:List (Addr×Obj)} {s:Shared} {σ:St} {H:Hp} {R:V->V->Hp->Prop} (I:Inv X pins σ H s)
  (h:ta σ H λx H1=>tb σ H1 λy H2=>R x y H2) {Q:Value->Shared->Prop} {f:Value->Value->Sem Value}
  (hf:∀ v u s2 x y H2,Inv X pins σ H2 s2->RelV x v->RelV y u->R x y H2->wpAny (model X.prog X.w) X.A (f v u) Q X.xe s2) :
  wpAny (model X.prog X.w) X.A (eval a X.env) (λv s₁=>wpAny (model X.prog X.w) X.A (eval b X.env) (λu s₂=>wpAny (model X.prog X.w) X.A (f v u) Q X.xe s₂) X.xe s₁) X.xe s:=by
 refine thn (ha pins s σ H _ I h) λv s1 hz0=>?_
 obtain ⟨x,H1,I1,r1,q1⟩:=hz0
 refine thn (hb pins s1 σ H1 _ I1 q1) λu s2 hz0=>?_
 obtain ⟨y,H2,I2,r2,q2⟩:=hz0
 exact hf v u s2 x y H2 I2 r1 r2 q2
theorem bT {op:Operator} {r:R2} (ho:OpR X (binaryOp op) r) (ha:PE X a ta) (hb:PE X b tb):PE X (.BinOp a op b pos) (h9 r ta tb):=by
 intro pins s σ H Q I h
 exact wpAny_BinOp (qX ha hb I h λv u s2 x y H2 I2 rx ry q=>ho pins s2 σ H2 x y v u Q I2 rx ry q)
theorem ZkH {op:UnaryOp} {r:V->Hp->VK->Prop} (ho:rO X (unaryOp op) r) (ha:PE X a ta):PE X (.UnaryOp op a pos) (tUn r ta):=by
 intro pins s σ H Q I h
 exact UnaryOp_ (thn (ha pins s σ H _ I h) λv s1 ⟨x,H1,I1,r1,q1⟩=>ho pins s1 σ H1 x v Q I1 r1 q1)
theorem ir {f:Value->Value->Sem Value} {C:Int->Int->Prop} {g:Int->Int->Int}
  (rule:∀ (i j:Int) (t u:Tok) (s:Shared) (Q:Value->Shared->Prop) (E:Value->Shared->Prop),C i j->Q (.int (g i j) s.toks) { s with toks:=s.toks+1 }->wpAny (model X.prog X.w) X.A (f (.int i t) (.int j u)) Q E s) :
  OpR X f (rI C λi j=>.int (g i j)):=by
 intro pins s σ H x y v u Q I rx ry h
 obtain ⟨i,j,rfl,rfl,hc,q⟩:=h
 obtain ⟨t,rfl⟩:=rx
 obtain ⟨t',rfl⟩:=ry
 exact rule i j t t' s _ _ hc ⟨.int (g i j),H,I.tok _,⟨_,rfl⟩,q⟩
theorem pJ {f:Value->Value->Sem Value} {g:Int->Int->Int}
  (rule:∀ (i j:Int) (t u:Tok) (s:Shared) (Q:Value->Shared->Prop) (E:Value->Shared->Prop),Q (.int (g i j) s.toks) { s with toks:=s.toks+1 }->wpAny (model X.prog X.w) X.A (f (.int i t) (.int j u)) Q E s) :
  OpR X f (dO λi j=>.int (g i j)):=by
 intro pins s σ H x y v u Q I rx ry h
 obtain ⟨i,j,rfl,rfl,q⟩:=h
 obtain ⟨t,rfl⟩:=rx
 obtain ⟨t',rfl⟩:=ry
 exact rule i j t t' s _ _ ⟨.int (g i j),H,I.tok _,⟨_,rfl⟩,q⟩
theorem me {f:Value->Value->Sem Value} {g:Int->Int->Bool}
  (rule:∀ (i j:Int) (t u:Tok) (s:Shared) (Q:Value->Shared->Prop) (E:Value->Shared->Prop),Q (.bool (g i j)) s->wpAny (model X.prog X.w) X.A (f (.int i t) (.int j u)) Q E s) :
  OpR X f (dO λi j=>.bl (g i j)):=by
 intro pins s σ H x y v u Q I rx ry h
 obtain ⟨i,j,rfl,rfl,q⟩:=h
 obtain ⟨t,rfl⟩:=rx
 obtain ⟨t',rfl⟩:=ry
 exact rule i j t t' s _ _ ⟨.bl (g i j),H,I,rfl,q⟩
noncomputable def Zpd (i j:Int):Prop:=0 < j/\j < 1073741824
noncomputable def Zip (i j:Int):Prop:=0<=j/\j<=1000000/\i.natAbs < 2 ^ 64
noncomputable def CMul (i j:Int):Prop:=(-(2 ^ 64) < i/\i < 2 ^ 64)\/(-(2 ^ 64) < j/\j < 2 ^ 64)
theorem CMul.ok {i j:Int} (h:CMul i j):IntMulOk i j:=by
 rcases h with ⟨h1,h2⟩ | ⟨h1,h2⟩
 ·exact .of_left (intBits_le_64 h1 h2)
 ·exact .of_right (intBits_le_64 h1 h2)
theorem gE:OpR X (binaryOp .Add) (dO λi j=>.int (i+j)):=pJ λ_ _ _ _ _ _ _ q=>add_int q
theorem b6:OpR X (binaryOp .Sub) (dO λi j=>.int (i - j)):=pJ λ_ _ _ _ _ _ _ q=>sub_int q
theorem md:OpR X (binaryOp .Mult) (rI CMul λi j=>.int (i * j)):=ir λ_ _ _ _ _ _ _ hc q=>mul_int q hc.ok
theorem pH:OpR X (binaryOp .FloorDiv) (rI Zpd λi j=>.int (i / j)):=ir λi j _ _ _ _ _ hc q=>by
 have h1:(0:Int) < j:=hc.1
 have h2:j < 1073741824:=hc.2
 exact floordiv_int (by omega) (by rw [Int.fdiv_eq_ediv_of_nonneg i (by omega)]; exact q) (.inl (PyProof.noPylong_small (by omega)))
theorem fu:OpR X (binaryOp .Mod) (rI (λ_ j=>0 < j) λi j=>.int (i % j)):=ir λi j _ _ _ _ _ hc q=>by
 have h1:(0:Int) < j:=hc
 exact mod_int' (by omega) (by rw [Int.fmod_eq_emod_of_nonneg i (by omega)]; exact q)
theorem Zcw:OpR X (binaryOp .Mod) (rI (λ_ j=>j≠0) λi j=>.int (i.fmod j)):=ir λ_ _ _ _ _ _ _ hc q=>mod_int' hc q
theorem pG:OpR X (binaryOp .Pow) (rI Zip λi j=>.int (i ^ j.toNat)):=ir λ_ _ _ _ _ _ _ hc q=>pow_int_small hc.1 hc.2.1 hc.2.2 q
theorem Zma:OpR X (inplaceOp .Add) (dO λi j=>.int (i+j)):=pJ λ_ _ _ _ _ _ _ q=>iadd_int q
theorem unI {f:Value->Sem Value} {g:Int->Int}
  (rule:∀ (i:Int) (t:Tok) (s:Shared) (Q:Value->Shared->Prop) (E:Value->Shared->Prop),Q (.int (g i) s.toks) { s with toks:=s.toks+1 }->wpAny (model X.prog X.w) X.A (f (.int i t)) Q E s) :
  rO X f (rU λi=>.int (g i)):=by
 intro pins s σ H x v Q I rx h
 obtain ⟨i,rfl,q⟩:=h
 obtain ⟨t,rfl⟩:=rx
 exact rule i t s _ _ ⟨.int (g i),H,I.tok _,⟨_,rfl⟩,q⟩
theorem ZiB:rO X (unaryOp .USub) (rU λi=>.int (-i)):=unI λ_ _ _ _ _ q=>neg_int q
end
noncomputable def scal:V->V->Bool
 | .non,.non=>true | .non,.int _=>true | .int _,.non=>true | .non,.bl _=>true | .bl _,.non=>true | .non,.str _=>true | .str _,.non=>true
 | .int _,.int _=>true | .bl _,.bl _=>true | .str _,.str _=>true | .byt _,.byt _=>true
 | .int _,.str _=>true | .str _,.int _=>true | .bl _,.str _=>true | .str _,.bl _=>true
 | _,_=>false
noncomputable def rEq:R2:=λx y H Q=>scal x y=true/\Q (.bl (decide (x=y))) H
noncomputable def rNe:R2:=λx y H Q=>scal x y=true/\Q (.bl (!decide (x=y))) H
theorem Zg6 {i j:Int}:decide (V.int i=V.int j)=(i == j):=by
 rw [Bool.eq_iff_iff]
 simp
theorem Zg8 {i j:Bool}:decide (V.bl i=V.bl j)=(i == j):=by
 rw [Bool.eq_iff_iff]
 simp
theorem no {i j:Str}:decide (V.str i=V.str j)=(i == j):=by
 rw [Bool.eq_iff_iff]
 simp
theorem Zg7 {i j:Array UInt8}:decide (V.byt i=V.byt j)=(i.toList == j.toList):=by
 rw [Bool.eq_iff_iff]
 cases i
 cases j
 simp
section
variable {X:Cx} {a b c:Expr} {ta tb tc:TE} {pos:Pos}
theorem bO {pins:List (Addr×Obj)} {σ:St} {H:Hp} {s:Shared} {Q:VK} {k k':Bool} (I:Inv X pins σ H s) (q:Q (.bl k) H) (e:k=k'):EP X pins σ Q (.bool k') s:=by
 subst e
 exact ⟨.bl k,H,I,rfl,q⟩
theorem Zk2:OpR X (compareOp .Eq) rEq:=by
 intro pins s σ H x y v u Q I rx ry h
 obtain ⟨hs,q⟩:=h
 cases x with
 | non =>
  cases rx
  cases y with
  | non=>cases ry; exact PySem.EqNone.eq_none_none (bO I q (by simp))
  | bl j=>cases ry; exact PySem.EqNone.eq_none_bool (bO I q (by simp))
  | int j=>obtain ⟨t',rfl⟩:=ry; exact PySem.EqNone.eq_none_int (bO I q (by simp))
  | str j=>obtain ⟨t',rfl⟩:=ry; exact PySem.EqNone.eq_none_str (bO I q (by simp))
  | _=>exact absurd (show false=true from hs) Bool.false_ne_true
 | bl i =>
  cases rx
  cases y with
  | non=>cases ry; exact PySem.EqNone.eq_bool_none (bO I q (by simp))
  | bl j=>cases ry; exact eq_bool (bO I q Zg8)
  | str j=>obtain ⟨t',rfl⟩:=ry; exact PySem.EqMixed.eq_bool_str (bO I q (by simp))
  | _=>exact absurd (show false=true from hs) Bool.false_ne_true
 | int i =>
  obtain ⟨t,rfl⟩:=rx
  cases y with
  | non=>cases ry; exact PySem.EqNone.eq_int_none (bO I q (by simp))
  | int j=>obtain ⟨t',rfl⟩:=ry; exact eq_int (bO I q Zg6)
  | str j=>obtain ⟨t',rfl⟩:=ry; exact PySem.EqMixed.eq_int_str (bO I q (by simp))
  | _=>exact absurd (show false=true from hs) Bool.false_ne_true
 | str i =>
  obtain ⟨t,rfl⟩:=rx
  cases y with
  | non=>cases ry; exact PySem.EqNone.eq_str_none (bO I q (by simp))
  | bl j=>cases ry; exact PySem.EqMixed.eq_str_bool (bO I q (by simp))
  | int j=>obtain ⟨t',rfl⟩:=ry; exact PySem.EqMixed.eq_str_int (bO I q (by simp))
  | str j=>obtain ⟨t',rfl⟩:=ry; exact eq_str (bO I q no)
  | _=>exact absurd (show false=true from hs) Bool.false_ne_true
 | byt i =>
  obtain ⟨t,rfl⟩:=rx
  cases y with
  | byt j=>obtain ⟨t',rfl⟩:=ry; exact PySem.W.eq_bytes (bO I q Zg7)
  | _=>exact absurd (show false=true from hs) Bool.false_ne_true
 | _=>cases y <;> exact absurd (show false=true from hs) Bool.false_ne_true
theorem ZkX:OpR X (compareOp .NotEq) rNe:=by
 intro pins s σ H x y v u Q I rx ry h
 obtain ⟨hs,q⟩:=h
 cases x with
 | non =>
  cases rx
  cases y with
  | non=>cases ry; exact PySem.EqNone.ne_none_none (bO I q (by simp))
  | bl j=>cases ry; exact PySem.EqNone.ne_none_bool (bO I q (by simp))
  | int j=>obtain ⟨t',rfl⟩:=ry; exact PySem.EqNone.ne_none_int (bO I q (by simp))
  | str j=>obtain ⟨t',rfl⟩:=ry; exact PySem.EqNone.ne_none_str (bO I q (by simp))
  | _=>exact absurd (show false=true from hs) Bool.false_ne_true
 | bl i =>
  cases rx
  cases y with
  | non=>cases ry; exact PySem.EqNone.ne_bool_none (bO I q (by simp))
  | bl j=>cases ry; exact ne_bool (bO I q (congrArg not Zg8))
  | str j=>obtain ⟨t',rfl⟩:=ry; exact PySem.EqMixed.ne_bool_str (bO I q (by simp))
  | _=>exact absurd (show false=true from hs) Bool.false_ne_true
 | int i =>
  obtain ⟨t,rfl⟩:=rx
  cases y with
  | non=>cases ry; exact PySem.EqNone.ne_int_none (bO I q (by simp))
  | int j=>obtain ⟨t',rfl⟩:=ry; exact ne_int (bO I q (congrArg not Zg6))
  | str j=>obtain ⟨t',rfl⟩:=ry; exact PySem.EqMixed.ne_int_str (bO I q (by simp))
  | _=>exact absurd (show false=true from hs) Bool.false_ne_true
 | str i =>
  obtain ⟨t,rfl⟩:=rx
  cases y with
  | non=>cases ry; exact PySem.EqNone.ne_str_none (bO I q (by simp))
  | bl j=>cases ry; exact PySem.EqMixed.ne_str_bool (bO I q (by simp))
  | int j=>obtain ⟨t',rfl⟩:=ry; exact PySem.EqMixed.ne_str_int (bO I q (by simp))
  | str j=>obtain ⟨t',rfl⟩:=ry; exact ne_str (bO I q (congrArg not no))
  | _=>exact absurd (show false=true from hs) Bool.false_ne_true
 | byt i =>
  obtain ⟨t,rfl⟩:=rx
  cases y with
  | byt j=>obtain ⟨t',rfl⟩:=ry; exact PySem.W.ne_bytes (bO I q (congrArg not Zg7))
  | _=>exact absurd (show false=true from hs) Bool.false_ne_true
 | _=>cases y <;> exact absurd (show false=true from hs) Bool.false_ne_true
theorem kC:OpR X (compareOp .Lt) (dO λi j=>.bl (decide (i < j))):=me λ_ _ _ _ _ _ _ q=>lt_int q
theorem ZkZ:OpR X (compareOp .LtE) (dO λi j=>.bl (decide (i<=j))):=me λ_ _ _ _ _ _ _ q=>le_int q
theorem fN:OpR X (compareOp .Gt) (dO λi j=>.bl (decide (j < i))):=me λ_ _ _ _ _ _ _ q=>gt_int q
theorem Zk0:OpR X (compareOp .GtE) (dO λi j=>.bl (decide (j<=i))):=me λ_ _ _ _ _ _ _ q=>ge_int q
theorem OpR.or {f:Value->Value->Sem Value} {r r':R2} (h:OpR X f r) (h':OpR X f r'):OpR X f (λx y H Q=>r x y H Q\/r' x y H Q):=by
 intro pins s σ H x y v u Q I rx ry q
 rcases q with q | q
 ·exact h pins s σ H x y v u Q I rx ry q
 ·exact h' pins s σ H x y v u Q I rx ry q
theorem nomark (b:Expr) {op:CmpOp} (h:op≠.In:=by decide) (h2:op≠.NotIn:=by decide):behindInMarks op b=false:=by
 have e1:(op == CmpOp.In)=false:=by cases op <;> first | rfl | exact absurd rfl h
 have e2:(op == CmpOp.NotIn)=false:=by cases op <;> first | rfl | exact absurd rfl h2
 cases b <;> first | rfl | (show (_ && (op == CmpOp.In || op == CmpOp.NotIn) && _)=false; rw [e1,e2,Bool.or_false,Bool.and_false,Bool.false_and])
theorem ZkO {op:CmpOp} {r:R2} (ho:OpR X (compareOp op) r) (ha:PE X a ta) (hb:PE X b tb) (hm:behindInMarks op b=false):PE X (.Compare a [op] [b] pos) (h9 r ta tb):=by
 intro pins s σ H Q I h
 exact wpAny_Compare1 (qX ha hb I h λv u s2 x y H2 I2 rx ry q=>ho pins s2 σ H2 x y v u Q I2 rx ry q) hm
noncomputable def lK (t:TE):TT:=λσ H Q=>t σ H λx H'=>∃ k,x=.bl k/\Q k H'
theorem ky {op:CmpOp} {r:R2} (ho:OpR X (compareOp op) r) (ha:PE X a ta) (hb:PE X b tb) (hm:behindInMarks op b=false):PT X (.Compare a [op] [b] pos) (lK (h9 r ta tb)):=by
 intro pins s σ H Q I h
 refine wpAny_isTrue_Compare1 (thn (ha pins s σ H _ I h) λv s1 ⟨x,H1,I1,r1,q1⟩=>thn (hb pins s1 σ H1 _ I1 q1) λu s2 ⟨y,H2,I2,r2,q2⟩ =>
  thn (ho pins s2 σ H2 x y v u _ I2 r1 r2 q2) λc s3 ⟨z,H3,I3,r3,k,e,q3⟩=>?_) hm
 subst e
 cases r3
 exact wpAny_truthy_bool ⟨H3,I3,q3⟩
noncomputable def Zh2 (K:PySem.W.Frag) (x:V) (H:Hp) (k:Bool):Prop :=
 match x with
 | .non=>k=false
 | .bl b=>k=b
 | .int i=>k=(i != 0)
 | .str y=>y.length<=sizeLine/\k=((y.length:Int) != 0)
 | .byt y=>y.size<=sizeLine/\k=((y.size:Int) != 0)
 | .ref p=>(∃ xs,SqL K H p xs/\k=!xs.isEmpty)\/(∃ xs,SqT K H p xs/\k=!xs.isEmpty)\/∃ kvs,H p=some (.dK kvs)/\k=!kvs.isEmpty
 | _=>False
theorem Zl7 {κ:Type} {kvs:List (κ×V)} {vs:List (κ×Value)} (r:KV kvs vs):(!vs.isEmpty)=!kvs.isEmpty:=by
 cases r <;> rfl
theorem Zds {xs:List V} {its:List Value} (r:Vals xs its):(!its.toArray.isEmpty)=!xs.isEmpty:=by
 cases r <;> simp
theorem gO:(sizeLine:Nat) < 2 ^ 63:=by rw [sizeLine_eq]; decide
theorem ZiL:ZoJ X (λx H Q=>∃ k,Zh2 X.K x H k/\Q k H):=by
 intro pins s σ H x v Q I rx h
 obtain ⟨k,e,q⟩:=h
 have hl:=gO
 have hs:sizeLine=16777216:=sizeLine_eq
 cases x with
 | non =>
  cases rx
  have e':k=false:=e
  subst e'
  exact truthy_none ⟨H,I,q⟩
 | bl b =>
  cases rx
  have e':k=b:=e
  subst e'
  exact wpAny_truthy_bool ⟨H,I,q⟩
 | int i =>
  obtain ⟨t,rfl⟩:=rx
  have e':k=(i != 0):=e
  subst e'
  exact PySem.P.truthy_int ⟨H,I,q⟩
 | str y =>
  obtain ⟨t,rfl⟩:=rx
  obtain ⟨hy,e'⟩:y.length<=sizeLine/\k=((y.length:Int) != 0):=e
  subst e'
  exact PySem.P.truthy_str (by omega) ⟨H,I.tok _,q⟩
 | byt y =>
  obtain ⟨t,rfl⟩:=rx
  obtain ⟨hy,e'⟩:y.size<=sizeLine/\k=((y.size:Int) != 0):=e
  subst e'
  exact PySem.W.truthy_bytes (by omega) ⟨H,I.tok _,q⟩
 | ref p =>
  cases rx
  have e':(∃ xs,SqL X.K H p xs/\k=!xs.isEmpty)\/(∃ xs,SqT X.K H p xs/\k=!xs.isEmpty)\/∃ kvs,H p=some (.dK kvs)/\k=!kvs.isEmpty:=e
  rcases e' with ⟨xs,hx,e'⟩ | ⟨xs,hx,e'⟩ | ⟨kvs,hx,e'⟩
  ·subst e'
   obtain ⟨its,r,pl,hz⟩:=I.list hx
   have hlen:=r.length
   exact wpAny_truthy_list pl.isList (by simp only [List.size_toArray]; omega) ⟨H,I.tok _,by rw [Zds r]; exact q⟩
  ·subst e'
   obtain ⟨its,r,pl,hz⟩:=I.tuple hx
   have hlen:=r.length
   exact truthy_tuple pl (by simp only [List.size_toArray]; omega) ⟨H,I.tok _,by rw [Zds r]; exact q⟩
  ·subst e'
   obtain ⟨hz,hS,vs,r,m⟩:kvs.length<=sizeLine/\(p == sysModules)=false/\∃ vs,KV kvs vs/\s.heap.DictOf (cJ X.prog X.w) p vs:=I.hok p _ hx
   have hlen:kvs.length=vs.length:=Paired.length r
   exact wpAny_truthy_dict hS m (by omega) ⟨H,I.tok _,by rw [Zl7 r]; exact q⟩
 | _=>exact (show False from e).elim
theorem Zkm (ha:PE X a ta) (he:∀ whole,isTrue a X.env whole=(do let v <- whole; standAt a.pos; holding [v] (truthy v))) :
  PT X a (λσ H Q=>ta σ H λx H'=>∃ k,Zh2 X.K x H' k/\Q k H'):=by
 intro pins s σ H Q I h
 exact isTrue_plain (thn (ha pins s σ H _ I h) λv s1 ⟨x,H1,I1,r1,q1⟩=>ZiL pins s1 σ H1 x v Q I1 r1 q1) (he _)
theorem eA {x:V} {us:List Value} (r:Vals [x] us):∃ u,us=[u]/\RelV x u:=by
 cases r with
 | cons r1 r2=>cases r2; exact ⟨_,rfl,r1⟩
theorem ox {x y:V} {us:List Value} (r:Vals [x,y] us):∃ u w',us=[u,w']/\RelV x u/\RelV y w':=by
 cases r with
 | cons r1 r2 =>
  cases r2 with
  | cons r3 r4=>cases r4; exact ⟨_,_,rfl,r1,r3⟩
theorem qR:dJ X (.builtin "abs") (λxs H Q=>∃ i,xs=[.int i]/\Q (.int (if i < 0 then -i else i)) H):=by
 intro pins s σ H xs us Q I r h
 obtain ⟨i,rfl,q⟩:=h
 obtain ⟨u,rfl,t,rfl⟩:=eA r
 exact call_abs_int λu tk=>⟨.int (if i < 0 then -i else i),H,I.tok _,⟨_,rfl⟩,q⟩
theorem nr (hc:X.calm=true):dJ X (.builtin "max") (λxs H Q=>∃ i j,xs=[.int i,.int j]/\Q (.int (if j > i then j else i)) H):=by
 intro pins s σ H xs us Q I r h
 obtain ⟨i,j,rfl,q⟩:=h
 obtain ⟨u,w',rfl,⟨t,rfl⟩,⟨t',rfl⟩⟩:=ox r
 refine max_two_ints (I.ok.hd hc) λh' tk k=>⟨_,H,I.kept k,?_,q⟩
 by_cases hj:j > i
 ·rw [if_pos hj,if_pos hj]; exact ⟨_,rfl⟩
 ·rw [if_neg hj,if_neg hj]; exact ⟨_,rfl⟩
theorem qQ:dJ X (.type "int") (λxs H Q=>(∃ i,xs=[.int i]/\Q (.int i) H)\/∃ k,xs=[.bl k]/\Q (.int (if k then 1 else 0)) H):=by
 intro pins s σ H xs us Q I r h
 rcases h with ⟨i,rfl,q⟩ | ⟨k,rfl,q⟩
 ·obtain ⟨u,rfl,t,rfl⟩:=eA r
  exact call_int_int ⟨.int i,H,I,⟨_,rfl⟩,q⟩
 ·obtain ⟨u,rfl,r1⟩:=eA r
  cases r1
  exact call_int_bool ⟨.int (if k then 1 else 0),H,I.tok _,⟨_,rfl⟩,q⟩
end
section
variable {prog:Program} {w:World} {A:Around} {E:Value->Shared->Prop} {s:Shared} {K:PySem.W.Frag} {x dx C f:Addr} {mA:Str->Option Value} {name:Str} {v:Value}
end
theorem RelO.some_of {v:V} {o:Option Value} (r:RelO (some v) o):∃ u,o=some u/\RelV v u:=by
 cases o with
 | none=>exact (show False from r).elim
 | some u=>exact ⟨u,rfl,r⟩
section
variable {P:Program} {w:World} {H H':Hp} {h h':Heap} {a C dx:Addr} {fs fs':List (Str×V)}
end
section
variable {X:Cx} {pins:List (Addr×Obj)} {σ:St} {H:Hp} {s:Shared} {a C dx:Addr} {fs:List (Str×V)} {f:Str} {v:V} {A:Around} {E:Value->Shared->Prop}
end
section
variable {X:Cx} {o e value:Expr} {f:Str} {pos pos' tpos:Pos} {ta tv:TE}
end
section
variable {X:Cx} {pins:List (Addr×Obj)} {σ:St} {H:Hp} {s:Shared} {A:Around} {E:Value->Shared->Prop} {Q:Value->Shared->Prop} {c:Value} {b:Bool}
end
structure Room (k:Nat) (A:Around):Prop where
 hd:A.handled=none
 dp:A.depth+3 * k+5 < recursionLimit
 un:A.units+16 * k+200 < cLine
 gd:A.guards=some []
theorem Room.mono {j k:Nat} {A:Around} (r:Room k A) (h:j<=k):Room j A:=⟨r.hd,by have:=r.dp; omega,by have:=r.un; omega,r.gd⟩
theorem Room.deeper {k:Nat} {A:Around} (r:Room (k+1) A) (env:Env):Room k (A.deeper env) :=
 ⟨r.hd,by have:=r.dp; show A.depth+1+3 * k+5 < _; omega,by have:=r.un; show A.units+3+16 * k+200 < _; omega,r.gd⟩
theorem Room.depth {k:Nat} {A:Around} (r:Room k A):A.depth < recursionLimit:=by have:=r.dp; omega
theorem Room.units {k:Nat} {A:Around} (r:Room k A):A.units+64 < cLine:=by have:=r.un; omega
noncomputable def aZ:TA:=λ_ H Q=>Q [] H
noncomputable def fo (ta:TE) (tr:TA):TA:=λσ H Q=>ta σ H λx H1=>tr σ H1 λxs H2=>Q (x::xs) H2
section
variable {X:Cx} {e:Expr} {es:List Expr} {te:TE} {t:TA} {pos:Pos}
theorem ci:PA X [] aZ:=λ_ _ _ _ H Q I h=>Calls.spliced_nil ⟨[],H,I,.nil,h⟩
theorem bU (ha:PE X e te) (hr:PA X es t) (hs:starEach (e::es) X.env=(false,eval e X.env)::starEach es X.env:=by rfl):PA X (e::es) (fo te t):=by
 intro pos pins s σ H Q I h
 rw [hs]
 show wpAny _ _ (spliced ((false,eval e X.env)::backTo pos (starEach es X.env))) _ _ s
 refine Calls.spliced_cons (thn (ha pins s σ H _ I h) λu s1 hz0=>?_)
 obtain ⟨x,H1,I1,r1,q1⟩:=hz0
 exact thn (hr pos pins s1 σ H1 _ I1 q1) λus s2 hz0=>by
  obtain ⟨xs,H2,I2,r2,q2⟩:=hz0
  exact ⟨x::xs,H2,I2,.cons r1 r2,q2⟩
noncomputable def ZiR (t:TA):TE:=λσ H Q=>t σ H λxs H1=>xs.length<=sizeLine/\∀ p,H1 p=none->Q (.ref p) (upd H1 p (.tup xs))
noncomputable def Zi1 (t:TA):TE:=λσ H Q=>t σ H λxs H1=>xs.length<=sizeLine/\∀ p,H1 p=none->Q (.ref p) (upd H1 p (.lst xs))
theorem Zcp {x1} (h:PA X es t):PE X (.Tuple es x1 pos) (ZiR t):=by
 intro pins s σ H Q I hq
 refine wpAny_Tuple_spliced (thn (h pos pins s σ H _ I hq) λus s1 ⟨xs,H1,I1,r,z,q⟩=>⟨by rw [<- r.length]; exact z,?_⟩)
 have hf:H1 s1.heap.objs.size=none:=I1.hok.fresh (Nat.le_refl _)
 refine ⟨.ref s1.heap.objs.size,upd H1 s1.heap.objs.size (.tup xs),I1.laid (t':=s1.toks) (λb u e=>Heap.get?_push_of_some _ e) (Nat.le_refl _) ?_,rfl,q _ hf⟩
 exact ⟨z,us,r,⟨_,Heap.get?_push_size _ rfl,rfl,_,rfl⟩⟩
theorem ZkI (h:PA X es t):PE X (.List es pos) (Zi1 t):=by
 intro pins s σ H Q I hq
 refine wpAny_List_spliced (thn (h pos pins s σ H _ I hq) λus s1 ⟨xs,H1,I1,r,z,q⟩=>⟨by rw [<- r.length]; exact z,?_⟩)
 have hf:H1 s1.heap.objs.size=none:=I1.hok.fresh (Nat.le_refl _)
 refine ⟨.ref s1.heap.objs.size,upd H1 s1.heap.objs.size (.lst xs),I1.laid (t':=s1.toks) (λb u e=>Heap.get?_push_of_some _ e) (Nat.le_refl _) ?_,rfl,q _ hf⟩
 exact ⟨z,us,0,r,Heap.get?_push_size _ rfl⟩
end
noncomputable abbrev Sp:=List V->Hp->VK->XK->Prop
noncomputable abbrev eh:=List Env->Hp->Shared->XK->Value->Shared->Prop
structure Env0 (P:Program) (w:World) (K:PySem.W.Frag) (mg:Str->Option Value) (base:Heap) (A:Around) (outer:List Env) (s:Shared) (H:Hp):Prop where
 frames:A.frames=some outer
 mod:Mod K mg base
 bs:∀ b o,base.get? b=some o->s.heap.get? b=some o/\H b=none
 bsz:base.objs.size<=s.heap.objs.size
 funs:s.heap.FunFrames base outer
 frf:∀ b∈frs outer,H b=none
 hok:HOk P w H s.heap
 bare:AllBare s.gens
noncomputable def CE (outer:List Env) (P:Program) (w:World) (H:Hp) (s:Shared) (Q:VK) (u:Value) (s':Shared):Prop :=
 ∃ v H',s'.os=s.os/\AllBare s'.gens/\Un (frs outer) [] H H' s.heap s'.heap/\HOk P w H' s'.heap/\RelV v u/\Q v H'
noncomputable def CR (CX:eh) (outer:List Env) (P:Program) (w:World) (H:Hp) (s:Shared) (Q:VK) (E:XK) (r:Result) (s':Shared):Prop :=
 match r with
 | .ok (.ret u)=>CE outer P w H s Q u s'
 | .ok _=>False
 | .error e=>CX outer H s E e s'
structure FnOk (P:Program) (w:World) (K:PySem.W.Frag) (mg:Str->Option Value) (base:Heap) (CX:eh) (k:Nat) (f:Addr) (fd:FuncData) (ps:List Str) (sp:Sp):Prop where
 len:∀ vs H Q E,sp vs H Q E->vs.length=ps.length
 run:∀ (A:Around) (outer:List Env) (s:Shared) (H:Hp) (args:Args) (us:List Value) (vs:List V) (Q:VK) (E:XK),Room k A->Env0 P w K mg base A outer s H->BindsTo s fd args (ps.zip us)->Vals vs us->sp vs H Q E ->
  codeAny (model P w) A (.call (.ref f) args) (CR CX outer P w H s Q E) s
theorem FnOk.imp {P:Program} {w:World} {K:PySem.W.Frag} {mg:Str->Option Value} {base:Heap} {CX:eh} {k:Nat} {f:Addr} {fd:FuncData} {ps:List Str} {sp sp':Sp} (F:FnOk P w K mg base CX k f fd ps sp)
  (h:∀ vs H Q E,sp' vs H Q E->sp vs H Q E):FnOk P w K mg base CX k f fd ps sp' :=
 ⟨λvs H Q E q=>F.len vs H Q E (h _ _ _ _ q),λA outer s H args us vs Q E hr he hb hv hs=>F.run A outer s H args us vs Q E hr he hb hv (h _ _ _ _ hs)⟩
section
variable {X:Cx} {pins:List (Addr×Obj)} {σ:St} {H:Hp} {s s':Shared}
theorem Inv.env0 (I:Inv X pins σ H s):Env0 X.prog X.w X.K X.mg X.base X.A X.stack s H :=
 ⟨I.ok.frames,I.ok.mod,I.bs,Nat.le_trans I.ok.bsz I.sz,I.stack,I.stkFree,I.hok,I.bare⟩
theorem Inv.after {Q:VK} {u:Value} (I:Inv X pins σ H s) (h:CE X.stack X.prog X.w H s Q u s'):EP X pins σ Q u s':=by
 obtain ⟨v,H',os,bare,un,hok,r,q⟩:=h
 obtain ⟨hh,g,d,t,os'⟩:=s'
 obtain rfl:os'=s.os:=os
 exact ⟨v,H',I.call (h':=hh) (g':=g) (d':=d) (t':=t) (ch:=[]) un hok bare (λb z=>absurd z (by simp)),r,q⟩
end
noncomputable def Zaw (sp:Sp) (dvs:List V) (E:XK) (t:TA):TE:=λσ H Q=>t σ H λvs H1=>sp (vs++dvs) H1 Q E
noncomputable def Binds (K:PySem.W.Frag) (fd:FuncData) (ps:List Str) (ds:List Value):Prop :=
 ∀ (s:Shared) (us:List Value),K.In s.heap->(us++ds).length=ps.length->BindsTo s fd ⟨us,[]⟩ (ps.zip (us++ds))
theorem Binds.all {K:PySem.W.Frag} {fd:FuncData} {ps:List Str} (h:∀ us:List Value,us.length=ps.length->bindArgs fd ⟨us,[]⟩=pure (ps.zip us)):Binds K fd ps []:=λs us _ hl=>by
 rw [List.append_nil] at hl ⊢
 exact .of_eq (h us hl)
noncomputable def rV (CX:eh) (X:Cx) (E:XK):Prop:=∀ (pins:List (Addr×Obj)) (σ:St) (H:Hp) (s:Shared) (e:Value) (s':Shared),Inv X pins σ H s->CX X.stack H s E e s'->X.xe e s'
section
variable {X:Cx} {CX:eh} {k:Nat} {f C:Addr} {fd:FuncData} {ps:List Str} {sp:Sp} {dvs:List V} {ds:List Value} {E:XK} {x m:Str} {p pos apos:Pos} {e o:Expr} {es:List Expr} {ta:TE} {t:TA}
theorem ZjP {pins:List (Addr×Obj)} {σ:St} {H:Hp} {s:Shared} {Q:VK} {us:List Value} {vs:List V} (F:FnOk X.prog X.w X.K X.mg X.base CX k f fd ps sp) (hr:Room k X.A) (hb:Binds X.K fd ps ds) (hd:Vals dvs ds) (hx:rV CX X E)
  (I:Inv X pins σ H s) (r:Vals vs us) (h:sp (vs++dvs) H Q E):wpAny (model X.prog X.w) X.A (call (.ref f) us) (EP X pins σ Q) X.xe s:=by
 have r2:Vals (vs++dvs) (us++ds):=r.append hd
 have hl:(us++ds).length=ps.length:=by rw [<- r2.length]; exact F.len _ _ _ _ h
 refine wpAny_call (codeAny_mono (F.run X.A X.stack s H ⟨us,[]⟩ (us++ds) (vs++dvs) Q E hr I.env0 (hb s us I.kIn hl) r2 h) λr s' hq=>?_)
 cases r with
 | error e=>exact hx pins σ H s e s' I hq
 | ok fl =>
  cases fl with
  | ret u=>exact I.after hq
  | next=>exact False.elim hq
  | brk=>exact False.elim hq
  | cont=>exact False.elim hq
theorem ZkP (F:FnOk X.prog X.w X.K X.mg X.base CX k f fd ps sp) (hr:Room k X.A) (hg:Gl X x) (hm:X.mg x=some (.ref f)) (hk:PySem.W.keepIn X.K (.ref f)=true) (hb:Binds X.K fd ps ds) (hd:Vals dvs ds) (hx:rV CX X E)
  (ha:PA X (e::es) t) (hdb:(x == ("__debug__":Str))=false:=by decide) (he:starEach (e::es) X.env=(false,eval e X.env)::starEach es X.env:=by rfl) (hpl:(backTo pos (starEach es X.env)).any (·.1)=false:=by rfl) :
  PE X (.Call (.Name x p) (e::es) [] pos) (Zaw sp dvs E t):=by
 intro pins s σ H Q I h
 refine wpAny_Call_Name_kw (Zda I hg hm ?_ hdb)
 refine PySem.W.callWith_K (h₀:=X.base) I.ok.mod.kin hk (thn (ha pos pins s σ H _ I h) λus s1 ⟨vs,H1,I1,r,q⟩=>⟨I1.kIn,?_⟩) he hpl
 exact ZjP F hr hb hd hx I1 r q
end
noncomputable def PK (X:Cx) (kws:List Keyword) (t:TA):Prop :=
 ∀ (pos:Pos) (pins:List (Addr×Obj)) (s:Shared) (σ:St) (H:Hp) (Q:List V->Hp->Prop),Inv X pins σ H s->t σ H Q->wpAny (model X.prog X.w) X.A (evalAll ((backToKw pos (keywordEach kws X.env)).map (·.2))) (AP X pins σ Q) X.xe s
section
variable {X:Cx} {CX:eh} {k:Nat} {f C:Addr} {fd:FuncData} {ps ks:List Str} {sp:Sp} {E:XK} {x m:Str} {p pos apos kpos:Pos} {e o:Expr} {es:List Expr} {kws:List Keyword} {te ta:TE} {t tk:TA} {nm:Option Str}
variable {g:List Value->List Value->List Value} {gV:List V->List V->List V}
end
structure FnScope (N P:List Str) (sc:Scope):Prop where
 kind:sc.kind=.function
 co:sc.isCoroutine=false
 gen:sc.isGenerator=false
 nd:N.Nodup
 pre:N.take P.length=P
 par:∀ x∈P,sc.names.lookup x=some .local\/sc.names.lookup x=some .cell
 nofree:∀ y∈sc.names,y.2≠.free
theorem ZhC {kindOf:Str->Option NameKind} {x:Str}:∀ {binds:List (Str×Value)} {m:Str->Option Value},(∀ v,(x,v) ∉ binds)->bindL kindOf binds m x=m x
 | [],_,_=>rfl
 | (n,v)::r,m,h=>by
  unfold bindL
  rw [ZhC λw hw=>h w (List.mem_cons_of_mem _ hw)]
  split
  ·have:x≠n:=by rintro rfl; exact h v List.mem_cons_self
   simp [this]
  ·rfl
theorem ZhE {kindOf:Str->Option NameKind} {x:Str}:∀ {binds:List (Str×Value)} {m:Str->Option Value},(∀ v,(x,v) ∉ binds)->bindC kindOf binds m x=m x
 | [],_,_=>rfl
 | (n,v)::r,m,h=>by
  unfold bindC
  rw [ZhE λw hw=>h w (List.mem_cons_of_mem _ hw)]
  split
  ·rfl
  ·have:x≠n:=by rintro rfl; exact h v List.mem_cons_self
   simp [this]
theorem ZhD {kindOf:Str->Option NameKind} {x:Str} {v:Value}:∀ {P:List Str} {vs:List Value} {i:Nat} {m:Str->Option Value},P.Nodup->P[i]?=some x->vs[i]?=some v->kindOf x=some .local ->
  bindL kindOf (P.zip vs) m x=some v
 | [],_,_,_,_,h,_,_=>by simp at h
 | _::_,[],_,_,_,_,h,_=>by simp at h
 | p::P,w::vs,0,m,nd,h1,h2,hk=>by
  simp at h1 h2; subst h1; subst h2
  show bindL kindOf ((p,w)::P.zip vs) m p=_
  unfold bindL
  rw [ZhC λv hv=>(List.nodup_cons.mp nd).1 (List.of_mem_zip hv).1,if_pos hk]
  simp
 | p::P,w::vs,i+1,m,nd,h1,h2,hk=>by
  show bindL kindOf ((p,w)::P.zip vs) m x=_
  unfold bindL
  exact ZhD (i:=i) (List.nodup_cons.mp nd).2 (by simpa using h1) (by simpa using h2) hk
theorem ZhF {kindOf:Str->Option NameKind} {x:Str} {v:Value}:∀ {P:List Str} {vs:List Value} {i:Nat} {m:Str->Option Value},P.Nodup->P[i]?=some x->vs[i]?=some v->kindOf x≠some .local ->
  bindC kindOf (P.zip vs) m x=some v
 | [],_,_,_,_,h,_,_=>by simp at h
 | _::_,[],_,_,_,_,h,_=>by simp at h
 | p::P,w::vs,0,m,nd,h1,h2,hk=>by
  simp at h1 h2; subst h1; subst h2
  show bindC kindOf ((p,w)::P.zip vs) m p=_
  unfold bindC
  rw [ZhE λv hv=>(List.nodup_cons.mp nd).1 (List.of_mem_zip hv).1,if_neg hk]
  simp
 | p::P,w::vs,i+1,m,nd,h1,h2,hk=>by
  show bindC kindOf ((p,w)::P.zip vs) m x=_
  unfold bindC
  exact ZhF (i:=i) (List.nodup_cons.mp nd).2 (by simpa using h1) (by simpa using h2) hk
noncomputable def start (N:List Str) (vs:List V):St:=vs.map some++List.replicate (N.length - vs.length) none
noncomputable def fU (CX:eh) (P:Program) (w:World) (K:PySem.W.Frag) (mg:Str->Option Value) (base:Heap) (N:List Str) (qual:Str) (scope:Scope) (f:Addr) (cd:Value) (A:Around) (outer:List Env) (s:Shared) (H:Hp) (E:XK):Cx where
 prog:=P
 w:=w
 K:=K
 mg:=mg
 base:=base
 A:=A.deeper (envOfC qual scope s.heap.objs.size f cd)
 N:=N
 s₀:=s
 H₀:=H
 env:=envOfC qual scope s.heap.objs.size f cd
 outer:=outer
 stack:=envOfC qual scope s.heap.objs.size f cd::outer
 ex:=[]
 calm:=true
 fn:=λ_=>true
 pn:=[]
 xe:=λe s'=>wpAny (model P w) (A.deeper (envOfC qual scope s.heap.objs.size f cd)) (leaving (envOfC qual scope s.heap.objs.size f cd) e) (λ_ s''=>CX outer H s E e s'') (λe' s''=>CX outer H s E e' s'') s'
theorem Zho {sc:Scope} {n:Nat} {x:Str} (h:sc.names.lookup x=some .cell):∃ c,(cellsFrom n sc.names []).lookup x=some c:=by
 have q:=PySem.W.cellsFrom_some sc.names n [] (.inl h)
 exact Option.isSome_iff_exists.mp q
theorem Zmb {CX:eh} {P:Program} {w:World} {K:PySem.W.Frag} {mg:Str->Option Value} {base:Heap} {N ps:List Str} {qual:Str} {scope:Scope} {f:Addr} {cd:Value} {A:Around} {outer:List Env} {s s1:Shared} {H:Hp} {E:XK} {us:List Value} {vs:List V}
  (S:FnScope N ps scope) (hd:A.handled=none) (e0:Env0 P w K mg base A outer s H) (hl:vs.length=ps.length) (r:Vals vs us)
  (x:InCallC s s.heap.objs.size (bindL (envOfC qual scope s.heap.objs.size f cd).kindOf (ps.zip us) λ_=>none) (cellsFrom (s.heap.objs.size+1) scope.names []) (bindC (envOfC qual scope s.heap.objs.size f cd).kindOf (ps.zip us) λ_=>none) s1) :
  Inv (fU CX P w K mg base N qual scope f cd A outer s H E) [] (start N vs) H s1:=by
 have hpl:ps.length<=N.length:=by have:=congrArg List.length S.pre; rw [List.length_take] at this; omega
 obtain ⟨h1,tk,rfl,hk⟩:=x.done
 have noA:∀ b:Addr,b ∉ (fU CX P w K mg base N qual scope f cd A outer s H E).ex:=λb z=>absurd (show b∈([]:List Addr) from z) (by simp)
 refine ⟨⟨e0.mod,S.kind,rfl,rfl,Nat.le_refl _,λy z c h1 h2=>?_,λy hy=>?_,λy c _ h=>?_,λ_=>hd,Around.frames_deeper e0.frames,.inr ⟨rfl,rfl⟩,λb z=>absurd z (noA b),e0.bs,e0.bsz,λb _ _=>noA b,λb z=>absurd z (noA b),e0.funs,e0.frf⟩,
  rfl,e0.bare,Un.kept hk,⟨_,x.toInCall.ns,λi y v h1 h2 h3=>?_⟩,λy c h=>⟨_,x.cell y c h⟩,e0.hok.fresh (Nat.le_refl _),λy c h=>?_,λp hp=>absurd (show p∈([]:List (Addr×Obj)) from hp) (by simp),e0.hok.kept hk,?_⟩
 ·exact name_of_addr x.apart (PySem.mem_of_lookup h1) (PySem.mem_of_lookup h2)
 ·have hy:scope.names.lookup y=some .cell\/scope.names.lookup y=some .free:=hy
  rcases hy with hy | hy
  ·exact Zho hy
  ·exact absurd rfl (S.nofree _ (PySem.mem_of_lookup hy))
 ·exact Nat.le_of_lt (x.above y c (PySem.mem_of_lookup h))
 ·have hi:i < vs.length:=by
   unfold start at h2
   by_cases hi:i < vs.length
   ·exact hi
   ·rw [List.getElem?_append_right (by simpa using hi)] at h2
    rw [List.getElem?_replicate] at h2
    split at h2 <;> cases h2
  have ha:vs[i]?=some v:=by
   unfold start at h2
   rw [List.getElem?_append_left (by simpa using hi),List.getElem?_map] at h2
   cases e:vs[i]? with
   | none=>rw [e] at h2; cases h2
   | some a=>rw [e] at h2; cases h2; rfl
  obtain ⟨u,hu,rv⟩:=r.get ha
  have hp:ps[i]?=some y:=by
   rw [<- S.pre,List.getElem?_take_of_lt (by omega)]; exact h1
  have ndP:ps.Nodup:=by rw [<- S.pre]; exact S.nd.sublist (List.take_sublist _ _)
  refine ⟨u,rv,?_⟩
  rcases S.par y (List.mem_of_getElem? hp) with k | k
  ·exact .inl ⟨k,ZhD ndP hp hu k⟩
  ·obtain ⟨c,e⟩:=Zho (n:=s.heap.objs.size+1) k
   refine .inr ⟨.inl k,c,e,?_⟩
   have q:=x.cell y c e
   rw [ZhF ndP hp hu (by show scope.names.lookup y≠_; rw [k]; decide)] at q
   exact q
 ·exact e0.hok.fresh (Nat.le_of_lt (x.above y c (PySem.mem_of_lookup h)))
 ·unfold start
  show _=N.length
  rw [List.length_append,List.length_map,List.length_replicate]
  omega
theorem Zml {CX:eh} {P:Program} {w:World} {K:PySem.W.Frag} {mg:Str->Option Value} {base:Heap} {k:Nat} {f:Addr} {name qual:Str} {params:Arguments} {body:List Stmt} {scope:Scope} {dV kV doc pm cdv ct oc:Value} {an od:Option Addr}
  {osl:Array (Option Value)} {N ps:List Str} {sp:Sp} (lk:K.lookup f=some ⟨oc,od,.func (PySem.W.fnOf name qual params body scope dV kV doc pm an cdv ct),osl⟩) (hcd:PySem.W.codeIn K cdv qual=true) (S:FnScope N ps scope)
  (len:∀ vs H Q E,sp vs H Q E->vs.length=ps.length)
  (hbody:∀ (A:Around) (outer:List Env) (s:Shared) (H:Hp) (vs:List V) (Q:VK) (E:XK),Room k (A.deeper (envOfC qual scope s.heap.objs.size f cdv))->sp vs H Q E ->
   ∃ t,PSs (fU CX P w K mg base N qual scope f cdv A outer s H E) body t/\t { nx:=λ_ H'=>Q .non H',rt:=Q } (start N vs) H) :
  FnOk P w K mg base CX (k+1) f (PySem.W.fnOf name qual params body scope dV kV doc pm an cdv ct) ps sp:=by
 refine ⟨len,λA outer s H args us vs Q E hr e0 hb r hsp=>?_⟩
 have hl:=len _ _ _ _ hsp
 have KX:K.In s.heap:=e0.mod.kin.keeps λb o e=>(e0.bs b o e).1
 have lim:s.heap.NoLimit:=e0.mod.nolimit.keeps λb o e=>(e0.bs b o e).1
 have hkind:∀ y∈ps.zip us,scope.names.lookup y.1=some .local\/(scope.names.lookup y.1=some .cell/\((cellsFrom (s.heap.objs.size+1) scope.names []).lookup y.1).isSome=true):=λ⟨n,v⟩ hy=>by
  rcases S.par n (List.of_mem_zip hy).1 with q | q
  ·exact .inl q
  ·exact .inr ⟨q,PySem.W.cellsFrom_some _ _ _ (.inl q)⟩
 refine codeAny_call_function hr.depth (KX _ _ lk) rfl S.co S.gen rfl (PySem.W.codeRec_of KX hcd) (hb _ _ _ _ ?_)
 refine wpAny_newFunctionEnv_cells S.kind hkind λenv he s1 x=>?_
 subst he
 refine ⟨lim.keeps x.toInCall.keep,codeAny_func ?_⟩
 obtain ⟨t,ht,hq⟩:=hbody A outer s H vs Q E (hr.deeper _) hsp
 have I:Inv (fU CX P w K mg base N qual scope f cdv A outer s H E) [] (start N vs) H s1:=Zmb S hr.hd e0 hl r x
 refine wpAny_mono (ht [] s1 (start N vs) H _ I hq) (λfl s' hs=>?_) λe s' hs=>hs
 have fin:∀ {σ':St} {H':Hp} {v:V} {u:Value},Inv (fU CX P w K mg base N qual scope f cdv A outer s H E) [] σ' H' s'->RelV v u->Q v H'->CE outer P w H s Q u s' :=
  λ{σ' H' v u} J rv q=>⟨v,H',J.os,J.bare,J.base,J.hok,rv,q⟩
 cases fl with
 | ret u =>
  obtain ⟨v,σ',H',J,rv,q⟩:=hs
  exact fin J rv q
 | next =>
  obtain ⟨σ',H',J,q⟩:=hs
  exact fin (v:=V.non) (u:=Value.none) J rfl q
 | brk =>
  obtain ⟨_,_,_,q⟩:=hs
  exact False.elim q
 | cont =>
  obtain ⟨_,_,_,q⟩:=hs
  exact False.elim q
section
variable {X:Cx} {x:Str} {p pos:Pos} {e:Expr} {es:List Expr} {t:TA} {id T:String} {r:List V->Hp->VK->Prop}
noncomputable def fq (r:List V->Hp->VK->Prop) (t:TA):TE:=λσ H Q=>t σ H λvs H1=>r vs H1 Q
theorem bq (hc:dJ X (.builtin id) r) (hg:Gl X x) (hm:X.mg x=none) (hv:bootBuiltins x=some (.builtin id)) (ha:PA X (e::es) t) (hn:x≠"__name__":=by decide) (hdb:(x == ("__debug__":Str))=false:=by decide)
  (he:starEach (e::es) X.env=(false,eval e X.env)::starEach es X.env:=by rfl) (hpl:(backTo pos (starEach es X.env)).any (·.1)=false:=by rfl):PE X (.Call (.Name x p) (e::es) [] pos) (fq r t):=by
 intro pins s σ H Q I h
 refine wpAny_Call_Name_kw (iE I hg hm hv ?_ hn hdb)
 exact PyProof.Rows.callWith_builtin1 (thn (ha pos pins s σ H _ I h) λus s1 ⟨vs,H1,I1,r1,q1⟩=>hc pins s1 σ H1 vs us Q I1 r1 q1) he hpl
theorem cZ (hc:dJ X (.type T) r) (hg:Gl X x) (hm:X.mg x=none) (hv:bootBuiltins x=some (.type T)) (ha:PA X (e::es) t) (hn:x≠"__name__":=by decide) (hdb:(x == ("__debug__":Str))=false:=by decide)
  (he:starEach (e::es) X.env=(false,eval e X.env)::starEach es X.env:=by rfl) (hpl:(backTo pos (starEach es X.env)).any (·.1)=false:=by rfl):PE X (.Call (.Name x p) (e::es) [] pos) (fq r t):=by
 intro pins s σ H Q I h
 refine wpAny_Call_Name_kw (iE I hg hm hv ?_ hn hdb)
 exact PyProof.Rows.callWith_type1 (thn (ha pos pins s σ H _ I h) λus s1 ⟨vs,H1,I1,r1,q1⟩=>hc pins s1 σ H1 vs us Q I1 r1 q1) he hpl
end
end L2
namespace HT
open PySem PyProof.Rows
noncomputable def cp:List Int->List Int->Bool
 | [],[]=>false
 | [],_::_=>true
 | _::_,[]=>false
 | x::xs,y::ys=>if x=y then cp xs ys else decide (x < y)
theorem Zc2 (x y:Int) (xs ys:List Int):cp (x::xs) (y::ys)=if x=y then cp xs ys else decide (x < y):=rfl
theorem Zc1:cp [] []=false:=rfl
theorem ZlL (y:Int) (ys:List Int):cp [] (y::ys)=true:=rfl
theorem ZlM (x:Int) (xs:List Int):cp (x::xs) []=false:=rfl
theorem Zmp (A:Around) (s:Shared) (a:Int) (t:Tok) (c:Int) (u:Tok):∃ e,SeqAt.EqAt A s (.int a t) (.int c u) e/\(e=true ↔ a=c) :=
 ⟨(a == c),SeqAt.EqAt.int_int a t c u,by simp⟩
theorem Zj9 (A:Around) (s:Shared) (a:Int) (t:Tok) (c:Int) (u:Tok) (prog:Program) (w:World) (E:Value->Shared->Prop) (Q:Value->Shared->Prop) (h:Q (.bool (decide (a < c))) s) :
  wpAny (model prog w) A (richCompare .Lt (.int a t) (.int c u)) Q E s :=
 (PyProof.Rows.lt_int h:wpAny (model prog w) A (compareOp .Lt (.int a t) (.int c u)) Q E s)
section
open PySem.SeqAt
open PySem.AutoSeq1 (wpAny_loadPart')
open PySem.MeetsSeq PySem.MeetsSeq2 PySem.MeetsSeq3
theorem ZiK (l b:Addr) (items items2:Array Value) (n n2:Nat) (dd dd2:Option Addr) (sl eE:Array (Option Value)) (ns ms:List Int) (hi:IntsAre items.toList ns) (hj:IntsAre items2.toList ms) :
  Meets (Builtin.«tuple.__lt__» ⟨[.ref l,.ref b],[]⟩)
   (λ_ R s=>s.heap.get? l=some { cls:=.type "tuple",dict:=dd,data:=.seq items n,slots:=sl }/\s.heap.get? b=some { cls:=.type "tuple",dict:=dd2,data:=.seq items2 n2,slots:=eE } /\
    R (.ok (.ret (.bool (cp ns ms)))) s) :=
 .of_wp λprog w A R s h=>by
  obtain ⟨hp,g,d,tk,os⟩:=s; obtain ⟨hl,hb,h⟩:=h
  have f2:=AutoSeq1.sub_tuple_tuple
  have z1:items.size=ns.length:=by rw [<- hi.length]; simp
  have z2:items2.size=ms.length:=by rw [<- hj.length]; simp
  wp_walk using wpAny_loadPart' hl,wpAny_loadPart' hb,wpAny_forIn_list _ (λrest b s'=>b.1=none/\s'=⟨hp,g,d,tk,os⟩/\∃ (vs ws:List Value) (ns' ms':List Int),rest=vs.zip ws /\
   IntsAre vs ns'/\IntsAre ws ms'/\ns'.length+items2.size=ms'.length+items.size/\R (.ok (.ret (.bool (cp ns' ms')))) ⟨hp,g,d,tk,os⟩) _
  case turn =>
   rintro ⟨y,x⟩ rest b s' ⟨hb',rfl,vs,ws,ns',ms',hz,hvi,hwi,hlen,hR⟩
   cases hvi with
   | nil=>rw [List.zip_nil_left] at hz; cases hz
   | cons a t hvi' =>
    cases hwi with
    | nil=>rw [List.zip_nil_right] at hz; cases hz
    | cons c u hwi' =>
     rw [List.zip_cons_cons] at hz
     injection hz with hyx hrest
     injection hyx with hy hx
     subst hy hx
     rw [Zc2] at hR
     simp only [List.length_cons] at hlen
     obtain ⟨e,he,hiff⟩:=Zmp A.in1 ⟨hp,g,d,tk,os⟩ a t c u
     refine wpAny_bind (he prog w _ _ ?_)
     cases e with
     | true =>
      rw [if_pos (hiff.mp rfl)] at hR
      wp_walk
      exact ⟨rfl,rfl,_,_,_,_,hrest,hvi',hwi',by omega,hR⟩
     | false =>
      rw [if_neg (λq=>absurd (hiff.mpr q) Bool.false_ne_true)] at hR
      have hri:=Zj9 A.in1 ⟨hp,g,d,tk,os⟩ a t c u prog w
      wp_walk using hri
      exact ⟨_,rfl,by simpa using hR⟩
  case fin =>
   rintro ⟨b1,b2⟩ s' ⟨hb',rfl,vs,ws,ns',ms',hz,hvi,hwi,hlen,hR⟩
   simp only at hb'
   subst hb'
   have hv:cp ns' ms'=decide (items.size < items2.size):=by
    cases hvi with
    | nil =>
     cases hwi with
     | nil =>
      simp only [List.length_nil] at hlen
      rw [Zc1]
      exact (decide_eq_false (by omega)).symm
     | cons c u hw =>
      simp only [List.length_nil,List.length_cons] at hlen
      rw [ZlL]
      exact (decide_eq_true (by omega)).symm
    | cons a t hv =>
     cases hwi with
     | nil =>
      simp only [List.length_nil,List.length_cons] at hlen
      rw [ZlM]
      exact (decide_eq_false (by omega)).symm
     | cons c u hw =>
      rw [List.zip_cons_cons] at hz
      cases hz
   rw [hv] at hR
   wp_walk
   exact ⟨_,rfl,by simpa [Builtin.Tuple.tupleCompareSizes] using hR⟩
  case h =>
   exact ⟨rfl,rfl,items.toList,items2.toList,ns,ms,rfl,hi,hj,by omega,h⟩
end
section
variable {prog:Program} {w:World} {A:Around} {E:Value->Shared->Prop} {s:Shared}
theorem ZlH {l b:Addr} {items items2:Array Value} {ns ms:List Int} {Q:Value->Shared->Prop} (hl:IsTup s.heap l items) (hb:IsTup s.heap b items2) (hi:IntsAre items.toList ns) (hj:IntsAre items2.toList ms)
  (hu:A.units < cLine) (h:Q (.bool (cp ns ms)) s):wpAny (model prog w) A (compareOp .Lt (.ref l) (.ref b)) Q E s:=by
 obtain ⟨⟨cls,dd,data,sl⟩,ho,hc,n,hd⟩:=id hl
 obtain ⟨⟨cls2,dd2,data2,eE⟩,ho2,hc2,n2,hd2⟩:=id hb
 simp only at hc hd hc2 hd2
 subst hc hd hc2 hd2
 exact richCompare_meets_room (op:=.Lt) ⟨_,ho,rfl⟩ ⟨_,ho2,rfl⟩ PySem.F.slot_tuple_lt PySem.F.entry_tuple_lt (PySem.F.args_tuple_lt_2 _ _) (ZiK l b items items2 n n2 dd dd2 sl eE ns ms hi hj)
  ⟨ho,ho2,show Value.bool (cp ns ms)≠Value.notImplemented/\Q (.bool (cp ns ms)) s from ⟨(λx=>nomatch x),h⟩⟩ hu
theorem ZnG {t b:Addr} {vs ws:List Value} {Q:Value->Shared->Prop} (ht:IsTup s.heap t vs.toArray) (hb:IsTup s.heap b ws.toArray) (hv:vs≠[])
  (h1:ws=[]->Q (.ref t) s) (h2:ws≠[]->Q (.ref s.heap.objs.size) { s with heap:=s.heap.push { cls:=.type "tuple",data:=.seq (vs++ws).toArray } })
  (hsz:vs.length+ws.length<=sizeLine):wpAny (model prog w) A (binaryOp .Add (.ref t) (.ref b)) Q E s:=by
 obtain ⟨⟨cls,dd,data,sl⟩,ho,hc,n,hd⟩:=id ht
 obtain ⟨⟨cls2,dd2,data2,eE⟩,ho2,hc2,n2,hd2⟩:=id hb
 simp only at hc hd hc2 hd2
 subst hc hd hc2 hd2
 have e:vs.toArray++ws.toArray=(vs++ws).toArray:=by simp
 by_cases hw:ws=[]
 ·exact concat_meets ⟨_,ho,rfl⟩ ⟨_,ho2,rfl⟩ noFill_tuple_add seq_tuple_add PySem.F.slot_tuple_add PySem.F.entry_tuple_add (PySem.F.args_tuple_add_2 _ _)
   (tuple_addW1 t b vs.toArray ws.toArray n n2 dd dd2 sl eE (by simpa using hv) (by simp [hw])) ⟨ho,ho2,h1 hw⟩
 ·refine concat_meets ⟨_,ho,rfl⟩ ⟨_,ho2,rfl⟩ noFill_tuple_add seq_tuple_add PySem.F.slot_tuple_add PySem.F.entry_tuple_add (PySem.F.args_tuple_add_2 _ _)
   (tuple_addW2 t b vs.toArray ws.toArray n n2 dd dd2 sl eE (by simpa using hv) (by simpa using hw) (by rw [List.size_toArray,List.size_toArray]; exact hsz)) ⟨ho,ho2,?_⟩
  rw [e]
  exact h2 hw
noncomputable def aD (n d:Nat):Option Int->Nat
 | none=>d
 | some v=>if v < 0 then (v+(n:Int)).toNat else min v.toNat n
theorem o4 (n d:Nat):aD n d none=d:=rfl
theorem lV (n d k:Nat):aD n d (some (k:Int))=min k n:=by
 show (if (k:Int) < 0 then ((k:Int)+(n:Int)).toNat else min (k:Int).toNat n)=min k n
 rw [if_neg (by omega),Int.toNat_natCast]
theorem ZjJ (n d:Nat) (hd:d<=n) (o:Option Int):aD n d o<=n:=by
 cases o with
 | none=>exact hd
 | some v =>
  show (if v < 0 then (v+(n:Int)).toNat else min v.toNat n)<=n
  by_cases hv:v < 0
  ·rw [if_pos hv]; omega
  ·rw [if_neg hv]; exact Nat.min_le_right _ _
theorem Zhm (v:Int) (n d:Nat):(if v < 0 then max (v+(n:Int)) 0 else min v (n:Int))=((aD n d (some v):Nat):Int):=by
 show (if v < 0 then max (v+(n:Int)) 0 else min v (n:Int))=(((if v < 0 then (v+(n:Int)).toNat else min v.toNat n):Nat):Int)
 by_cases hv:v < 0
 ·rw [if_pos hv,if_pos hv,Int.ofNat_toNat]
 ·rw [if_neg hv,if_neg hv]
  obtain ⟨k,rfl⟩:=Int.eq_ofNat_of_zero_le (Int.not_lt.mp hv)
  rw [Int.toNat_natCast,<- Lean.Omega.Int.ofNat_min]
theorem Zoz (lo hi:Option Int) (n:Nat):Builtin.Slice.sliceAdjust lo hi 1 (n:Int)=(((aD n 0 lo:Nat):Int),((aD n n hi:Nat):Int)):=by
 have h1:¬ ((1:Int) < 0):=by omega
 unfold Builtin.Slice.sliceAdjust
 simp only [h1,if_false]
 refine Prod.ext ?_ ?_
 ·cases lo with
  | none=>rfl
  | some v=>exact Zhm v n 0
 ·cases hi with
  | none=>rfl
  | some v=>exact Zhm v n n
theorem Zkw (i j:Nat):Builtin.Slice.slicePlaces (i:Int) (j:Int) 1=j - i:=by
 unfold Builtin.Slice.slicePlaces
 have h1:(1:Int) > 0:=by omega
 simp only [h1,if_true,Int.ediv_one]
 split <;> omega
theorem ZaV {v:Value} {o:Option Int} {Q:Option Int->Shared->Prop} (p:IsPart v o) (h:Q o s):wpAny (model prog w) A (Builtin.Slice.slicePartIndex v) Q E s:=by
 cases p with
 | none=>exact slicePart_none h
 | int i t=>exact slicePart_int h
theorem ZaX {sl:Addr} {vl vu:Value} {lo hi:Option Int} {n:Nat} {Q:Int×Int×Nat->Shared->Prop} (hs:s.heap.IsSliceOf sl vl vu .none) (pl:IsPart vl lo) (pu:IsPart vu hi)
  (h:Q (((aD n 0 lo:Nat):Int),1,aD n n hi - aD n 0 lo) s):wpAny (model prog w) A (Builtin.Slice.sliceApplied (.ref sl) (pure (n:Int))) Q E s:=by
 obtain ⟨os,hos,hcs,hds⟩:=id hs
 unfold Builtin.Slice.sliceApplied Builtin.Slice.sliceFields
 refine wpAny_bind (wpAny_bind (wpAny_field hos hds (x:=vl) rfl (wpAny_bind (wpAny_field hos hds (x:=vu) rfl (wpAny_bind (wpAny_field hos hds (x:=.none) rfl (wpAny_pure ?_)))))))
 refine wpAny_bind (slicePart_none ?_)
 show wpAny _ _ (if ((1:Int) == 0)=true then _ else _) _ _ s
 rw [if_neg (by decide)]
 refine wpAny_bind (ZaV pl (wpAny_bind (ZaV pu (wpAny_bind (wpAny_pure ?_)))))
 show wpAny _ _ (match Builtin.Slice.sliceAdjust lo hi 1 (n:Int) with | (lo,hi)=>pure (lo,(1:Int),Builtin.Slice.slicePlaces lo hi 1)) _ _ s
 rw [Zoz lo hi n]
 show wpAny _ _ (pure (((aD n 0 lo:Nat):Int),(1:Int),Builtin.Slice.slicePlaces ((aD n 0 lo:Nat):Int) ((aD n n hi:Nat):Int) 1)) _ _ s
 rw [Zkw]
 exact wpAny_pure h
theorem Zkx (xs:Array Value) (i k:Nat):((List.range k).filterMap λ(m:Nat)=>xs[((i:Int)+(m:Int) * 1).toNat]?).toArray=((xs.toList.drop i).take k).toArray:=by
 have e:(λ(m:Nat)=>xs[((i:Int)+(m:Int) * 1).toNat]?)=λm=>xs[i+m]?:=by
  funext m
  have:((i:Int)+(m:Int) * 1).toNat=i+m:=by omega
  rw [this]
 rw [e]
 have:=pick_run xs i k
 rw [List.filterMap_map] at this
 have e2:((λx=>xs[x]?) ∘ λx=>i+x)=λm=>xs[i+m]?:=rfl
 rw [e2] at this
 rw [this]
theorem Zmg {t sl:Addr} {items:Array Value} {vl vu:Value} {lo hi:Option Int} {Q:Value->Shared->Prop} (ht:IsTup s.heap t items) (hs:s.heap.IsSliceOf sl vl vu .none) (pl:IsPart vl lo) (pu:IsPart vu hi)
  (hw:¬ (aD items.size 0 lo=0/\aD items.size items.size hi=items.size))
  (h:Q (.ref s.heap.objs.size) { s with heap:=s.heap.push { cls:=.type "tuple",data:=.seq ((items.toList.drop (aD items.size 0 lo)).take (aD items.size items.size hi - aD items.size 0 lo)).toArray } })
  (hsz:items.size<=sizeLine):wpAny (model prog w) A (getItem (.ref t) (.ref sl)) Q E s:=by
 have htake:sizeOk (.seq ((items.toList.drop (aD items.size 0 lo)).take (aD items.size items.size hi - aD items.size 0 lo)).toArray):=by
  show ((items.toList.drop (aD items.size 0 lo)).take (aD items.size items.size hi - aD items.size 0 lo)).toArray.size<=sizeLine
  rw [List.size_toArray,List.length_take,List.length_drop,Array.length_toList]
  exact Nat.le_trans (Nat.min_le_right _ _) (Nat.le_trans (Nat.sub_le _ _) hsz)
 have hj:aD items.size items.size hi<=items.size:=ZjJ _ _ (Nat.le_refl _) hi
 obtain ⟨os,hos,hcs,hds⟩:=id hs
 have hTs:s.TypeIs (.ref sl) "slice":=⟨os,hos,hcs⟩
 unfold getItem
 try with_reducible refine wpAny_holding ?_
 first | refine wpAny_bind (wpAny_pure ?_) | skip
 refine wpAny_bind (wpAny_sequenceKey ht.typeIs (by decide) ?_)
 refine wpAny_bind (wpAny_callSpecial?_slot (name:=Str.ofString "__getitem__") ht.typeIs PyProof.Rows.slot_tuple_getitem
  (wpAny_call_entry PyProof.Rows.slot_tuple_getitem ht.typeIs entry_tuple_getitem ?_ (args_tuple_getitem _ _)))
 show wpAny _ _ (Builtin.Tuple.tupleItemsOf (.ref t) >>= _) _ _ s
 refine wpAny_bind (tupleItemsOf_ ht ?_)
 refine wpAny_bind (wpAny_typeOf hTs ?_)
 rw [if_pos (by decide)]
 refine wpAny_bind (ZaX hs pl pu ?_)
 have hno:¬ ((((aD items.size 0 lo:Nat):Int) == 0 && (1:Int) == 1 && (aD items.size items.size hi - aD items.size 0 lo) == items.size)=true):=by
  intro q
  rw [Bool.and_eq_true,Bool.and_eq_true] at q
  have q1:((aD items.size 0 lo:Nat):Int)=0:=eq_of_beq q.1.1
  have q2:aD items.size items.size hi - aD items.size 0 lo=items.size:=eq_of_beq q.2
  exact hw ⟨by omega,by omega⟩
 show wpAny _ _ (if (((aD items.size 0 lo:Nat):Int) == 0 && (1:Int) == 1 && (aD items.size items.size hi - aD items.size 0 lo) == items.size)=true then _ else _) _ _ s
 rw [if_neg hno,Zkx]
 first
  | exact wpAny_bind (m:=Builtin.Tuple.tupleExact _) (wpAny_newObj_type (wpAny_pure ⟨_,rfl,wpAny_pure h⟩) htake)
  | exact wpAny_bind (m:=Builtin.Tuple.tupleExact _) (wpAny_newObj_type (wpAny_bind (wpAny_pure (wpAny_pure ⟨_,rfl,wpAny_pure h⟩))) htake)
  | exact wpAny_bind (wpAny_bind (m:=Builtin.Tuple.tupleExact _) (wpAny_newObj_type (wpAny_pure (wpAny_pure ⟨_,rfl,wpAny_pure h⟩)) htake))
  | exact wpAny_bind (wpAny_bind (m:=Builtin.Tuple.tupleExact _) (wpAny_newObj_type (wpAny_pure ⟨_,rfl,wpAny_pure h⟩) htake))
end
end HT
namespace L2
open PySem PySem.Spec PyProof.Rows
noncomputable abbrev TO:=St->Hp->(Option Int->Hp->Prop)->Prop
noncomputable def PO (X:Cx) (e:Option Expr) (t:TO):Prop :=
 ∀ (pins:List (Addr×Obj)) (s:Shared) (σ:St) (H:Hp) (Q:Option Int->Hp->Prop),Inv X pins σ H s->t σ H Q ->
  wpAny (model X.prog X.w) X.A (evalPart e X.env) (λu s'=>∃ o H',Inv X pins σ H' s'/\IsPart u o/\Q o H') X.xe s
noncomputable def ZiZ:TO:=λ_ H Q=>Q none H
noncomputable def ZiX (t:TE):TO:=λσ H Q=>t σ H λx H1=>∃ i,x=.int i/\Q (some i) H1
theorem Zdv {ns:List Int}:∀ {us:List Value},Vals (ns.map V.int) us->IntsAre us ns:=by
 induction ns with
 | nil=>intro us r; rw [List.map_nil] at r; cases r; exact .nil
 | cons n ns ih =>
  intro us r
  rw [List.map_cons] at r
  cases r with
  | cons r1 r2 =>
   obtain ⟨t,e⟩:=r1
   subst e
   exact .cons n t (ih r2)
section
variable {X:Cx} {e:Expr} {te:TE} {lo hi:Option Expr} {tl th:TO} {pos p2:Pos}
theorem Zcj:PO X none ZiZ:=by
 intro pins s σ H Q I h
 rw [evalPart_none]
 exact wpAny_pure ⟨none,H,I,.none,h⟩
theorem Zci (h:PE X e te):PO X (some e) (ZiX te):=by
 intro pins s σ H Q I hw
 rw [evalPart_some]
 refine thn (h pins s σ H _ I hw) λu s1 hz0=>?_
 obtain ⟨x,H1,I1,r1,q1⟩:=hz0
 obtain ⟨i,rfl,q⟩:=q1
 obtain ⟨t,rfl⟩:=r1
 exact ⟨some i,H1,I1,.int i t,q⟩
noncomputable def SlR (X:Cx) (r:V->Option Int->Option Int->Hp->VK->Prop):Prop :=
 ∀ (pins:List (Addr×Obj)) (s:Shared) (σ:St) (H:Hp) (x:V) (v vl vu:Value) (lo hi:Option Int) (sl:Addr) (Q:VK),Inv X pins σ H s->RelV x v->s.heap.IsSliceOf sl vl vu .none->IsPart vl lo->IsPart vu hi->r x lo hi H Q ->
  ∃ T id,typeLookup (.type T) "__getitem__"=pure (some (.builtin id))/\s.TypeIs v T/\wpAny (model X.prog X.w) X.A (getItem v (.ref sl)) (EP X pins σ Q) X.xe s
theorem SlR.or {r r':V->Option Int->Option Int->Hp->VK->Prop} (h:SlR X r) (h':SlR X r'):SlR X (λx lo hi H Q=>r x lo hi H Q\/r' x lo hi H Q):=by
 intro pins s σ H x v vl vu lo hi sl Q I rx hs pl pu q
 rcases q with q | q
 ·exact h pins s σ H x v vl vu lo hi sl Q I rx hs pl pu q
 ·exact h' pins s σ H x v vl vu lo hi sl Q I rx hs pl pu q
noncomputable def tSl (r:V->Option Int->Option Int->Hp->VK->Prop) (te:TE) (tl th:TO):TE:=λσ H Q=>te σ H λx H1=>tl σ H1 λl H2=>th σ H2 λu H3=>r x l u H3 Q
theorem Zcq {r:V->Option Int->Option Int->Hp->VK->Prop} (hr:SlR X r) (he:PE X e te) (hl:PO X lo tl) (hu:PO X hi th):PE X (.Subscript e (.Slice lo hi none p2) pos) (tSl r te tl th):=by
 intro pins s σ H Q I h
 refine Subscript_ (thn (he pins s σ H _ I h) λv s1 hz0=>?_)
 obtain ⟨x,H1,I1,r1,q1⟩:=hz0
 refine wpAny_Slice (thn (hl pins s1 σ H1 _ I1 q1) λvl s2 ⟨l,H2,I2,pl,q2⟩=>thn (hu pins s2 σ H2 _ I2 q2) λvu s3 hz0=>?_)
 obtain ⟨u,H3,I3,pu,q3⟩:=hz0
 rw [evalPart_none]
 refine wpAny_pure ?_
 have I4:Inv X pins σ H3 { s3 with heap:=s3.heap.push { cls:=.type "slice",data:=.fields #[vl,vu,.none] } }:=I3.kept (t':=s3.toks) λb ob q=>Heap.get?_push_of_some _ q
 obtain ⟨T,id,hT,ht,hg⟩:=hr pins { s3 with heap:=s3.heap.push { cls:=.type "slice",data:=.fields #[vl,vu,.none] } } σ H3 x v vl vu l u s3.heap.objs.size Q I4 r1 (Heap.IsSliceOf.new ..) pl pu q3
 show wpAny (model X.prog X.w) X.A (subscriptTail e (.Slice lo hi none p2) v (.ref s3.heap.objs.size)) (EP X pins σ Q) X.xe { s3 with heap:=s3.heap.push { cls:=.type "slice",data:=.fields #[vl,vu,.none] } }
 exact tail_any (ops:=[.ref s3.heap.objs.size,v]) ht hT hg (by with_unfolding_all rfl)
noncomputable def eO (xs:List V) (lo hi:Option Int):List V:=(xs.drop (HT.aD xs.length 0 lo)).take (HT.aD xs.length xs.length hi - HT.aD xs.length 0 lo)
theorem Zhh (xs:List V) (lo hi:Option Int):(eO xs lo hi).length<=xs.length:=by
 unfold eO
 rw [List.length_take,List.length_drop]
 exact Nat.le_trans (Nat.min_le_right _ _) (Nat.sub_le _ _)
noncomputable def ZbV (K:PySem.W.Frag):V->Option Int->Option Int->Hp->VK->Prop:=λx lo hi H Q=>∃ a xs,x=.ref a/\SqT K H a xs /\
 ¬ (HT.aD xs.length 0 lo=0/\HT.aD xs.length xs.length hi=xs.length)/\∀ p,H p=none->Q (.ref p) (upd H p (.tup (eO xs lo hi)))
theorem Zjr:SlR X (ZbV X.K):=by
 intro pins s σ H x v vl vu lo hi sl Q I rx hs pl pu h
 obtain ⟨a,xs,rfl,hx,hw,q⟩:=h
 cases rx
 obtain ⟨its,r,ht,hz⟩:=I.tuple hx
 have hlen:its.toArray.size=xs.length:=by rw [List.size_toArray]; exact r.length.symm
 refine ⟨"tuple",_,PyProof.Rows.slot_tuple_getitem.lookup,ht.typeIs,?_⟩
 refine HT.Zmg ht hs pl pu (by rw [hlen]; exact hw) ?_ (by rw [hlen]; exact hz)
 rw [hlen]
 refine ⟨.ref s.heap.objs.size,_,I.laid (t':=s.toks) (o:=.tup (eO xs lo hi)) (λb ob q=>Heap.get?_push_of_some _ q) (Nat.le_refl _) ?_,rfl,q _ (I.hok.fresh (Nat.le_refl _))⟩
 exact ⟨Nat.le_trans (Zhh xs lo hi) hz,_,(r.drop (HT.aD xs.length 0 lo)).take (HT.aD xs.length xs.length hi - HT.aD xs.length 0 lo),IsTup.new _ _⟩
noncomputable def Zb9 (K:PySem.W.Frag):R2:=λx y H Q=>∃ a b xs ys,x=.ref a/\y=.ref b/\SqT K H a xs/\SqT K H b ys/\xs≠[]/\xs.length+ys.length<=sizeLine /\
 (ys=[]->Q (.ref a) H)/\(ys≠[]->∀ p,H p=none->Q (.ref p) (upd H p (.tup (xs++ys))))
theorem Vals.nil_iff {xs:List V} {us:List Value} (r:Vals xs us):us=[] ↔ xs=[]:=by
 cases r with
 | nil=>simp
 | cons _ _=>simp
theorem Zk3:OpR X (binaryOp .Add) (Zb9 X.K):=by
 intro pins s σ H x y v u Q I rx ry h
 obtain ⟨a,b,xs,ys,rfl,rfl,ha,hb,hx,hz,q1,q2⟩:=h
 cases rx
 cases ry
 obtain ⟨its,r1,p1,_⟩:=I.tuple ha
 obtain ⟨its2,r2,p2,_⟩:=I.tuple hb
 refine HT.ZnG p1 p2 (λz=>hx (r1.nil_iff.mp z)) (λz=>⟨.ref a,H,I,rfl,q1 (r2.nil_iff.mp z)⟩) (λz=>?_) (by rw [<- r1.length,<- r2.length]; exact hz)
 refine ⟨.ref s.heap.objs.size,_,I.laid (t':=s.toks) (o:=.tup (xs++ys)) (λb ob q=>Heap.get?_push_of_some _ q) (Nat.le_refl _) ?_,rfl,q2 (λw=>z (r2.nil_iff.mpr w)) _ (I.hok.fresh (Nat.le_refl _))⟩
 exact ⟨by rw [List.length_append]; exact hz,_,r1.append r2,IsTup.new _ _⟩
end
noncomputable def bG (n:Nat) (i:Int):Option Nat:=if 0<=i then (if i < n then some i.toNat else none) else if -(n:Int)<=i then some (i+n).toNat else none
noncomputable def a9 {α:Type} (xs:List α) (i:Int):Option α:=(bG xs.length i).bind λj=>xs[j]?
theorem Zdp {n:Nat} {i:Int} {j:Nat} (h:bG n i=some j):seqIndex? i n=some j/\j < n/\-(n:Int)<=i/\i < n:=by
 unfold bG at h
 by_cases h0:0<=i
 ·rw [if_pos h0] at h
  by_cases h1:i < n
  ·rw [if_pos h1] at h
   have e:i.toNat=j:=Option.some.inj h
   exact ⟨by rw [seqIndex_of h0 h1,e],by omega,by omega,h1⟩
  ·rw [if_neg h1] at h; cases h
 ·rw [if_neg h0] at h
  by_cases h1:-(n:Int)<=i
  ·rw [if_pos h1] at h
   have e:(i+n).toNat=j:=Option.some.inj h
   exact ⟨by rw [seqIndex_neg (by omega) h1,e],by omega,h1,by omega⟩
  ·rw [if_neg h1] at h; cases h
theorem nA {α:Type} {xs:List α} {i:Int} {v:α} (h:a9 xs i=some v):∃ j,seqIndex? i xs.length=some j/\xs[j]?=some v/\j < xs.length/\-(xs.length:Int)<=i/\i < xs.length:=by
 unfold a9 at h
 cases e:bG xs.length i with
 | none=>rw [e] at h; cases h
 | some j =>
  rw [e] at h
  obtain ⟨h1,h2,h3,h4⟩:=Zdp e
  exact ⟨j,h1,h,h2,h3,h4⟩
theorem fb {α:Type} {xs:List α} {j:Nat} {v:α} (h:xs[j]?=some v):a9 xs (j:Int)=some v:=by
 have hj:j < xs.length:=(List.getElem?_eq_some_iff.mp h).1
 have e:bG xs.length (j:Int)=some j:=by
  unfold bG
  rw [if_pos (by omega),if_pos (by omega)]; simp
 unfold a9; rw [e]; exact h
noncomputable def rT (b:Expr):Prop:=∀ o i,subscripted b false o i=operate [o,i] (getItem o i)
noncomputable def IxR (X:Cx) (r:R2):Prop :=
 ∀ (value slice:Expr) (pins:List (Addr×Obj)) (s:Shared) (σ:St) (H:Hp) (x y:V) (v u:Value) (Q:VK),Inv X pins σ H s->RelV x v->RelV y u->r x y H Q ->
  subscripted slice false v u=operate [v,u] (getItem v u)->wpAny (model X.prog X.w) X.A (subscriptTail value slice v u) (EP X pins σ Q) X.xe s
noncomputable def MtR (X:Cx) (id:String) (r:V->List V->Hp->VK->Prop):Prop :=
 ∀ (pins:List (Addr×Obj)) (s:Shared) (σ:St) (H:Hp) (x:V) (xs:List V) (v:Value) (us:List Value) (Q:VK),Inv X pins σ H s->RelV x v->Vals xs us->r x xs H Q ->
  wpAny (model X.prog X.w) X.A (call (.builtin id) (v::us)) (EP X pins σ Q) X.xe s
section
variable {X:Cx} {a b:Expr} {ta tb:TE} {pos:Pos}
theorem IxR.or {r r':R2} (h:IxR X r) (h':IxR X r'):IxR X (λx y H Q=>r x y H Q\/r' x y H Q):=by
 intro value slice pins s σ H x y v u Q I rx ry q hs
 rcases q with q | q
 ·exact h value slice pins s σ H x y v u Q I rx ry q hs
 ·exact h' value slice pins s σ H x y v u Q I rx ry q hs
theorem l7 {r:R2} (hr:IxR X r) (ha:PE X a ta) (hb:PE X b tb) (hs:rT b):PE X (.Subscript a b pos) (h9 r ta tb):=by
 intro pins s σ H Q I h
 exact Subscript_ (qX ha hb I h λv u s2 x y H2 I2 rx ry q=>hr a b pins s2 σ H2 x y v u Q I2 rx ry q (hs _ _))
noncomputable def pg (K:PySem.W.Frag):R2:=λx y H Q=>∃ p xs i v,x=.ref p/\y=.int i/\SqL K H p xs/\a9 xs i=some v/\Q v H
noncomputable def Zb3 (K:PySem.W.Frag):R2:=λx y H Q=>∃ p xs i v,x=.ref p/\y=.int i/\SqT K H p xs/\a9 xs i=some v/\Q v H
noncomputable def Zb4:R2:=λx y H Q=>∃ z i c,x=.str z/\y=.int i/\z.length<=sizeLine/\a9 z.cps.toList i=some c/\Q (.str ⟨#[c]⟩) H
theorem qi:IxR X (pg X.K):=by
 intro value slice pins s σ H x y v u Q I rx ry h hs
 obtain ⟨p,xs,i,z,rfl,rfl,hq,he,q⟩:=h
 cases rx
 obtain ⟨t,rfl⟩:=ry
 obtain ⟨its,r,pl,hz⟩:=I.list hq
 obtain ⟨j,h1,h2,h3,h4,h5⟩:=nA he
 obtain ⟨w,ew,rw'⟩:=r.get h2
 have hl:=r.length
 have hn:=gO
 have fin:EP X pins σ Q w s:=⟨z,H,I,rw',q⟩
 by_cases h0:0<=i
 ·have hj:i.toNat=j:=by
   rw [seqIndex_of h0 h5] at h1
   exact Option.some.inj h1
  exact item_listR pl.isList h0 (by omega) (by rw [hj]; simpa using ew) fin hs
 ·have hj:(i+(its.toArray.size:Int)).toNat=j:=by
   rw [seqIndex_neg (by omega) h4] at h1
   rw [List.size_toArray,<- hl]
   exact Option.some.inj h1
  exact subscriptTail_builtinR (x:=w) pl.isList.typeIs slot_list_getitem.lookup
   (wpAny_getItem_list_neg (Q:=λr s'=>r=w/\EP X pins σ Q r s') pl.isList (by omega) (by rw [List.size_toArray] <;> omega) (by omega) (by rw [hj]; simpa using ew) ⟨rfl,fin⟩) hs
theorem Zdo:IxR X (Zb3 X.K):=by
 intro value slice pins s σ H x y v u Q I rx ry h hs
 obtain ⟨p,xs,i,z,rfl,rfl,hq,he,q⟩:=h
 cases rx
 obtain ⟨t,rfl⟩:=ry
 obtain ⟨its,r,pl,hz⟩:=I.tuple hq
 obtain ⟨j,h1,h2,h3,h4,h5⟩:=nA he
 obtain ⟨w,ew,rw'⟩:=r.get h2
 have hl:=r.length
 have hn:=gO
 have fin:EP X pins σ Q w s:=⟨z,H,I,rw',q⟩
 exact subscriptTail_builtinR (x:=w) pl.typeIs slot_tuple_getitem.lookup
  (getItem_tuple (j:=j) (Q:=λr s'=>r=w/\EP X pins σ Q r s') pl (by omega) (by omega) (by rw [List.size_toArray,<- hl]; exact h1) (by simpa using ew) ⟨rfl,fin⟩) hs
theorem Zl6:IxR X Zb4:=by
 intro value slice pins s σ H x y v u Q I rx ry h hs
 obtain ⟨z,i,c,rfl,rfl,hz,he,q⟩:=h
 obtain ⟨t,rfl⟩:=rx
 obtain ⟨t',rfl⟩:=ry
 obtain ⟨j,h1,h2,h3,h4,h5⟩:=nA he
 have hl:z.cps.toList.length=z.length:=by simp [Str.length]
 rw [hl] at h1 h4 h5
 have hn:=gO
 exact tail_any (typeIs_str s z t) slot_str_getitem.lookup (getItem_str (c:=c) (by
  have e1:decide (i < -(2 ^ 63:Int))=false:=decide_eq_false (by omega)
  have e2:decide (i ≥ 2 ^ 63)=false:=decide_eq_false (by omega)
  rw [e1,e2,Bool.or_false]) (by rw [h1]; simpa using h2) ⟨.str ⟨#[c]⟩,H,I.tok _,⟨_,rfl⟩,q⟩) hs
noncomputable def rIx (K:PySem.W.Frag):R2:=λx y H Q=>pg K x y H Q\/Zb3 K x y H Q\/Zb4 x y H Q
theorem aJ:IxR X (rIx X.K):=qi.or (Zdo.or Zl6)
theorem ZlG (its:List Value) (n j:Nat) (u:Value):Obj.mapSeq (·.setIfInBounds j u) { cls:=.type "list",data:=.seq its.toArray n }={ cls:=.type "list",data:=.seq (its.set j u).toArray n }:=by
 simp [Obj.mapSeq]
theorem Inv.lst {pins:List (Addr×Obj)} {σ:St} {H:Hp} {s:Shared} {p:Addr} {xs:List V} (I:Inv X pins σ H s) (h:H p=some (.lst xs)) :
  ∃ (its:List Value) (n:Nat),Vals xs its/\s.heap.get? p=some { cls:=.type "list",data:=.seq its.toArray n }/\xs.length<=sizeLine:=by
 obtain ⟨z,its,n,r,e⟩:=I.hok p _ h
 exact ⟨its,n,r,e,z⟩
theorem Inv.lstUpd {pins:List (Addr×Obj)} {σ:St} {H:Hp} {s:Shared} {p:Addr} {xs ys:List V} {its its':List Value} {n n':Nat} {f:Obj->Obj} (I:Inv X pins σ H s) (h:H p=some (.lst xs))
  (ho:s.heap.get? p=some { cls:=.type "list",data:=.seq its.toArray n }) (hf:f { cls:=.type "list",data:=.seq its.toArray n }={ cls:=.type "list",data:=.seq its'.toArray n' }) (r:Vals ys its') (hz:ys.length<=sizeLine) (t:Nat) :
  Inv X pins σ (upd H p (.lst ys)) { s with heap:=s.heap.update p f,toks:=t }:=by
 have e:(s.heap.update p f).get? p=some { cls:=.type "list",data:=.seq its'.toArray n' }:=by
  rw [Heap.get?_update_self f ho (by rw [hf] <;> rfl),hf]
 refine I.write (x:=p) (e:=p) (by rw [h]; trivial) (.inl rfl) (λb u hb q=>(Heap.get?_update_other _ _ (Ne.symm hb)).trans q) ⟨_,e⟩ ?_
 exact ⟨hz,its',n',r,e⟩
noncomputable def jc:V->V->V->Hp->(Hp->Prop)->Prop:=λo i v H Q=>∃ p xs k j,o=.ref p/\i=.int k/\H p=some (.lst xs)/\bG xs.length k=some j/\Q (upd H p (.lst (xs.set j v)))
theorem ft:rW X jc:=by
 intro pins s σ H o i v ov iv u Q I ro ri rv h
 obtain ⟨p,xs,k,j,rfl,rfl,hp,hj,q⟩:=h
 cases ro
 obtain ⟨t,rfl⟩:=ri
 obtain ⟨its,n,r,ho,hz⟩:=I.lst hp
 obtain ⟨h1,h2,h3,h4⟩:=Zdp hj
 have hl:=r.length
 have hn:=gO
 have I':Inv X pins σ (upd H p (.lst (xs.set j v))) { s with heap:=s.heap.update p (Obj.mapSeq (·.setIfInBounds j u)) } :=
  I.lstUpd hp ho (ZlG its n j u) (r.set rv j) (by rw [List.length_set]; exact hz) s.toks
 by_cases h0:0<=k
 ·have hk:k.toNat=j:=by
   rw [seqIndex_of h0 h4] at h1
   exact Option.some.inj h1
  exact PySem.W.ki_setAt ho h0 (by omega) (by rw [List.size_toArray,<- hl]; exact h4) (by rw [hk]; exact ⟨_,I',q⟩)
 ·have hk:(k+(its.toArray.size:Int)).toNat=j:=by
   rw [seqIndex_neg (by omega) h3] at h1
   rw [List.size_toArray,<- hl]
   exact Option.some.inj h1
  exact PySem.W.ki_setBack ho (by omega) (by rw [List.size_toArray,<- hl]; exact h3) (by omega) (by rw [hk]; exact ⟨_,I',q⟩)
theorem Zhe {n:Nat} {i:Int} (h:i < 0):max 0 (min (i+(n:Int)) n)=(((i+n).toNat:Nat):Int):=by
 rw [Int.min_eq_left (by omega),Int.ofNat_toNat,Int.max_comm]
theorem Zhf {n:Nat} {i:Int} (h:¬ i < 0):max 0 (min i (n:Int))=((min i.toNat n:Nat):Int):=by
 obtain ⟨k,rfl⟩:=Int.eq_ofNat_of_zero_le (Int.not_lt.mp h)
 rw [Int.toNat_natCast,<- Lean.Omega.Int.ofNat_min]
 exact Int.max_eq_right (Int.natCast_nonneg _)
theorem Zjo (lo hi:Option Int) (n:Nat):(sliceBounds lo hi none n).1=((HT.aD n 0 lo:Nat):Int)/\(sliceBounds lo hi none n).2.1=((HT.aD n n hi:Nat):Int)/\(sliceBounds lo hi none n).2.2=1:=by
 refine ⟨?_,?_,rfl⟩
 ·cases lo with
  | none=>simp [sliceBounds,HT.aD]
  | some i =>
   simp only [sliceBounds,HT.aD,Option.getD_none,show (1:Int) > 0 by decide,if_true]
   by_cases h:i < 0
   ·simp only [h,if_true]
    exact Zhe h
   ·simp only [h,if_false]
    exact Zhf h
 ·cases hi with
  | none=>simp [sliceBounds,HT.aD]
  | some i =>
   simp only [sliceBounds,HT.aD,Option.getD_none,show (1:Int) > 0 by decide,if_true]
   by_cases h:i < 0
   ·simp only [h,if_true]
    exact Zhe h
   ·simp only [h,if_false]
    exact Zhf h
theorem Zjp (its:List Value) (lo hi:Option Int):slicePick its.toArray lo hi none=((its.drop (HT.aD its.length 0 lo)).take (HT.aD its.length its.length hi - HT.aD its.length 0 lo)).toArray:=by
 obtain ⟨h1,h2,h3⟩:=Zjo lo hi its.toArray.size
 unfold slicePick
 rw [h1,h2,h3]
 simp only [sliceRange_one,pick_run,List.size_toArray] <;> rfl
noncomputable def ZbW (K:PySem.W.Frag):V->Option Int->Option Int->Hp->VK->Prop:=λx lo hi H Q=>∃ a xs,x=.ref a/\SqL K H a xs/\∀ p,H p=none->Q (.ref p) (upd H p (.lst (eO xs lo hi)))
theorem ZaY:SlR X (ZbW X.K):=by
 intro pins s σ H x v vl vu lo hi sl Q I rx hs pl pu h
 obtain ⟨a,xs,rfl,hx,q⟩:=h
 cases rx
 obtain ⟨its,r,ht,hz⟩:=I.list hx
 have hlen:=r.length
 refine ⟨"list",_,slot_list_getitem.lookup,ht.isList.typeIs,?_⟩
 refine wpAny_getItem_list_slice ht.isList hs pl pu .none (by simp) ?_ (by rw [List.size_toArray] <;> omega)
 rw [Zjp,<- hlen]
 refine ⟨.ref s.heap.objs.size,_,I.laid (t':=s.toks) (o:=.lst (eO xs lo hi)) (λb ob q=>Heap.get?_push_of_some _ q) (Nat.le_refl _) ?_,rfl,q _ (I.hok.fresh (Nat.le_refl _))⟩
 exact ⟨Nat.le_trans (Zhh xs lo hi) hz,_,0,(r.drop (HT.aD xs.length 0 lo)).take (HT.aD xs.length xs.length hi - HT.aD xs.length 0 lo),Heap.get?_push_size _ rfl⟩
theorem fD:dJ X (.builtin "len") (λxs H Q=>∃ p ys,xs=[.ref p]/\(SqL X.K H p ys\/SqT X.K H p ys)/\Q (.int ys.length) H):=by
 intro pins s σ H xs us Q I r h
 obtain ⟨p,ys,rfl,hq,q⟩:=h
 obtain ⟨u,rfl,rx⟩:=eA r
 cases rx
 have hn:=gO
 rcases hq with hq | hq
 ·obtain ⟨its,r',pl,hz⟩:=I.list hq
  have hlen:=r'.length
  exact Calls.call_len_list pl.isList (by simp only [List.size_toArray] <;> omega) ⟨.int ys.length,H,I.tok _,⟨s.toks+1,by rw [List.size_toArray,hlen]⟩,q⟩
 ·obtain ⟨its,r',pl,hz⟩:=I.tuple hq
  have hlen:=r'.length
  exact len_tuple pl (by simp only [List.size_toArray] <;> omega) ⟨.int ys.length,H,I.tok _,⟨s.toks+1,by rw [List.size_toArray,hlen]⟩,q⟩
theorem qP:dJ X (.type "list") (λxs H Q=>∃ p ys,xs=[.ref p]/\(SqL X.K H p ys\/SqT X.K H p ys)/\∀ l,H l=none->Q (.ref l) (upd H l (.lst ys))):=by
 intro pins s σ H xs us Q I r h
 obtain ⟨p,ys,rfl,hq,q⟩:=h
 obtain ⟨u,rfl,rx⟩:=eA r
 cases rx
 have fin:∀ (its:List Value),Vals ys its->ys.length<=sizeLine->∀ (h':Heap) (c':Nat),(∀ b o',s.heap.get? b=some o'->h'.get? b=some o') ->
   h'.get? s.heap.objs.size=some { cls:=.type "list",dict:=none,data:=.seq its.toArray c',slots:=#[] }->EP X pins σ Q (.ref s.heap.objs.size) { s with heap:=h' }:=λits r' hz h' c' kp e =>
  ⟨.ref s.heap.objs.size,_,I.laid (t':=s.toks) kp (Nat.le_refl _) (show ObjOk X.prog X.w _ h' _ (.lst ys) from ⟨hz,its,c',r',e⟩),rfl,q _ (I.hok.fresh (Nat.le_refl _))⟩
 rcases hq with hq | hq
 ·obtain ⟨its,r',pl,hz⟩:=I.list hq
  have hlen:=r'.length
  obtain ⟨o,ho,hc,n,hd⟩:=pl.isList
  exact call_list_seq p (.inl rfl) ho hc hd (λh' c' kp e=>fin its r' hz h' c' kp e) (by simp only [List.size_toArray] <;> omega)
 ·obtain ⟨its,r',pl,hz⟩:=I.tuple hq
  have hlen:=r'.length
  obtain ⟨o,ho,hc,n,hd⟩:=pl
  exact call_list_seq p (.inr rfl) ho hc hd (λh' c' kp e=>fin its r' hz h' c' kp e) (by simp only [List.size_toArray] <;> omega)
theorem jI:dJ X (.type "tuple") (λxs H Q=>∃ p ys,xs=[.ref p]/\((SqL X.K H p ys/\∀ l,H l=none->Q (.ref l) (upd H l (.tup ys)))\/(SqT X.K H p ys/\Q (.ref p) H))):=by
 intro pins s σ H xs us Q I r h
 obtain ⟨p,ys,rfl,h⟩:=h
 obtain ⟨u,rfl,rx⟩:=eA r
 cases rx
 rcases h with ⟨hq,q⟩ | ⟨hq,q⟩
 ·obtain ⟨its,r',pl,hz⟩:=I.list hq
  have hlen:=r'.length
  refine call_tuple_list pl.isList (λh' kp=>?_) (by simp only [List.size_toArray] <;> omega)
  have I1:Inv X pins σ H { s with heap:=h' }:=I.kept (t':=s.toks) kp
  have I2:Inv X pins σ (upd H h'.objs.size (.tup ys)) { s with heap:=h'.push { cls:=.type "tuple",data:=.seq its.toArray } } :=
   I1.laid (t':=s.toks) (λb o e=>Heap.get?_push_of_some _ e) (Nat.le_refl _) (show ObjOk X.prog X.w _ _ _ (.tup ys) from ⟨hz,its,r',IsTup.new _ _⟩)
  exact ⟨.ref h'.objs.size,_,I2,rfl,q _ (I1.hok.fresh (Nat.le_refl _))⟩
 ·obtain ⟨its,r',pl,hz⟩:=I.tuple hq
  exact call_tuple_same pl ⟨.ref p,H,I,rfl,q⟩
noncomputable def oy (K:PySem.W.Frag) (T:String) (x:V) (H:Hp):Prop:=match x with
 | .str _=>T="str"
 | .int _=>T="int"
 | .ref p=>(T="list"/\∃ xs,SqL K H p xs)\/(T="tuple"/\∃ o,K.lookup p=some o/\o.cls=.type "tuple"/\o.dict=none) \/
   (T="dict"/\((∃ kvs,H p=some (.dK kvs))\/∃ kvs,H p=some (.dT kvs)))\/(T="set"/\∃ S n,H p=some (.set S n))
 | _=>False
theorem Zaq {pins:List (Addr×Obj)} {σ:St} {H:Hp} {s:Shared} {T:String} {x:V} {v:Value} (I:Inv X pins σ H s) (r:RelV x v) (ty:oy X.K T x H) :
  s.TypeIs v T/\∀ a,v=.ref a->∃ ob,s.heap.get? a=some ob/\ob.dict=none:=by
 cases x with
 | str z =>
  obtain ⟨t,rfl⟩:=r
  cases (show T="str" from ty)
  exact ⟨typeIs_str s z t,λ_ e=>nomatch e⟩
 | int i =>
  obtain ⟨t,rfl⟩:=r
  cases (show T="int" from ty)
  exact ⟨typeIs_int s i t,λ_ e=>nomatch e⟩
 | ref p =>
  cases r
  rcases ty with ⟨rfl,xs,hq⟩ | ⟨rfl,o,hk,hc,hd⟩ | ⟨rfl,hk⟩ | ⟨rfl,S,n,hk⟩
  ·obtain ⟨its,_,pl,_⟩:=I.list hq
   refine ⟨pl.isList.typeIs,λa e=>?_⟩
   cases e
   obtain ⟨o,n,e,c,hd,_⟩:=pl
   exact ⟨o,e,hd⟩
  ·refine ⟨⟨o,I.kIn p o hk,hc⟩,λa e=>?_⟩
   cases e
   exact ⟨o,I.kIn _ o hk,hd⟩
  ·have z:∃ o,s.heap.get? p=some o/\o.ExactDict:=by
    rcases hk with ⟨kvs,hk⟩ | ⟨kvs,hk⟩
    ·obtain ⟨_,_,_,_,o,_,_,e,ex,_⟩:=I.hok p _ hk
     exact ⟨o,e,ex⟩
    ·obtain ⟨_,_,_,_,o,_,_,e,ex,_⟩:=I.hok p _ hk
     exact ⟨o,e,ex⟩
   obtain ⟨o,e,ex⟩:=z
   refine ⟨⟨o,e,ex.1⟩,λa e2=>?_⟩
   cases e2
   exact ⟨o,e,ex.2.1⟩
  ·obtain ⟨o,_,_,_,e,ex,_⟩:=I.hok p _ hk
   refine ⟨⟨o,e,ex.1⟩,λa e2=>?_⟩
   cases e2
   exact ⟨o,e,ex.2.1⟩
 | _=>exact False.elim ty
noncomputable def Zaz (K:PySem.W.Frag) (T:String) (r:V->List V->Hp->VK->Prop) (to:TE):TE:=λσ H Q=>to σ H λx H1=>oy K T x H1/\r x [] H1 Q
noncomputable def tBM (K:PySem.W.Frag) (T:String) (r:V->List V->Hp->VK->Prop) (to:TE) (t:TA):TE:=λσ H Q=>to σ H λx H1=>oy K T x H1/\t σ H1 λxs H2=>r x xs H2 Q
variable {o e:Expr} {es:List Expr} {to:TE} {t:TA} {name:Str} {apos cpos:Pos} {T id:String} {r:V->List V->Hp->VK->Prop}
theorem ZkQ (pa:PlainAttrs T) (slot:Slot T name id) (hty:typeOf (.builtin id)=pure (.type "method_descriptor")) (hm:MtR X id r) (ho:PE X o to)
  (hbase:attributeBase o name X.env (eval o X.env)=eval o X.env:=by rfl) (hline:(apos.endLine == cpos.line)=true:=by rfl):PE X (.Call (.Attribute o name apos) [] [] cpos) (Zaz X.K T r to):=by
 intro pins s σ H Q I h
 refine wpAny_Call_method0_late hbase hline (thn (ho pins s σ H _ I h) λv s1 hz0=>?_)
 obtain ⟨x,H1,I1,r1,ty,q1⟩:=hz0
 obtain ⟨h1,h2⟩:=Zaq I1 r1 ty
 exact ⟨T,id,pa,slot,hty,h1,h2,Calls.callWith_builtin rfl (PySem.evalArgs_none (hm pins s1 σ H1 x [] v [] Q I1 r1 .nil q1))⟩
theorem ji (pa:PlainAttrs T) (slot:Slot T name id) (hty:typeOf (.builtin id)=pure (.type "method_descriptor")) (hm:MtR X id r) (ho:PE X o to) (ha:PA X (e::es) t)
  (hbase:attributeBase o name X.env (eval o X.env)=eval o X.env:=by rfl)
  (hfew:((backTo cpos (starEach (e::es) X.env)).all (λx=>!x.1) && (backToKw cpos (keywordEach [] X.env)).all (λx=>x.1.isSome)
   && decide ((e::es).length+([]:List Keyword).length+(if ([]:List Keyword).isEmpty then 0 else 1) < 30))=true:=by rfl)
  (hline:(apos.endLine == cpos.line)=true:=by rfl) (hs:starEach (e::es) X.env=(false,eval e X.env)::starEach es X.env:=by rfl) (hplain:(backTo cpos (starEach es X.env)).any (·.1)=false:=by rfl) :
  PE X (.Call (.Attribute o name apos) (e::es) [] cpos) (tBM X.K T r to t):=by
 intro pins s σ H Q I h
 refine wpAny_Call_method_late hbase hfew hline rfl (thn (ho pins s σ H _ I h) λv s1 hz0=>?_)
 obtain ⟨x,H1,I1,r1,ty,q1⟩:=hz0
 obtain ⟨h1,h2⟩:=Zaq I1 r1 ty
 refine ⟨T,id,pa,slot,hty,h1,h2,?_⟩
 have hA:=ha cpos pins s1 σ H1 _ I1 q1
 rw [hs] at hA ⊢
 refine Calls.callWith_builtin (by show (false || (backTo cpos (starEach es X.env)).any (·.1))=false; rw [hplain] <;> rfl) (Calls.evalArgs_plain ?_)
 exact thn hA λus s2 hz0=>by
  obtain ⟨vs,H2,I2,r2,q2⟩:=hz0
  exact hm pins s2 σ H2 x vs v us Q I2 r1 r2 q2
end
noncomputable def MtM (X:Cx) (id:String) (r:V->List V->Hp->VK->Prop):Prop :=
 ∀ (pins:List (Addr×Obj)) (s:Shared) (σ:St) (H:Hp) (x:V) (xs:List V) (v:Value) (us:List Value) (Q:VK),Inv X pins σ H s->RelV x v->Vals xs us->r x xs H Q ->
  wpAny (model X.prog X.w) X.A (call (.builtin id) (v::us)) (EP X pins σ Q) X.xe s
theorem Vals.one {x:V} {us:List Value} (h:Vals [x] us):∃ u,us=[u]/\RelV x u:=by
 cases h with
 | cons r t=>cases t; exact ⟨_,rfl,r⟩
theorem Vals.zero:∀ {us:List Value},Vals [] us->us=[]
 | _,.nil=>rfl
theorem Vals.reverse {xs:List V} {us:List Value} (h:Vals xs us):Vals xs.reverse us.reverse:=by
 induction h with
 | nil=>exact .nil
 | cons r t ih=>rw [List.reverse_cons,List.reverse_cons]; exact Vals.append ih (.cons r .nil)
theorem Vals.rep {xs:List V} {us:List Value} (h:Vals xs us):∀ k:Nat,Vals (List.replicate k xs).flatten (List.replicate k us).flatten
 | 0=>.nil
 | k+1=>by
  rw [List.replicate_succ,List.replicate_succ,List.flatten_cons,List.flatten_cons]
  exact Vals.append h (Vals.rep h k)
theorem ZdU (its:List Value):∀ (k:Nat) (acc:List Value),
  List.foldl (λx1 x2=>x1++x2) acc.toArray (List.replicate k its.toArray)=(acc++(List.replicate k its).flatten).toArray
 | 0,acc=>by simp
 | k+1,acc=>by
  have e:acc.toArray++its.toArray=(acc++its).toArray:=by simp
  have e2:(acc++its)++(List.replicate k its).flatten=acc++(List.replicate (k+1) its).flatten:=by
   rw [List.replicate_succ,List.flatten_cons,List.append_assoc]
  rw [<- e2,<- ZdU its k (acc++its),<- e,List.replicate_succ,List.foldl_cons]
section
variable {X:Cx} {pins:List (Addr×Obj)} {σ:St} {H:Hp} {s:Shared} {l b:Addr} {xs ys zs:List V}
theorem Inv.lset {its its':List Value} {n:Nat} {f:Array Value->Array Value} {t':Nat} (I:Inv X pins σ H s) (hH:H l=some (.lst xs))
  (e:s.heap.get? l=some { cls:=.type "list",data:=.seq its.toArray n }) (hf:f its.toArray=its'.toArray) (hv:Vals ys its') (hz:ys.length<=sizeLine) :
  Inv X pins σ (upd H l (.lst ys)) { s with heap:=s.heap.update l (Obj.mapSeq f),toks:=t' }:=by
 have q:=PySem.IsL.update e f
 rw [hf] at q
 refine I.write (x:=l) (e:=l) (by rw [hH]; exact trivial) (.inl rfl) (λb' u hb hu=>(Heap.get?_update_other s.heap (Obj.mapSeq f) (Ne.symm hb)).trans hu) ⟨_,q⟩ ?_
 exact ⟨hz,its',_,hv,q⟩
theorem Inv.lnew {its:List Value} {t':Nat} (I:Inv X pins σ H s) (hv:Vals ys its) (hz:ys.length<=sizeLine) :
  Inv X pins σ (upd H s.heap.objs.size (.lst ys)) { s with heap:=s.heap.push { cls:=.type "list",data:=.seq its.toArray },toks:=t' } :=
 I.laid (λ_ _ q=>Heap.get?_push_of_some _ q) (Nat.le_refl _) ⟨hz,its,0,hv,Heap.get?_push_size _ rfl⟩
theorem Inv.fresh (I:Inv X pins σ H s):H s.heap.objs.size=none:=I.hok.fresh (Nat.le_refl _)
theorem Inv.lstM (I:Inv X pins σ H s) (hH:H l=some (.lst xs)):xs.length<=sizeLine/\∃ (its:List Value) (n:Nat),Vals xs its/\xs.length=its.length/\s.heap.get? l=some { cls:=.type "list",data:=.seq its.toArray n }:=by
 obtain ⟨z,its,n,r,e⟩:=I.hok l _ hH
 exact ⟨z,its,n,r,r.length,e⟩
theorem Zlj {n:Nat} (h:n<=sizeLine):Builtin.List.listTooLong n=false:=by
 unfold Builtin.List.listTooLong
 exact decide_eq_false (by omega)
end
section
variable {X:Cx}
noncomputable def Zcc:V->List V->Hp->VK->Prop:=λx vs H Q=>∃ l xs y,x=.ref l/\vs=[y]/\H l=some (.lst xs)/\xs.length < sizeLine/\Q .non (upd H l (.lst (xs++[y])))
theorem jq:MtM X "list.append" Zcc:=by
 intro pins s σ H x vs v us Q I rx rv h
 obtain ⟨l,xs,y,rfl,rfl,hH,hz,q⟩:=h
 cases rx
 obtain ⟨u,rfl,ru⟩:=rv.one
 obtain ⟨z,its,n,r,hl,e⟩:=I.lstM hH
 refine call_meets F.slot_list_append ⟨_,e,rfl⟩ F.entry_list_append (F.args_list_append_2 _ _) (PySem.list_append l its.toArray n u (by rw [List.size_toArray]; omega)) ⟨e,?_⟩
 refine ⟨.non,_,I.lset (its':=its++[u]) hH e (by simp) (r.append (.cons ru .nil)) ?_,rfl,q⟩
 rw [List.length_append,List.length_singleton]
 omega
noncomputable def ZbX:V->List V->Hp->VK->Prop:=λx vs H Q=>∃ l xs,x=.ref l/\vs=[]/\H l=some (.lst xs)/\Q .non (upd H l (.lst xs.reverse))
theorem Zlr:MtM X "list.reverse" ZbX:=by
 intro pins s σ H x vs v us Q I rx rv h
 obtain ⟨l,xs,rfl,rfl,hH,q⟩:=h
 cases rx
 have hus:=rv.zero
 subst hus
 obtain ⟨z,its,n,r,hl,e⟩:=I.lstM hH
 refine call_meets F.slot_list_reverse ⟨_,e,rfl⟩ F.entry_list_reverse (F.args_list_reverse_1 _) (AutoSeq1.list_reverse_list_0 l its.toArray n (by rw [List.size_toArray]; omega)) ⟨e,?_⟩
 refine ⟨.non,_,I.lset (its':=its.reverse) hH e (by simp) r.reverse ?_,rfl,q⟩
 rw [List.length_reverse]
 omega
noncomputable def Zcb:R2:=λx y H Q=>∃ l b xs zs,x=.ref l/\y=.ref b/\H l=some (.lst xs)/\H b=some (.lst zs)/\xs.length+zs.length<=sizeLine/\∀ p,H p=none->Q (.ref p) (upd H p (.lst (xs++zs)))
theorem Zk5:OpR X (binaryOp .Add) Zcb:=by
 intro pins s σ H x y v u Q I rx ry h
 obtain ⟨l,b,xs,zs,rfl,rfl,hH,hB,hz,q⟩:=h
 cases rx
 cases ry
 obtain ⟨z,its,n,r,hl,e⟩:=I.lstM hH
 obtain ⟨z2,its2,n2,r2,hl2,e2⟩:=I.lstM hB
 refine PySem.P.add_list e e2 ?_ (by rw [List.size_toArray,List.size_toArray]; omega)
 have ea:its.toArray++its2.toArray=(its++its2).toArray:=by simp
 rw [ea]
 exact ⟨.ref _,_,I.lnew (t':=s.toks) (r.append r2) (by rw [List.length_append]; omega),rfl,q _ I.fresh⟩
noncomputable def pf:R2:=λx y H Q=>∃ l k xs,x=.ref l/\y=.int k/\H l=some (.lst xs)/\-(2 ^ 63)<=k/\k < 2 ^ 63/\xs.length * k.toNat<=sizeLine /\
 ∀ p,H p=none->Q (.ref p) (upd H p (.lst (List.replicate k.toNat xs).flatten))
theorem ZlP {α:Type} (xs:List α) (k:Nat):(List.replicate k xs).flatten.length=k * xs.length:=by
 induction k with
 | zero=>simp
 | succ k ih=>rw [List.replicate_succ,List.flatten_cons,List.length_append,ih,Nat.succ_mul,Nat.add_comm]
theorem pF:OpR X (binaryOp .Mult) pf:=by
 intro pins s σ H x y v u Q I rx ry h
 obtain ⟨l,k,xs,rfl,rfl,hH,h1,h2,hz,q⟩:=h
 cases rx
 obtain ⟨t,rfl⟩:=ry
 obtain ⟨z,its,n,r,hl,e⟩:=I.lstM hH
 have hlen:its.toArray.size * k.toNat<=sizeLine:=by rw [List.size_toArray,<- hl]; exact hz
 have hcap:¬ its.toArray.size * k.toNat > (2 ^ 63 - 1) / 8:=by
  have:(sizeLine:Nat)<=(2 ^ 63 - 1) / 8:=by decide
  omega
 have hfit:¬ (!Builtin.List.listFitsIndex k)=true:=by
  rw [fitsIndex_both h1 h2]
  exact Bool.false_ne_true
 have hlong:¬ Builtin.List.listTooLong (its.toArray.size * k.toNat)=true:=by
  rw [Zlj hlen]
  exact Bool.false_ne_true
 have hnew:List.foldl (λx1 x2=>x1++x2) #[] (List.replicate (if its.toArray.isEmpty=true then 0 else k.toNat) its.toArray)=(List.replicate k.toNat its).flatten.toArray:=by
  have f0:∀ m:Nat,List.foldl (λx1 x2=>x1++x2) #[] (List.replicate m its.toArray)=(List.replicate m its).flatten.toArray:=λm=>by
   have:=ZdU its m []
   rw [List.nil_append] at this
   exact this
  rw [f0]
  cases its with
  | nil=>simp
  | cons a r'=>rw [if_neg (by simp)]
 refine wpAny_binaryOp_repeat_ref (T:="list") (U:="int") (by decide) ⟨_,e,rfl⟩ (λs'=>typeIs_int s' k t) noFill_list_mul F.fills_int_mul F.slot_int_rmul repeat_list F.slot_int_index.lookup
  (call_meets F.slot_int_rmul (typeIs_int s k t) F.entry_int_rmul (F.args_int_rmul_2 _ _) (int___rmul___int_list k t l its.toArray n)
   ⟨e,rfl,⟨_,e,rfl⟩,call_meets F.slot_list_mul ⟨_,e,rfl⟩ F.entry_list_mul (F.args_list_mul_2 _ _) (AutoListH.list___mul___list_int_3 l its.toArray n k t hfit hcap hlong) ⟨e,?_⟩⟩)
 rw [hnew]
 exact ⟨.ref _,_,I.lnew (t':=s.toks) (r.rep k.toNat) (by rw [ZlP,Nat.mul_comm]; exact hz),rfl,q _ I.fresh⟩
end
section
variable {prog:Program} {w:World} {A:Around} {E:Value->Shared->Prop} {s:Shared}
end
section
variable {X:Cx}
end
section
variable {κ:Type} [DecidableEq κ]
noncomputable def dl (kvs:List (κ×V)) (k:κ):Option V:=(kvs.find? λkv=>decide (kv.1=k)).map (·.2)
noncomputable def cr (kvs:List (κ×V)) (k:κ) (v:V):List (κ×V) :=
 if (kvs.any λkv=>decide (kv.1=k))=true then kvs.map (λkv=>if kv.1=k then (kv.1,v) else kv) else kvs++[(k,v)]
theorem iY {p:κ×V} {r:List (κ×V)} {k:κ} (e:p.1=k):dl (p::r) k=some p.2:=by simp [dl,List.find?_cons,e]
theorem iZ {p:κ×V} {r:List (κ×V)} {k:κ} (e:¬ p.1=k):dl (p::r) k=dl r k:=by simp [dl,List.find?_cons,e]
theorem lF (k:κ):∀ kvs:List (κ×V),(kvs.any λkv=>decide (kv.1=k))=(dl kvs k).isSome
 | []=>rfl
 | p::r=>by
  rw [List.any_cons]
  by_cases e:p.1=k
  ·simp only [iY e,decide_eq_true e,Bool.true_or,Option.isSome_some]
  ·rw [iZ e,decide_eq_false e,Bool.false_or]; exact lF k r
theorem pY (kvs:List (κ×V)) (k:κ) (v:V):(cr kvs k v).length<=kvs.length+1:=by
 unfold cr
 split
 ·rw [List.length_map]; omega
 ·rw [List.length_append,List.length_cons,List.length_nil]; omega
theorem RelO.isSome_eq {o:Option V} {u:Option Value} (r:RelO o u):o.isSome=u.isSome:=by
 cases o with
 | none=>cases u with
  | none=>rfl
  | some _=>exact (show False from r).elim
 | some _=>cases u with
  | none=>exact (show False from r).elim
  | some _=>rfl
theorem KV.val {kvs:List (κ×V)} {vs:List (κ×Value)} (r:KV kvs vs) (k:κ):RelO (dl kvs k) (valueAt vs k):=by
 unfold KV at r
 induction r with
 | nil=>exact True.intro
 | @cons p q ps qs h t ih =>
  obtain ⟨h1,h2⟩:=h
  by_cases e:p.1=k
  ·have e':q.1=k:=h1.symm.trans e
   have b:valueAt (q::qs) k=some q.2:=by simp [valueAt,List.find?_cons,e']
   rw [iY e,b]; exact h2
  ·have e':¬ q.1=k:=λz=>e (h1.trans z)
   have b:valueAt (q::qs) k=valueAt qs k:=by simp [valueAt,List.find?_cons,e']
   rw [iZ e,b]; exact ih
theorem KV.any {kvs:List (κ×V)} {vs:List (κ×Value)} (r:KV kvs vs) (k:κ):(kvs.any λkv=>decide (kv.1=k))=vs.any λkv=>decide (kv.1=k):=by
 unfold KV at r
 induction r with
 | nil=>rfl
 | cons h t ih=>rw [List.any_cons,List.any_cons,ih,h.1]
theorem KV.repl {kvs:List (κ×V)} {vs:List (κ×Value)} (r:KV kvs vs) (k:κ) {y:V} {u:Value} (ry:RelV y u) :
  KV (kvs.map λkv=>if kv.1=k then (kv.1,y) else kv) (vs.map λkv=>if kv.1=k then (kv.1,u) else kv):=by
 unfold KV at r ⊢
 induction r with
 | nil=>exact .nil
 | @cons p q ps qs h t ih =>
  rw [List.map_cons,List.map_cons]
  refine .cons ?_ ih
  obtain ⟨h1,h2⟩:=h
  by_cases e:p.1=k
  ·rw [if_pos e,if_pos (h1.symm.trans e)]; exact ⟨h1,ry⟩
  ·rw [if_neg e,if_neg (λz=>e (h1.trans z))]; exact ⟨h1,h2⟩
theorem KV.put {kvs:List (κ×V)} {vs:List (κ×Value)} (r:KV kvs vs) (k:κ) {y:V} {u:Value} (ry:RelV y u):KV (cr kvs k y) (stored vs k u):=by
 unfold cr stored
 rw [r.any k]
 by_cases e:(vs.any λkv=>decide (kv.1=k))=true
 ·rw [if_pos e,if_pos e]; exact r.repl k ry
 ·rw [if_neg e,if_neg e]; exact Paired.snoc r ⟨rfl,ry⟩
theorem KV.length {kvs:List (κ×V)} {vs:List (κ×Value)} (r:KV kvs vs):kvs.length=vs.length:=Paired.length r
end
theorem mU {P:Program} {w:World} {k:aA} {u:Value} (r:RelV (kV k) u):(cJ P w).is k u=true:=by
 cases k with
 | inl i=>obtain ⟨t,e⟩:=(show ∃ t,u=Value.int i t from r); subst e; exact Zlu P w i t
 | inr x=>obtain ⟨t,e⟩:=(show ∃ t,u=Value.str x t from r); subst e; exact Zlt P w x t
theorem Zdq {P:Program} {w:World}:∀ {ks:List aA} {us:List Value},Vals (ks.map kV) us->ItemsAre (cJ P w) ks us
 | [],_,r=>by rw [List.map_nil] at r; cases r; exact .nil
 | k::ks,_,r=>by
  rw [List.map_cons] at r
  cases r with
  | cons h t=>exact .cons (mU h) (Zdq t)
noncomputable abbrev KT (H:Hp):List (List aA×V)->List (List aA×Addr×Value)->Prop:=Paired λp q=>p.1=q.1/\H q.2.1=some (.tup (p.1.map kV))/\RelV p.2 q.2.2
theorem KT.val {H:Hp} {kvs:List (List aA×V)} {xs:List (List aA×Addr×Value)} (r:KT H kvs xs) (k:List aA):RelO (dl kvs k) ((atKey xs k).map (·.2)):=by
 induction r with
 | nil=>exact True.intro
 | @cons p q ps qs h t ih =>
  obtain ⟨h1,_,h2⟩:=h
  by_cases e:p.1=k
  ·have e':q.1=k:=h1.symm.trans e
   have b:atKey (q::qs) k=some q.2:=by simp [atKey,List.find?_cons,e']
   rw [iY e,b]; exact h2
  ·have e':¬ q.1=k:=λz=>e (h1.trans z)
   have b:atKey (q::qs) k=atKey qs k:=by simp [atKey,List.find?_cons,e']
   rw [iZ e,b]; exact ih
theorem KT.repl {H:Hp} {kvs:List (List aA×V)} {xs:List (List aA×Addr×Value)} (r:KT H kvs xs) (k:List aA) {y:V} {u:Value} (ry:RelV y u) :
  KT H (kvs.map λkv=>if kv.1=k then (kv.1,y) else kv) (xs.map (putAt k u)):=by
 induction r with
 | nil=>exact .nil
 | @cons p q ps qs h t ih =>
  rw [List.map_cons,List.map_cons]
  refine .cons ?_ ih
  obtain ⟨h1,h2,h3⟩:=h
  unfold putAt
  by_cases e:p.1=k
  ·rw [if_pos e,if_pos (h1.symm.trans e)]; exact ⟨h1,h2,ry⟩
  ·rw [if_neg e,if_neg (λz=>e (h1.trans z))]; exact ⟨h1,h2,h3⟩
theorem KT.put {H:Hp} {kvs:List (List aA×V)} {xs:List (List aA×Addr×Value)} (r:KT H kvs xs) (k:List aA) {b:Addr} {y:V} {u:Value} (hb:H b=some (.tup (k.map kV))) (ry:RelV y u) :
  KT H (cr kvs k y) (storedH xs k b u):=by
 have e:(kvs.any λkv=>decide (kv.1=k))=(atKey xs k).isSome:=by
  rw [lF,(r.val k).isSome_eq,Option.isSome_map]
 unfold cr storedH
 rw [e]
 by_cases q:(atKey xs k).isSome=true
 ·rw [if_pos q,if_pos q]; exact r.repl k ry
 ·rw [if_neg q,if_neg q]; exact Paired.snoc r ⟨rfl,hb,ry⟩
theorem KT.keeps {H H':Hp} {kvs:List (List aA×V)} {xs:List (List aA×Addr×Value)} (r:KT H kvs xs) (ht:∀ b ys,H b=some (.tup ys)->H' b=some (.tup ys)):KT H' kvs xs :=
 Paired.mapP r λ_ _ z=>⟨z.1,ht _ _ z.2.1,z.2.2⟩
section
variable {P:Program} {w:World} {H:Hp} {h:Heap} {a:Addr}
theorem ZbR {u:HO} (ok:HOk P w H h) (e:Rd H a u):ObjOk P w H h a u:=e.ok ok
theorem qI {kvs:List (aA×V)} (ok:HOk P w H h) (e:Rd H a (.dK kvs)):kvs.length<=sizeLine/\(a == sysModules)=false/\∃ vs,KV kvs vs/\h.DictOf (cJ P w) a vs :=
 show ObjOk P w H h a (.dK kvs) from ZbR ok e
theorem Zg1 {kvs:List (aA×V)} (ok:HOk P w H h) (e:H a=some (.dK kvs)):kvs.length<=sizeLine/\(a == sysModules)=false/\∃ vs,KV kvs vs/\h.DictOf (cJ P w) a vs:=qI ok (.inl e)
theorem qh {ks:List aA} (ok:HOk P w H h) (e:H a=some (.tup (ks.map kV))):(tupleKind (cJ P w)).is h ks a:=by
 obtain ⟨_,its,r,o,h1,h2,n,h3⟩:=(show ObjOk P w H h a (.tup (ks.map kV)) from ok a _ e)
 exact ⟨o,its.toArray,n,h1,h2,h3,by simpa using Zdq r⟩
theorem qG {kvs:List (List aA×V)} (ok:HOk P w H h) (e:Rd H a (.dT kvs)):kvs.length<=sizeLine/\(a == sysModules)=false /\
  ∃ xs,KT H kvs xs/\h.DictOfH (tupleKind (cJ P w)) a xs:=by
 obtain ⟨z,y,xs,r,o,es,ep,h1,h2,h3,h4,h5⟩:=(show ObjOk P w H h a (.dT kvs) from ZbR ok e)
 refine ⟨z,y,xs,r,o,es,ep,h1,h2,h3,h4,λx hx=>?_,h5⟩
 have all:∀ {l:List (List aA×V)} {m:List (List aA×Addr×Value)},KT H l m->∀ x∈m,(tupleKind (cJ P w)).is h x.1 x.2.1:=by
  intro l m q
  induction q with
  | nil=>intro x hx; exact nomatch hx
  | @cons p q ps qs hq t ih =>
   intro x hx
   rcases List.mem_cons.mp hx with e | hx
   ·subst e
    exact qh ok (by rw [<- hq.1]; exact hq.2.1)
   ·exact ih x hx
 exact all r x hx
theorem ZmO {kvs:List (List aA×V)} (ok:HOk P w H h) (e:H a=some (.dT kvs)):kvs.length<=sizeLine/\(a == sysModules)=false /\
  ∃ xs,KT H kvs xs/\h.DictOfH (tupleKind (cJ P w)) a xs:=qG ok (.inl e)
end
noncomputable def DGet (H:Hp) (a:Addr) (y:V) (r:Option V):Prop :=
 (∃ kvs k,Rd H a (.dK kvs)/\y=kV k/\r=dl kvs k)\/∃ kvs k b,Rd H a (.dT kvs)/\y=.ref b/\H b=some (.tup (k.map kV))/\r=dl kvs k
noncomputable def DPut (H:Hp) (a:Addr) (y v:V) (H':Hp):Prop :=
 (∃ kvs k,H a=some (.dK kvs)/\y=kV k/\kvs.length < sizeLine/\H'=upd H a (.dK (cr kvs k v))) \/
 ∃ kvs k b,H a=some (.dT kvs)/\y=.ref b/\H b=some (.tup (k.map kV))/\kvs.length < sizeLine/\H'=upd H a (.dT (cr kvs k v))
theorem DGet.k {H:Hp} {a:Addr} {kvs:List (aA×V)} {k:aA} (e:H a=some (.dK kvs)):DGet H a (kV k) (dl kvs k):=.inl ⟨kvs,k,.inl e,rfl,rfl⟩
theorem DPut.k {H:Hp} {a:Addr} {kvs:List (aA×V)} {k:aA} {v:V} (e:H a=some (.dK kvs)) (hl:kvs.length < sizeLine):DPut H a (kV k) v (upd H a (.dK (cr kvs k v))):=.inl ⟨kvs,k,e,rfl,hl,rfl⟩
section
variable {X:Cx} {pins:List (Addr×Obj)} {σ:St} {H:Hp} {s:Shared} {a:Addr} {y v:V} {u r:Value} {o:Option V} {A:Around} {E:Value->Shared->Prop}
theorem Inv.big (I:Inv X pins σ H s):sysModules < s.heap.objs.size:=by
 have h:mainGlobals < s.heap.objs.size:=(I.mod.glob.keeps I.bk).lt
 exact Nat.lt_trans (by decide) h
theorem Zne {Q:Value->Shared->Prop} (hu:A.units+1 < cLine) (I:Inv X pins σ H s) (g:DGet H a y (some v)) (ry:RelV y u) (h:∀ w' s',Inv X pins σ H s'->RelV v w'->Q w' s') :
  wpAny (model X.prog X.w) A (getItem (.ref a) u) Q E s:=by
 rcases g with ⟨kvs,k,e,ey,l⟩ | ⟨kvs,k,b,e,ey,eb,l⟩
 ·subst ey
  obtain ⟨z,hd,vs,rel,dd⟩:=qI I.hok e
  obtain ⟨w',hw,rw'⟩:=RelO.some_of (v:=v) (o:=valueAt vs k) (by rw [l]; exact rel.val k)
  exact wpAny_getItem_of (mU ry) dd.mapOf hw (h w' _ (I.tok _) rw')
 ·subst ey
  cases (show u=Value.ref b from ry)
  obtain ⟨z,hd,xs,rel,dd⟩:=qG I.hok e
  obtain ⟨w',hw,rw'⟩:=RelO.some_of (v:=v) (o:=(atKey xs k).map (·.2)) (by rw [l]; exact rel.val k)
  obtain ⟨p,hp,hp2⟩:=Option.map_eq_some_iff.mp hw
  refine wpAny_getItem_heap (tupleKind_room_in1 hu) (qh I.hok eb) dd hp ?_
  rw [hp2]
  exact h w' _ (I.tok _) rw'
theorem qL {h':Heap} {t':Nat} {ob:HO} (I:Inv X pins σ H s) (mu:lA (H a)) (hs:Heap.SameBut a s.heap h') (he:∃ q,h'.get? a=some q) (new:ObjOk X.prog X.w (upd H a ob) h' a ob) :
  Inv X pins σ (upd H a ob) { s with heap:=h',toks:=t' } :=
 I.write (x:=a) (e:=a) mu (.inl rfl) (λb q hb z=>(hs.2 b hb).trans z) he new
theorem Zg2 {P:Program} {w:World} {H':Hp} {h':Heap} {kvs:List (aA×V)} {vs:List (aA×Value)} (z:kvs.length<=sizeLine) (hd:(a == sysModules)=false) (rel:KV kvs vs) (dd:h'.DictOf (cJ P w) a vs) :
  ObjOk P w H' h' a (.dK kvs):=⟨z,hd,vs,rel,dd⟩
theorem Zm3 {H':Hp} {Q:Unit->Shared->Prop} (hu:A.units+1 < cLine) (I:Inv X pins σ H s) (g:DPut H a y v H') (ry:RelV y u) (rv:RelV v r) (h:∀ s',Inv X pins σ H' s'->Q () s') :
  wpAny (model X.prog X.w) A (setItem (.ref a) u r) Q E s:=by
 rcases g with ⟨kvs,k,e,ey,l,eH⟩ | ⟨kvs,k,b,e,ey,eb,l,eH⟩
 ·subst ey eH
  obtain ⟨z,hd,vs,rel,dd⟩:=Zg1 I.hok e
  have hz:vs.length<=sizeLine:=by rw [<- rel.length]; exact z
  have hl:(cr kvs k v).length<=sizeLine:=by have:=pY kvs k v; omega
  refine wpAny_setItem_pairs (hsz:=hz) (mU ry) dd λh' dd' hs=>h _ ?_
  have he:∃ q,h'.get? a=some q:=let ⟨q,_,_,hq,_⟩:=dd'; ⟨q,hq⟩
  exact qL I (by rw [e]; exact True.intro) hs he (Zg2 hl hd (rel.put k rv) dd')
 ·subst ey eH
  cases (show u=Value.ref b from ry)
  obtain ⟨z,hd,xs,rel,dd⟩:=ZmO I.hok e
  have hz:xs.length<=sizeLine:=by rw [<- Paired.length rel]; exact z
  have hl:(cr kvs k v).length<=sizeLine:=by have:=pY kvs k v; omega
  refine wpAny_setItem_heap (hsz:=hz) (tupleKind_room_in1 hu) (qh I.hok eb) dd λh' dd' hs=>h _ ?_
  obtain ⟨q,es,ep,hq,h2,h3,h4,_,h5⟩:=dd'
  refine qL I (by rw [e]; exact True.intro) hs ⟨q,hq⟩ ⟨hl,hd,_,(rel.put k eb rv).keeps λc ys ec=>?_,q,es,ep,hq,h2,h3,h4,h5⟩
  rw [aL (kD ec e (λz=>nomatch z))]
  exact ec
end
section
variable {X:Cx} {pins:List (Addr×Obj)} {σ:St} {H:Hp} {s:Shared} {a:Addr} {kvs:List (aA×V)} {k:aA} {u:Value} {A:Around} {E:Value->Shared->Prop}
end
noncomputable def Zib (i:Expr):Prop:=∀ ov iv,subscripted i false ov iv=operate [ov,iv] (getItem ov iv)
theorem Zjg {prog:Program} {w:World} {A:Around} {E:Value->Shared->Prop} {s:Shared} {env:Env} {value slice:Expr} {pos:Pos} {T id:String} {Q:Value->Shared->Prop}
  (hl:typeLookup (.type T) "__getitem__"=pure (some (.builtin id))) (hs:Zib slice)
  (h:wpAny (model prog w) A (eval value env) (λo s₁=>wpAny (model prog w) A (eval slice env) (λi s₂=>s₂.TypeIs o T/\wpAny (model prog w) A (getItem o i) Q E s₂) E s₁) E s) :
  wpAny (model prog w) A (eval (.Subscript value slice pos) env) Q E s:=by
 refine Subscript_ (wpAny_mono h (λo s₁ h₁=>wpAny_mono h₁ (λi s₂ h₂=>?_) λ_ _ x=>x) λ_ _ x=>x)
 obtain ⟨hT,h₂⟩:=h₂
 unfold subscriptTail
 refine wpAny_bind ?_
 rw [getitemInPython_of_ne hT.not_modules]
 refine wpAny_bind (wpAny_specialOf hT hl ?_)
 have fin:wpAny (model prog w) A (subscripted slice false o i) (λr s₃=>wpAny (model prog w) A (letTemporaryGo value o r >>= λ_=>pure r) Q E s₃) E s₂:=by
  rw [hs o i]
  exact wpAny_operating (wpAny_mono h₂ (λr s₃ h₃=>wpAny_bind (wpAny_letTemporaryGo (wpAny_pure h₃))) λ_ _ x=>x)
 first
  | exact wpAny_pure (wpAny_bind fin)
  | exact wpAny_bind (wpAny_pure (wpAny_bind fin))
  | exact wpAny_bind fin
theorem ZmU {X:Cx} {pins:List (Addr×Obj)} {σ:St} {H:Hp} {s:Shared} {a:Addr} {y:V} {o:Option V} (I:Inv X pins σ H s) (g:DGet H a y o):s.TypeIs (.ref a) "dict":=by
 rcases g with ⟨kvs,k,e,_,_⟩ | ⟨kvs,k,b,e,_,_,_⟩
 ·obtain ⟨_,_,vs,_,dd⟩:=qI I.hok e
  exact dd.typeIs
 ·obtain ⟨_,_,xs,_,dd⟩:=qG I.hok e
  exact dd.typeIs
noncomputable def Zi8 (td ty:TE):TE:=λσ H Q=>td σ H λx H1=>ty σ H1 λy H2=>∃ a v,x=.ref a/\DGet H2 a y (some v)/\Q v H2
noncomputable def ZjK (td ty tv:TE):TS:=λD σ H=>tv σ H λv H1=>td σ H1 λx H2=>ty σ H2 λy H3=>∃ a H4,x=.ref a/\DPut H3 a y v H4/\D.nx σ H4
section
variable {X:Cx} {o i e value:Expr} {pos pos' tpos:Pos} {td ty tv:TE}
theorem gA (hu:X.A.units+1 < cLine) (ho:PE X o td) (hi:PE X i ty) (hs:Zib i):PE X (.Subscript o i pos) (Zi8 td ty):=by
 intro pins s σ H Q I h
 refine Zjg PySem.F.slot_dict_getitem.lookup hs (thn (ho pins s σ H _ I h) λu s1 ⟨x,H1,I1,rx,q1⟩=>thn (hi pins s1 σ H1 _ I1 q1) λiv s2 hz0=>?_)
 obtain ⟨y,H2,I2,ry,a,v,ex,g,q2⟩:=hz0
 subst ex
 obtain rfl:u=Value.ref a:=rx
 exact ⟨ZmU I2 g,Zne hu I2 g ry λw' s3 I3 rw'=>⟨v,H2,I3,rw',q2⟩⟩
theorem pq (hu:X.A.units+1 < cLine) (ho:PE X o td) (hi:PE X i ty) (hv:PE X value tv) (hs:swapsWith value (some (.Subscript o i pos')) pos.line X.env=pure false) :
  PS X (.Assign [.Subscript o i pos'] value pos) (ZjK td ty tv):=by
 intro pins s σ H D I h
 refine wpAny_Assign_Subscript (thn (hv pins s σ H _ I h) λr s1 ⟨v,H1,I1,rv,q1⟩=>thn (ho pins s1 σ H1 _ I1 q1) λu s2 ⟨x,H2,I2,rx,q2⟩=>thn (hi pins s2 σ H2 _ I2 q2) λiv s3 hz0=>?_) hs
 obtain ⟨y,H3,I3,ry,a,H4,ex,g,q3⟩:=hz0
 subst ex
 obtain rfl:u=Value.ref a:=rx
 exact Zm3 hu I3 g ry rv λs4 I4=>⟨σ,H4,I4,q3⟩
end
theorem ZmT {P:Program} {w:World} {H:Hp} (h:Heap) (hb:sysModules < h.objs.size):ObjOk P w H (h.push { cls:=.type "dict",data:=.dict #[] }) h.objs.size (.dK []) :=
 ⟨Nat.zero_le _,beq_eq_false_iff_ne.mpr (Ne.symm (Nat.ne_of_lt hb)),[],.nil,Heap.DictOf.new h⟩
section
variable {X:Cx} {pos:Pos}
end
noncomputable def oC:List (TE×TE)->St->Hp->(List (V×V)->Hp->Prop)->Prop
 | [],_,H,Q=>Q [] H
 | (tk,tv)::r,σ,H,Q=>tk σ H λx H1=>tv σ H1 λy H2=>oC r σ H2 λps H3=>Q ((x,y)::ps) H3
noncomputable abbrev VV:List (V×V)->List (Value×Value)->Prop:=Paired λp q=>RelV p.1 q.1/\RelV p.2 q.2
noncomputable def nS (X:Cx) (pos:Pos) (keys:List (Option Expr)) (values:List Expr) (trs:List (TE×TE)):Prop :=
 ∀ (pins:List (Addr×Obj)) (s:Shared) (σ:St) (H:Hp) (Q:List (V×V)->Hp->Prop),Inv X pins σ H s->oC trs σ H Q ->
  wpAny (model X.prog X.w) X.A (evalPairs (pairTrees keys values X.env pos)) (λvs s'=>∃ ps H',Inv X pins σ H' s'/\VV ps vs/\Q ps H') X.xe s
theorem Zkv {X:Cx} {pos:Pos}:nS X pos [] [] []:=λpins s σ H Q I h=>pairTrees_nil_walk ⟨[],H,I,.nil,h⟩
theorem pw {X:Cx} {pos:Pos} {k v:Expr} {ks:List (Option Expr)} {vs:List Expr} {tk tv:TE} {trs:List (TE×TE)} (hk:PE X k tk) (hv:PE X v tv) (hr:nS X pos ks vs trs) :
  nS X pos (some k::ks) (v::vs) ((tk,tv)::trs):=λpins s σ H Q I h =>
 pairTrees_cons_walk (thn (hk pins s σ H _ I h) λu s1 ⟨x,H1,I1,rx,q1⟩=>thn (hv pins s1 σ H1 _ I1 q1) λw2 s2 ⟨y,H2,I2,ry,q2⟩ =>
  thn (hr pins s2 σ H2 _ I2 q2) λws s3 ⟨ps,H3,I3,rel,q3⟩=>⟨(x,y)::ps,H3,I3,.cons ⟨rx,ry⟩ rel,q3⟩)
noncomputable def kF (kvs more:List (aA×V)):List (aA×V):=more.foldl (λacc kv=>cr acc kv.1 kv.2) kvs
theorem KV.merge:∀ {more:List (aA×V)} {rs:List (aA×Value)} {kvs:List (aA×V)} {vs:List (aA×Value)},KV more rs->KV kvs vs->KV (kF kvs more) (merged vs rs):=by
 intro more rs kvs vs r
 unfold KV at r
 induction r generalizing kvs vs with
 | nil=>intro q; exact q
 | @cons p q ps qs h t ih =>
  intro r0
  have e:KV (cr kvs p.1 p.2) (stored vs q.1 q.2):=by
   have:=r0.put p.1 h.2
   rw [<- h.1]; exact this
  exact ih e
theorem Zc4:∀ (more kvs:List (aA×V)),(kF kvs more).length<=kvs.length+more.length
 | [],kvs=>by show kvs.length<=kvs.length+0; omega
 | p::r,kvs=>by
  have h1:=Zc4 r (cr kvs p.1 p.2)
  have h2:=pY kvs p.1 p.2
  show (kF (cr kvs p.1 p.2) r).length<=_
  rw [List.length_cons]; omega
theorem Zhq {P:Program} {w:World}:∀ {kvs:List (aA×V)} {ws:List (Value×Value)},VV (kvs.map λkv=>(kV kv.1,kv.2)) ws->∃ rs,Carries (cJ P w) ws rs/\KV kvs rs
 | [],_,r=>by rw [List.map_nil] at r; cases r; exact ⟨[],True.intro,.nil⟩
 | p::kvs,_,r=>by
  rw [List.map_cons] at r
  cases r with
  | @cons a b as bs h t =>
   obtain ⟨rs,c,q⟩:=Zhq (P:=P) (w:=w) t
   obtain ⟨b1,b2⟩:=b
   exact ⟨(p.1,b2)::rs,⟨mU h.1,rfl,c⟩,.cons ⟨rfl,h.2⟩ q⟩
noncomputable def Zi7 (trs:List (TE×TE)):TE:=λσ H Q=>∀ p,H p=none->oC trs σ (upd H p (.dK [])) λps H2=>H2 p=some (.dK [])/\∃ kvs:List (aA×V),ps=kvs.map (λkv=>(kV kv.1,kv.2))/\kvs.length<=15/\Q (.ref p) (upd H2 p (.dK (kF [] kvs)))
theorem ZkN {X:Cx} {pos:Pos} {keys:List (Option Expr)} {values:List Expr} {trs:List (TE×TE)} (h:nS X pos keys values trs) (hall:keys.all (·.isSome)=true) (hl:keys.length=values.length) (h0:keys≠[])
  (h15:keys.length<=15):PE X (.Dict keys values pos) (Zi7 trs):=by
 intro pins s σ H Q I q
 have hn:=I.hok.fresh (Nat.le_refl s.heap.objs.size)
 have I1:=I.laid (a:=s.heap.objs.size) (o:=.dK []) (h':=s.heap.push { cls:=.type "dict",data:=.dict #[] }) (t':=s.toks) (λ_ _ q=>Heap.get?_push_of_some _ q) (Nat.le_refl _) (ZmT s.heap I.big)
 refine wpAny_Dict_walk (knd:=cJ X.prog X.w) hall hl h0 h15 (thn (h pins _ σ _ _ I1 (q _ hn)) λws s2 hz0=>?_)
 obtain ⟨ps,H2,I2,rel,e,kvs,ep,lk,q2⟩:=hz0
 subst ep
 obtain ⟨rs,c,rk⟩:=Zhq (P:=X.prog) (w:=X.w) rel
 obtain ⟨z,hd,vs0,r0,dd⟩:=Zg1 I2.hok e
 cases r0
 refine ⟨rs,c,dd,λh' dd' hs=>⟨.ref s.heap.objs.size,_,?_,rfl,q2⟩⟩
 have hz:(kF [] kvs).length<=sizeLine:=by
  have h1:=Zc4 kvs []
  rw [List.length_nil] at h1
  rw [sizeLine_eq]; omega
 have he:∃ q,h'.get? s.heap.objs.size=some q:=let ⟨q,_,_,hq,_⟩:=dd'; ⟨q,hq⟩
 exact qL I2 (by rw [e]; exact True.intro) hs he (Zg2 hz hd (rk.merge .nil) dd')
section
variable {X:Cx} {pins:List (Addr×Obj)} {σ:St} {H:Hp} {s:Shared} {a:Addr} {y d:V} {u r:Value} {o:Option V} {A:Around} {E:Value->Shared->Prop}
end
section
variable {X:Cx} {o e f:Expr} {apos cpos:Pos} {td ty tx:TE}
end
section
variable {X:Cx} {pins:List (Addr×Obj)} {σ:St} {H:Hp} {s:Shared} {a:Addr} {kvs:List (aA×V)} {A:Around} {E:Value->Shared->Prop}
end
section
variable {X:Cx} {pins:List (Addr×Obj)} {σ:St} {H:Hp} {s:Shared} {a:Addr} {y:V} {u:Value} {A:Around} {E:Value->Shared->Prop}
end
end L2
namespace Att
open PySem PySem.W PySem.Calls PyProof.Rows
theorem ints_of_wellAll {P:Params} {h:Heap}:∀ (ns:List Int) (vs:List Value),WellAll P h vs (ns.map WData.int)->IntsAre vs ns:=by
 intro ns
 induction ns with
 | nil =>
  intro vs w
  rw [List.map_nil] at w
  cases w
  exact .nil
 | cons n ns ih =>
  intro vs w
  rw [List.map_cons] at w
  cases w with
  | cons a b =>
   cases a
   exact .cons _ _ (ih _ b)
theorem script_of {l:OpenLaw} {n:Nat} (hn:l.most=some n) {P:Params} {h:Heap} {args:List WData} {vals:List Value}
  (hpre:l.row.toRowW.claim.pre args=true) (hwl:WellAll P h vals args) :
  ∃ a vs ns,vals=[Value.ref a]/\args=[WData.list (ns.map WData.int)]/\h.get? a=some { cls:=.type "list",data:=.seq vs.toArray }/\IntsAre vs ns/\ns.length<=n:=by
 have hsh:WShape.hasAll [] args [.list .int]=true:=(pre_splitW hpre).1
 have hc:l.pre.holds [] { args:=args }=true:=(pre_splitW hpre).2
 obtain ⟨d,r,rfl,h1,h2⟩:=hasAllW_cons hsh
 obtain rfl:=hasAllW_nil h2
 obtain ⟨xs,rfl,h3⟩:=hasW_list h1
 obtain ⟨ns,rfl⟩:=items_int h3
 have hlen:ns.length<=n:=by
  unfold OpenLaw.pre at hc
  have h4:(WTm.not (.lt (.lit (.int (n:Int))) (.len (.arg 0)))).holds [] { args:=[.list (ns.map .int)] }=true:=by
   have h4:=(holds_andW hc).1
   rw [hn] at h4
   exact h4
  have h5:=condW_of h4 (w_not (w_lt w_lit (w_len_list (w_arg rfl))))
  rw [List.length_map] at h5
  refine Nat.le_of_not_lt λq=>?_
  have q':(n:Int) < ((ns.length:Nat):Int):=by omega
  first
   | (rw [decide_eq_true q'] at h5; exact absurd h5 (by decide))
   | (simp at h5; omega)
 cases hwl with
 | cons w1 w2 =>
  cases w2
  cases w1 with
  | list ho hall=>exact ⟨_,_,ns,rfl,rfl,ho,ints_of_wellAll ns _ hall,hlen⟩
theorem post_true (l:OpenLaw) (args:List WData):l.row.toRowW.claim.post args (.bool true) args=true :=
 postW_of (r:=l.row.toRowW) (X:=(true == true))
  (show WShape.has [] (.bool true) .bool=true by first | rfl | decide | simp [WShape.has,WShape.arms,WShape.armsAll])
  (show (WTm.eq .res (.lit (.bool true))).value [] { args:=args,res:=some (.bool true),after:=args }=some (.bool (true == true)) from w_eq_bool (w_res rfl) w_lit) rfl
theorem attach_call {l:OpenLaw} {n:Nat} {q:Program} {loose:List Str} {XP:(Str->Option Value)->Heap->Prop} {YP:World->Heap->Prop} {d:DefRec}
  (hn:l.most=some n) (hdf:d.params.defaults=[])
  (call:∀ (w:World) (s₀ s₁:Shared) (mg mb:Str->Option Value) (fa:Addr) (o:Obj) (pm cd doc:Value) (a:Addr) (vs:List Value) (ns:List Int),
   Ground q loose [] XP w s₀ mg mb s₁.heap->YP w s₁.heap ->
   s₁.heap.get? fa=some o->o.data=.func (docDef d.name d.params d.body d.scope pm cd doc)->s₁.heap.CodeRec cd d.name->mg d.name=some (.ref fa) ->
   s₁.heap.get? a=some { cls:=.type "list",data:=.seq vs.toArray }->IntsAre vs ns->ns.length<=n->s₁.gens=#[] ->
   codeAny (model l.prog w) callerA (.call (.ref fa) ⟨[.ref a],[]⟩) (λr s'=>r=.ok (.ret (.bool true))/\OldK s₁.heap s'.heap/\s'.os=s₁.os/\AllBare s'.gens) s₁) :
  WalkO q loose XP YP l.row.toRowW d [] (λf vs=>PySem.call f vs):=by
 intro w s₀ s₁ mg mb G Y fa o pm cd doc dV kV ho hd hcd hD hmg hg args vals as hpre hlay hrd hwl hlo
 obtain rfl:dV=.none:=Dflts.none hD hdf
 obtain rfl:kV=.none:=Dflts.noKw hD
 obtain ⟨a,vs,ns,rfl,rfl,hobj,hints,hlen⟩:=script_of hn hpre hwl
 refine enter_call (codeAny_mono (call w s₀ s₁ mg mb fa o pm cd doc a vs ns G Y ho (fd_plain hd) hcd hmg hobj hints hlen hg) λr s' hq=>?_)
 obtain ⟨rfl,h2,h3,h4⟩:=hq
 exact ⟨.inl ⟨.bool true,.bool true,[],rfl,λ_=>rfl,.bool true,post_true l _,λ_=>⟨List.Pairwise.nil,λ_ hm=>(nomatch hm)⟩⟩,h2,h3,h4⟩
section
variable {prog:Program} {w:World} {A:Around} {E:Value->Shared->Prop} {s:Shared} {K:Frag}
end
end Att
namespace L2
open PySem PySem.Spec PyProof.Rows
theorem ZiA {vs:List Value} {ns:List Int} (h:IntsAre vs ns):Vals (ns.map V.int) vs:=by
 induction h with
 | nil=>exact .nil
 | cons n t h ih=>exact .cons ⟨t,rfl⟩ ih
noncomputable def nU (H:Hp):Prop:=∀ b,H b=none\/∃ o xs,H b=some (.frz o (.lst xs))
theorem ZlT {P:Program} {w:World} {K:PySem.W.Frag} {mg mb:Str->Option Value} {CX:eh} {k:Nat} {fa a:Addr} {fd:FuncData} {x:Str} {sp:Sp} {s₁:Shared} {vs:List Value} {ns:List Int}
  (KX:K.In s₁.heap) (hns:s₁.heap.Ns mainGlobals mg) (hb:s₁.heap.Ns builtinsNs mb) (hbb:∀ x:Str,x≠"__name__"->mb x=bootBuiltins x) (hlim:s₁.heap.NoLimit) (hdig:s₁.heap.NoDigits) (hg:s₁.gens=#[])
  (ha:s₁.heap.get? a=some { cls:=.type "list",data:=.seq vs.toArray }) (hi:IntsAre vs ns) (hl:ns.length<=sizeLine) (hr:Room k callerA)
  (F:∀ base:Heap,K.In base->base.Ns mainGlobals mg->FnOk P w K mg base CX k fa fd [x] sp) (hbind:∀ (s:Shared) (u:Value),BindsTo s fd ⟨[u],[]⟩ [(x,u)])
  (hsp:∀ H:Hp,nU H->SqL K H a (ns.map V.int)->sp [.ref a] H (λv _=>v=.bl true) λ_ _ _=>False)
  (hCX:∀ H e s',CX [] H s₁ (λ_ _ _=>False) e s'->False) :
  codeAny (model P w) callerA (.call (.ref fa) ⟨[.ref a],[]⟩) (λr s'=>r=.ok (.ret (.bool true))/\OldK s₁.heap s'.heap/\s'.os=s₁.os/\AllBare s'.gens) s₁:=by
 have rv:=ZiA hi
 have lenV:=hi.length
 -- from an abstract heap in which nothing but the script may be tracked
 have core:∀ H:Hp,nU H->SqL K H a (ns.map V.int)->HOk P w H s₁.heap->(∀ b,H b≠none->b=a)->(H a≠none->K.lookup a=none) ->
   codeAny (model P w) callerA (.call (.ref fa) ⟨[.ref a],[]⟩) (λr s'=>r=.ok (.ret (.bool true))/\OldK s₁.heap s'.heap/\s'.os=s₁.os/\AllBare s'.gens) s₁:=by
  intro H hO hS hok hA hK
  have base_of:∀ {b:Addr} {o:Obj},s₁.heap.get? b=some o->H b=none->(fR s₁.heap H).get? b=some o:=λe n=>Zmd e n
  have noA:∀ {b:Addr} {o:Obj} {es:Array DictEntry} {ep:Nat},s₁.heap.get? b=some o->o.data=.dict es ep->H b=none:=λ{b o es ep} e d=>by
   cases q:H b with
   | none=>rfl
   | some u =>
    have e':b=a:=hA b (by rw [q]; simp)
    subst e'
    rw [ha] at e; cases e
    have d':Data.seq vs.toArray _=Data.dict es ep:=d
    cases d'
  have nsK:∀ {b:Addr} {m:Str->Option Value},s₁.heap.Ns b m->(fR s₁.heap H).Ns b m:=λ{b m} hz0=>by
   obtain ⟨o,es,ep,e,d,r⟩:=hz0
   exact ⟨o,es,ep,base_of e (noA e d),d,r⟩
  have hKb:K.In (fR s₁.heap H):=λb o e=>base_of (KX b o e) (by
   cases q:H b with
   | none=>rfl
   | some u =>
    have e':b=a:=hA b (by rw [q]; simp)
    subst e'
    rw [hK (by rw [q]; simp)] at e; cases e)
  have hM:Mod K mg (fR s₁.heap H):=⟨hKb,nsK hns,⟨mb,nsK hb,hbb⟩,let ⟨mc,h1,h2⟩:=hlim; ⟨mc,nsK h1,h2⟩,let ⟨mc,h1,h2⟩:=hdig; ⟨mc,nsK h1,h2⟩⟩
  have e0:Env0 P w K mg (fR s₁.heap H) callerA [] s₁ H:=⟨rfl,hM,λb o e=>Zlf e,Nat.le_of_eq (Zmc _ _),trivial,λb hb=>absurd (show b∈([]:List Addr) from hb) (by simp),hok,.of_eq hg⟩
  refine codeAny_mono ((F _ hKb (nsK hns)).run callerA [] s₁ H ⟨[.ref a],[]⟩ [.ref a] [.ref a] _ _ hr e0 (hbind s₁ (.ref a)) (.cons rfl .nil) (hsp H hO hS)) λr s' h=>?_
  cases r with
  | error e=>exact (hCX H e s' h).elim
  | ok fl =>
   cases fl with
   | next=>exact False.elim h
   | brk=>exact False.elim h
   | cont=>exact False.elim h
   | ret u =>
    obtain ⟨v,H',os,bare,un,hok',r',q⟩:=h
    have q':v=.bl true:=q
    subst q'
    obtain rfl:u=Value.bool true:=r'
    refine ⟨rfl,OldK.of_keep λb o e=>?_,os,bare⟩
    cases q:H b with
    | none=>exact un.keep b o e q (by intro z; exact absurd (show b∈([]:List Addr) from z) (by simp)) (by simp)
    | some u =>
     rcases hO b with z | ⟨ob,xs,z⟩
     ·rw [q] at z; cases z
     ·have z2:=un.frzs b ob _ z
      obtain ⟨e1,_⟩:=hok b _ z
      obtain ⟨e2,_⟩:=hok' b _ z2
      rw [e] at e1; cases e1
      exact e2
 cases hk:K.lookup a with
 | some o =>
  -- the script is one of the module's own objects
  have e:=KX a o hk
  rw [ha] at e
  cases e
  refine core (λ_=>none) (λ_=>.inl rfl) (.inr ⟨_,vs.toArray,_,hk,rfl,rfl,rfl,by rw [List.size_toArray,lenV]; exact hl,by simpa using rv⟩) (λb u z=>by have z':(none:Option HO)=some u:=z; cases z') (λb z=>absurd rfl z) λz=>absurd rfl z
 | none =>
  refine core (λb=>if b=a then some (.frz { cls:=.type "list",data:=.seq vs.toArray } (.lst (ns.map V.int))) else none) (λb=>?_) (.inl (.inr ⟨{ cls:=.type "list",data:=.seq vs.toArray },if_pos rfl⟩)) (λb u z=>?_) (λb z=>?_) λ_=>hk
  ·by_cases hb:b=a
   ·exact .inr ⟨_,_,if_pos hb⟩
   ·exact .inl (if_neg hb)
  ·by_cases hb:b=a
   ·have z':=(if_pos hb).symm.trans z
    cases z'
    subst hb
    exact ⟨ha,by rw [List.length_map]; exact hl,vs,_,rv,ha⟩
   ·have z':=(if_neg hb).symm.trans z
    cases z'
  ·by_cases hb:b=a
   ·exact hb
   ·exact absurd (if_neg hb) z
noncomputable abbrev KOf {K:PySem.W.Frag} {h:Heap} (_:K.In h):PySem.W.Frag:=K
theorem Ziv {l:PySem.W.OpenLaw} {n k:Nat} {q:Program} {loose:List Str} {XP:(Str->Option Value)->Heap->Prop} {YP:World->Heap->Prop} {d:DefRec} {K:Params->PySem.W.Frag} {CX:World->eh} {sp:World->Sp} {x:Str}
  (hn:l.most=some n) (hn2:n<=sizeLine) (hdf:d.params.defaults=[]) (hr:Room k callerA)
  (hY:∀ (w:World) (h:Heap),YP w h->(K w.params).In h)
  (F:∀ (w:World) (mg:Str->Option Value) (fa:Addr) (h:Heap),(K w.params).In h->h.Ns mainGlobals mg->mg d.name=some (.ref fa) ->
   ∃ fd:FuncData,(∀ (s:Shared) (u:Value),BindsTo s fd ⟨[u],[]⟩ [(x,u)]) /\
    ∀ base:Heap,(K w.params).In base->base.Ns mainGlobals mg->FnOk l.prog w (K w.params) mg base (CX w) k fa fd [x] (sp w))
  (hsp:∀ (w:World) (H:Hp) (a:Addr) (ns:List Int),ns.length<=n->nU H->SqL (K w.params) H a (ns.map V.int)->sp w [.ref a] H (λv _=>v=.bl true) λ_ _ _=>False)
  (hCX:∀ (w:World) (H:Hp) (s:Shared) (e:Value) (s':Shared),CX w [] H s (λ_ _ _=>False) e s'->False) :
  PySem.W.WalkO q loose XP YP l.row.toRowW d [] (λf vs=>PySem.call f vs):=by
 refine Att.attach_call hn hdf λw s₀ s₁ mg mb fa o pm cd doc a vs ns G Y ho hd hcd hmg hobj hints hlen hg=>?_
 have KX:=hY w _ Y
 obtain ⟨fd,hb,hF⟩:=F w mg fa _ KX G.T.g hmg
 exact ZlT KX G.T.g G.T.b G.T.builtins G.T.nolimit G.T.nodigits hg hobj hints (Nat.le_trans hlen hn2) hr hF hb (λH hO hS=>hsp w H a ns hlen hO hS) λH e s'=>hCX w H s₁ e s'
theorem Ziu {l:PySem.W.OpenLaw} {n k:Nat} {q:Program} {loose:List Str} {XP:(Str->Option Value)->Heap->Prop} {YP:World->Heap->Prop} {d:DefRec} {K:Params->PySem.W.Frag} {CX:eh} {sp:PySem.W.Frag->Sp} {x:Str}
  (hn:l.most=some n) (hn2:n<=sizeLine) (hdf:d.params.defaults=[]) (hr:Room k callerA)
  (hY:∀ (w:World) (h:Heap),YP w h->(K w.params).In h)
  (F:∀ (w:World) (mg:Str->Option Value) (fa:Addr) (h:Heap),(K w.params).In h->h.Ns mainGlobals mg->mg d.name=some (.ref fa) ->
   ∃ fd:FuncData,(∀ (s:Shared) (u:Value),BindsTo s fd ⟨[u],[]⟩ [(x,u)]) /\
    ∀ base:Heap,(K w.params).In base->base.Ns mainGlobals mg->FnOk l.prog w (K w.params) mg base CX k fa fd [x] (sp (K w.params)))
  (hsp:∀ (K:PySem.W.Frag) (H:Hp) (a:Addr) (ns:List Int),ns.length<=n->nU H->SqL K H a (ns.map V.int)->sp K [.ref a] H (λv _=>v=.bl true) λ_ _ _=>False)
  (hCX:∀ (H:Hp) (s:Shared) (e:Value) (s':Shared),CX [] H s (λ_ _ _=>False) e s'->False) :
  PySem.W.WalkO q loose XP YP l.row.toRowW d [] (λf vs=>PySem.call f vs) :=
 Ziv (K:=K) (CX:=λ_=>CX) (sp:=λw=>sp (K w.params)) hn hn2 hdf hr hY F (λw H a ns h1 h2 h3=>hsp (K w.params) H a ns h1 h2 h3) λ_ H s e s'=>hCX H s e s'
noncomputable def jG (s:Stmt):Arguments:=match s with
 | .FunctionDef _ a _ _ _ _ _ _ _ _=>a
 | _=>{ posonlyargs:=[],args:=[],vararg:=none,kwonlyargs:=[],kw_defaults:=[],kwarg:=none,defaults:=[] }
noncomputable def fB (s:Stmt):List Stmt:=match s with
 | .FunctionDef _ _ b _ _ _ _ _ _ _=>b
 | _=>[]
noncomputable def aH (s:Stmt):Scope:=match s with
 | .FunctionDef _ _ _ _ _ _ sc _ _ _=>sc
 | _=>{ kind:=.function,names:=[],isGenerator:=false,isCoroutine:=false }
noncomputable abbrev gi:eh:=λ_ _ _ _ _ _=>False
noncomputable abbrev E0:XK:=λ_ _ _=>False
theorem ZkT {X:Cx}:rV gi X E0:=λ_ _ _ _ _ _ _ h=>h.elim
structure Fun (K:PySem.W.Frag) (x qual:Str) (st:Stmt) (f:Addr) (fd:FuncData):Prop where
 ex:∃ (oc:Value) (od:Option Addr) (kV doc pm:Value) (an:Option Addr) (cdv ct:Value) (osl:Array (Option Value)),
  fd=PySem.W.fnOf x qual (jG st) (fB st) (aH st) .none kV doc pm an cdv ct/\K.lookup f=some ⟨oc,od,.func fd,osl⟩/\PySem.W.codeIn K cdv qual=true
 kp:PySem.W.keepIn K (.ref f)=true
section
variable {P:Program} {w:World} {K:PySem.W.Frag} {mg:Str->Option Value} {base:Heap}
theorem Fun.ok {x qual:Str} {st:Stmt} {f:Addr} {fd:FuncData} {N ps:List Str} {k:Nat} {sp:Sp} (F:Fun K x qual st f fd) (S:FnScope N ps (aH st)) (len:∀ vs H Q E,sp vs H Q E->vs.length=ps.length)
  (hbody:∀ (cdv:Value) (A:Around) (outer:List Env) (s:Shared) (H:Hp) (vs:List V) (Q:VK) (E:XK),Room k (A.deeper (envOfC qual (aH st) s.heap.objs.size f cdv))->sp vs H Q E ->
   ∃ t,PSs (fU gi P w K mg base N qual (aH st) f cdv A outer s H E).nox (fB st) t/\t { nx:=λ_ H'=>Q .non H',rt:=Q } (start N vs) H):FnOk P w K mg base gi (k+1) f fd ps sp:=by
 obtain ⟨oc,od,kV,doc,pm,an,cdv,ct,osl,rfl,lk,hcd⟩:=F.ex
 refine Zml lk hcd S len λA outer s H vs Q E hr hsp=>?_
 obtain ⟨t,h,q⟩:=hbody cdv A outer s H vs Q E hr hsp
 exact ⟨t,h.nox,q⟩
theorem Fun.binds {x qual:Str} {st:Stmt} {f:Addr} {fd:FuncData} {ps:List Str} (F:Fun K x qual st f fd)
  (h:∀ (kV doc pm:Value) (an:Option Addr) (cdv ct:Value) (us:List Value),us.length=ps.length->bindArgs (PySem.W.fnOf x qual (jG st) (fB st) (aH st) .none kV doc pm an cdv ct) ⟨us,[]⟩=pure (ps.zip us)):Binds K fd ps []:=by
 obtain ⟨oc,od,kV,doc,pm,an,cdv,ct,osl,rfl,lk,hcd⟩:=F.ex
 exact .all (h kV doc pm an cdv ct)
theorem Zmk {x qual:Str} {st:Stmt} {f:Addr} {oc:Value} {od an:Option Addr} {osl:Array (Option Value)} {kV doc pm cdv ct:Value} (l:K.lookup f=some ⟨oc,od,.func (PySem.W.fnOf x qual (jG st) (fB st) (aH st) .none kV doc pm an cdv ct),osl⟩)
  (c:PySem.W.codeIn K cdv qual=true) (k:PySem.W.keepIn K (.ref f)=true):Fun K x qual st f (PySem.W.fnOf x qual (jG st) (fB st) (aH st) .none kV doc pm an cdv ct):=⟨⟨oc,od,kV,doc,pm,an,cdv,ct,osl,rfl,l,c⟩,k⟩
end
theorem mX {A:Around} {k:Nat} (hr:Room k A):A.units+1 < cLine:=Nat.lt_of_le_of_lt (Nat.add_le_add_left (by decide:1<=64) _) hr.units
section
variable {X:Cx}
theorem pv (i:Nat) {x:Str} {pos:Pos} (hN:X.N[i]?=some x:=by rfl) (hv:nO X.env.scope x:=by first | exact Or.inl rfl | exact Or.inr (Or.inl rfl) | exact Or.inr (Or.inr rfl)) (hd:(x == ("__debug__":Str))=false:=by decide)
  (hcd:(x == ("__classdict__":Str))=false:=by decide):PE X (.Name x pos) (cU i):=ZkG hN hv hd hcd
end
theorem mV {c A B:Prop} [Decidable c] (h1:c->A) (h2:¬ c->B):if c then A else B:=by
 by_cases h:c
 ·rw [if_pos h]
  exact h1 h
 ·rw [if_neg h]
  exact h2 h
noncomputable def Same (H H':Hp):Prop:=∀ b o,H b=some o->H' b=some o
theorem Same.refl (H:Hp):Same H H:=λ_ _ h=>h
theorem Same.seq {K:PySem.W.Frag} {H H':Hp} {a:Addr} {xs:List V} (e:Same H H') (h:SqL K H a xs):SqL K H' a xs:=by
 rcases h with (h | ⟨o,h⟩) | h
 ·exact .inl (.inl (e _ _ h))
 ·exact .inl (.inr ⟨o,e _ _ h⟩)
 ·exact .inr h
structure Blk where
 cl:List (Str×Addr)
 C:Addr
 s:Shared
 H:Hp
 fp:List Addr
 pn:List (Addr×Obj)
noncomputable def br (X:Cx) (N:List Str) (scope:Scope) (b:Blk):Cx where
 prog:=X.prog
 w:=X.w
 K:=X.K
 mg:=X.mg
 base:=X.base
 A:=X.A
 N:=N
 s₀:=b.s
 H₀:=b.H
 env:=compEnvC scope b.cl b.C X.env
 outer:=X.stack
 stack:=X.stack
 ex:=b.fp
 fn:=λx=>scope.names.lookup x == some .cell
 calm:=X.calm
 pn:=b.pn
 xe:=λ_ _=>False
noncomputable def bN (Nx ts:List Str) (ix:List Nat):List Str:=ts++ix.map λj=>(Nx[j]?).getD Str.empty
noncomputable def cC (n:Nat) (ix:List Nat) (σ:St):St:=List.replicate n none++ix.map λj=>(σ[j]?).getD none
structure BlkOk (Nx:List Str) (sc scope:Scope) (ix:List Nat):Prop where
 kind:scope.kind=.function
 cells:∀ y∈scope.names,y.2=.cell->scope.names.lookup y.1=some .cell
 locs:∀ y∈scope.names,y.2=.local->scope.names.lookup y.1=some .local
 frees:∀ y∈scope.names,y.2=.free->sc.names.lookup y.1=some .cell\/sc.names.lookup y.1=some .free
 caps:∀ j∈ix,j < Nx.length/\scope.names.lookup ((Nx[j]?).getD Str.empty)=some .free
theorem qw {env:Env} {f:Str×NameKind->List (Str×Addr)->Sem (ForInStep (List (Str×Addr)))}
  (h1:∀ n k r,k≠NameKind.free->f (n,k) r=pure (.yield r)) (h2:∀ n r c,env.cells.lookup n=some c->f (n,NameKind.free) r=pure (.yield ((n,c)::r))) :
  ∀ (names:List (Str×NameKind)) (acc:List (Str×Addr)),(∀ y∈names,y.2=.free->∃ c,env.cells.lookup y.1=some c)->(∀ x c,acc.lookup x=some c->env.cells.lookup x=some c) ->
   ∃ cl,forIn names acc f=pure cl/\(∀ x c,cl.lookup x=some c->env.cells.lookup x=some c)/\(∀ y∈names,y.2=.free->∃ c,cl.lookup y.1=some c)/\∀ x c,acc.lookup x=some c->∃ c',cl.lookup x=some c'
 | [],acc,_,ha=>⟨acc,rfl,ha,(λ_ h=>nomatch h),λx c h=>⟨c,h⟩⟩
 | (n,k)::names,acc,hn,ha=>by
  have hn':∀ y∈names,y.2=.free->∃ c,env.cells.lookup y.1=some c:=λy hy=>hn y (List.mem_cons_of_mem _ hy)
  by_cases hk:k=.free
  ·subst hk
   obtain ⟨c,hc⟩:=hn (n,.free) List.mem_cons_self rfl
   have ha':∀ x d,((n,c)::acc).lookup x=some d->env.cells.lookup x=some d:=λx d e=>by
    rw [List.lookup_cons] at e
    cases hx:x == n with
    | true =>
     rw [hx] at e
     have hxn:x=n:=by simpa using hx
     subst hxn
     cases e
     exact hc
    | false =>
     rw [hx] at e
     exact ha x d e
   obtain ⟨cl,e,p1,p2,p3⟩:=qw h1 h2 names ((n,c)::acc) hn' ha'
   refine ⟨cl,?_,p1,λy hy hf=>?_,λx d hx=>?_⟩
   ·rw [List.forIn_cons,h2 n acc c hc,pure_bind]
    exact e
   ·rcases List.mem_cons.mp hy with rfl | hy
    ·exact p3 n c (by simp)
    ·exact p2 y hy hf
   ·by_cases e1:x=n
    ·subst e1
     exact p3 x c (by simp)
    ·exact p3 x d (by rw [List.lookup_cons,beq_false_of_ne e1]; exact hx)
  ·obtain ⟨cl,e,p1,p2,p3⟩:=qw h1 h2 names acc hn' ha
   refine ⟨cl,?_,p1,λy hy hf=>?_,p3⟩
   ·rw [List.forIn_cons,h1 n k acc hk,pure_bind]
    exact e
   ·rcases List.mem_cons.mp hy with rfl | hy
    ·exact absurd hf hk
    ·exact p2 y hy hf
theorem nq {scope:Scope} {env:Env} (hn:∀ y∈scope.names,y.2=.free->∃ c,env.cells.lookup y.1=some c) :
  ∃ cl,closureFor scope env=pure cl/\(∀ x c,cl.lookup x=some c->env.cells.lookup x=some c)/\∀ y∈scope.names,y.2=.free->∃ c,cl.lookup y.1=some c:=by
 unfold closureFor
 have key:=qw (env:=env) (f:=λ(x:Str×NameKind) (r:List (Str×Addr))=>match x with
  | (name,kind)=>if (kind == NameKind.free)=true then (do let a <- cellOf env name; pure (ForInStep.yield ((name,a)::r))) else pure (ForInStep.yield r))
  (λn k r hk=>by
   have hb:(k == NameKind.free)=false:=by simpa using hk
   show (if (k == NameKind.free)=true then _ else _)=_
   rw [hb]
   rfl)
  (λn r c hc=>by
   show (do let a <- cellOf env n; pure (ForInStep.yield ((n,a)::r)))=_
   unfold cellOf
   rw [hc]
   rfl) scope.names [] hn (λx c h=>by simp at h)
 obtain ⟨cl,e,p1,p2,_⟩:=key
 refine ⟨cl,?_,p1,p2⟩
 show (forIn scope.names [] _ >>= λr=>pure r)=pure cl
 exact (congrArg (λt=>t >>= λr=>pure r) e).trans (pure_bind _ _)
section
variable {X:Cx} {pins:List (Addr×Obj)} {σ:St} {H:Hp} {s:Shared}
theorem Zj7 {scope:Scope} {env:Env} {x:Str} (h:scope.names.lookup x=some .free):(relabel scope env).names.lookup x=some .cell\/(relabel scope env).names.lookup x=some .free:=by
 unfold relabel
 show List.lookup x (scope.names.map _)=_\/List.lookup x (scope.names.map _)=_
 generalize scope.names=l at h
 induction l with
 | nil=>simp at h
 | cons p r ih =>
  obtain ⟨n,k⟩:=p
  rw [List.map_cons]
  cases hx:x == n with
  | true =>
   rw [List.lookup_cons,hx] at h
   have hk:k=.free:=by simpa using h
   subst hk
   by_cases hc:(NameKind.free == NameKind.free && env.scope.kind == .function && env.kindOf n == some .cell)=true
   ·refine .inl ?_
    show List.lookup x ((if (NameKind.free == NameKind.free && env.scope.kind == .function && env.kindOf n == some .cell)=true then (n,NameKind.cell) else (n,NameKind.free))::_)=_
    rw [if_pos hc,List.lookup_cons,hx]
   ·refine .inr ?_
    show List.lookup x ((if (NameKind.free == NameKind.free && env.scope.kind == .function && env.kindOf n == some .cell)=true then (n,NameKind.cell) else (n,NameKind.free))::_)=_
    rw [if_neg hc,List.lookup_cons,hx]
  | false =>
   rw [List.lookup_cons,hx] at h
   have key:∀ q:Str×NameKind,(q=(n,NameKind.cell)\/q=(n,k))->∀ l',List.lookup x (q::l')=List.lookup x l':=λq hq l'=>by
    rcases hq with rfl | rfl <;> rw [List.lookup_cons,hx]
   have hq:(if (k == NameKind.free && env.scope.kind == .function && env.kindOf n == some .cell)=true then (n,NameKind.cell) else (n,k))=(n,NameKind.cell)\/(if (k == NameKind.free && env.scope.kind == .function && env.kindOf n == some .cell)=true then (n,NameKind.cell) else (n,k))=(n,k):=by
    split
    ·exact .inl rfl
    ·exact .inr rfl
   rcases ih h with z | z
   ·exact .inl ((key _ hq _).trans z)
   ·exact .inr ((key _ hq _).trans z)
theorem Zj8 {scope:Scope} {env:Env} {x:Str} (h:(relabel scope env).names.lookup x=some .cell\/(relabel scope env).names.lookup x=some .free):∃ y∈scope.names,y.1=x/\(y.2=.free\/y.2=.cell):=by
 unfold relabel at h
 have h':List.lookup x (scope.names.map λ(n,k)=>if (k == .free && env.scope.kind == .function && env.kindOf n == some .cell) then (n,NameKind.cell) else (n,k))=some .cell\/List.lookup x (scope.names.map λ(n,k)=>if (k == .free && env.scope.kind == .function && env.kindOf n == some .cell) then (n,NameKind.cell) else (n,k))=some .free:=h
 clear h
 generalize scope.names=l at h'
 induction l with
 | nil=>simp at h'
 | cons p r ih =>
  obtain ⟨n,k⟩:=p
  rw [List.map_cons] at h'
  cases hx:x == n with
  | true =>
   have hxn:x=n:=by simpa using hx
   by_cases hk:k=.free
   ·exact ⟨(n,k),List.mem_cons_self,hxn.symm,.inl hk⟩
   ·
    have hb:(k == NameKind.free)=false:=by simpa using hk
    have e:(if (k == NameKind.free && env.scope.kind == .function && env.kindOf n == some .cell)=true then (n,NameKind.cell) else (n,k))=(n,k):=by
     rw [hb]
     rfl
    have h2:List.lookup x ((n,k)::r.map λ(n,k)=>if (k == .free && env.scope.kind == .function && env.kindOf n == some .cell) then (n,NameKind.cell) else (n,k))=some .cell\/List.lookup x ((n,k)::r.map λ(n,k)=>if (k == .free && env.scope.kind == .function && env.kindOf n == some .cell) then (n,NameKind.cell) else (n,k))=some .free:=by
     rw [<- e]
     exact h'
    rw [List.lookup_cons,hx] at h2
    rcases h2 with z | z
    ·exact ⟨(n,k),List.mem_cons_self,hxn.symm,.inr (Option.some.inj z)⟩
    ·exact absurd (Option.some.inj z) hk
  | false =>
   have hq:∀ q:Str×NameKind,(q=(n,NameKind.cell)\/q=(n,k))->∀ l',List.lookup x (q::l')=List.lookup x l':=λq hq l'=>by
    rcases hq with rfl | rfl <;> rw [List.lookup_cons,hx]
   have hqq:(if (k == NameKind.free && env.scope.kind == .function && env.kindOf n == some .cell)=true then (n,NameKind.cell) else (n,k))=(n,NameKind.cell)\/(if (k == NameKind.free && env.scope.kind == .function && env.kindOf n == some .cell)=true then (n,NameKind.cell) else (n,k))=(n,k):=by
    split
    ·exact .inl rfl
    ·exact .inr rfl
   obtain ⟨y,hy,e⟩:=ih (by
    rcases h' with z | z
    ·exact .inl ((hq _ hqq _).symm.trans z)
    ·exact .inr ((hq _ hqq _).symm.trans z))
   exact ⟨y,List.mem_cons_of_mem _ hy,e⟩
theorem Zhn:∀ (names:List (Str×NameKind)) (h:Heap) (acc:List (Str×Addr)),
  (∀ x c,(cellsFrom h.objs.size names acc).lookup x=some c->acc.lookup x=some c\/(h.objs.size<=c/\(pushCells h names).IsCell c none/\(x,NameKind.cell)∈names)) /\
  (∀ x,((x,NameKind.cell)∈names\/∃ c,acc.lookup x=some c)->∃ c,(cellsFrom h.objs.size names acc).lookup x=some c) /\
  (∀ x c,(x,NameKind.cell)∈names->(cellsFrom h.objs.size names acc).lookup x=some c->h.objs.size<=c) /\
  ((∀ x c,acc.lookup x=some c->c < h.objs.size)->(∀ x y c,acc.lookup x=some c->acc.lookup y=some c->x=y)->∀ x y c,(cellsFrom h.objs.size names acc).lookup x=some c->(cellsFrom h.objs.size names acc).lookup y=some c->x=y):=by
 intro names
 induction names with
 | nil=>intro h acc; exact ⟨λx c e=>.inl e,λx e=>by rcases e with e | e; cases e; exact e,λx c e=>(by cases e),λ_ i=>i⟩
 | cons p r ih =>
  obtain ⟨name,kind⟩:=p
  intro h acc
  unfold cellsFrom pushCells
  by_cases hk:kind=.cell
  ·subst hk
   have hk':((NameKind.cell == NameKind.cell)=true):=rfl
   rw [if_pos hk',if_pos hk']
   have ih':=ih (h.push { cls:=.type "cell",data:=.cell none }) ((name,h.objs.size)::acc)
   rw [Heap.size_push] at ih'
   obtain ⟨i1,i2,i4,i3⟩:=ih'
   refine ⟨λx c e=>?_,λx e=>?_,λx c e1 e2=>?_,λhb hi=>i3 (λx c e=>?_) λx y c e1 e2=>?_⟩
   ·rcases i1 x c e with z | ⟨z1,z2,z3⟩
    ·rw [List.lookup_cons] at z
     cases hx:x == name with
     | true =>
      rw [hx] at z
      have hxn:x=name:=by simpa using hx
      cases z
      exact .inr ⟨Nat.le_refl _,⟨_,pushCells_keeps _ _ _ _ (Heap.get?_push_size _ rfl),rfl⟩,by rw [hxn]; exact List.mem_cons_self⟩
     | false=>rw [hx] at z; exact .inl z
    ·exact .inr ⟨by omega,z2,List.mem_cons_of_mem _ z3⟩
   ·refine i2 x ?_
    by_cases hx:x=name
    ·exact .inr ⟨h.objs.size,by rw [List.lookup_cons,hx]; simp⟩
    ·rcases e with e | ⟨c,e⟩
     ·rcases List.mem_cons.mp e with q | q
      ·exact absurd (congrArg Prod.fst q) hx
      ·exact .inl q
     ·exact .inr ⟨c,by rw [List.lookup_cons,beq_false_of_ne hx]; exact e⟩
   ·rcases i1 x c e2 with z | ⟨z,_,_⟩
    ·rw [List.lookup_cons] at z
     cases hx:x == name with
     | true=>rw [hx] at z; cases z; exact Nat.le_refl _
     | false =>
      have hxn:x≠name:=by simpa using hx
      rcases List.mem_cons.mp e1 with q | q
      ·exact absurd (congrArg Prod.fst q) hxn
      ·exact Nat.le_of_succ_le (i4 x c q e2)
    ·exact Nat.le_of_succ_le z
   ·rw [List.lookup_cons] at e
    cases hx:x == name with
    | true=>rw [hx] at e; cases e; exact Nat.lt_succ_self _
    | false=>rw [hx] at e; exact Nat.lt_succ_of_lt (hb x c e)
   ·rw [List.lookup_cons] at e1 e2
    cases hx:x == name with
    | true =>
     have hxn:x=name:=by simpa using hx
     rw [hx] at e1
     cases e1
     cases hy:y == name with
     | true =>
      have hyn:y=name:=by simpa using hy
      rw [hxn,hyn]
     | false=>rw [hy] at e2; exact absurd (hb y _ e2) (Nat.lt_irrefl _)
    | false =>
     rw [hx] at e1
     cases hy:y == name with
     | true=>rw [hy] at e2; cases e2; exact absurd (hb x _ e1) (Nat.lt_irrefl _)
     | false=>rw [hy] at e2; exact hi x y c e1 e2
  ·have hk':¬ ((kind == NameKind.cell)=true):=by simpa using hk
   rw [if_neg hk',if_neg hk']
   obtain ⟨i1,i2,i4,i3⟩:=ih h acc
   refine ⟨λx c e=>?_,λx e=>i2 x ?_,λx c e1 e2=>?_,i3⟩
   ·rcases i1 x c e with z | ⟨z1,z2,z3⟩
    ·exact .inl z
    ·exact .inr ⟨z1,z2,List.mem_cons_of_mem _ z3⟩
   ·rcases e with e | e
    ·rcases List.mem_cons.mp e with q | q
     ·exact absurd (congrArg Prod.snd q).symm hk
     ·exact .inl q
    ·exact .inr e
   ·rcases List.mem_cons.mp e1 with q | q
    ·exact absurd (congrArg Prod.snd q).symm hk
    ·exact i4 x c q e2
theorem Zaf {M:Model} {A:Around} {E:Value->Shared->Prop} {s:Shared} {scope:Scope} {globals:Addr} {cl:List (Str×Addr)} {qual:Str} {outer:Env} {Q:Env->Shared->Prop}
  (h:Q { scope:=scope,locals:=s.heap.objs.size,globals:=globals,cells:=cellsFrom (s.heap.objs.size+1) scope.names cl,qual:=qual,func:=none,code:=outer.code,frame:=outer.frame,builtins:=outer.builtins } { s with heap:=pushCells (s.heap.push { cls:=.type "dict",data:=.dict #[] }) scope.names }) :
  wpAny M A (newFunctionEnv scope globals cl [] qual none .none (some outer)) Q E s:=by
 simp only [newFunctionEnv,Option.isSome_some,if_true]
 refine wpAny_bind (wpAny_alloc ?_)
 refine wpAny_bind (wpAny_layCells _ (λname kind cells=>by cases hkc:kind == NameKind.cell <;> simp [hkc]) _ _ _ _ ?_)
 rw [show ({ s with heap:=s.heap.push { cls:=.type "dict",data:=.dict #[] } }:Shared).heap.objs.size=s.heap.objs.size+1 from Heap.size_push ..]
 rw [List.forIn_nil]
 exact wpAny_bind (wpAny_pure (wpAny_pure h))
theorem Zob {Nx ts:List Str} {ix:List Nat} {i:Nat} {x:Str} (h:(bN Nx ts ix)[i]?=some x) (hi:ts.length<=i):∃ j,ix[i - ts.length]?=some j/\x=(Nx[j]?).getD Str.empty:=by
 unfold bN at h
 rw [List.getElem?_append_right hi,List.getElem?_map] at h
 cases e:ix[i - ts.length]? with
 | none=>rw [e] at h; cases h
 | some j=>rw [e] at h; exact ⟨j,rfl,(Option.some.inj h).symm⟩
theorem Zdt {scope:Scope} {cl:List (Str×Addr)} {fp:List Addr} {C:Addr} {h3:Heap} {tk:Nat} {m:Str->Option Value} {Nx ts:List Str} {ix:List Nat}
  (I:Inv X pins σ H s) (hNx:X.N=Nx) (ok:BlkOk Nx X.env.scope scope ix) (cs1:∀ x c,cl.lookup x=some c->X.env.cells.lookup x=some c\/(C < c/\h3.IsCell c none/\(x,NameKind.cell)∈scope.names)) (csI:∀ x y c,cl.lookup x=some c->cl.lookup y=some c->x=y) (cl2:∀ y∈scope.names,(y.2=.free\/y.2=.cell)->∃ c,cl.lookup y.1=some c) (csA:∀ x c,(x,NameKind.cell)∈scope.names->cl.lookup x=some c->C<=c)
  (hf:∀ b∈fp,fj X pins H b) (hfs:∀ b∈fp,b < s.heap.objs.size) (hC:s.heap.objs.size<=C) (kp:∀ b o,s.heap.get? b=some o->h3.get? b=some o) (hns:h3.Ns C m) :
  Inv (br X (bN Nx ts ix) scope ⟨cl,C,s,H,fp,X.pn++pins⟩) [] (cC ts.length ix σ) H { s with heap:=h3,toks:=tk }:=by
 have below:∀ {b:Addr},b < s.heap.objs.size->b≠C:=λhb=>Nat.ne_of_lt (Nat.lt_of_lt_of_le hb hC)
 have nstk:∀ b,b≠X.env.locals->b ∉ X.fs->b ∉ frs X.stack:=λb h1 h2 hb=>by
  rcases List.mem_cons.mp (I.stkSub b hb) with z | z
  ·exact h1 z
  ·exact h2 z
 refine ⟨⟨I.ok.mod,?_,I.ok.glob,I.ok.blt,hC,csI,λx hx=>?_,λx c hfn e=>Nat.le_trans hC (csA x c (PySem.mem_of_lookup (eq_of_beq hfn)) e),I.ok.hd,I.ok.frames,.inl rfl,λb hb=>⟨below (hfs b hb),λx c e=>by
  rcases cs1 x c e with z | ⟨z,_,_⟩
  ·exact (hf b hb).2.2.2.2.1 x c z
  ·exact Nat.ne_of_gt (Nat.lt_of_lt_of_le (hfs b hb) (Nat.le_trans hC (Nat.le_of_lt z)))⟩,I.bs,Nat.le_trans I.ok.bsz I.sz,λb o e hb=>?_,λb hb=>nstk b (hf b hb).2.1 (hf b hb).2.2.1,I.stack,I.stkFree⟩,
  rfl,I.bare,Un.kept kp,⟨m,hns,λi x v h1 h2 h3'=>?_⟩,λx c e=>?_,I.hok.fresh hC,λx c e=>by
  rcases cs1 x c e with z | ⟨z,_,_⟩
  ·exact I.freeC x c z
  ·exact I.hok.fresh (Nat.le_trans hC (Nat.le_of_lt z)),λp hp=>?_,I.hok.kept kp,?_⟩
 ·exact ok.kind
 ·have hx':(relabel scope X.env).names.lookup x=some .cell\/(relabel scope X.env).names.lookup x=some .free:=hx
  obtain ⟨y,hy,e1,e2⟩:=Zj8 hx'
  obtain ⟨c,hc⟩:=cl2 y hy e2
  exact ⟨c,by rw [<- e1]; exact hc⟩
 ·rcases (hf b hb).2.2.2.1 with z | z
  ·exact I.ok.noex b o e z
  ·exact absurd (Nat.lt_of_lt_of_le (Heap.lt_size e) (Nat.le_trans I.ok.bsz z)) (Nat.lt_irrefl _)
 ·have hi:ts.length<=i:=by
   rcases Nat.lt_or_ge i ts.length with z | z
   ·exfalso
    have h2':(cC ts.length ix σ)[i]?=some (some v):=h2
    unfold cC at h2'
    rw [List.getElem?_append_left (by simpa using z),List.getElem?_replicate] at h2'
    split at h2' <;> cases h2'
   ·exact z
  obtain ⟨j,hj,ex⟩:=Zob h1 hi
  have h2':(cC ts.length ix σ)[i]?=some (some v):=h2
  unfold cC at h2'
  rw [List.getElem?_append_right (by simpa using hi),List.getElem?_map,List.length_replicate,hj] at h2'
  have hσ:σ[j]?=some (some v):=by
   have q:(σ[j]?).getD none=some v:=Option.some.inj h2'
   cases e:σ[j]? with
   | none=>rw [e] at q; cases q
   | some w=>rw [e] at q; exact congrArg some q
  obtain ⟨hjl,hfree⟩:=ok.caps j (List.mem_of_getElem? hj)
  have hNj:X.N[j]?=some x:=by
   rw [hNx,ex,List.getElem?_eq_getElem hjl]
   rfl
  rw [<- ex] at hfree
  obtain ⟨c,hc⟩:=cl2 (x,.free) (PySem.mem_of_lookup hfree) (.inl rfl)
  have cl1:X.env.cells.lookup x=some c:=by
   rcases cs1 x c hc with z | ⟨_,_,z⟩
   ·exact z
   ·have:=ok.cells _ z rfl
    rw [hfree] at this
    cases this
  have kx:=ok.frees (x,.free) (PySem.mem_of_lookup hfree) rfl
  obtain ⟨m0,hn0,hl0⟩:=I.loc
  obtain ⟨u,ru,look⟩:=hl0 j x v hNj hσ (by rcases kx with z | z; exact .inr (.inl z); exact .inr (.inr z))
  refine ⟨u,ru,.inr ⟨Zj7 hfree,c,hc,?_⟩⟩
  rcases look with ⟨k1,_⟩ | ⟨_,c',hc',z⟩
  ·have k1':X.env.scope.names.lookup x=some .local:=k1
   rcases kx with z | z
   ·rw [k1'] at z; cases z
   ·rw [k1'] at z; cases z
  ·have e:=cl1
   rw [hc'] at e
   cases e
   obtain ⟨o,ho,hd⟩:=z
   exact ⟨o,kp _ _ ho,hd⟩
 ·rcases cs1 x c e with z | ⟨_,z,_⟩
  ·obtain ⟨v,o,ho,hd⟩:=I.cell x c z
   exact ⟨v,o,kp _ _ ho,hd⟩
  ·exact ⟨_,z⟩
 ·have hp':p∈X.pn++pins:=by simpa [br] using hp
  obtain ⟨e,n,ne,nf,d⟩:=I.pin p hp'
  exact ⟨kp _ _ e,n,below (Heap.lt_size e),nstk _ ne nf,d⟩
 ·show (cC ts.length ix σ).length=(bN Nx ts ix).length
  unfold cC bN
  simp
theorem Inv.track {D:Addr} {ys:List V} {its:List Value} {n:Nat} (I:Inv X pins σ H s) (hD:H D=none) (ho:s.heap.get? D=some { cls:=.type "list",data:=.seq its.toArray n }) (r:Vals ys its) (hz:ys.length<=sizeLine)
  (hL:D≠X.env.locals) (hs0:X.s₀.heap.objs.size<=D) (hc:∀ x c,X.env.cells.lookup x=some c->c≠D) (hp:∀ p∈X.pn++pins,p.1≠D):Inv X pins σ (upd H D (.lst ys)) s:=by
 have ne:∀ {b:Addr} {o:HO},H b=some o->b≠D:=λe=>cm e hD
 refine I.step (g':=s.gens) (d':=s.drawn) (t':=s.toks) (h':=s.heap) (ch:=[D]) (λb hb=>?_) (λb o _ _ _ e _=>e) (λb o _ _ _ e _=>⟨o.slots,e⟩) (λb o hb e n=>?_) (λb o _ e=>⟨o,e⟩)
  (λb xs e=>by rw [aL (ne e)]; exact e) (λb o u e=>by rw [aL (ne e)]; exact e) (λb ps e=>⟨#[],by rw [aL (ne e),e]; simp⟩) (λm hm=>hm) (λb u e=>?_) I.bare
 ·have e:b=D:=by simpa using hb
  subst e
  exact ⟨.inr hs0,hL,hc,hp⟩
 ·have hb':b≠D:=by simpa using hb
  rw [aL hb']
  exact n
 ·by_cases hb:b=D
  ·subst hb
   rw [bZ] at e
   cases e
   exact ⟨hz,its,n,r,ho⟩
  ·rw [aL hb] at e
   exact (I.hok b u e).stay (λc v _ q=>q) (λc q=>by rw [aL (ne q)]; exact q) λc xs q=>by rw [aL (ne q)]; exact q
end
theorem ZnB {prog:Program} {w:World} {A:Around} {R:Result->Shared->Prop} {s:Shared} {elt target iter:Expr} {scope:Scope} {pos:Pos} {it acc:Value} {env:Env} (J:Nat->Shared->Prop)
  (step:∀ k s0,J k s0->wpAny (model prog w) A (pyNext it) (λgot s1=>match got with
   | none=>R (.ok .next) s1
   | some v=>wpAny (model prog w) A (letOwnedTupleGo target it v) (λ_ s2=>wpAny (model prog w) A (assign target env v) (λ_ s3=>wpAny (model prog w) A (eval elt env) (λy s4 =>
     wpAny (model prog w) A (call (.builtin "list.append") [acc,y]) (λ_ s5=>∃ j,j < k/\J j s5) (λ_ _=>False) s4) (λ_ _=>False) s3) (λ_ _=>False) s2) (λ_ _=>False) s1) (λ_ _=>False) s0)
  (k:Nat) (h:J k s):codeAny (model prog w) A (.compLoop (.ListComp elt [⟨target,iter,[],0⟩] scope pos) 0 it acc env) R s:=by
 refine codeAny_loop rfl J (λk0 s0 hJ=>?_) k h
 show wpAny _ _ ((compTurn (.ListComp elt [⟨target,iter,[],0⟩] scope pos) 0 it acc env).onRaise (λx=>do noteFrame x env; theTreesLotGoes x)) _ _ s0
 apply wpAny_noted
 rw [compTurn_list1]
 refine wpAny_bind (wpAny_standAt (wpAny_bind (wpAny_mono (step k0 s0 hJ) (λgot s1 h1=>?_) λ_ _ z=>z.elim)))
 cases got with
 | none=>exact wpAny_pure h1
 | some v =>
  refine wpAny_bind (wpAny_mono h1 (λ_ s2 h2=>?_) λ_ _ z=>z.elim)
  refine wpAny_bind (wpAny_mono h2 (λ_ s3 h3=>?_) λ_ _ z=>z.elim)
  refine wpAny_bind (wpAny_bind (wpAny_mono h3 (λy s4 h4=>?_) λ_ _ z=>z.elim))
  exact wpAny_bind (wpAny_mono h4 (λ_ s5 h5=>wpAny_pure (wpAny_pure ⟨rfl,h5⟩)) λ_ _ z=>z.elim)
noncomputable def jY (wi:TI) (n:Nat) (ix:List Nat) (g:Blk->TG) (te:Blk->TE):TE:=λσ H Q=>wi σ H λJ H1=>∀ b:Blk,∃ W:Nat->Nat->St->List V->Hp->Prop,(∃ m,W 0 m (cC n ix σ) [] H1)/\∀ i m τ ys H2,W i m τ ys H2 ->
 (J.stop i H2/\∀ p v H',H2 p=none->v=V.ref p->H'=upd H2 p (.lst ys)->Q v H') \/
 (J.go i H2/\ys.length < sizeLine/\∀ x H3,J.yld i H2 x H3->g b x τ H3 λτ2 H4=>te b τ2 H4 λy H5=>∃ m',m' < m/\W (i+1) m' τ2 (ys++[y]) H5)
section
variable {X:Cx} {pins:List (Addr×Obj)} {σ:St} {H:Hp} {s:Shared}
theorem Zde {elt target iter:Expr} {scope:Scope} {pos:Pos} {Nx ts:List Str} {ix:List Nat} {g:Blk->TG} {te:Blk->TE} {cl:List (Str×Addr)} {s2:Shared} {itv:Value} {R:Value->Addr->Result->Shared->Prop}
  {E:Value->Shared->Prop} {Q:VK}
  (hc:X.calm=true) (hg:∀ b,PG (br X (bN Nx ts ix) scope b) target (g b)) (he:∀ b,PE (br X (bN Nx ts ix) scope b) elt (te b))
  (hNx:X.N=Nx) (ok:BlkOk Nx X.env.scope scope ix) (cl1:∀ x c,cl.lookup x=some c->X.env.cells.lookup x=some c) (cl2:∀ y∈scope.names,y.2=.free->∃ c,cl.lookup y.1=some c)
  (h2:nT X pins σ target (λJ H1=>∀ b:Blk,∃ W:Nat->Nat->St->List V->Hp->Prop,(∃ m,W 0 m (cC ts.length ix σ) [] H1)/\∀ i m τ ys H2,W i m τ ys H2 ->
   (J.stop i H2/\∀ p v H',H2 p=none->v=V.ref p->H'=upd H2 p (.lst ys)->Q v H') \/
   (J.go i H2/\ys.length < sizeLine/\∀ x H3,J.yld i H2 x H3->g b x τ H3 λτ2 H4=>te b τ2 H4 λy H5=>∃ m',m' < m/\W (i+1) m' τ2 (ys++[y]) H5)) itv s2)
  (hR:∀ (D C:Addr) (H':Hp) (s':Shared) (v:V),Inv X pins σ H' s'->v=.ref D->Q v H'->(∃ m,s'.heap.Ns C m)->H' C=none->C≠X.env.locals->X.s₀.heap.objs.size<=C->(∀ x c,X.env.cells.lookup x=some c->c≠C)->(∀ p∈X.pn++pins,p.1≠C) ->
   R (.ref D) C (.ok .next) s') :
  wpAny (model X.prog X.w) X.A (newList []) (λacc s₃=>wpAny (model X.prog X.w) X.A (newFunctionEnv scope X.env.globals cl [] X.env.qual none .none (some X.env)) (λcenv s₄ =>
   codeAny (model X.prog X.w) X.A (.compStart (.ListComp elt [⟨target,iter,[],0⟩] scope pos) 0 itv acc { cenv with scope:=relabel scope X.env }) (R acc cenv.locals) s₄) E s₃) E s2:=by
 obtain ⟨it,fp,tn,J,H1,e,I2,T,st2,f2,q2⟩:=h2
 subst e
 refine wpAny_newObj_type (Zaf ?_)
 dsimp only
 generalize hG:s2.heap.push { cls:=.type "list",dict:=none,data:=.seq ([]:List Value).toArray }=G
 have hGs:G.objs.size=s2.heap.objs.size+1:=by rw [<- hG,Heap.size_push]
 have hfs:∀ b∈fp,b < s2.heap.objs.size:=λb hb=>let ⟨o,e,_⟩:=T.obj _ _ st2 b hb; Heap.lt_size e
 have kpG:∀ b o,G.get? b=some o->(pushCells (G.push { cls:=.type "dict",data:=.dict #[] }) scope.names).get? b=some o:=λb o e=>pushCells_keeps _ _ _ _ (Heap.get?_push_of_some _ e)
 have hns3:(pushCells (G.push { cls:=.type "dict",data:=.dict #[] }) scope.names).Ns G.objs.size (λ_=>none):=(Heap.Ns.new G (.type "dict")).keeps (pushCells_keeps _ _)
 obtain ⟨sp1,sp2,sp4,sp3⟩:=Zhn scope.names (G.push { cls:=.type "dict",data:=.dict #[] }) cl
 rw [Heap.size_push] at sp1 sp2 sp3 sp4
 generalize hh3:pushCells (G.push { cls:=.type "dict",data:=.dict #[] }) scope.names=h3 at kpG hns3 sp1 ⊢
 have kp:∀ b o,s2.heap.get? b=some o->h3.get? b=some o:=λb o e=>kpG b o (by rw [<- hG]; exact Heap.get?_push_of_some _ e)
 have hD3:h3.get? s2.heap.objs.size=some { cls:=.type "list",data:=.seq ([]:List Value).toArray }:=kpG _ _ (by rw [<- hG]; exact Heap.get?_push_size _ rfl)
 have clB:∀ x c,cl.lookup x=some c->c < G.objs.size+1:=λx c e=>by
  obtain ⟨v,q⟩:=I2.cell x c (cl1 x c e)
  exact Nat.lt_succ_of_lt (Nat.lt_of_lt_of_le q.lt (by rw [hGs]; exact Nat.le_succ _))
 have csI:=sp3 clB λx y c e1 e2=>I2.ok.inj x y c (cl1 x c e1) (cl1 y c e2)
 have cs1:∀ x c,(cellsFrom (G.objs.size+1) scope.names cl).lookup x=some c->X.env.cells.lookup x=some c\/(G.objs.size < c/\h3.IsCell c none/\(x,NameKind.cell)∈scope.names):=λx c e=>by
  rcases sp1 x c e with z | ⟨z1,z2,z3⟩
  ·exact .inl (cl1 x c z)
  ·exact .inr ⟨by omega,z2,z3⟩
 have cs2:∀ y∈scope.names,(y.2=.free\/y.2=.cell)->∃ c,(cellsFrom (G.objs.size+1) scope.names cl).lookup y.1=some c:=λy hy hk=>by
  refine sp2 y.1 ?_
  rcases hk with z | z
  ·exact .inr (cl2 y hy z)
  ·exact .inl (by rw [<- z]; exact hy)
 have csA:∀ x c,(x,NameKind.cell)∈scope.names->(cellsFrom (G.objs.size+1) scope.names cl).lookup x=some c->G.objs.size<=c:=λx c e1 e2=>Nat.le_of_succ_le (sp4 x c e1 e2)
 generalize hcs:cellsFrom (G.objs.size+1) scope.names cl=cs at csI cs1 cs2 csA ⊢
 generalize hCe:G.objs.size=C at hns3 cs1 csA ⊢
 have hC:s2.heap.objs.size<=C:=by omega
 have hDC:s2.heap.objs.size≠C:=by omega
 let B:Blk:=⟨cs,C,s2,H1,fp,X.pn++pins⟩
 have I3:Inv (br X (bN Nx ts ix) scope B) [] (cC ts.length ix σ) H1 { s2 with heap:=h3 }:=Zdt I2 hNx ok cs1 csI cs2 csA f2 hfs hC kp hns3
 have fC:H1 s2.heap.objs.size=none:=I2.hok.fresh (Nat.le_refl _)
 have cellIn:∀ x c,cs.lookup x=some c->c≠s2.heap.objs.size:=λx c e=>by
  rcases cs1 x c e with z | ⟨z,_,_⟩
  ·obtain ⟨v,q⟩:=I2.cell x c z
   exact Nat.ne_of_lt q.lt
  ·exact Nat.ne_of_gt (Nat.lt_of_le_of_lt hC z)
 have pinIn:∀ p∈X.pn++pins,p.1 < s2.heap.objs.size:=λp hp=>Heap.lt_size (I2.pin p hp).1
 have nofrs:s2.heap.objs.size ∉ frs X.stack:=λhb=>by
  rcases List.mem_cons.mp (I2.stkSub _ hb) with z | z
  ·exact absurd I2.lt (by rw [<- z]; exact Nat.lt_irrefl _)
  ·exact I2.nofs (Nat.le_refl _) z
 -- a state with the list at its place,pinned
 have pinD:∀ {τ:St} {H':Hp} {s':Shared} {ob:Obj},Inv (br X (bN Nx ts ix) scope B) [] τ H' s'->s'.heap.get? s2.heap.objs.size=some ob->H' s2.heap.objs.size=none->(∀ v,ob.data≠.cell v)->Inv (br X (bN Nx ts ix) scope B) [(s2.heap.objs.size,ob)] τ H' s' :=
  λ{τ H' s' ob} I' ho hn hd=>I'.pins_of λp hp=>by
   have e:p=(s2.heap.objs.size,ob):=by simpa using hp
   subst e
   exact ⟨ho,hn,hDC,nofrs,hd⟩
 obtain ⟨W,⟨m0,w0⟩,turn⟩:=q2 B
 have stat:∀ {H':Hp} {ob:Obj},(∀ b∈fp,H' b=none)->∀ b∈fp,fj (br X (bN Nx ts ix) scope B) [(s2.heap.objs.size,ob)] H' b:=λ{H' ob} hn b hb=>by
  refine ⟨hn b hb,Nat.ne_of_lt (Nat.lt_of_lt_of_le (hfs b hb) hC),λz=>?_,.inl hb,λx c e=>by
   rcases cs1 x c e with z | ⟨z,_,_⟩
   ·exact (f2 b hb).2.2.2.2.1 x c z
   ·exact Nat.ne_of_gt (Nat.lt_of_lt_of_le (hfs b hb) (Nat.le_trans hC (Nat.le_of_lt z))),λp hp=>?_⟩
  ·rcases List.mem_cons.mp (I2.stkSub _ z) with q | q
   ·exact (f2 b hb).2.1 q
   ·exact (f2 b hb).2.2.1 q
  ·rcases List.mem_append.mp hp with z | z
   ·exact (f2 b hb).2.2.2.2.2 p z
   ·have e:p=(s2.heap.objs.size,ob):=by simpa using z
    subst e
    exact Nat.ne_of_gt (hfs b hb)
 have loop:∀ s4:Shared,s4={ s2 with heap:=h3 } ->
   codeAny (model X.prog X.w) X.A (.compLoop (.ListComp elt [⟨target,iter,[],0⟩] scope pos) 0 (.ref it) (.ref s2.heap.objs.size) (compEnvC scope cs C X.env)) (R (.ref s2.heap.objs.size) C) s4:=by
  rintro s4 rfl
  refine ZnB (λk s'=>∃ i τ ys its n H',Inv (br X (bN Nx ts ix) scope B) [(s2.heap.objs.size,({ cls:=.type "list",data:=.seq (List.toArray its) n }:Obj))] τ H' s'/\tn i s'.heap/\(∀ b∈fp,H' b=none)/\Vals ys its/\ys.length<=sizeLine/\W i k τ ys H') ?_ m0
   ⟨0,_,[],[],_,H1,pinD I3 hD3 fC (λv z=>by cases z),T.keep _ _ _ st2 λb hb o e=>kp b o e,λb hb=>(f2 b hb).1,.nil,Nat.zero_le _,w0⟩
  rintro k s5 ⟨i,τ,ys,its,n,H5,I5,st5,fr5,rv,hz,w5⟩
  rcases turn i k τ ys H5 w5 with ⟨stop,qn⟩ | ⟨go,hlt,step⟩
  ·refine thn (T.done (br X (bN Nx ts ix) scope B) rfl rfl rfl hc i _ s5 τ H5 _ I5 (stat fr5) st5 stop) λgot s6 hz0=>?_
   obtain ⟨hr,I6⟩:=hz0
   subst hr
   obtain ⟨ho,hn,_,_,_⟩:=I6.pin (s2.heap.objs.size,({ cls:=.type "list",data:=.seq (List.toArray its) n }:Obj)) (List.mem_append_right _ (by simp))
   have I7:Inv X pins σ H5 s6:=I2.call' (ch:=fp) (H':=H5) (by exact I6.os) I6.base I6.hok I6.bare λb hb=>⟨(f2 b hb).2.2.2.1,(f2 b hb).2.1,(f2 b hb).2.2.2.2.1,(f2 b hb).2.2.2.2.2⟩
   have hs0:X.s₀.heap.objs.size<=s2.heap.objs.size:=I2.sz
   have I8:=I7.track hn ho rv hz (Nat.ne_of_gt I2.lt) hs0 (λx c e z=>by
    obtain ⟨v,q⟩:=I2.cell x c e
    exact absurd q.lt (by rw [z]; exact Nat.lt_irrefl _)) (λp hp=>Nat.ne_of_lt (pinIn p hp))
   obtain ⟨m6,hm6,_⟩:=I6.loc
   refine hR _ C _ s6 _ I8 rfl (qn _ _ _ hn rfl rfl) ⟨m6,hm6⟩ ?_ (λz=>?_) (Nat.le_trans hs0 hC) (λx c e z=>?_) λp hp=>Nat.ne_of_lt (Nat.lt_of_lt_of_le (pinIn p hp) hC)
   ·rw [aL (Ne.symm hDC)]
    exact I6.free
   ·exact absurd (Nat.lt_of_lt_of_le I2.lt hC) (by rw [z]; exact Nat.lt_irrefl _)
   ·obtain ⟨v,q⟩:=I2.cell x c e
    exact absurd (Nat.lt_of_lt_of_le q.lt hC) (by rw [z]; exact Nat.lt_irrefl _)
  ·refine thn (T.item (br X (bN Nx ts ix) scope B) rfl rfl rfl hc i _ s5 τ H5 _ I5 (stat fr5) st5 go) λgot s6 hz0=>?_
   obtain ⟨u,hr,h6⟩:=hz0
   subst hr
   refine thn h6 λ_ s7 hz0=>?_
   obtain ⟨x,H7,I7,r7,y7,st7,fr7⟩:=hz0
   have I7':=I7.pinned (stat fr7) (T.obj _ _ st7)
   refine thn (hg B _ s7 τ H7 x u _ I7' r7 (step x H7 y7)) λ_ s8 hz0=>?_
   obtain ⟨τ8,H8,I8,q8⟩:=hz0
   refine thn (he B _ s8 τ8 H8 _ I8 q8) λy s9 hz0=>?_
   obtain ⟨vy,H9,I9,r9,m',hm',w9⟩:=hz0
   obtain ⟨ho,hn,_,_,_⟩:=I9.pin (s2.heap.objs.size,({ cls:=.type "list",data:=.seq (List.toArray its) n }:Obj)) (List.mem_append_right _ (List.mem_append_left _ (by simp)))
   have lenv:=rv.length
   refine wpAny_list_append_plain (l:=s2.heap.objs.size) ⟨n,ho⟩ (λh' hpl hsb=>?_) (by rw [List.size_toArray]; omega)
   obtain ⟨n',ho'⟩:=hpl
   have eobj:(its.toArray.push y)=List.toArray (its++[y]):=by simp
   rw [eobj] at ho'
   have I9':Inv (br X (bN Nx ts ix) scope B) [] τ8 H9 s9:=I9.pins_of λp hp=>absurd hp (by simp)
   have I10:Inv (br X (bN Nx ts ix) scope B) [] τ8 H9 { s9 with heap:=h' }:=I9'.turned (it:=s2.heap.objs.size) (t':=s9.toks) (λb o hb e=>(hsb.2 b hb).trans e) hn hDC (.inr (Nat.le_refl _)) cellIn (λp hp=>by
    have hp':p∈(X.pn++pins)++[]:=hp
    rw [List.append_nil] at hp'
    exact Nat.ne_of_lt (pinIn p hp'))
   refine ⟨m',hm',i+1,τ8,ys++[vy],its++[y],n',H9,pinD I10 ho' hn (λv z=>by cases z),?_,λb hb=>?_,rv.append (.cons r9 .nil),by rw [List.length_append]; show ys.length+1<=_; omega,w9⟩
   ·refine T.keep _ _ _ st7 λb hb o e=>?_
    have q:=(I9.pin (b,o) (List.mem_append_right _ (List.mem_append_right _ (gL hb e)))).1
    exact (hsb.2 b (Nat.ne_of_lt (hfs b hb))).trans q
   ·obtain ⟨o,e,d⟩:=T.obj _ _ st7 b hb
    exact (I9.pin (b,o) (List.mem_append_right _ (List.mem_append_right _ (gL hb e)))).2.1
 exact codeAny_compStart_list (loop _ rfl) (T.self X.A 0 _ _ _ (T.keep _ _ _ st2 λb hb o e=>kp b o e) (loop _ rfl))
theorem eJ {elt target iter:Expr} {scope:Scope} {pos:Pos} {wi:TI} {g:Blk->TG} {te:Blk->TE} (Nx:List Str) (ts:List Str) (ix:List Nat)
  (hc:X.calm=true) (hi:PI X target iter wi) (hg:∀ b,PG (br X (bN Nx ts ix) scope b) target (g b)) (he:∀ b,PE (br X (bN Nx ts ix) scope b) elt (te b))
  (hNx:X.N=Nx) (ok:BlkOk Nx X.env.scope scope ix) (hs:∀ x,foldedSetIterable iter X.env x=pure x:=by intro _; rfl) :
  PE X (.ListComp elt [⟨target,iter,[],0⟩] scope pos) (jY wi ts.length ix g te):=by
 intro pins s σ H Q I h
 obtain ⟨cl,hcl,cl1,cl2⟩:=nq (scope:=scope) (env:=X.env) λy hy hf=>I.ok.has y.1 (ok.frees y hy hf)
 rw [eval_ListComp]
 refine wpAny_comprehension_free (use:=none) rfl hs hcl ok.kind ok.locs (thn (hi pins s σ H _ I h) λv s1 h1=>thn h1 λitv s2 h2=>?_)
 refine Zde (R:=λacc C=>compPost (model X.prog X.w) X.A X.xe none (EP X pins σ Q) acc C) hc hg he hNx ok cl1 cl2 h2 ?_
 rintro D C H' s' v I' rfl q ⟨m,hm⟩ hn hL h0 hcl' hp
 exact ⟨m,hm,λh' hsb=>⟨.ref D,H',I'.turned (it:=C) (t':=s'.toks) (λb o hb e=>(hsb.2 b hb).trans e) hn hL (.inr h0) hcl' hp,rfl,q⟩⟩
theorem Zkq {elt target iter:Expr} {scope:Scope} {pos pos' spos:Pos} {wi:TI} {g:Blk->TG} {te:Blk->TE} {i:Nat} {x:Str} (Nx:List Str) (ts:List Str) (ix:List Nat)
  (hc:X.calm=true) (hN:X.N.Nodup) (hix:X.N[i]?=some x) (hx:X.env.scope.names.lookup x=some .local) (hi:PI X target iter wi) (hg:∀ b,PG (br X (bN Nx ts ix) scope b) target (g b)) (he:∀ b,PE (br X (bN Nx ts ix) scope b) elt (te b))
  (hNx:X.N=Nx) (ok:BlkOk Nx X.env.scope scope ix) (hsw:swapsWith (.ListComp elt [⟨target,iter,[],0⟩] scope pos) (some (.Name x pos')) spos.line X.env=pure true) (hs:∀ x,foldedSetIterable iter X.env x=pure x:=by intro _; rfl) :
  PS X (.Assign [.Name x pos'] (.ListComp elt [⟨target,iter,[],0⟩] scope pos) spos) (dL (jY wi ts.length ix g te) (eZ i)):=by
 intro pins s σ H D0 I h
 obtain ⟨cl,hcl,cl1,cl2⟩:=nq (scope:=scope) (env:=X.env) λy hy hf=>I.ok.has y.1 (ok.frees y hy hf)
 rw [exec_Assign_Name_used _ _ _ _ hsw]
 refine wpAny_bind (wpAny_standAt (wpAny_bind ?_))
 show wpAny _ X.A (do let _ <- comprehension (.ListComp elt [⟨target,iter,[],0⟩] scope pos) scope X.env _ (newList []) false (eval iter X.env) (some (assign (.Name x pos') X.env))) _ _ s
 refine wpAny_bind (thn (wpAny_comprehension_free (use:=some (assign (.Name x pos') X.env)) (Q:=λ_ s'=>SP X pins D0 .next s') rfl hs hcl ok.kind ok.locs (thn (hi pins s σ H _ I h) λv s1 h1=>thn h1 λitv s2 h2=>?_)) λ_ s' hq=>wpAny_pure (wpAny_pure hq))
 refine Zde (R:=λacc C=>compPost (model X.prog X.w) X.A X.xe (some (assign (.Name x pos') X.env)) (λ_ s'=>SP X pins D0 .next s') acc C) (Q:=λx H1=>eZ i x σ H1 D0.nx) hc hg he hNx ok cl1 cl2 h2 ?_
 rintro D C H' s' v I' rfl q ⟨m,hm⟩ hn hL h0 hcl' hp
 show wpAny _ X.A (assign (.Name x pos') X.env (.ref D)) _ _ _
 refine wpAny_assign_Name (oJ I' hN hix (.inl hx) (show RelV (.ref D) (.ref D) from rfl) (λs'' I'' hch=>?_) (.inr hx))
 obtain ⟨a,hsb,ha⟩:=hch
 have haC:C≠a:=by
  rcases ha with z | z
  ·rw [z]; exact hL
  ·exact λe=>hcl' _ _ z e.symm
 exact ⟨m,hm.sameBut hsb haC,λh'' hs''=>⟨_,H',I''.turned (it:=C) (t':=s''.toks) (λb o hb e=>(hs''.2 b hb).trans e) hn hL (.inr h0) hcl' hp,q⟩⟩
end
mutual
/-- the value bears the datum -/
inductive Dn (H:Hp):V->PyData->Prop
 | non:Dn H .non .none
 | bl (b:Bool):Dn H (.bl b) (.bool b)
 | int (i:Int):Dn H (.int i) (.int i)
 | str (x:Str):Dn H (.str x) (.str x)
 | tup {a:Addr} {xs:List V} {ds:List PyData}:H a=some (.tup xs)->DnAll H xs ds->Dn H (.ref a) (.tuple ds)
 | lst {a:Addr} {xs:List V} {ds:List PyData}:H a=some (.lst xs)->DnAll H xs ds->Dn H (.ref a) (.list ds)
 | dct {a:Addr} {ks:List (aA×V)} {ds:List PyData}:Rd H a (.dK ks)->DnAll H (ks.map (·.2)) ds->Dn H (.ref a) (.dict ((ks.map λk=>match k.1 with | .inl i=>PyData.int i | .inr x=>PyData.str x).zip ds))
inductive DnAll (H:Hp):List V->List PyData->Prop
 | nil:DnAll H [] []
 | cons {v:V} {vs:List V} {d:PyData} {ds:List PyData}:Dn H v d->DnAll H vs ds->DnAll H (v::vs) (d::ds)
end
mutual
theorem Dn.mono {H H':Hp} (e:∀ b o,H b=some o->H' b=some o):∀ {v:V} {d:PyData},Dn H v d->Dn H' v d
 | _,_,.non=>.non
 | _,_,.bl b=>.bl b
 | _,_,.int i=>.int i
 | _,_,.str x=>.str x
 | _,_,.tup h r=>.tup (e _ _ h) (DnAll.mono e r)
 | _,_,.lst h r=>.lst (e _ _ h) (DnAll.mono e r)
 | _,_,.dct h r=>.dct (h.imp (e _ _) λ⟨o,h⟩=>⟨o,e _ _ h⟩) (DnAll.mono e r)
theorem DnAll.mono {H H':Hp} (e:∀ b o,H b=some o->H' b=some o):∀ {vs:List V} {ds:List PyData},DnAll H vs ds->DnAll H' vs ds
 | _,_,.nil=>.nil
 | _,_,.cons r t=>.cons (Dn.mono e r) (DnAll.mono e t)
end
theorem DnAll.ints {H:Hp}:∀ ns:List Int,DnAll H (ns.map V.int) (ns.map PyData.int)
 | []=>.nil
 | n::ns=>.cons (.int n) (DnAll.ints ns)
theorem DnAll.length {H:Hp} {vs:List V} {ds:List PyData} (h:DnAll H vs ds):vs.length=ds.length:=by
 induction vs generalizing ds with
 | nil=>cases h; rfl
 | cons v vs ih=>cases h with | cons r t=>exact congrArg (·+1) (ih t)
theorem DnAll.append {H:Hp} {vs ws:List V} {ds es:List PyData} (h:DnAll H vs ds) (s:DnAll H ws es):DnAll H (vs++ws) (ds++es):=by
 induction vs generalizing ds with
 | nil=>cases h; exact s
 | cons v vs ih=>cases h with | cons r t=>exact .cons r (ih t)
mutual
/-- data without dicts -/
theorem Dn.reads {P:Program} {w:World} {H:Hp} {h:Heap} (ok:HOk P w H h):∀ {v:V} {d:PyData} {u:Value},Dn H v d->d.hasDict=false->RelV v u->∃ as,Reads h u d as
 | _,_,_,.non,_,r=>by cases r; exact ⟨_,.none⟩
 | _,_,_,.bl b,_,r=>by cases r; exact ⟨_,.bool b⟩
 | _,_,_,.int i,_,r=>by obtain ⟨t,rfl⟩:=r; exact ⟨_,.int i t⟩
 | _,_,_,.str x,_,r=>by obtain ⟨t,rfl⟩:=r; exact ⟨_,.str x t⟩
 | _,_,_,.tup e rs,hd,r=>by
  cases r
  obtain ⟨z,its,rv,o,h1,h2,n,h3⟩:=ok _ _ e
  obtain ⟨as,q⟩:=DnAll.reads ok rs (by simpa [PyData.hasDict] using hd) rv
  exact ⟨_,.tuple h1 h2 h3 (by simpa using q)⟩
 | _,_,_,.lst e rs,hd,r=>by
  cases r
  obtain ⟨z,its,n,rv,h1⟩:=ok _ _ e
  obtain ⟨as,q⟩:=DnAll.reads ok rs (by simpa [PyData.hasDict] using hd) rv
  exact ⟨_,.list h1 rfl rfl (by simpa using q)⟩
 | _,_,_,.dct e rs,hd,r=>by simp [PyData.hasDict] at hd
theorem DnAll.reads {P:Program} {w:World} {H:Hp} {h:Heap} (ok:HOk P w H h):∀ {vs:List V} {ds:List PyData} {us:List Value},DnAll H vs ds->PyData.hasDictAll ds=false->Vals vs us->∃ as,ReadsAll h us ds as
 | _,_,_,.nil,_,r=>by cases r; exact ⟨_,.nil⟩
 | _,_,_,.cons p t,hd,r=>by
  cases r with
  | cons r1 r2 =>
   simp only [PyData.hasDictAll,Bool.or_eq_false_iff] at hd
   obtain ⟨as,q⟩:=Dn.reads ok p hd.1 r1
   obtain ⟨bs,q2⟩:=DnAll.reads ok t hd.2 r2
   exact ⟨_,.cons q q2⟩
end
section
variable {X:Cx}
theorem gX {k:Nat} (hr:Room k X.A):dJ X (.builtin "repr") (λxs H Q=>∃ v d,xs=[v]/\Dn H v d/\d.hasDict=false/\d.showable=true/\d.depth<=32/\d.shown.length<=sizeLine/\Q (.str d.shown) H):=by
 intro pins s σ H xs us Q I r h
 obtain ⟨v,d,rfl,hd,hn,hs,hdp,hz,q⟩:=h
 obtain ⟨u,rfl,ru⟩:=eA r
 have hun:=hr.units
 have viaRef:∀ {a:Addr} {as:List Addr},Reads s.heap (.ref a) d as->wpAny (model X.prog X.w) X.A (call (.builtin "repr") [.ref a]) (EP X pins σ Q) X.xe s:=λ{a as} rd =>
  repr_of_reads' rd hs (PyData.noDict_hsm hn) hr.gd (by omega) (λ_ _ e=>e) (λh' u' tk hk=>⟨.str d.shown,H,I.kept hk,⟨_,rfl⟩,q⟩) hz
 obtain ⟨as,rd⟩:=Dn.reads I.hok hd hn ru
 cases rd with
 | none=>exact PySem.P.repr_of_none ⟨.str "None",H,I.tok _,⟨_,rfl⟩,q⟩
 | bool b=>exact PySem.P.repr_of_bool ⟨.str (if b then "True" else "False"),H,I.tok _,⟨_,rfl⟩,q⟩
 | int i t=>exact PySem.P.repr_of_int (by simpa [PyData.showable] using hs) ⟨.str (toString i),H,I.tok _,⟨_,rfl⟩,q⟩
 | str x t=>exact PySem.P.repr_of_str ⟨.str (reprText x),H,I.tok _,⟨_,rfl⟩,q⟩ hz
 | list h1 h2 h3 h4=>exact viaRef (.list h1 h2 h3 h4)
 | tuple h1 h2 h3 h4=>exact viaRef (.tuple h1 h2 h3 h4)
 | dict h1 h2 h3 h4 h5=>simp [PyData.hasDict] at hn
theorem Zk1 {k:Nat} (hr:Room k X.A):OpR X (compareOp .Eq) (λx y H Q=>∃ d e,Dn H x d/\Dn H y e/\SeqAt.shaped d=true/\SeqAt.shaped e=true/\Q (.bl (PyData.eqv d e)) H):=by
 intro pins s σ H x y v u Q I rx ry h
 obtain ⟨d,e,hd,he,sd,se,q⟩:=h
 obtain ⟨as,r1⟩:=Dn.reads I.hok hd (PyData.hasDict_of_canLay _ (SeqAt.canLay_of_shaped sd)) rx
 obtain ⟨bs,r2⟩:=Dn.reads I.hok he (PyData.hasDict_of_canLay _ (SeqAt.canLay_of_shaped se)) ry
 exact SeqAt.compareEq_shaped r1 r2 sd se hr.units ⟨.bl _,H,I,rfl,q⟩
theorem ZkW {k:Nat} (hr:Room k X.A):OpR X (compareOp .NotEq) (λx y H Q=>∃ d e,Dn H x d/\Dn H y e/\SeqAt.shaped d=true/\SeqAt.shaped e=true/\Q (.bl (!PyData.eqv d e)) H):=by
 intro pins s σ H x y v u Q I rx ry h
 obtain ⟨d,e,hd,he,sd,se,q⟩:=h
 obtain ⟨as,r1⟩:=Dn.reads I.hok hd (PyData.hasDict_of_canLay _ (SeqAt.canLay_of_shaped sd)) rx
 obtain ⟨bs,r2⟩:=Dn.reads I.hok he (PyData.hasDict_of_canLay _ (SeqAt.canLay_of_shaped se)) ry
 exact SeqAt.compareNe_shaped r1 r2 sd se hr.units ⟨.bl _,H,I,rfl,q⟩
theorem Zhr:dJ X (.type "range") (λxs H Q=>∃ i j:Int,xs=[.int i,.int j]/\∀ p,H p=none->Q (.ref p) (upd H p (.rng i j))):=by
 intro pins s σ H xs us Q I r h
 obtain ⟨i,j,rfl,q⟩:=h
 cases r with
 | cons r1 rr =>
  cases rr with
  | cons r2 rr =>
   cases rr
   obtain ⟨t,rfl⟩:=r1
   obtain ⟨u,rfl⟩:=r2
   refine call_range_2 ?_
   exact ⟨.ref s.heap.objs.size,_,I.laid (t':=s.toks+1) (λb o e=>Heap.get?_push_of_some _ e) (Nat.le_refl _) (show ObjOk X.prog X.w _ _ _ (.rng i j) from ⟨t,u,s.toks,Heap.get?_push_size _ rfl⟩),rfl,q _ (I.hok.fresh (Nat.le_refl _))⟩
noncomputable def eV (lo:Int) (n:Nat):List V:=(List.range n).map λ(k:Nat)=>V.int (lo+(k:Int))
theorem Ziz (lo:Int):∀ (n:Nat) (l:List Value),l.length=n->(∀ (j:Nat) (v:Value),l[j]?=some v->∃ t,v=Value.int (lo+(j:Int)) t)->Vals (eV lo n) l:=by
 intro n
 unfold eV
 induction n with
 | zero =>
  intro l hl _
  have e:l=[]:=List.length_eq_zero_iff.mp hl
  subst e
  exact .nil
 | succ n ih =>
  intro l hl hl2
  obtain ⟨l',x,rfl⟩:∃ l' x,l=l'++[x]:=⟨l.dropLast,l.getLast (by intro e; rw [e] at hl; cases hl),(List.dropLast_concat_getLast _).symm⟩
  have hl':l'.length=n:=by rw [List.length_append] at hl; simpa using hl
  rw [List.range_succ,List.map_append]
  refine Vals.append (ih l' hl' λj v hv=>hl2 j v (by rw [List.getElem?_append_left (List.getElem?_eq_some_iff.mp hv).1]; exact hv)) (.cons ?_ .nil)
  obtain ⟨t,e⟩:=hl2 n x (by rw [List.getElem?_append_right (by omega),hl',Nat.sub_self]; rfl)
  exact ⟨t,e⟩
end
end L2
set_option Elab.async false
set_option linter.all false
set_option maxRecDepth 100000
namespace L2
open PySem PySem.Spec PyProof.Rows
structure Def (K:PySem.W.Frag) (mg:Str->Option Value) (x:Str) (st:Stmt) (ps:List Str):Prop where
 ex:∃ f fd,Fun K x x st f fd/\mg x=some (.ref f)/\Binds K fd ps []
structure Callee (P:Program) (w:World) (K:PySem.W.Frag) (mg:Str->Option Value) (base:Heap) (x:Str) (k:Nat) (ps:List Str) (sp:Sp):Prop where
 ex:∃ f fd,FnOk P w K mg base gi k f fd ps sp/\mg x=some (.ref f)/\PySem.W.keepIn K (.ref f)=true/\Binds K fd ps []
section
variable {P:Program} {w:World} {K:PySem.W.Frag} {mg:Str->Option Value} {base:Heap}
theorem Def.ok {x:Str} {st:Stmt} {N ps:List Str} {k:Nat} {sp:Sp} (D:Def K mg x st ps) (S:FnScope N ps (aH st)) (len:∀ vs H Q E,sp vs H Q E->vs.length=ps.length)
  (hbody:∀ (f:Addr) (cdv:Value) (A:Around) (outer:List Env) (s:Shared) (H:Hp) (vs:List V) (Q:VK) (E:XK),Room k (A.deeper (envOfC x (aH st) s.heap.objs.size f cdv))->sp vs H Q E ->
   ∃ t,PSs (fU gi P w K mg base N x (aH st) f cdv A outer s H E).nox (fB st) t/\t { nx:=λ_ H'=>Q .non H',rt:=Q } (start N vs) H):Callee P w K mg base x (k+1) ps sp:=by
 obtain ⟨f,fd,F,hm,hb⟩:=D.ex
 exact ⟨f,fd,F.ok S len λcdv A outer s H vs Q E hr h=>hbody f cdv A outer s H vs Q E hr h,hm,F.kp,hb⟩
theorem ZmW {x:Str} {st:Stmt} {ps:List Str} {h:Heap} {f:Addr} {oc:Value} {od an:Option Addr} {osl:Array (Option Value)} {kV doc pm cdv ct:Value} (X:K.In h) (G:h.Ns mainGlobals mg)
  (a:PySem.W.nsIn K mainGlobals x=some (some (.ref f))) (l:K.lookup f=some ⟨oc,od,.func (PySem.W.fnOf x x (jG st) (fB st) (aH st) .none kV doc pm an cdv ct),osl⟩)
  (c:PySem.W.codeIn K cdv x=true) (k:PySem.W.keepIn K (.ref f)=true)
  (hb:∀ (kV doc pm:Value) (an:Option Addr) (cdv ct:Value) (us:List Value),us.length=ps.length->bindArgs (PySem.W.fnOf x x (jG st) (fB st) (aH st) .none kV doc pm an cdv ct) ⟨us,[]⟩=pure (ps.zip us)):Def K mg x st ps:=by
 have F:=Zmk (st:=st) l c k
 exact ⟨f,_,F,PySem.W.mg_of X G a,F.binds hb⟩
end
section
variable {X:Cx} {x:Str} {k:Nat} {ps:List Str} {sp:Sp} {e:Expr} {es:List Expr} {t:TA} {p pos:Pos}
theorem l8 (C:Callee X.prog X.w X.K X.mg X.base x k ps sp) (hr:Room k X.A) (hg:Gl X x) (ha:PA X (e::es) t) (hdb:(x == ("__debug__":Str))=false:=by decide)
  (he:starEach (e::es) X.env=(false,eval e X.env)::starEach es X.env:=by rfl) (hpl:(backTo pos (starEach es X.env)).any (·.1)=false:=by rfl):PE X (.Call (.Name x p) (e::es) [] pos) (Zaw sp [] E0 t):=by
 obtain ⟨f,fd,F,hm,hk,hb⟩:=C.ex
 exact ZkP F hr hg hm hk hb .nil ZkT ha hdb he hpl
theorem ZkM {i:Int} (hg:Gl X x) (h:∃ t,X.mg x=some (.int i t)) (hd:(x == ("__debug__":Str))=false:=by decide):PE X (.Name x pos) (tC (.int i)):=by
 obtain ⟨t,e⟩:=h
 exact ZkL hg e ⟨t,rfl⟩ hd
end
noncomputable def Zi3 (t:TS):TS:=λD σ H=>∃ J:St->Hp->Prop,t { D with nx:=J } σ H/\∀ σ' H',J σ' H'->D.nx σ' H'
noncomputable def Zi2 (t:TT):TT:=λσ H Q=>∃ J:Bool->Hp->Prop,t σ H J/\∀ b H',J b H'->Q b H'
section
variable {X:Cx} {st:Stmt} {e:Expr}
theorem PS.join {t:TS} (h:PS X st t):PS X st (Zi3 t):=by
 rintro pins s σ H D I ⟨J,q,hJ⟩
 refine thn (h pins s σ H _ I q) λf s' z=>?_
 cases f with
 | next=>obtain ⟨σ',H',I',q'⟩:=z; exact ⟨σ',H',I',hJ _ _ q'⟩
 | brk=>exact z
 | cont=>exact z
 | ret u=>exact z
theorem PT.join {t:TT} (h:PT X e t):PT X e (Zi2 t):=by
 rintro pins s σ H Q I ⟨J,q,hJ⟩
 refine thn (h pins s σ H _ I q) λb s' ⟨H',I',q'⟩=>⟨H',I',hJ _ _ q'⟩
end
section
variable {H:Hp} {p c:Addr} {a l b:Int}
end
noncomputable def Kept (p:Addr) (H H':Hp):Prop:=∀ b o,H b=some o->b≠p->H' b=some o
theorem Kept.refl {p:Addr} {H:Hp}:Kept p H H:=λ_ _ h _=>h
theorem Kept.pen {p:Addr} {H H':Hp} {o:HO} (a:Kept p H H'):Kept p H (upd H' p o):=λc u h n=>by
 rw [aL n]
 exact a c u h n
theorem Same.new {q:Addr} {H H':Hp} {o:HO} (a:Same H H') (hq:H' q=none):Same H (upd H' q o):=λc u h=>by
 have e:=a c u h
 rw [aL (cm e hq)]
 exact e
theorem Zbb (ns:List Int):SeqAt.shaped (.list (ns.map PyData.int))=true:=by
 have h1:PyData.canLayAll0 (ns.map PyData.int)=true:=by
  induction ns with
  | nil=>rfl
  | cons n r ih=>simp [PyData.canLayAll0,PyData.canLay0,ih]
 have h2:PyData.depthAll (ns.map PyData.int)=0:=by
  induction ns with
  | nil=>rfl
  | cons n r ih=>simp [PyData.depthAll,PyData.depth]; exact ih (by
    have:=h1
    simp [PyData.canLayAll0] at this
    exact this.2)
 simp [SeqAt.shaped,PyData.canLay0,PyData.depth,h1,h2]
end L2
set_option Elab.async false
set_option linter.all false
set_option maxRecDepth 100000
namespace L2
open PySem PySem.Spec PyProof.Rows
section
variable {prog:Program} {w:World} {A:Around} {E:Value->Shared->Prop} {s:Shared} {r:Addr} {a b c:Int} {t u v:Tok} {n:Nat}
theorem ZnC {Q:List Value->Shared->Prop} (hh:A.handled=none) (hr:IsRange s.heap r a b c t u v) (hs:Builtin.Range.small a b c=true) (hn:Builtin.Range.rangeSize a b c=n) (hl:n<=2 ^ 24)
  (hQ:∀ (h':Heap) (tk:Nat) (acc:Array Value),(∀ b o,s.heap.get? b=some o->h'.get? b=some o)->ItemsOf (λi v=>∃ t,v=.int (a+i * c) t) acc n->Q acc.toList { s with heap:=h',toks:=tk }):wpAny (model prog w) A (collect (.ref r)) Q E s:=by
 unfold collect; apply wpAny_bind; apply wpAny_runValue; refine codeAny_builtin F.entry_proto_collect ?_
 rw [Around.under_plainId F.plain_proto_collect _]
 show wpAny _ A.in1 (newList [] >>= λz=>again (.builtin "list.__iadd__" ⟨[z,.ref r],[]⟩)) _ _ s
 refine wpAny_bind (wpAny_newObj_type (wpAny_pure ⟨plainId_quiet F.plain_list_iadd _,codeAny_builtin F.entry_list_iadd ?_⟩))
 rw [Around.under_plainId F.plain_list_iadd _]
 show wpAny _ A.in1 (Builtin.List.listExtendWith (.ref s.heap.objs.size) (.ref r) (.ref s.heap.objs.size)) _ _ { s with heap:=s.heap.push { cls:=.type "list",data:=.seq ([]:List Value).toArray } }
 let R:Result->Shared->Prop:=λz s'=>match z with
  | .ok (.ret v)=>wpAny (model prog w) A (match v with
   | .ref q=>(do match (<- load q).data with
    | .seq xs _=>pure xs.toList
    | _=>unsupported "internal:collect")
   | _=>unsupported "internal:collect") Q E s'
  | .ok _=>False
  | .error e=>E e s'
 refine wpAny_extend_range (R:=R) (s:={ s with heap:=s.heap.push { cls:=.type "list",data:=.seq ([]:List Value).toArray } }) hh (Heap.get?_push_of_some _ hr) hs hn hl _ _ _ (show (s.heap.push { cls:=.type "list",data:=.seq ([]:List Value).toArray }).get? s.heap.objs.size=some { cls:=.type "list",data:=.seq #[] } from Heap.get?_push_size _ rfl) λh' tk acc c' hk hS hacc=>?_
 show wpAny _ A (load s.heap.objs.size >>= _) _ _ { s with heap:=h',toks:=tk }
 exact wpAny_bind (wpAny_load hS (wpAny_pure (hQ h' tk acc (λb o e=>hk b o (Nat.ne_of_lt (Heap.lt_size e)) (Heap.get?_push_of_some _ e)) hacc)))
theorem ZiJ {Q:Value->Shared->Prop} (hh:A.handled=none) (hr:IsRange s.heap r a b c t u v) (hs:Builtin.Range.small a b c=true) (hn:Builtin.Range.rangeSize a b c=n) (hl:n<=2 ^ 24)
  (hQ:∀ (h':Heap) (tk:Nat) (acc:Array Value),(∀ b o,s.heap.get? b=some o->h'.get? b=some o)->ItemsOf (λi v=>∃ t,v=.int (a+i * c) t) acc n->Q (.ref h'.objs.size) { s with heap:=h'.push { cls:=.type "tuple",data:=.seq acc },toks:=tk }) :
  wpAny (model prog w) A (call (.type "tuple") [.ref r]) Q E s:=by
 refine callType_codes (Q₁:=λz s1=>s1.TypeIs z "tuple"/\Q z s1) F.called_tuple (F.typeCall_tuple_1 _) F.entry_object_init ?_ λz s1 h1=>?_
 ·apply codeAny_of_tree
  show wpAny _ A.in1.in1 (do checkBuiltinCall "tuple.__new__" ⟨[.type "tuple",.ref r],[]⟩; again (.builtin "tuple.__new__" ⟨[.type "tuple",.ref r],[]⟩)) _ _ s
  refine wpAny_bind (wpAny_of_eq (F.newCall_tuple_1 _) (wpAny_pure ⟨plainId_quiet F.plain_tuple_new _,codeAny_builtin F.entry_tuple_new ?_⟩))
  rw [Around.under_plainId F.plain_tuple_new _]
  have f1:=sub_tuple_self; have f2:=init_tuple_lookup; have f3:=madeHere_tuple
  have fT:s.TypeIs (.ref r) "range":=⟨_,hr,rfl⟩
  wp_walk using wpAny_typeOf fT,ZnC (A:=A.in1.in1) hh hr hs hn hl
  intro h' tk acc hk hacc
  show wpAny _ _ (Builtin.Tuple.tupleExact acc.toList.toArray >>= λz=>ret z) _ _ _
  unfold Builtin.Tuple.tupleExact
  have e:acc.toList.toArray=acc:=by simp
  rw [e]
  refine wpAny_bind (wpAny_newObj_type (wpAny_pure ⟨⟨_,Heap.get?_push_size _ rfl,rfl⟩,hQ h' tk acc hk hacc⟩) ?_)
  show acc.size<=sizeLine
  rw [hacc.1,sizeLine_eq]
  exact hl
 ·exact ⟨h1.1,F.args_object_init_2 z _,object_init_meets F.called_tuple.init.lookup F.called_tuple.made (by decide) prog w A.in1 _ s1 ⟨h1.1,rfl,h1.2⟩⟩
end
section
variable {X:Cx}
theorem ZnK (hh:X.A.handled=none):dJ X (.type "tuple") (λxs H Q=>∃ a lo hi,xs=[.ref a]/\H a=some (.rng lo hi)/\-(2 ^ 62)<=lo/\lo < 2 ^ 62/\-(2 ^ 62)<=hi/\hi < 2 ^ 62/\(hi - lo).toNat<=1000/\∀ p,H p=none->Q (.ref p) (upd H p (.tup (eV lo (hi - lo).toNat)))):=by
 intro pins s σ H xs us Q I r h
 obtain ⟨a,lo,hi,rfl,ha,b1,b2,b3,b4,hn,q⟩:=h
 obtain ⟨u,rfl,ru⟩:=eA r
 cases ru
 obtain ⟨t,u,v,e⟩:=I.hok a _ ha
 have hsz:Builtin.Range.rangeSize lo hi 1=(((hi - lo).toNat:Nat):Int):=by rw [rangeSize_one]; split <;> omega
 refine ZiJ hh (r:=a) (t:=t) (u:=u) (v:=v) e (small_one b1 b2 b3 b4) hsz (by omega) λh' tk acc hk hacc=>?_
 have I1:Inv X pins σ H { s with heap:=h',toks:=tk }:=I.kept hk
 have hv:Vals (eV lo (hi - lo).toNat) acc.toList:=Ziz lo _ _ (by simpa using hacc.1) λj v hv=>by
  obtain ⟨t,e⟩:=hacc.2 j v (by simpa using hv)
  exact ⟨t,by rw [e,Int.mul_one]⟩
 have hz:(eV lo (hi - lo).toNat).length<=sizeLine:=by
  unfold eV
  rw [List.length_map,List.length_range]
  exact Nat.le_trans hn (by decide)
 refine ⟨.ref h'.objs.size,_,I1.laid (h':=h'.push { cls:=.type "tuple",data:=.seq acc }) (t':=tk) (λb o e=>Heap.get?_push_of_some _ e) (Nat.le_refl _) (show ObjOk X.prog X.w _ _ _ (.tup (eV lo (hi - lo).toNat)) from ⟨hz,acc.toList,hv,⟨_,Heap.get?_push_size _ rfl,rfl,0,by simp⟩⟩),rfl,q _ (I1.hok.fresh (Nat.le_refl _))⟩
theorem Zlk:fillsNumberSlot (.type "tuple") "mul"=pure false :=
 PySem.fillsNumberSlot_seq (id:="tuple.__mul__") (r:=some (.builtin "tuple.__rmul__")) PySem.F.slot_tuple_mul.lookup (by decide +kernel) PySem.F.slot_tuple_rmul.lookup (by decide +kernel)
theorem Zj4:seqRepeat? (.type "tuple")=pure (some (.builtin "tuple.__mul__")):=by
 unfold seqRepeat?
 rw [PySem.seqSlot_of (T:="tuple") (name:="__mul__") (id:="tuple.__mul__") PySem.F.slot_tuple_mul.lookup (by decide +kernel),PySem.seqSlot_of (T:="tuple") (name:="__rmul__") (id:="tuple.__rmul__") PySem.F.slot_tuple_rmul.lookup (by decide +kernel)]; rfl
theorem Zj2 (x:Int) (t:Tok) (l:Addr) (items:Array Value) (n:Nat) (dd:Option Addr) (sl:Array (Option Value)) :
  Meets (Builtin.«int.__rmul__» ⟨[.int x t,.ref l],[]⟩) (λ_ R s=>s.heap.get? l=some { cls:=.type "tuple",dict:=dd,data:=.seq items n,slots:=sl }/\R (.ok (.ret Value.notImplemented)) s):=by
 refine .of_wp λprog w A R s h=>?_
 obtain ⟨hp,g,d,tk,os⟩:=s
 obtain ⟨hl,h⟩:=h
 wp_walk
 exact ⟨_,rfl,h⟩
theorem Zlq (x:Int) (t:Tok) (l:Addr) (items:Array Value) (n:Nat) (dd:Option Addr) (sl:Array (Option Value)) (h1:1 < x) (h2:x<=1000) (h3:items.isEmpty=false) (h4:items.size<=1000) :
  Meets (Builtin.«tuple.__mul__» ⟨[.ref l,.int x t],[]⟩) (λ_ R s=>s.heap.get? l=some { cls:=.type "tuple",dict:=dd,data:=.seq items n,slots:=sl } /\
   R (.ok (.ret (.ref s.heap.objs.size))) { s with heap:=s.heap.push { cls:=.type "tuple",data:=.seq ((List.replicate x.toNat items).foldl (·++·) #[]) } }):=by
 refine .of_wp λprog w A R s h=>?_
 obtain ⟨hp,g,d,tk,os⟩:=s
 obtain ⟨hl,h⟩:=h
 have hp0:0<=(items.size:Int) * x:=Int.mul_nonneg (by omega) (by omega)
 have hp1:(items.size:Int) * x<=1000 * 1000:=Int.mul_le_mul (by omega) h2 (by omega) (by omega)
 have hne:items.size≠0:=λe=>by simp [Array.isEmpty,e] at h3
 wp_walk
 refine wpAny_ite_split (λz=>absurd z (by simp; omega)) (λ_=>?_)
 refine wpAny_bind ?_
 unfold Builtin.Tuple.tupleItemsOf
 refine wpAny_bind (wpAny_seqItems hl rfl (wpAny_pure ?_))
 refine wpAny_ite_split (λz=>absurd z (by rw [h3]; simp; omega)) (λ_=>?_)
 refine wpAny_ite_split (λz=>absurd z (by rw [h3]; simp; omega)) (λ_=>?_)
 refine wpAny_ite_split (λz=>absurd z (by omega)) (λ_=>?_)
 refine wpAny_ite_split (λz=>absurd z (by unfold Builtin.Tuple.tupleTooMany; rw [sizeLine_eq]; simp; omega)) (λ_=>?_)
 unfold Builtin.Tuple.tupleExact
 have hlen:∀ k:Nat,((List.replicate k items).foldl (·++·) #[]).size=k * items.size:=λk=>by
  have key:∀ (k:Nat) (acc:Array Value),((List.replicate k items).foldl (·++·) acc).size=acc.size+k * items.size:=by
   intro k
   induction k with
   | zero=>intro acc; simp
   | succ k ih =>
    intro acc
    rw [List.replicate_succ,List.foldl_cons,ih,Array.size_append,Nat.succ_mul]
    omega
  simpa using key k #[]
 refine wpAny_bind (wpAny_newObj_type (wpAny_pure ⟨_,rfl,h⟩) ?_)
 show ((List.replicate x.toNat items).foldl (·++·) #[]).size<=sizeLine
 rw [hlen,sizeLine_eq]
 have hx:x.toNat<=1000:=by omega
 exact Nat.le_trans (Nat.mul_le_mul hx h4) (by decide)
noncomputable def ZbY (K:PySem.W.Frag):R2:=λx y H Q=>∃ a k xs,x=.ref a/\y=.int k/\SqT K H a xs/\1 < k/\k<=1000/\xs≠[]/\xs.length<=1000/\∀ p,H p=none->Q (.ref p) (upd H p (.tup (List.replicate k.toNat xs).flatten))
theorem Zap {xs:List V} {us:List Value} (r:Vals xs us):∀ k:Nat,Vals (List.replicate k xs).flatten (List.replicate k us).flatten
 | 0=>.nil
 | k+1=>by
  rw [List.replicate_succ,List.replicate_succ,List.flatten_cons,List.flatten_cons]
  exact r.append (Zap r k)
theorem ZkV:OpR X (binaryOp .Mult) (ZbY X.K):=by
 intro pins s σ H x y v u Q I rx ry h
 obtain ⟨a,k,xs,rfl,rfl,hq,h1,h2,hne,hl,q⟩:=h
 cases rx
 obtain ⟨t,rfl⟩:=ry
 obtain ⟨its,rv,p,hz⟩:=I.tuple hq
 obtain ⟨o,ho,hc,n,hd⟩:=p
 obtain ⟨oc,od,odd,osl⟩:=o
 have hc':oc=.type "tuple":=hc
 have hd':odd=.seq its.toArray n:=hd
 subst hc' hd'
 have hlen:=rv.length
 have hemp:its.toArray.isEmpty=false:=by
  cases its with
  | nil=>cases rv; exact absurd rfl hne
  | cons i r=>rfl
 have efl:(List.replicate k.toNat its.toArray).foldl (·++·) #[]=(List.replicate k.toNat its).flatten.toArray:=by
  have key:∀ (k:Nat) (acc:Array Value),(List.replicate k its.toArray).foldl (·++·) acc=acc++(List.replicate k its).flatten.toArray:=by
   intro k
   induction k with
   | zero=>intro acc; simp
   | succ k ih =>
    intro acc
    rw [List.replicate_succ,List.foldl_cons,ih,List.replicate_succ,List.flatten_cons]
    simp
  simpa using key k.toNat #[]
 refine wpAny_binaryOp_repeat_ref (T:="tuple") (U:="int") (by decide) ⟨_,ho,rfl⟩ (λs'=>typeIs_int s' k t) Zlk PySem.F.fills_int_mul PySem.F.slot_int_rmul Zj4 PySem.F.slot_int_index.lookup ?_
 refine call_meets PySem.F.slot_int_rmul (typeIs_int s k t) PySem.F.entry_int_rmul (PySem.F.args_int_rmul_2 _ _) (Zj2 k t a its.toArray n od osl) ⟨ho,rfl,⟨_,ho,rfl⟩,?_⟩
 refine call_meets PySem.F.slot_tuple_mul ⟨_,ho,rfl⟩ PySem.F.entry_tuple_mul (PySem.F.args_tuple_mul_2 _ _) (Zlq k t a its.toArray n od osl h1 h2 hemp (by rw [List.size_toArray]; omega)) ⟨ho,?_⟩
 rw [efl]
 have hzz:(List.replicate k.toNat xs).flatten.length<=sizeLine:=by
  have hx:k.toNat<=1000:=by omega
  have e:(List.replicate k.toNat xs).flatten.length=k.toNat * xs.length:=by simp
  rw [e,sizeLine_eq]
  exact Nat.le_trans (Nat.mul_le_mul hx hl) (by decide)
 exact ⟨.ref s.heap.objs.size,_,I.laid (t':=s.toks) (λb o e=>Heap.get?_push_of_some _ e) (Nat.le_refl _) (show ObjOk X.prog X.w _ _ _ (.tup (List.replicate k.toNat xs).flatten) from ⟨hzz,_,Zap rv k.toNat,IsTup.new _ _⟩),rfl,q _ (I.hok.fresh (Nat.le_refl _))⟩
end
end L2
set_option Elab.async false
set_option linter.all false
set_option maxRecDepth 100000
namespace L2
open PySem PySem.Spec PyProof.Rows
theorem Zc0 {n:Nat} (h:n < 2 ^ 1900):n.log2 < 1900:=by
 by_cases h0:n=0
 ·rw [h0]; decide
 ·exact (Nat.log2_lt h0).mpr h
theorem Zju {i:Int} (h:i.natAbs < 2 ^ 1900):(PyData.int i).shown.length<=1901:=by
 have e:=int_text_length_le (k:=1900) (by decide) (Zc0 h)
 have q:(Str.ofString (toString i)).length<=1901:=by rw [PySem.ofString_length]; exact e
 simpa [PyData.shown] using q
theorem Za9:∀ (ns:List Int),(∀ n∈ns,n.natAbs < 2 ^ 1900)->((PyData.shownAll (ns.map PyData.int)).map (·.length)).sum<=ns.length * 1901/\(PyData.shownAll (ns.map PyData.int)).length=ns.length
 | [],_=>⟨by simp [PyData.shownAll],rfl⟩
 | n::r,h=>by
  obtain ⟨h1,h2⟩:=Za9 r λx hx=>h x (List.mem_cons_of_mem _ hx)
  have h3:=Zju (h n List.mem_cons_self)
  rw [List.map_cons,PyData.shownAll,List.map_cons,List.sum_cons,List.length_cons,List.length_cons,h2,Nat.succ_mul]
  exact ⟨by omega,rfl⟩
theorem Zba:∀ (ns:List Int),(∀ n∈ns,n.natAbs < 2 ^ 1900)->PyData.showableAll (ns.map PyData.int)=true
 | [],_=>rfl
 | n::r,h=>by
  rw [List.map_cons,PyData.showableAll,Zba r λx hx=>h x (List.mem_cons_of_mem _ hx),Bool.and_true]
  have q:=Zc0 (h n List.mem_cons_self)
  simp only [PyData.showable,decide_eq_true_eq]
  omega
noncomputable def au (lo:Int) (n:Nat):List Int:=(List.range n).map λ(k:Nat)=>lo+(k:Int)
theorem Zka (lo:Int) (n:Nat):eV lo n=(au lo n).map V.int:=by
 unfold eV au
 rw [List.map_map]
 rfl
theorem gw (lo:Int) (n:Nat):(au lo n).length=n:=by
 unfold au
 rw [List.length_map,List.length_range]
theorem Zkb {lo x:Int} {n:Nat} (h:x∈au lo n):lo<=x/\x < lo+n:=by
 unfold au at h
 obtain ⟨k,hk,rfl⟩:=List.mem_map.mp h
 have:=List.mem_range.mp hk
 omega
end L2
set_option Elab.async false
set_option linter.all false
set_option maxRecDepth 100000
namespace L2
open PySem PySem.Spec PyProof.Rows
noncomputable def CMulG (i j:Int):Prop:=i.natAbs < 2 ^ 8000/\j.natAbs < 2 ^ 8000
noncomputable def Ziq (i j:Int):Prop:=j≠0/\j.natAbs < 2 ^ 8000
theorem ZhA {x:Int} (h:x.natAbs < 2 ^ 8000):Builtin.Int.intBits x<=8000:=by
 unfold Builtin.Int.intBits
 split
 ·exact Nat.zero_le _
 ·rename_i hx
  have h0:x.natAbs≠0:=by
   intro z
   have e:x=0:=Int.natAbs_eq_zero.mp z
   rw [e] at hx
   exact hx rfl
  exact (Nat.log2_lt h0).mpr h
theorem CMulG.ok {i j:Int} (h:CMulG i j):IntMulOk i j:=by
 have h1:=ZhA h.1
 have h2:=ZhA h.2
 unfold IntMulOk
 have e:Builtin.Int.intTooBig ((Builtin.Int.intBits i+Builtin.Int.intBits j:Nat):Int)=false:=by
  unfold Builtin.Int.intTooBig
  refine decide_eq_false ?_
  have hb:((16000:Nat):Int)<=(bitsLine:Int):=by decide
  omega
 intro z
 rw [Bool.and_eq_true] at z
 have z2:Builtin.Int.intTooBig ((Builtin.Int.intBits i+Builtin.Int.intBits j:Nat):Int)=true:=z.2
 rw [e] at z2
 cases z2
section
variable {X:Cx}
theorem ZkY:OpR X (binaryOp .Mult) (rI CMulG λi j=>.int (i * j)):=ir λ_ _ _ _ _ _ _ hc q=>mul_int q hc.ok
theorem jj:OpR X (binaryOp .FloorDiv) (rI Ziq λi j=>.int (i.fdiv j)):=ir λi j _ _ _ _ _ hc q=>by
 refine floordiv_int hc.1 q (.inl (PyProof.noPylong_of_log2 ?_))
 by_cases h0:j.natAbs=0
 ·exact absurd (Int.natAbs_eq_zero.mp h0) hc.1
 ·exact Nat.lt_trans ((Nat.log2_lt h0).mpr hc.2) (by decide)
end
end L2
set_option Elab.async false
set_option linter.all false
set_option maxRecDepth 100000
namespace Gc
noncomputable def gR (a b:Int):Int:=((Nat.gcd a.natAbs b.natAbs:Nat):Int)
noncomputable def den (t b:Int):Int:=if b < 0 then -gR t b else gR t b
noncomputable def b8 (t b:Int):Int:=t.fdiv (den t b)
noncomputable def bQ (t b:Int):Int:=b.fdiv (den t b)
theorem qt {t b:Int} (h:b≠0):0 < Nat.gcd t.natAbs b.natAbs:=Nat.gcd_pos_of_pos_right _ (by omega)
theorem la {t b:Int} (h:b≠0):den t b≠0:=by
 have:=qt (t:=t) h
 unfold den gR
 split <;> omega
theorem qK (t b:Int):(den t b).natAbs=Nat.gcd t.natAbs b.natAbs:=by
 unfold den gR
 split <;> omega
theorem kP {t b:Int} (h:b≠0):t=den t b * b8 t b/\b=den t b * bQ t b/\0 < bQ t b/\Nat.gcd (b8 t b).natAbs (bQ t b).natAbs=1:=by
 have hd:=la (t:=t) h
 have ha:=qK t b
 have hg:=qt (t:=t) h
 have d1:den t b ∣ t:=Int.natAbs_dvd_natAbs.mp (by rw [ha]; exact Nat.gcd_dvd_left _ _)
 have d2:den t b ∣ b:=Int.natAbs_dvd_natAbs.mp (by rw [ha]; exact Nat.gcd_dvd_right _ _)
 obtain ⟨x,hx⟩:=d1
 obtain ⟨y,hy⟩:=d2
 have e1:b8 t b=x:=by
  show t.fdiv (den t b)=x
  generalize den t b=d at hd hx
  rw [hx]
  exact Int.mul_fdiv_cancel_left _ hd
 have e2:bQ t b=y:=by
  show b.fdiv (den t b)=y
  generalize den t b=d at hd hy
  rw [hy]
  exact Int.mul_fdiv_cancel_left _ hd
 rw [e1,e2]
 refine ⟨hx,hy,?_,?_⟩
 ·have hb:(0 < b/\0 < den t b)\/(b < 0/\den t b < 0):=by
   unfold den gR
   split <;> omega
  rcases hb with ⟨p,q⟩ | ⟨p,q⟩
  ·rcases (show 0 < y\/y<=0 by omega) with z | z
   ·exact z
   ·exfalso
    have:=Int.mul_nonneg (Int.le_of_lt q) (show 0<=-y by omega)
    rw [Int.mul_neg,<- hy] at this
    omega
  ·rcases (show 0 < y\/y<=0 by omega) with z | z
   ·exact z
   ·exfalso
    have:=Int.mul_nonneg (show 0<=-den t b by omega) (show 0<=-y by omega)
    rw [Int.neg_mul_neg,<- hy] at this
    omega
 ·have h1:t.natAbs=Nat.gcd t.natAbs b.natAbs * x.natAbs:=by
   have:=congrArg Int.natAbs hx
   rw [Int.natAbs_mul,ha] at this
   exact this
  have h2:b.natAbs=Nat.gcd t.natAbs b.natAbs * y.natAbs:=by
   have:=congrArg Int.natAbs hy
   rw [Int.natAbs_mul,ha] at this
   exact this
  have h3:Nat.gcd t.natAbs b.natAbs=Nat.gcd t.natAbs b.natAbs * Nat.gcd x.natAbs y.natAbs:=by
   rw [<- Nat.gcd_mul_left,<- h1,<- h2]
  have h4:Nat.gcd t.natAbs b.natAbs * 1=Nat.gcd t.natAbs b.natAbs * Nat.gcd x.natAbs y.natAbs:=by rw [Nat.mul_one]; exact h3
  exact (Nat.eq_of_mul_eq_mul_left hg h4).symm
theorem pT {t b:Int} (h:b≠0):(b8 t b).natAbs<=t.natAbs/\(bQ t b).natAbs<=b.natAbs:=by
 obtain ⟨h1,h2,_,_⟩:=kP (t:=t) h
 have hg:=qt (t:=t) h
 have ha:=qK t b
 constructor
 ·have e:=congrArg Int.natAbs h1
  rw [Int.natAbs_mul,ha] at e
  rw [e]
  exact Nat.le_mul_of_pos_left _ hg
 ·have e:=congrArg Int.natAbs h2
  rw [Int.natAbs_mul,ha] at e
  rw [e]
  exact Nat.le_mul_of_pos_left _ hg
theorem ZlJ {t b u c:Int} (hb:0 < b) (hc:0 < c) (g1:Nat.gcd t.natAbs b.natAbs=1) (g2:Nat.gcd u.natAbs c.natAbs=1) (h:t * c=u * b):t=u/\b=c:=by
 have k1:b.natAbs ∣ c.natAbs:=by
  have d:b.natAbs ∣ t.natAbs * c.natAbs:=⟨u.natAbs,by rw [<- Int.natAbs_mul,h,Int.natAbs_mul,Nat.mul_comm]⟩
  exact Nat.Coprime.dvd_of_dvd_mul_left (show Nat.Coprime b.natAbs t.natAbs by unfold Nat.Coprime; rw [Nat.gcd_comm]; exact g1) d
 have k2:c.natAbs ∣ b.natAbs:=by
  have d:c.natAbs ∣ u.natAbs * b.natAbs:=⟨t.natAbs,by rw [<- Int.natAbs_mul,<- h,Int.natAbs_mul,Nat.mul_comm]⟩
  exact Nat.Coprime.dvd_of_dvd_mul_left (show Nat.Coprime c.natAbs u.natAbs by unfold Nat.Coprime; rw [Nat.gcd_comm]; exact g2) d
 have e:b=c:=by
  have:=Nat.dvd_antisymm k1 k2
  omega
 subst e
 exact ⟨Int.eq_of_mul_eq_mul_right (by omega) h,rfl⟩
end Gc
set_option Elab.async false
set_option linter.all false
set_option maxRecDepth 100000
namespace L2
open PySem PySem.Spec PyProof.Rows
end L2
set_option Elab.async false
set_option linter.all false
set_option maxRecDepth 100000
namespace L2
open PySem PySem.Spec PyProof.Rows
end L2
set_option Elab.async false
set_option linter.all false
set_option maxRecDepth 100000
namespace L2
open PySem PySem.Spec PyProof.Rows
inductive Tr (α:Type) where
 | ret (a:α)
 | draw (n:Int) (k:Int->Tr α)
 | fail
namespace Tr
variable {α β γ:Type}
noncomputable def bind:Tr α->(α->Tr β)->Tr β
 | .ret a,f=>f a
 | .draw n k,f=>.draw n λr=>(k r).bind f
 | .fail,_=>.fail
@[simp] theorem ret_bind (a:α) (f:α->Tr β):(Tr.ret a).bind f=f a:=rfl
@[simp] theorem draw_bind (n:Int) (k:Int->Tr α) (f:α->Tr β):(Tr.draw n k).bind f=.draw n λr=>(k r).bind f:=rfl
@[simp] theorem fail_bind (f:α->Tr β):(Tr.fail:Tr α).bind f=.fail:=rfl
@[simp] theorem bind_assoc:∀ (t:Tr α) (f:α->Tr β) (g:β->Tr γ),(t.bind f).bind g=t.bind λa=>(f a).bind g
 | .ret a,f,g=>rfl
 | .draw n k,f,g=>by simp only [draw_bind]; congr 1; funext r; exact bind_assoc (k r) f g
 | .fail,f,g=>rfl
noncomputable def of:Option α->Tr α
 | some a=>.ret a
 | none=>.fail
@[simp] theorem of_some (a:α):Tr.of (some a)=.ret a:=rfl
@[simp] theorem of_none:Tr.of (none:Option α)=.fail:=rfl
noncomputable def ok:Tr α->Nat->(Nat->α->Prop)->Prop
 | .ret a,m,Q=>Q m a
 | .draw n k,m,Q=>m < 400000/\0 < n/\n < 1073741824/\∀ r,0<=r->r < n->(k r).ok (m+1) Q
 | .fail,_,_=>False
theorem ok_mono:∀ {t:Tr α} {m:Nat} {Q Q':Nat->α->Prop},t.ok m Q->(∀ m a,Q m a->Q' m a)->t.ok m Q'
 | .ret a,m,_,_,h,hq=>hq m a h
 | .draw n k,m,_,_,⟨h1,h2,h3,h⟩,hq=>⟨h1,h2,h3,λr h0 h1=>ok_mono (h r h0 h1) hq⟩
theorem ok_bind:∀ {t:Tr α} {f:α->Tr β} {m:Nat} {Q:Nat->β->Prop},(t.bind f).ok m Q ↔ t.ok m λm' a=>(f a).ok m' Q
 | .ret a,f,m,Q=>Iff.rfl
 | .draw n k,f,m,Q=>by
  show (_/\_/\_/\∀ r,_) ↔ (_/\_/\_/\∀ r,_)
  refine and_congr_right λ_=>and_congr_right λ_=>and_congr_right λ_=>forall_congr' λr=>forall_congr' λ_=>forall_congr' λ_=>ok_bind
 | .fail,f,m,Q=>Iff.rfl
theorem ok_of {o:Option α} {m:Nat} {Q:Nat->α->Prop} (h:(Tr.of o).ok m Q):∃ a,o=some a/\Q m a:=by
 cases o with
 | none=>exact h.elim
 | some a=>exact ⟨a,rfl,h⟩
noncomputable def all:Tr α->Nat->(α->Prop)->Prop
 | .ret a,_,P=>P a
 | .draw w k,n+1,P=>0 < w/\w < 1073741824/\∀ r,0<=r->r < w->(k r).all n P
 | .draw _ _,0,_=>False
 | .fail,_,_=>False
theorem all_ok:∀ {t:Tr α} {n m:Nat} {P:α->Prop},t.all n P->m+n<=400000->t.ok m λm' a=>m'<=m+n/\P a
 | .ret a,n,m,P,h,hm=>⟨by omega,h⟩
 | .draw w k,n+1,m,P,⟨h1,h2,h⟩,hm=>⟨by omega,h1,h2,λr a b=>ok_mono (all_ok (h r a b) (by omega)) λm' x hz0=>by
  obtain ⟨p,q⟩:=hz0
  exact ⟨by omega,q⟩⟩
theorem all_mono:∀ {t:Tr α} {n n':Nat} {P P':α->Prop},t.all n P->n<=n'->(∀ a,P a->P' a)->t.all n' P'
 | .ret a,n,n',P,P',h,hn,hp=>hp a h
 | .draw w k,n+1,n'+1,P,P',⟨h1,h2,h⟩,hn,hp=>⟨h1,h2,λr a b=>all_mono (h r a b) (by omega) hp⟩
 | .draw w k,n+1,0,P,P',h,hn,hp=>by omega
theorem all_bind:∀ {t:Tr α} {f:α->Tr β} {n n':Nat} {P:α->Prop} {P':β->Prop},t.all n P->(∀ a,P a->(f a).all n' P')->(t.bind f).all (n+n') P'
 | .ret a,f,n,n',P,P',h,hf=>all_mono (hf a h) (by omega) λ_ x=>x
 | .draw w k,f,n+1,n',P,P',⟨h1,h2,h⟩,hf=>by
  have e:n+1+n'=(n+n')+1:=by omega
  rw [e]
  exact ⟨h1,h2,λr a b=>all_bind (h r a b) hf⟩
end Tr
noncomputable abbrev Sub (G H:Hp):Prop:=∀ b o,G b=some o->H b=some o
structure Pk where
 is:HO->Hp->Nat->Prop
 mono:∀ {o:HO} {G G':Hp} {m:Nat},Sub G G'->is o G m->is o G' m
structure Wd (PK:Pk) (pa:Addr) (m:Nat) (G H:Hp):Prop where
 sub:Sub G H
 gpa:G pa=none
 pen:∃ o,H pa=some o/\PK.is o G m
structure Stp (pa:Addr) (G H G' H':Hp):Prop where
 gs:Sub G G'
 gn:∀ b o,G' b=some o->G b=some o\/H b=none
 hk:∀ b o,H b=some o->b≠pa->H' b=some o
theorem Stp.refl {pa:Addr} {G H:Hp}:Stp pa G H G H:=⟨λ_ _ h=>h,λ_ _ h=>.inl h,λ_ _ h _=>h⟩
theorem Stp.trans {pa:Addr} {G H G1 H1 G2 H2:Hp} (a:Stp pa G H G1 H1) (b:Stp pa G1 H1 G2 H2) (hp:∃ o,H1 pa=some o):Stp pa G H G2 H2:=by
 refine ⟨λc o h=>b.gs c o (a.gs c o h),λc o h=>?_,λc o h n=>b.hk c o (a.hk c o h n) n⟩
 rcases b.gn c o h with z | z
 ·exact a.gn c o z
 ·refine .inr ?_
  cases e:H c with
  | none=>rfl
  | some u =>
   by_cases hc:c=pa
   ·subst hc
    obtain ⟨o',z'⟩:=hp
    rw [z'] at z; cases z
   ·rw [a.hk c u e hc] at z; cases z
section
variable {PK:Pk} {pa:Addr} {m:Nat} {G H:Hp}
theorem Wd.some (w:Wd PK pa m G H):∃ o,H pa=some o:=let ⟨o,h,_⟩:=w.pen; ⟨o,h⟩
theorem Wd.ne (w:Wd PK pa m G H) {p:Addr} (hp:H p=none):pa≠p:=λe=>by
 obtain ⟨o,h⟩:=w.some
 rw [e,hp] at h; cases h
theorem Sub.new {p:Addr} {o:HO} (hp:G p=none):Sub G (upd G p o):=λb u h=>by rw [aL (cm h hp)]; exact h
theorem Wd.gnone (w:Wd PK pa m G H) {p:Addr} (hp:H p=none):G p=none:=by
 cases e:G p with
 | none=>rfl
 | some o=>rw [w.sub p o e] at hp; cases hp
theorem Sub.upd2 {p:Addr} {o:HO} (s:Sub G H):Sub (upd G p o) (upd H p o):=λb u h=>by
 by_cases e:b=p
 ·subst e; rw [bZ] at h ⊢; exact h
 ·rw [aL e] at h ⊢; exact s b u h
theorem Wd.new (w:Wd PK pa m G H) {p:Addr} {o:HO} (hp:H p=none):Wd PK pa m (upd G p o) (upd H p o)/\Stp pa G H (upd G p o) (upd H p o):=by
 have hg:=w.gnone hp
 have hne:=w.ne hp
 refine ⟨⟨w.sub.upd2,by rw [aL hne]; exact w.gpa,?_⟩,⟨Sub.new hg,λb u h=>?_,λb u h _=>by rw [aL (cm h hp)]; exact h⟩⟩
 ·obtain ⟨u,h,q⟩:=w.pen
  exact ⟨u,by rw [aL hne]; exact h,PK.mono (Sub.new hg) q⟩
 ·by_cases e:b=p
  ·subst e; exact .inr hp
  ·rw [aL e] at h; exact .inl h
theorem Wd.own (w:Wd PK pa m G H) {p:Addr} {o:HO} (hp:H p=none):Wd PK pa m G (upd H p o)/\Stp pa G H G (upd H p o):=by
 have hne:=w.ne hp
 refine ⟨⟨λb u h=>by rw [aL (cm (w.sub b u h) hp)]; exact w.sub b u h,w.gpa,?_⟩,⟨λ_ _ h=>h,λ_ _ h=>.inl h,λb u h _=>by rw [aL (cm h hp)]; exact h⟩⟩
 obtain ⟨u,h,q⟩:=w.pen
 exact ⟨u,by rw [aL hne]; exact h,q⟩
theorem Wd.freeze (w:Wd PK pa m G H) {p:Addr} {o:HO} (hp:H p=Option.some o) (hg:G p=none) (hne:pa≠p):Wd PK pa m (upd G p o) H:=by
 refine ⟨λb u h=>?_,by rw [aL hne]; exact w.gpa,?_⟩
 ·by_cases e:b=p
  ·subst e; rw [bZ] at h; rw [hp]; exact h
  ·rw [aL e] at h; exact w.sub b u h
 ·obtain ⟨u,h,q⟩:=w.pen
  exact ⟨u,h,PK.mono (Sub.new hg) q⟩
noncomputable def Kn (PK:Pk) (pa:Addr) (m:Nat) (G H:Hp) (x:PyData) (Q:VK):Prop:=∀ v G' H',Stp pa G H G' H'->Wd PK pa m G' H'->Dn G' v x->Q v H'
variable {x:PyData} {Q:VK} {v:V} {vs:List V} {ds:List PyData} {p:Addr}
theorem Kn.here (k:Kn PK pa m G H x Q) (w:Wd PK pa m G H) (d:Dn G v x):Q v H:=k v G H .refl w d
theorem Kn.tup (k:Kn PK pa m G H (.tuple ds) Q) (w:Wd PK pa m G H) (d:DnAll G vs ds) (hp:H p=none):Q (.ref p) (upd H p (.tup vs)):=by
 obtain ⟨w1,s1⟩:=w.new (o:=.tup vs) hp
 exact k _ _ _ s1 w1 (.tup bZ (DnAll.mono s1.gs d))
theorem Kn.lst (k:Kn PK pa m G H (.list ds) Q) (w:Wd PK pa m G H) (d:DnAll G vs ds) (hp:H p=none):Q (.ref p) (upd H p (.lst vs)):=by
 obtain ⟨w1,s1⟩:=w.new (o:=.lst vs) hp
 exact k _ _ _ s1 w1 (.lst bZ (DnAll.mono s1.gs d))
theorem Kn.later {G1 H1:Hp} (k:Kn PK pa m G H x Q) (s:Stp pa G H G1 H1) (hp:∃ o,H1 pa=Option.some o):Kn PK pa m G1 H1 x Q:=λv G' H' s' w d=>k v G' H' (s.trans s' hp) w d
end
inductive Sl where
 | un | d (x:PyData) | own (xs:List PyData) | pen | dic (kvs:List (Int×PyData))
inductive KD (G:Hp):List (aA×V)->List (Int×PyData)->Prop
 | nil:KD G [] []
 | cons {i:Int} {v:V} {d:PyData} {ks:List (aA×V)} {kvs:List (Int×PyData)}:Dn G v d->KD G ks kvs->KD G ((.inl i,v)::ks) ((i,d)::kvs)
theorem KD.mono {G G':Hp} (s:Sub G G') {ks:List (aA×V)} {kvs:List (Int×PyData)} (h:KD G ks kvs):KD G' ks kvs:=by
 induction h with
 | nil=>exact .nil
 | cons h _ ih=>exact .cons (h.mono s) ih
inductive SlOk (pa:Addr) (H₀ G H:Hp):Option V->Sl->Prop
 | un {o:Option V}:SlOk pa H₀ G H o .un
 | d {v:V} {x:PyData}:Dn G v x->SlOk pa H₀ G H (some v) (.d x)
 | own {p:Addr} {vs:List V} {xs:List PyData}:H p=some (.lst vs)->G p=none->H₀ p=none->DnAll G vs xs->SlOk pa H₀ G H (some (.ref p)) (.own xs)
 | pen:SlOk pa H₀ G H (some (.ref pa)) .pen
 | dic {p:Addr} {ks:List (aA×V)} {kvs:List (Int×PyData)}:H p=some (.dK ks)->G p=none->H₀ p=none->KD G ks kvs->SlOk pa H₀ G H (some (.ref p)) (.dic kvs)
structure Rl (PK:Pk) (pa:Addr) (G₀ H₀:Hp) (m:Nat) (σ:St) (ρ:List Sl) (G H:Hp):Prop where
 wd:Wd PK pa m G H
 st:Stp pa G₀ H₀ G H
 p0:∃ o,H₀ pa=some o
 sl:∀ (i:Nat) (s:Sl),ρ[i]?=some s->∃ o,σ[i]?=some o/\SlOk pa H₀ G H o s
 len:ρ.length=σ.length
 dj:∀ (i j:Nat) (xs ys:List PyData),i≠j->ρ[i]?=some (.own xs)->ρ[j]?=some (.own ys)->σ[i]?≠σ[j]?
 dj2:∀ (i j:Nat) (xs ys:List (Int×PyData)),i≠j->ρ[i]?=some (.dic xs)->ρ[j]?=some (.dic ys)->σ[i]?≠σ[j]?
section
variable {PK:Pk} {pa:Addr} {G₀ H₀ G H:Hp} {m:Nat} {σ:St} {ρ:List Sl}
theorem lN {α:Type} {l:List α} {k i:Nat} {x y:α} (h:(l.set k x)[i]?=some y) (hn:x≠y):k≠i/\l[i]?=some y:=by
 have hi:k≠i:=λe=>by
  subst e
  have hl:k < l.length:=by
   have:=(List.getElem?_eq_some_iff.mp h).1
   rwa [List.length_set] at this
  rw [List.getElem?_set_self hl] at h
  exact hn (Option.some.inj h)
 rw [List.getElem?_set_ne hi] at h
 exact ⟨hi,h⟩
theorem Zg4 {α:Type} {T:α->Sl} {k:Nat} {x:Sl} {v:Option V} (dj:∀ (i j:Nat) (a b:α),i≠j->ρ[i]?=some (T a)->ρ[j]?=some (T b)->σ[i]?≠σ[j]?) (hn:∀ a,x≠T a) :
  ∀ (i j:Nat) (a b:α),i≠j->(ρ.set k x)[i]?=some (T a)->(ρ.set k x)[j]?=some (T b)->(σ.set k v)[i]?≠(σ.set k v)[j]?:=λi j a b hij h1 h2=>by
 obtain ⟨hi,h1⟩:=lN h1 (hn a)
 obtain ⟨hj,h2⟩:=lN h2 (hn b)
 rw [List.getElem?_set_ne hi,List.getElem?_set_ne hj]
 exact dj i j a b hij h1 h2
theorem Zg3 {α:Type} {T:α->Sl} {k:Nat} {x:Sl} (dj:∀ (i j:Nat) (a b:α),i≠j->ρ[i]?=some (T a)->ρ[j]?=some (T b)->σ[i]?≠σ[j]?) (hn:∀ a,x≠T a) :
  ∀ (i j:Nat) (a b:α),i≠j->(ρ.set k x)[i]?=some (T a)->(ρ.set k x)[j]?=some (T b)->σ[i]?≠σ[j]?:=λi j a b hij h1 h2 =>
 dj i j a b hij (lN h1 (hn a)).2 (lN h2 (hn b)).2
theorem SlOk.step {G' H':Hp} {o:Option V} {s:Sl} (k:SlOk pa H₀ G H o s) (hp0:∃ o,H₀ pa=some o) (st:Stp pa G H G' H'):SlOk pa H₀ G' H' o s:=by
 cases k with
 | un=>exact .un
 | d h=>exact .d (h.mono st.gs)
 | pen=>exact .pen
 | @own p vs xs h1 h2 h3 h4 =>
  have hne:p≠pa:=λe=>by
   obtain ⟨u,hu⟩:=hp0
   rw [<- e,h3] at hu; cases hu
  refine .own (st.hk _ _ h1 hne) ?_ h3 (DnAll.mono st.gs h4)
  cases e:G' p with
  | none=>rfl
  | some u =>
   rcases st.gn p u e with z | z
   ·rw [h2] at z; cases z
   ·rw [h1] at z; cases z
 | @dic p ks kvs h1 h2 h3 h4 =>
  have hne:p≠pa:=λe=>by
   obtain ⟨u,hu⟩:=hp0
   rw [<- e,h3] at hu; cases hu
  refine .dic (st.hk _ _ h1 hne) ?_ h3 (h4.mono st.gs)
  cases e:G' p with
  | none=>rfl
  | some u =>
   rcases st.gn p u e with z | z
   ·rw [h2] at z; cases z
   ·rw [h1] at z; cases z
theorem Rl.step {G' H':Hp} {m':Nat} (r:Rl PK pa G₀ H₀ m σ ρ G H) (s:Stp pa G H G' H') (w:Wd PK pa m' G' H'):Rl PK pa G₀ H₀ m' σ ρ G' H' :=
 ⟨w,r.st.trans s r.wd.some,r.p0,λi sl h=>let ⟨o,h1,h2⟩:=r.sl i sl h; ⟨o,h1,h2.step r.p0 s⟩,r.len,r.dj,r.dj2⟩
theorem Rl.set (r:Rl PK pa G₀ H₀ m σ ρ G H) {v:V} {x:PyData} (d:Dn G v x) (k:Nat):Rl PK pa G₀ H₀ m (σ.set k (some v)) (ρ.set k (.d x)) G H:=by
 refine ⟨r.wd,r.st,r.p0,λi s h=>?_,by rw [List.length_set,List.length_set]; exact r.len,λi j xs ys hij h1 h2=>?_,Zg4 r.dj2 λa h=>by cases h⟩
 ·by_cases e:k=i
  ·subst e
   have hl:k < ρ.length:=by
    have:=(List.getElem?_eq_some_iff.mp h).1
    rwa [List.length_set] at this
   rw [List.getElem?_set_self hl] at h
   cases h
   exact ⟨_,List.getElem?_set_self (by rw [<- r.len]; exact hl),.d d⟩
  ·rw [List.getElem?_set_ne e] at h ⊢
   exact r.sl i s h
 ·have hi:k≠i:=λe=>by
   subst e
   have hl:k < ρ.length:=by
    have:=(List.getElem?_eq_some_iff.mp h1).1
    rwa [List.length_set] at this
   rw [List.getElem?_set_self hl] at h1; cases h1
  have hj:k≠j:=λe=>by
   subst e
   have hl:k < ρ.length:=by
    have:=(List.getElem?_eq_some_iff.mp h2).1
    rwa [List.length_set] at this
   rw [List.getElem?_set_self hl] at h2; cases h2
  rw [List.getElem?_set_ne hi] at h1 ⊢
  rw [List.getElem?_set_ne hj] at h2 ⊢
  exact r.dj i j xs ys hij h1 h2
theorem Rl.setO (r:Rl PK pa G₀ H₀ m σ ρ G H) {p:Addr} {vs:List V} {xs:List PyData} (h1:H p=some (.lst vs)) (h2:G p=none) (h3:H₀ p=none) (h4:DnAll G vs xs)
  (hd:∀ (i:Nat) (ys:List PyData),ρ[i]?=some (.own ys)->σ[i]?≠some (some (.ref p))) (k:Nat):Rl PK pa G₀ H₀ m (σ.set k (some (.ref p))) (ρ.set k (.own xs)) G H:=by
 have up:∀ {i:Nat} {s:Sl},(ρ.set k (.own xs))[i]?=some s->i=k->s=.own xs/\(σ.set k (some (V.ref p)))[i]?=some (some (.ref p)):=λ{i s} h e=>by
  subst e
  have hl:i < ρ.length:=by
   have:=(List.getElem?_eq_some_iff.mp h).1
   rwa [List.length_set] at this
  rw [List.getElem?_set_self hl] at h
  cases h
  exact ⟨rfl,List.getElem?_set_self (by rw [<- r.len]; exact hl)⟩
 refine ⟨r.wd,r.st,r.p0,λi s h=>?_,by rw [List.length_set,List.length_set]; exact r.len,λi j ys zs hij e1 e2=>?_,Zg4 r.dj2 λa h=>by cases h⟩
 ·by_cases e:i=k
  ·obtain ⟨e1,e2⟩:=up h e
   subst e1
   exact ⟨_,e2,.own h1 h2 h3 h4⟩
  ·rw [List.getElem?_set_ne (Ne.symm e)] at h ⊢
   exact r.sl i s h
 ·by_cases ei:i=k
  ·have q:=(up e1 ei).2
   have hj:k≠j:=λe=>hij (ei.trans e)
   rw [q]
   rw [List.getElem?_set_ne hj] at e2 ⊢
   exact λz=>hd j zs e2 z.symm
  ·rw [List.getElem?_set_ne (Ne.symm ei)] at e1 ⊢
   by_cases ej:j=k
   ·rw [(up e2 ej).2]
    exact hd i ys e1
   ·rw [List.getElem?_set_ne (Ne.symm ej)] at e2 ⊢
    exact r.dj i j ys zs hij e1 e2
theorem Rl.h0 (r:Rl PK pa G₀ H₀ m σ ρ G H) {p:Addr} (hp:H p=none):H₀ p=none:=by
 cases e:H₀ p with
 | none=>rfl
 | some u =>
  by_cases hc:p=pa
  ·subst hc
   obtain ⟨o,h⟩:=r.wd.some
   rw [hp] at h; cases h
  ·rw [r.st.hk p u e hc] at hp; cases hp
theorem Rl.apart (r:Rl PK pa G₀ H₀ m σ ρ G H) {p:Addr} (hp:H p=none) (i:Nat) (ys:List PyData) (h:ρ[i]?=some (.own ys)):σ[i]?≠some (some (.ref p)):=λe=>by
 obtain ⟨o,h1,h2⟩:=r.sl i _ h
 rw [e] at h1
 cases h1
 cases h2 with
 | own a _ _ _=>rw [hp] at a; cases a
theorem Rl.change (r:Rl PK pa G₀ H₀ m σ ρ G H) {k:Nat} {xs ys:List PyData} {p:Addr} {ws:List V} (hk:ρ[k]?=some (.own xs)) (hσ:σ[k]?=some (some (.ref p))) (d:DnAll G ws ys) :
  Rl PK pa G₀ H₀ m σ (ρ.set k (.own ys)) G (upd H p (.lst ws)):=by
 obtain ⟨o,h1,h2⟩:=r.sl k _ hk
 rw [hσ] at h1
 cases h1
 cases h2 with
 | @own _ vs _ a1 a2 a3 a4 =>
  have hne:pa≠p:=λe=>by
   obtain ⟨u,hu⟩:=r.p0
   rw [e,a3] at hu; cases hu
  have hl:k < ρ.length:=(List.getElem?_eq_some_iff.mp hk).1
  refine ⟨⟨λb o h=>?_,r.wd.gpa,?_⟩,⟨r.st.gs,r.st.gn,λb o h hb=>?_⟩,r.p0,λi s h=>?_,by rw [List.length_set]; exact r.len,λi j us ws hij e1 e2=>?_,Zg3 r.dj2 λa h=>by cases h⟩
  ·rw [aL (λe=>by subst e; rw [a2] at h; cases h)]
   exact r.wd.sub b o h
  ·obtain ⟨u,h,q⟩:=r.wd.pen
   exact ⟨u,by rw [aL hne]; exact h,q⟩
  ·rw [aL (λe=>by subst e; rw [a3] at h; cases h)]
   exact r.st.hk b o h hb
  ·by_cases e:k=i
   ·subst e
    rw [List.getElem?_set_self hl] at h
    cases h
    exact ⟨_,hσ,.own bZ a2 a3 d⟩
   ·rw [List.getElem?_set_ne e] at h
    obtain ⟨o,q1,q2⟩:=r.sl i s h
    refine ⟨o,q1,?_⟩
    cases q2 with
    | un=>exact .un
    | d z=>exact .d z
    | pen=>exact .pen
    | dic b1 b2 b3 b4=>exact .dic (by rw [aL (λe2=>by subst e2; rw [a1] at b1; cases b1)]; exact b1) b2 b3 b4
    | own b1 b2 b3 b4 =>
     refine .own ?_ b2 b3 b4
     rw [aL]
     ·exact b1
     ·intro e2
      subst e2
      exact r.dj k i _ _ e hk h (by rw [hσ,q1])
  ·by_cases ei:k=i
   ·subst ei
    rw [List.getElem?_set_ne hij] at e2
    exact r.dj k j _ _ hij hk e2
   ·rw [List.getElem?_set_ne ei] at e1
    by_cases ej:k=j
    ·subst ej
     exact r.dj i k _ _ hij e1 hk
    ·rw [List.getElem?_set_ne ej] at e2
     exact r.dj i j _ _ hij e1 e2
noncomputable def fz (k:Nat) (ρ:List Sl):List Sl:=match ρ[k]? with
 | some (.own xs)=>ρ.set k (.d (.list xs))
 | _=>ρ
theorem Rl.freeze (r:Rl PK pa G₀ H₀ m σ ρ G H) (k:Nat):∃ G',Sub G G'/\Rl PK pa G₀ H₀ m σ (fz k ρ) G' H:=by
 unfold fz
 split
 ·rename_i xs hk
  obtain ⟨o,h1,h2⟩:=r.sl k _ hk
  cases h2 with
  | @own p vs _ a1 a2 a3 a4 =>
   have hne:pa≠p:=λe=>by
    obtain ⟨u,hu⟩:=r.p0
    rw [e,a3] at hu; cases hu
   have hl:k < ρ.length:=(List.getElem?_eq_some_iff.mp hk).1
   have sb:Sub G (upd G p (.lst vs)):=Sub.new a2
   refine ⟨upd G p (.lst vs),sb,r.wd.freeze a1 a2 hne,⟨λb o h=>sb b o (r.st.gs b o h),λb o h=>?_,r.st.hk⟩,r.p0,λi s h=>?_,by rw [List.length_set]; exact r.len,λi j us ws hij e1 e2=>?_,Zg3 r.dj2 λa h=>by cases h⟩
   ·by_cases e:b=p
    ·subst e; exact .inr a3
    ·rw [aL e] at h; exact r.st.gn b o h
   ·by_cases e:k=i
    ·subst e
     rw [List.getElem?_set_self hl] at h
     cases h
     exact ⟨_,h1,.d (.lst bZ (DnAll.mono sb a4))⟩
    ·rw [List.getElem?_set_ne e] at h
     obtain ⟨o,q1,q2⟩:=r.sl i s h
     refine ⟨o,q1,?_⟩
     cases q2 with
     | un=>exact .un
     | d z=>exact .d (z.mono sb)
     | pen=>exact .pen
     | dic b1 b2 b3 b4=>exact .dic b1 (by rw [aL (λe2=>by subst e2; rw [a1] at b1; cases b1)]; exact b2) b3 (b4.mono sb)
     | own b1 b2 b3 b4 =>
      refine .own b1 ?_ b3 (DnAll.mono sb b4)
      rw [aL]
      ·exact b2
      ·intro e2
       subst e2
       exact r.dj k i _ _ e hk h (by rw [h1,q1])
   ·have hi:k≠i:=λe=>by subst e; rw [List.getElem?_set_self hl] at e1; cases e1
    have hj:k≠j:=λe=>by subst e; rw [List.getElem?_set_self hl] at e2; cases e2
    rw [List.getElem?_set_ne hi] at e1
    rw [List.getElem?_set_ne hj] at e2
    exact r.dj i j _ _ hij e1 e2
 ·exact ⟨G,λ_ _ h=>h,r⟩
end
end L2
set_option Elab.async false
set_option linter.all false
set_option maxRecDepth 100000
namespace L2
open PySem PySem.Spec PyProof.Rows
noncomputable def TAe (PK:Pk) (i:List Sl->Tr PyData):TE:=λσ H Q=>∃ pa G₀ H₀ m ρ G,Rl PK pa G₀ H₀ m σ ρ G H/\(i ρ).ok m λm' x=>Kn PK pa m' G H x Q
noncomputable def TAt (PK:Pk) (i:List Sl->Tr Bool):TT:=λσ H Q=>∃ pa G₀ H₀ m ρ G,Rl PK pa G₀ H₀ m σ ρ G H/\(i ρ).ok m λm' b=>∀ G' H',Stp pa G H G' H'->Wd PK pa m' G' H'->Q b H'
noncomputable def TAd (PK:Pk) (i:List Sl->Tr (List PyData)):TA:=λσ H Q=>∃ pa G₀ H₀ m ρ G,Rl PK pa G₀ H₀ m σ ρ G H/\(i ρ).ok m λm' xs=>∀ vs G' H',Stp pa G H G' H'->Wd PK pa m' G' H'->DnAll G' vs xs->Q vs H'
noncomputable def Ko1 (PK:Pk) (pa:Addr) (m:Nat) (G H:Hp) (xs:List PyData) (Q:VK):Prop:=∀ p vs G' H',Stp pa G H G' H'->Wd PK pa m G' H'->H p=none->G' p=none->H' p=some (.lst vs)->DnAll G' vs xs->Q (.ref p) H'
noncomputable def cT (PK:Pk) (i:List Sl->Tr (List PyData)):TE:=λσ H Q=>∃ pa G₀ H₀ m ρ G,Rl PK pa G₀ H₀ m σ ρ G H/\(i ρ).ok m λm' xs=>Ko1 PK pa m' G H xs Q
inductive ArOk (pa:Addr) (G:Hp):V->Sl->Prop
 | d {v:V} {x:PyData}:Dn G v x->ArOk pa G v (.d x)
 | pen:ArOk pa G (.ref pa) .pen
inductive ArsOk (pa:Addr) (G:Hp):List V->List Sl->Prop
 | nil:ArsOk pa G [] []
 | cons {v:V} {vs:List V} {s:Sl} {ss:List Sl}:ArOk pa G v s->ArsOk pa G vs ss->ArsOk pa G (v::vs) (s::ss)
theorem ArOk.mono {pa:Addr} {G G':Hp} {v:V} {s:Sl} (h:ArOk pa G v s) (e:Sub G G'):ArOk pa G' v s:=by
 cases h with
 | d z=>exact .d (z.mono e)
 | pen=>exact .pen
theorem ArsOk.mono {pa:Addr} {G G':Hp} (e:Sub G G') {vs:List V} {ss:List Sl} (h:ArsOk pa G vs ss):ArsOk pa G' vs ss:=by
 induction h with
 | nil=>exact .nil
 | cons h t ih=>exact .cons (h.mono e) ih
theorem ArsOk.length {pa:Addr} {G:Hp} {vs:List V} {ss:List Sl} (h:ArsOk pa G vs ss):vs.length=ss.length:=by
 induction h with
 | nil=>rfl
 | cons h t ih=>exact congrArg (·+1) ih
noncomputable def TAa (PK:Pk) (i:List Sl->Tr (List Sl)):TA:=λσ H Q=>∃ pa G₀ H₀ m ρ G,Rl PK pa G₀ H₀ m σ ρ G H/\(i ρ).ok m λm' as=>∀ vs G' H',Stp pa G H G' H'->Wd PK pa m' G' H'->ArsOk pa G' vs as->Q vs H'
inductive Re where
 | d (x:PyData) | own (xs:List PyData)
noncomputable def Re.val:Re->PyData
 | .d x=>x
 | .own xs=>.list xs
@[simp] theorem Re.val_d (x:PyData):(Re.d x).val=x:=rfl
@[simp] theorem Re.val_own (xs:List PyData):(Re.own xs).val=.list xs:=rfl
inductive Ou where
 | next (ρ:List Sl) | ret (r:Re) | brk (ρ:List Sl) | cont (ρ:List Sl)
noncomputable def ZoK (H₀ G H:Hp) (v:V):Re->Prop
 | .d x=>Dn G v x
 | .own xs=>∃ p vs,v=.ref p/\H p=some (.lst vs)/\G p=none/\H₀ p=none/\DnAll G vs xs
noncomputable def Kr (PK:Pk) (pa:Addr) (m:Nat) (G₀ H₀:Hp) (r:Re) (Q:VK):Prop:=∀ v G H,Stp pa G₀ H₀ G H->Wd PK pa m G H->ZoK H₀ G H v r->Q v H
noncomputable def Ko (PK:Pk) (pa:Addr) (G₀ H₀ Gs:Hp) (D:Ends) (m:Nat):Ou->Prop
 | .next ρ=>∀ σ G H,Sub Gs G->Rl PK pa G₀ H₀ m σ ρ G H->D.nx σ H
 | .ret r=>Kr PK pa m G₀ H₀ r D.rt
 | .brk ρ=>∀ σ G H,Sub Gs G->Rl PK pa G₀ H₀ m σ ρ G H->D.bk σ H
 | .cont ρ=>∀ σ G H,Sub Gs G->Rl PK pa G₀ H₀ m σ ρ G H->D.ct σ H
noncomputable def bg (PK:Pk) (i:List Sl->Tr Ou):TS:=λD σ H=>∃ pa G₀ H₀ m ρ G,Rl PK pa G₀ H₀ m σ ρ G H/\(i ρ).ok m (Ko PK pa G₀ H₀ G D)
theorem PE.imp {X:Cx} {e:Expr} {t t':TE} (h:PE X e t) (q:∀ σ H Q,t' σ H Q->t σ H Q):PE X e t':=λpins s σ H Q I z=>h pins s σ H Q I (q σ H Q z)
theorem PT.imp {X:Cx} {e:Expr} {t t':TT} (h:PT X e t) (q:∀ σ H Q,t' σ H Q->t σ H Q):PT X e t':=λpins s σ H Q I z=>h pins s σ H Q I (q σ H Q z)
theorem PW.imp {X:Cx} {e:Expr} {t t':TT} (h:PW X e t) (q:∀ σ H Q,t' σ H Q->t σ H Q):PW X e t':=λwh pins s σ H Q I z=>h wh pins s σ H Q I (q σ H Q z)
theorem PA.imp {X:Cx} {e:List Expr} {t t':TA} (h:PA X e t) (q:∀ σ H Q,t' σ H Q->t σ H Q):PA X e t':=λpos pins s σ H Q I z=>h pos pins s σ H Q I (q σ H Q z)
theorem PS.imp {X:Cx} {e:Stmt} {t t':TS} (h:PS X e t) (q:∀ D σ H,t' D σ H->t D σ H):PS X e t':=λpins s σ H D I z=>h pins s σ H D I (q D σ H z)
theorem PSs.imp {X:Cx} {e:List Stmt} {t t':TS} (h:PSs X e t) (q:∀ D σ H,t' D σ H->t D σ H):PSs X e t':=λpins s σ H D I z=>h pins s σ H D I (q D σ H z)
variable {PK:Pk} {X:Cx} {a b c e:Expr} {es:List Expr} {pos:Pos} {i j l:List Sl->Tr PyData}
theorem TAe.then {σ:St} {H:Hp} {β:Type} {k:PyData->Tr β} {Z:Nat->β->Prop} {Q:VK} {pa:Addr} {G₀ H₀ G:Hp} {m:Nat} {ρ:List Sl} (R:Rl PK pa G₀ H₀ m σ ρ G H) (h:((i ρ).bind k).ok m Z)
  (hq:∀ m1 x v G1 H1,Stp pa G H G1 H1->Wd PK pa m1 G1 H1->Rl PK pa G₀ H₀ m1 σ ρ G1 H1->Dn G1 v x->(k x).ok m1 Z->Q v H1):TAe PK i σ H Q:=by
 refine ⟨pa,G₀,H₀,m,ρ,G,R,Tr.ok_mono (Tr.ok_bind.mp h) λm1 x hx v G1 H1 s1 w1 d1=>?_⟩
 exact hq m1 x v G1 H1 s1 w1 (R.step s1 w1) d1 hx
noncomputable def aa (k:Nat):List Sl->Tr PyData:=λρ=>match ρ[k]? with
 | some (.d x)=>.ret x
 | _=>.fail
noncomputable def aC (d:PyData):List Sl->Tr PyData:=λ_=>.ret d
theorem ab {k:Nat} (h:PE X e (cU k)):PE X e (TAe PK (aa k)):=h.imp λσ H Q hz0=>by
 obtain ⟨pa,G₀,H₀,m,ρ,G,R,q⟩:=hz0
 unfold aa at q
 split at q
 ·rename_i x hx
  obtain ⟨o,h1,h2⟩:=R.sl k _ hx
  cases h2 with
  | d z=>exact ⟨_,h1,Kn.here q R.wd z⟩
 ·exact q.elim
theorem rD {v:V} {d:PyData} (h:PE X e (tC v)) (hd:∀ G,Dn G v d):PE X e (TAe PK (aC d)):=h.imp λσ H Q hz0=>by
 obtain ⟨pa,G₀,H₀,m,ρ,G,R,q⟩:=hz0
 exact Kn.here q R.wd (hd G)
theorem az {n:Int} {k pos}:PE X (.Constant (.int n) k pos) (TAe PK (aC (.int n))):=rD b7 λ_=>.int n
theorem jN {n:Bool} {k pos}:PE X (.Constant (.bool n) k pos) (TAe PK (aC (.bool n))):=rD ZkR λ_=>.bl n
theorem ck {x:Str} {n:Int} (hg:Gl X x) (h:∃ t,X.mg x=some (.int n t)) (hd:(x == ("__debug__":Str))=false:=by decide):PE X (.Name x pos) (TAe PK (aC (.int n))):=rD (ZkM hg h hd) λ_=>.int n
noncomputable def cz (r:R2) (f:PyData->PyData->Option PyData):Prop:=∀ (PK:Pk) (pa:Addr) (m:Nat) (G H:Hp) (x y:V) (dx dy dz:PyData) (Q:VK),Wd PK pa m G H->Dn G x dx->Dn G y dy->f dx dy=some dz->Kn PK pa m G H dz Q->r x y H Q
noncomputable def ac (f:PyData->PyData->Option PyData) (i j:List Sl->Tr PyData):List Sl->Tr PyData:=λρ=>(i ρ).bind λx=>(j ρ).bind λy=>Tr.of (f x y)
theorem nM {r:R2} {f:PyData->PyData->Option PyData} (hv:cz r f):∀ σ H Q,TAe PK (ac f i j) σ H Q->h9 r (TAe PK i) (TAe PK j) σ H Q:=by
 rintro σ H Q ⟨pa,G₀,H₀,m,ρ,G,R,q⟩
 refine TAe.then R q λm1 x v G1 H1 s1 w1 R1 d1 q1=>?_
 refine TAe.then R1 q1 λm2 y u G2 H2 s2 w2 R2 d2 q2=>?_
 obtain ⟨z,hz,k⟩:=Tr.ok_of q2
 exact hv PK pa m2 G2 H2 v u x y z Q w2 (d1.mono s2.gs) d2 hz (Kn.later k (s1.trans s2 w1.some) w2.some)
theorem al {op:Operator} {r:R2} {f:PyData->PyData->Option PyData} (ho:OpR X (binaryOp op) r) (hv:cz r f) (ha:PE X a (TAe PK i)) (hb:PE X b (TAe PK j)):PE X (.BinOp a op b pos) (TAe PK (ac f i j)) :=
 (bT ho ha hb).imp (nM hv)
theorem rC {op:CmpOp} {r:R2} {f:PyData->PyData->Option PyData} (ho:OpR X (compareOp op) r) (hv:cz r f) (ha:PE X a (TAe PK i)) (hb:PE X b (TAe PK j)) (hm:behindInMarks op b=false):PE X (.Compare a [op] [b] pos) (TAe PK (ac f i j)) :=
 (ZkO ho ha hb hm).imp (nM hv)
theorem aK {r:R2} {f:PyData->PyData->Option PyData} (hr:IxR X r) (hv:cz r f) (ha:PE X a (TAe PK i)) (hb:PE X b (TAe PK j)) (hs:rT b):PE X (.Subscript a b pos) (TAe PK (ac f i j)) :=
 (l7 hr ha hb hs).imp (nM hv)
noncomputable def lJ:PyData->Option Bool
 | .bool b=>some b
 | _=>none
@[simp] theorem Zpe (b:Bool):lJ (.bool b)=some b:=rfl
noncomputable def cb (i:List Sl->Tr PyData):List Sl->Tr Bool:=λρ=>(i ρ).bind λx=>Tr.of (lJ x)
theorem Zh0:∀ σ H Q,TAt PK (cb i) σ H Q->lK (TAe PK i) σ H Q:=by
 rintro σ H Q ⟨pa,G₀,H₀,m,ρ,G,R,q⟩
 refine TAe.then R q λm1 x v G1 H1 s1 w1 R1 d1 q1=>?_
 obtain ⟨b,hb,k⟩:=Tr.ok_of q1
 cases d1 <;> simp only [lJ] at hb <;> cases hb
 exact ⟨_,rfl,k G1 H1 s1 w1⟩
theorem ZiS {t t':TE} (h:∀ σ H Q,t' σ H Q->t σ H Q):∀ σ H Q,lK t' σ H Q->lK t σ H Q:=λσ H Q z=>h σ H _ z
theorem cq {op:CmpOp} {r:R2} {f:PyData->PyData->Option PyData} (ho:OpR X (compareOp op) r) (hv:cz r f) (ha:PE X a (TAe PK i)) (hb:PE X b (TAe PK j)) (hm:behindInMarks op b=false):PT X (.Compare a [op] [b] pos) (TAt PK (cb (ac f i j))) :=
 (ky ho ha hb hm).imp λσ H Q z=>ZiS (nM hv) σ H Q (Zh0 σ H Q z)
theorem Zoc (h:PE X e (TAe PK i)) (he:∀ whole,isTrue e X.env whole=(do let v <- whole; standAt e.pos; holding [v] (truthy v)):=by intro _; rfl):PT X e (TAt PK (cb i)):=(Zkl h he).imp λσ H Q z=>Zh0 σ H Q z
noncomputable def Zat:PyData->Option Bool
 | .bool b=>some b
 | .int n=>some (n != 0)
 | .none=>some false
 | .list xs=>some (!xs.isEmpty)
 | .tuple xs=>some (!xs.isEmpty)
 | _=>none
noncomputable def rF (i:List Sl->Tr PyData):List Sl->Tr Bool:=λρ=>(i ρ).bind λx=>Tr.of (Zat x)
theorem DnAll.isEmpty {H:Hp} {vs:List V} {ds:List PyData} (h:DnAll H vs ds):vs.isEmpty=ds.isEmpty:=by
 cases h <;> rfl
theorem Zod (h:PE X e (TAe PK i)) (he:∀ whole,isTrue e X.env whole=(do let v <- whole; standAt e.pos; holding [v] (truthy v)):=by intro _; rfl):PT X e (TAt PK (rF i)):=(Zkm h he).imp λσ H Q hz0=>by
 obtain ⟨pa,G₀,H₀,m,ρ,G,R,q⟩:=hz0
 refine TAe.then R q λm1 x v G1 H1 s1 w1 R1 d1 q1=>?_
 obtain ⟨b,hb,k⟩:=Tr.ok_of q1
 have fin:=k G1 H1 s1 w1
 cases d1 with
 | non=>cases hb; exact ⟨_,rfl,fin⟩
 | bl b=>cases hb; exact ⟨_,rfl,fin⟩
 | int n=>cases hb; exact ⟨_,rfl,fin⟩
 | str _=>cases hb
 | tup h1 h2=>cases hb; exact ⟨_,.inr (.inl ⟨_,SqT.of (w1.sub _ _ h1),rfl⟩),by rw [h2.isEmpty]; exact fin⟩
 | lst h1 h2=>cases hb; exact ⟨_,.inl ⟨_,SqL.of (w1.sub _ _ h1),rfl⟩,by rw [h2.isEmpty]; exact fin⟩
 | dct _ _=>cases hb
noncomputable def nK (i j:List Sl->Tr Bool):List Sl->Tr Bool:=λρ=>(i ρ).bind λx=>if x=true then .ret true else j ρ
noncomputable def ZoE (i:List Sl->Tr Bool):List Sl->Tr Bool:=λρ=>(i ρ).bind λx=>.ret (!x)
variable {p q:List Sl->Tr Bool} {rest:List Expr}
theorem TAt.then {σ:St} {H:Hp} {β:Type} {k:Bool->Tr β} {Z:Nat->β->Prop} {Q:Bool->Hp->Prop} {pa:Addr} {G₀ H₀ G:Hp} {m:Nat} {ρ:List Sl} (R:Rl PK pa G₀ H₀ m σ ρ G H) (h:((p ρ).bind k).ok m Z)
  (hq:∀ m1 x G1 H1,Stp pa G H G1 H1->Wd PK pa m1 G1 H1->Rl PK pa G₀ H₀ m1 σ ρ G1 H1->(k x).ok m1 Z->Q x H1):TAt PK p σ H Q:=by
 refine ⟨pa,G₀,H₀,m,ρ,G,R,Tr.ok_mono (Tr.ok_bind.mp h) λm1 x hx G1 H1 s1 w1=>?_⟩
 exact hq m1 x G1 H1 s1 w1 (R.step s1 w1) hx
theorem Zoe {G₀ H₀ G H G1 H1:Hp} {m:Nat} {σ:St} {ρ:List Sl} {pa:Addr} {Q:Bool->Hp->Prop} (R1:Rl PK pa G₀ H₀ m σ ρ G1 H1) (s1:Stp pa G H G1 H1) (h:(q ρ).ok m λm' b=>∀ G' H',Stp pa G H G' H'->Wd PK pa m' G' H'->Q b H'):TAt PK q σ H1 Q :=
 ⟨pa,G₀,H₀,m,ρ,G1,R1,Tr.ok_mono h λm2 b k G2 H2 s2 w2=>k G2 H2 (s1.trans s2 R1.wd.some) w2⟩
theorem ZhX {G₀ H₀ G H G1 H1:Hp} {m:Nat} {σ:St} {ρ:List Sl} {pa:Addr} {Q:VK} (R1:Rl PK pa G₀ H₀ m σ ρ G1 H1) (s1:Stp pa G H G1 H1) (h:(i ρ).ok m λm' x=>Kn PK pa m' G H x Q):TAe PK i σ H1 Q :=
 ⟨pa,G₀,H₀,m,ρ,G1,R1,Tr.ok_mono h λm2 b k=>Kn.later k s1 R1.wd.some⟩
theorem ZhI (ha:PT X a (TAt PK p)):PW X (.BoolOp .Or [a] pos) (TAt PK p):=Zkh ha
theorem ZhJ (ha:PT X a (TAt PK p)) (hb:PW X (.BoolOp .Or (b::rest) pos) (TAt PK q)):PW X (.BoolOp .Or (a::b::rest) pos) (TAt PK (nK p q)):=(Zki ha hb).imp λσ H Q hz0=>by
 obtain ⟨pa,G₀,H₀,m,ρ,G,R,z⟩:=hz0
 refine TAt.then R z λm1 x G1 H1 s1 w1 R1 q1=>?_
 cases x with
 | true=>rw [if_pos rfl] at q1 ⊢; exact q1 G1 H1 s1 w1
 | false=>rw [if_neg Bool.false_ne_true] at q1 ⊢; exact Zoe R1 s1 q1
theorem ZhL (h:PW X e (TAt PK p)):PT X e (TAt PK p):=h.pt
noncomputable def rK (p:List Sl->Tr Bool) (i j:List Sl->Tr PyData):List Sl->Tr PyData:=λρ=>(p ρ).bind λx=>if x=true then i ρ else j ρ
theorem Zoy (hc:PT X c (TAt PK p)) (ha:PE X a (TAe PK i)) (hb:PE X b (TAe PK j)):PE X (.IfExp c a b pos) (TAe PK (rK p i j)):=(ZkK hc ha hb).imp λσ H Q hz0=>by
 obtain ⟨pa,G₀,H₀,m,ρ,G,R,z⟩:=hz0
 refine TAt.then R z λm1 x G1 H1 s1 w1 R1 q1=>?_
 cases x with
 | true=>rw [if_pos rfl] at q1 ⊢; exact ZhX R1 s1 q1
 | false=>rw [if_neg Bool.false_ne_true] at q1 ⊢; exact ZhX R1 s1 q1
variable {is:List Sl->Tr (List PyData)}
noncomputable def ap:List Sl->Tr (List PyData):=λ_=>.ret []
noncomputable def af (i:List Sl->Tr PyData) (is:List Sl->Tr (List PyData)):List Sl->Tr (List PyData):=λρ=>(i ρ).bind λx=>(is ρ).bind λxs=>.ret (x::xs)
theorem aw:PA X [] (TAd PK ap):=ci.imp λσ H Q hz0=>by
 obtain ⟨pa,G₀,H₀,m,ρ,G,R,z⟩:=hz0
 exact z [] G H .refl R.wd .nil
theorem TAd.then {σ:St} {H:Hp} {β:Type} {k:List PyData->Tr β} {Z:Nat->β->Prop} {Q:List V->Hp->Prop} {pa:Addr} {G₀ H₀ G:Hp} {m:Nat} {ρ:List Sl} (R:Rl PK pa G₀ H₀ m σ ρ G H) (h:((is ρ).bind k).ok m Z)
  (hq:∀ m1 xs vs G1 H1,Stp pa G H G1 H1->Wd PK pa m1 G1 H1->Rl PK pa G₀ H₀ m1 σ ρ G1 H1->DnAll G1 vs xs->(k xs).ok m1 Z->Q vs H1):TAd PK is σ H Q:=by
 refine ⟨pa,G₀,H₀,m,ρ,G,R,Tr.ok_mono (Tr.ok_bind.mp h) λm1 x hx v G1 H1 s1 w1 d1=>?_⟩
 exact hq m1 x v G1 H1 s1 w1 (R.step s1 w1) d1 hx
theorem ai (ha:PE X e (TAe PK i)) (hr:PA X es (TAd PK is)) (hs:starEach (e::es) X.env=(false,eval e X.env)::starEach es X.env:=by rfl):PA X (e::es) (TAd PK (af i is)):=(bU ha hr hs).imp λσ H Q hz0=>by
 obtain ⟨pa,G₀,H₀,m,ρ,G,R,z⟩:=hz0
 refine TAe.then R z λm1 x v G1 H1 s1 w1 R1 d1 q1=>?_
 refine TAd.then R1 q1 λm2 xs vs G2 H2 s2 w2 R2 d2 q2=>?_
 exact q2 _ _ _ (s1.trans s2 w1.some) w2 (.cons (d1.mono s2.gs) d2)
noncomputable def small (n:Nat):Bool:=decide (n<=sizeLine)
noncomputable def cv (is:List Sl->Tr (List PyData)):List Sl->Tr PyData:=λρ=>(is ρ).bind λxs=>if small xs.length=true then .ret (.tuple xs) else .fail
noncomputable def bX (is:List Sl->Tr (List PyData)):List Sl->Tr PyData:=λρ=>(is ρ).bind λxs=>.ret (.list xs)
noncomputable def cF (is:List Sl->Tr (List PyData)):List Sl->Tr (List PyData):=λρ=>(is ρ).bind λxs=>if small xs.length=true then .ret xs else .fail
theorem fv {α:Type} {c:Bool} {t:Tr α} {m:Nat} {Q:Nat->α->Prop} (h:(if c=true then t else .fail).ok m Q):c=true/\t.ok m Q:=by
 cases c with
 | true=>exact ⟨rfl,h⟩
 | false=>exact h.elim
theorem dh {x1} (h:PA X es (TAd PK is)):PE X (.Tuple es x1 pos) (TAe PK (cv is)):=(Zcp h).imp λσ H Q hz0=>by
 obtain ⟨pa,G₀,H₀,m,ρ,G,R,z⟩:=hz0
 refine TAd.then R z λm1 xs vs G1 H1 s1 w1 R1 d1 q1=>?_
 obtain ⟨hs,k⟩:=fv q1
 exact ⟨by rw [d1.length]; exact of_decide_eq_true hs,λp hp=>(Kn.later k s1 w1.some).tup w1 d1 hp⟩
theorem Ko1.new {pa:Addr} {m:Nat} {G H:Hp} {xs:List PyData} {vs:List V} {Q:VK} {p:Addr} (k:Ko1 PK pa m G H xs Q) (w:Wd PK pa m G H) (d:DnAll G vs xs) (hp:H p=none):Q (.ref p) (upd H p (.lst vs)):=by
 obtain ⟨w1,s1⟩:=w.own (o:=.lst vs) hp
 exact k p vs G _ s1 w1 hp (w.gnone hp) bZ d
theorem Ko1.later {pa:Addr} {m:Nat} {G H G1 H1:Hp} {xs:List PyData} {Q:VK} (k:Ko1 PK pa m G H xs Q) (s:Stp pa G H G1 H1) (hp:∃ o,H1 pa=some o):Ko1 PK pa m G1 H1 xs Q:=λp vs G' H' s' w' h1 h2 h3 h4=>by
 refine k p vs G' H' (s.trans s' hp) w' ?_ h2 h3 h4
 cases e:H p with
 | none=>rfl
 | some u =>
  by_cases hc:p=pa
  ·subst hc
   obtain ⟨o,z⟩:=hp
   rw [h1] at z; cases z
  ·rw [s.hk p u e hc] at h1; cases h1
theorem dg (h:PA X es (TAd PK is)):PE X (.List es pos) (cT PK (cF is)):=(ZkI h).imp λσ H Q hz0=>by
 obtain ⟨pa,G₀,H₀,m,ρ,G,R,z⟩:=hz0
 refine TAd.then R z λm1 xs vs G1 H1 s1 w1 R1 d1 q1=>?_
 obtain ⟨hs,k⟩:=fv q1
 exact ⟨by rw [d1.length]; exact of_decide_eq_true hs,λp hp=>(Ko1.later k s1 w1.some).new w1 d1 hp⟩
theorem Ko1.of {pa:Addr} {m:Nat} {G H:Hp} {xs:List PyData} {Q:VK} (k:Kn PK pa m G H (.list xs) Q) (hp:∃ o,H pa=some o):Ko1 PK pa m G H xs Q:=λp vs G' H' s w h1 h2 h3 h4=>by
 have hne:pa≠p:=λe=>by
  obtain ⟨o,z⟩:=hp
  rw [e,h1] at z; cases z
 have sb:Sub G' (upd G' p (.lst vs)):=Sub.new h2
 refine k _ (upd G' p (.lst vs)) H' ⟨λb o h=>sb b o (s.gs b o h),λb o h=>?_,s.hk⟩ (w.freeze h3 h2 hne) (.lst bZ (DnAll.mono sb h4))
 by_cases e:b=p
 ·subst e; exact .inr h1
 ·rw [aL e] at h; exact s.gn b o h
theorem cj (h:PE X e (cT PK is)):PE X e (TAe PK (bX is)):=h.imp λσ H Q hz0=>by
 obtain ⟨pa,G₀,H₀,m,ρ,G,R,z⟩:=hz0
 refine ⟨pa,G₀,H₀,m,ρ,G,R,Tr.ok_mono (Tr.ok_bind.mp z) λm1 xs k=>Ko1.of k R.wd.some⟩
noncomputable def eS (r:List V->Hp->VK->Prop) (f:List PyData->Option PyData):Prop:=∀ (PK:Pk) (pa:Addr) (m:Nat) (G H:Hp) (vs:List V) (ds:List PyData) (d:PyData) (Q:VK),Wd PK pa m G H->DnAll G vs ds->f ds=some d->Kn PK pa m G H d Q->r vs H Q
noncomputable def rN (r:List V->Hp->VK->Prop) (f:List PyData->Option (List PyData)):Prop:=∀ (PK:Pk) (pa:Addr) (m:Nat) (G H:Hp) (vs:List V) (ds:List PyData) (d:List PyData) (Q:VK),Wd PK pa m G H->DnAll G vs ds->f ds=some d->Ko1 PK pa m G H d Q->r vs H Q
noncomputable def bf (f:List PyData->Option PyData) (is:List Sl->Tr (List PyData)):List Sl->Tr PyData:=λρ=>(is ρ).bind λxs=>Tr.of (f xs)
noncomputable def lq (f:List PyData->Option (List PyData)) (is:List Sl->Tr (List PyData)):List Sl->Tr (List PyData):=λρ=>(is ρ).bind λxs=>Tr.of (f xs)
theorem ZoG {r:List V->Hp->VK->Prop} {f:List PyData->Option PyData} (hv:eS r f):∀ σ H Q,TAe PK (bf f is) σ H Q->fq r (TAd PK is) σ H Q:=by
 rintro σ H Q ⟨pa,G₀,H₀,m,ρ,G,R,z⟩
 refine TAd.then R z λm1 xs vs G1 H1 s1 w1 R1 d1 q1=>?_
 obtain ⟨d,hd,k⟩:=Tr.ok_of q1
 exact hv PK pa m1 G1 H1 vs xs d Q w1 d1 hd (Kn.later k s1 w1.some)
theorem ZoF {r:List V->Hp->VK->Prop} {f:List PyData->Option (List PyData)} (hv:rN r f):∀ σ H Q,cT PK (lq f is) σ H Q->fq r (TAd PK is) σ H Q:=by
 rintro σ H Q ⟨pa,G₀,H₀,m,ρ,G,R,z⟩
 refine TAd.then R z λm1 xs vs G1 H1 s1 w1 R1 d1 q1=>?_
 obtain ⟨d,hd,k⟩:=Tr.ok_of q1
 exact hv PK pa m1 G1 H1 vs xs d Q w1 d1 hd (Ko1.later k s1 w1.some)
theorem bu {t:TA} {r:List V->Hp->VK->Prop} {f:List PyData->Option PyData} (h:PE X e (fq r (TAd PK is))) (hv:eS r f):PE X e (TAe PK (bf f is)):=h.imp (ZoG hv)
theorem ZhU {t:TA} {r:List V->Hp->VK->Prop} {f:List PyData->Option (List PyData)} (h:PE X e (fq r (TAd PK is))) (hv:rN r f):PE X e (cT PK (lq f is)):=h.imp (ZoF hv)
variable {as:List Sl->Tr (List Sl)}
noncomputable def aE:List Sl->Tr (List Sl):=λ_=>.ret []
noncomputable def aj (i:List Sl->Tr PyData) (as:List Sl->Tr (List Sl)):List Sl->Tr (List Sl):=λρ=>(i ρ).bind λx=>(as ρ).bind λxs=>.ret (.d x::xs)
noncomputable def cu (k:Nat) (as:List Sl->Tr (List Sl)):List Sl->Tr (List Sl):=λρ=>match ρ[k]? with
 | some .pen=>(as ρ).bind λxs=>.ret (.pen::xs)
 | _=>.fail
theorem aU:PA X [] (TAa PK aE):=ci.imp λσ H Q hz0=>by
 obtain ⟨pa,G₀,H₀,m,ρ,G,R,z⟩:=hz0
 exact z [] G H .refl R.wd .nil
theorem TAa.then {σ:St} {H:Hp} {β:Type} {k:List Sl->Tr β} {Z:Nat->β->Prop} {Q:List V->Hp->Prop} {pa:Addr} {G₀ H₀ G:Hp} {m:Nat} {ρ:List Sl} (R:Rl PK pa G₀ H₀ m σ ρ G H) (h:((as ρ).bind k).ok m Z)
  (hq:∀ m1 xs vs G1 H1,Stp pa G H G1 H1->Wd PK pa m1 G1 H1->Rl PK pa G₀ H₀ m1 σ ρ G1 H1->ArsOk pa G1 vs xs->(k xs).ok m1 Z->Q vs H1):TAa PK as σ H Q:=by
 refine ⟨pa,G₀,H₀,m,ρ,G,R,Tr.ok_mono (Tr.ok_bind.mp h) λm1 x hx v G1 H1 s1 w1 d1=>?_⟩
 exact hq m1 x v G1 H1 s1 w1 (R.step s1 w1) d1 hx
theorem ak (ha:PE X e (TAe PK i)) (hr:PA X es (TAa PK as)) (hs:starEach (e::es) X.env=(false,eval e X.env)::starEach es X.env:=by rfl):PA X (e::es) (TAa PK (aj i as)):=(bU ha hr hs).imp λσ H Q hz0=>by
 obtain ⟨pa,G₀,H₀,m,ρ,G,R,z⟩:=hz0
 refine TAe.then R z λm1 x v G1 H1 s1 w1 R1 d1 q1=>?_
 refine TAa.then R1 q1 λm2 xs vs G2 H2 s2 w2 R2 d2 q2=>?_
 exact q2 _ _ _ (s1.trans s2 w1.some) w2 (.cons (.d (d1.mono s2.gs)) d2)
theorem cP {k:Nat} (ha:PE X e (cU k)) (hr:PA X es (TAa PK as)) (hs:starEach (e::es) X.env=(false,eval e X.env)::starEach es X.env:=by rfl):PA X (e::es) (TAa PK (cu k as)):=(bU ha hr hs).imp λσ H Q hz0=>by
 obtain ⟨pa,G₀,H₀,m,ρ,G,R,z⟩:=hz0
 unfold cu at z
 split at z
 ·rename_i hk
  obtain ⟨o,h1,h2⟩:=R.sl k _ hk
  cases h2
  refine ⟨_,h1,?_⟩
  refine TAa.then R z λm2 xs vs G2 H2 s2 w2 R2 d2 q2=>?_
  exact q2 _ _ _ s2 w2 (.cons .pen d2)
 ·exact z.elim
noncomputable def aSp (PK:Pk) (n:Nat) (f:List Sl->Tr Re):Sp:=λvs H Q _=>vs.length=n/\∃ pa m G as,Wd PK pa m G H/\ArsOk pa G vs as/\(f as).ok m λm' r=>Kr PK pa m' G H r Q
noncomputable def aQ (f:List Sl->Tr Re) (as:List Sl->Tr (List Sl)):List Sl->Tr Re:=λρ=>(as ρ).bind f
noncomputable def aS (f:List Sl->Tr Re):List Sl->Tr PyData:=λρ=>(f ρ).bind λr=>.ret r.val
noncomputable def nP (PK:Pk) (i:List Sl->Tr Re):TE:=λσ H Q=>∃ pa G₀ H₀ m ρ G,Rl PK pa G₀ H₀ m σ ρ G H/\(i ρ).ok m λm' r=>Kr PK pa m' G H r Q
theorem Kr.later {pa:Addr} {m:Nat} {G H G1 H1:Hp} {r:Re} {Q:VK} (k:Kr PK pa m G H r Q) (s:Stp pa G H G1 H1) (hp:∃ o,H1 pa=some o):Kr PK pa m G1 H1 r Q:=λv G' H' s' w' d=>by
 refine k v G' H' (s.trans s' hp) w' ?_
 cases r with
 | d x=>exact d
 | own xs =>
  obtain ⟨p,vs,e,h1,h2,h3,h4⟩:=d
  refine ⟨p,vs,e,h1,h2,?_,h4⟩
  cases e:H p with
  | none=>rfl
  | some u =>
   by_cases hc:p=pa
   ·subst hc
    obtain ⟨o,z⟩:=hp
    rw [h3] at z; cases z
   ·rw [s.hk p u e hc] at h3; cases h3
theorem Kr.of {pa:Addr} {m:Nat} {G H:Hp} {r:Re} {Q:VK} (k:Kn PK pa m G H r.val Q) (hp:∃ o,H pa=some o):Kr PK pa m G H r Q:=λv G' H' s w d=>by
 cases r with
 | d x=>exact k v G' H' s w d
 | own xs =>
  obtain ⟨p,vs,rfl,h1,h2,h3,h4⟩:=d
  exact Ko1.of k hp p vs G' H' s w h3 h2 h1 h4
theorem aY {f:List Sl->Tr Re} (h:PE X e (nP PK f)):PE X e (TAe PK (aS f)):=h.imp (by
 intro σ H Q z
 obtain ⟨pa,G₀,H₀,m,ρ,G,R,z⟩:=z
 exact ⟨pa,G₀,H₀,m,ρ,G,R,Tr.ok_mono (Tr.ok_bind.mp z) λm1 r k=>Kr.of k R.wd.some⟩)
structure ACal (PK:Pk) (P:Program) (w:World) (K:PySem.W.Frag) (mg:Str->Option Value) (base:Heap) (x:Str) (k:Nat) (ps:List Str) (f:List Sl->Tr Re):Prop where
 cal:Callee P w K mg base x k ps (aSp PK ps.length f)
 len:∀ as m Z,(f as).ok m Z->as.length=ps.length
theorem aT {x:Str} {k:Nat} {ps:List Str} {f:List Sl->Tr Re} {pp:Pos} (C:ACal PK X.prog X.w X.K X.mg X.base x k ps f) (hr:Room k X.A) (hg:Gl X x) (ha:PA X (e::es) (TAa PK as))
  (hdb:(x == ("__debug__":Str))=false:=by decide)
  (he:starEach (e::es) X.env=(false,eval e X.env)::starEach es X.env:=by rfl) (hpl:(backTo pos (starEach es X.env)).any (·.1)=false:=by rfl):PE X (.Call (.Name x pp) (e::es) [] pos) (nP PK (aQ f as)) :=
 (l8 C.cal hr hg ha hdb he hpl).imp λσ H Q hz0=>by
  obtain ⟨pa,G₀,H₀,m,ρ,G,R,z⟩:=hz0
  refine TAa.then R z λm1 xs vs G1 H1 s1 w1 R1 d1 q1=>?_
  show aSp PK ps.length f (vs++[]) H1 Q E0
  rw [List.append_nil]
  exact ⟨by rw [d1.length]; exact C.len _ _ _ q1,pa,m1,G1,xs,w1,d1,Tr.ok_mono q1 λm2 r k=>Kr.later k s1 w1.some⟩
end L2
set_option Elab.async false
set_option linter.all false
set_option maxRecDepth 100000
namespace L2
open PySem PySem.Spec PyProof.Rows
variable {PK:Pk} {X:Cx} {a b c e:Expr} {es:List Expr} {pos:Pos} {i j l:List Sl->Tr PyData} {is:List Sl->Tr (List PyData)} {as:List Sl->Tr (List Sl)} {f:List Sl->Tr Re} {p q:List Sl->Tr Bool} {st:Stmt} {sts:List Stmt} {s t u:List Sl->Tr Ou}
noncomputable def ao (s t:List Sl->Tr Ou):List Sl->Tr Ou:=λρ=>(s ρ).bind λo=>match o with
 | .next ρ'=>t ρ'
 | o=>.ret o
noncomputable def cQ:List Sl->Tr Ou:=λρ=>.ret (.next ρ)
theorem Ko.later {pa:Addr} {G₀ H₀ Gs G:Hp} {D:Ends} {m:Nat} {o:Ou} (k:Ko PK pa G₀ H₀ Gs D m o) (sb:Sub Gs G):Ko PK pa G₀ H₀ G D m o:=by
 cases o with
 | next ρ=>exact λσ G' H s R=>k σ G' H (λb o h=>s b o (sb b o h)) R
 | ret r=>exact k
 | brk ρ=>exact λσ G' H s R=>k σ G' H (λb o h=>s b o (sb b o h)) R
 | cont ρ=>exact λσ G' H s R=>k σ G' H (λb o h=>s b o (sb b o h)) R
theorem Sub.refl {G:Hp}:Sub G G:=λ_ _ h=>h
theorem Sub.trans {G G1 G2:Hp} (a:Sub G G1) (b:Sub G1 G2):Sub G G2:=λc o h=>b c o (a c o h)
theorem dG:PSs X [] (bg PK cQ):=lZ.imp λD σ H hz0=>by
 obtain ⟨pa,G₀,H₀,m,ρ,G,R,z⟩:=hz0
 exact z σ G H .refl R
theorem ZoD:∀ D σ H,bg PK (ao s t) D σ H->Zau (bg PK s) (bg PK t) D σ H:=by
 rintro D σ H ⟨pa,G₀,H₀,m,ρ,G,R,z⟩
 refine ⟨pa,G₀,H₀,m,ρ,G,R,Tr.ok_mono (Tr.ok_bind.mp z) λm1 o k=>?_⟩
 cases o with
 | next ρ'=>exact λσ' G' H' sb R'=>⟨pa,G₀,H₀,m1,ρ',G',R',Tr.ok_mono k λ_ _ k'=>Ko.later k' sb⟩
 | ret r=>exact k
 | brk ρ'=>exact k
 | cont ρ'=>exact k
theorem aq (h1:PS X st (bg PK s)) (h2:PSs X sts (bg PK t)):PSs X (st::sts) (bg PK (ao s t)):=(dw h1 h2).imp ZoD
theorem aN (h1:PS X st (bg PK s)):PSs X [st] (bg PK s):=io h1
noncomputable def rJ:List Sl->Tr Ou:=λ_=>.fail
theorem ZhN:PS X st (bg PK rJ):=λ_ _ _ _ _ _ h=>by
 obtain ⟨pa,G₀,H₀,m,ρ,G,R,z⟩:=h
 exact z.elim
noncomputable def nL (i:List Sl->Tr PyData):List Sl->Tr Ou:=λρ=>(i ρ).bind λ_=>.ret (.next ρ)
theorem ZhO (he:PE X e (TAe PK i)) (hs:swapsWith e none pos.line X.env=pure false:=by rfl):PS X (.Expr e pos) (bg PK (nL i)):=(gx he hs).imp λD σ H hz0=>by
 obtain ⟨pa,G₀,H₀,m,ρ,G,R,z⟩:=hz0
 refine TAe.then R z λm1 x v G1 H1 s1 w1 R1 d1 q1=>?_
 exact q1 σ G1 H1 s1.gs R1
noncomputable def bP (i:List Sl->Tr PyData):List Sl->Tr Ou:=λρ=>(i ρ).bind λx=>.ret (.ret (.d x))
theorem bW (he:PE X e (TAe PK i)):PS X (.Return (some e) pos) (bg PK (bP i)):=(fK he).imp λD σ H hz0=>by
 obtain ⟨pa,G₀,H₀,m,ρ,G,R,z⟩:=hz0
 refine TAe.then R z λm1 x v G1 H1 s1 w1 R1 d1 q1=>?_
 exact q1 v G1 H1 R1.st w1 d1
noncomputable def rH (is:List Sl->Tr (List PyData)):List Sl->Tr Ou:=λρ=>(is ρ).bind λx=>.ret (.ret (.own x))
theorem Zol (he:PE X e (cT PK is)):PS X (.Return (some e) pos) (bg PK (rH is)):=(fK he).imp λD σ H hz0=>by
 obtain ⟨pa,G₀,H₀,m,ρ,G,R,z⟩:=hz0
 refine ⟨pa,G₀,H₀,m,ρ,G,R,Tr.ok_mono (Tr.ok_bind.mp z) λm1 xs k p vs G1 H1 s1 w1 h1 h2 h3 h4=>?_⟩
 exact k (.ref p) G1 H1 (R.st.trans s1 R.wd.some) w1 ⟨p,vs,rfl,h3,h2,R.h0 h1,h4⟩
noncomputable def lp (f:List Sl->Tr Re):List Sl->Tr Ou:=λρ=>(f ρ).bind λr=>.ret (.ret r)
theorem rl (he:PE X e (nP PK f)):PS X (.Return (some e) pos) (bg PK (lp f)):=(fK he).imp (by
 intro D σ H z
 obtain ⟨pa,G₀,H₀,m,ρ,G,R,z⟩:=z
 exact ⟨pa,G₀,H₀,m,ρ,G,R,Tr.ok_mono (Tr.ok_bind.mp z) λm1 r k=>Kr.later k R.st R.wd.some⟩)
noncomputable def f7 (k:Nat):List Sl->Tr Ou:=λρ=>match ρ[k]? with
 | some (.d x)=>.ret (.ret (.d x))
 | some (.own xs)=>.ret (.ret (.own xs))
 | _=>.fail
theorem rj {k:Nat} (he:PE X e (cU k)):PS X (.Return (some e) pos) (bg PK (f7 k)):=(fK he).imp λD σ H hz0=>by
 obtain ⟨pa,G₀,H₀,m,ρ,G,R,z⟩:=hz0
 unfold f7 at z
 split at z
 ·rename_i x hx
  obtain ⟨o,h1,h2⟩:=R.sl k _ hx
  cases h2 with
  | d d1=>exact ⟨_,h1,z _ G H R.st R.wd d1⟩
 ·rename_i xs hx
  obtain ⟨o,h1,h2⟩:=R.sl k _ hx
  cases h2 with
  | own a1 a2 a3 a4=>exact ⟨_,h1,z _ G H R.st R.wd ⟨_,_,rfl,a1,a2,a3,a4⟩⟩
 ·exact z.elim
noncomputable def cR (p:List Sl->Tr Bool) (s t:List Sl->Tr Ou):List Sl->Tr Ou:=λρ=>(p ρ).bind λx=>if x=true then s ρ else t ρ
theorem dH {xs ys:List Stmt} (hc:PT X c (TAt PK p)) (ha:PSs X xs (bg PK s)) (hb:PSs X ys (bg PK t)):PS X (.If c xs ys pos) (bg PK (cR p s t)):=(l3 hc ha hb).imp λD σ H hz0=>by
 obtain ⟨pa,G₀,H₀,m,ρ,G,R,z⟩:=hz0
 refine TAt.then R z λm1 x G1 H1 s1 w1 R1 q1=>?_
 cases x with
 | true=>rw [if_pos rfl] at q1 ⊢; exact ⟨pa,G₀,H₀,m1,ρ,G1,R1,Tr.ok_mono q1 λ_ _ k'=>Ko.later k' s1.gs⟩
 | false=>rw [if_neg Bool.false_ne_true] at q1 ⊢; exact ⟨pa,G₀,H₀,m1,ρ,G1,R1,Tr.ok_mono q1 λ_ _ k'=>Ko.later k' s1.gs⟩
noncomputable def aX (k:Nat) (i:List Sl->Tr PyData):List Sl->Tr Ou:=λρ=>(i ρ).bind λx=>.ret (.next (ρ.set k (.d x)))
theorem bd {k:Nat} (h:PS X st (dL (TAe PK i) (eZ k))):PS X st (bg PK (aX k i)):=h.imp λD σ H hz0=>by
 obtain ⟨pa,G₀,H₀,m,ρ,G,R,z⟩:=hz0
 refine TAe.then R z λm1 x v G1 H1 s1 w1 R1 d1 q1=>?_
 exact q1 _ G1 H1 s1.gs (R1.set d1 k)
noncomputable def ff (k:Nat) (is:List Sl->Tr (List PyData)):List Sl->Tr Ou:=λρ=>(is ρ).bind λx=>.ret (.next (ρ.set k (.own x)))
theorem fW {k:Nat} (h:PS X st (dL (cT PK is) (eZ k))):PS X st (bg PK (ff k is)):=h.imp λD σ H hz0=>by
 obtain ⟨pa,G₀,H₀,m,ρ,G,R,z⟩:=hz0
 refine ⟨pa,G₀,H₀,m,ρ,G,R,Tr.ok_mono (Tr.ok_bind.mp z) λm1 xs k' p vs G1 H1 s1 w1 h1 h2 h3 h4=>?_⟩
 exact k' _ G1 H1 s1.gs ((R.step s1 w1).setO h3 h2 (R.h0 h1) h4 (λn ys e=>R.apart h1 n ys e) k)
noncomputable def nN (f:PyData->PyData->Option PyData) (k:Nat) (i:List Sl->Tr PyData):List Sl->Tr Ou:=λρ=>(aa k ρ).bind λx=>(i ρ).bind λy=>(Tr.of (f x y)).bind λz=>.ret (.next (ρ.set k (.d z)))
theorem Zom {k:Nat} {r:R2} {g:PyData->PyData->Option PyData} (hv:cz r g) (h:PS X st (ZaC k (TAe PK i) r)):PS X st (bg PK (nN g k i)):=h.imp λD σ H hz0=>by
 obtain ⟨pa,G₀,H₀,m,ρ,G,R,z⟩:=hz0
 unfold nN aa at z
 split at z
 ·rename_i x hx
  obtain ⟨o,h1,h2⟩:=R.sl k _ hx
  cases h2 with
  | d d0 =>
   refine ⟨_,h1,?_⟩
   refine TAe.then R z λm1 y v G1 H1 s1 w1 R1 d1 q1=>?_
   rw [Tr.ok_bind] at q1
   obtain ⟨w,hw,q1⟩:=Tr.ok_of q1
   refine hv PK pa m1 G1 H1 _ v x y w _ w1 (d0.mono s1.gs) d1 hw λu G2 H2 s2 w2 d2=>?_
   exact q1 _ G2 H2 (s1.gs.trans s2.gs) ((R1.step s2 w2).set d2 k)
 ·exact z.elim
noncomputable def ge (k:Nat) (i:List Sl->Tr PyData):List Sl->Tr Ou:=λρ=>match ρ[k]? with
 | some (.own xs)=>(i ρ).bind λx=>if small (xs.length+1)=true then .ret (.next (ρ.set k (.own (xs++[x])))) else .fail
 | _=>.fail
theorem DnAll.snoc {H:Hp} {vs:List V} {ds:List PyData} {v:V} {d:PyData} (h:DnAll H vs ds) (h1:Dn H v d):DnAll H (vs++[v]) (ds++[d]):=h.append (.cons h1 .nil)
theorem jM {k:Nat} {K:PySem.W.Frag} {st:Stmt} (h:PS X st (oD (tBM K "list" Zcc (cU k) (fo (TAe PK i) aZ)))):PS X st (bg PK (ge k i)):=h.imp λD σ H hz0=>by
 obtain ⟨pa,G₀,H₀,m,ρ,G,R,z⟩:=hz0
 unfold ge at z
 split at z
 ·rename_i xs hx
  obtain ⟨o,h1,h2⟩:=R.sl k _ hx
  cases h2 with
  | @own p vs _ a1 a2 a3 a4 =>
   refine ⟨_,h1,.inl ⟨rfl,_,SqL.of a1⟩,?_⟩
   refine TAe.then R z λm1 x v G1 H1 s1 w1 R1 d1 q1=>?_
   obtain ⟨hs,q1⟩:=fv q1
   obtain ⟨o,h1',h2⟩:=R1.sl k _ hx
   rw [h1] at h1'
   cases h1'
   cases h2 with
   | @own _ vs1 _ b1 b2 b3 b4 =>
    have hs':xs.length+1<=sizeLine:=of_decide_eq_true hs
    refine ⟨p,vs1,v,rfl,rfl,b1,by rw [b4.length]; omega,?_⟩
    exact q1 σ G1 _ s1.gs (R1.change hx h1 (b4.snoc d1))
 ·exact z.elim
theorem DnAll.set {H:Hp}:∀ {vs:List V} {ds:List PyData} {v:V} {d:PyData} (n:Nat),DnAll H vs ds->Dn H v d->DnAll H (vs.set n v) (ds.set n d)
 | _,_,_,_,_,.nil,_=>.nil
 | _,_,_,_,0,.cons _ t,h=>.cons h t
 | _,_,_,_,n+1,.cons g t,h=>.cons g (DnAll.set n t h)
noncomputable def fZ (k:Nat) (n i:List Sl->Tr PyData):List Sl->Tr Ou:=λρ=>(i ρ).bind λx=>match ρ[k]? with
 | some (.own xs)=>(n ρ).bind λy=>match y with
  | .int y=>(Tr.of (bG xs.length y)).bind λt=>.ret (.next (ρ.set k (.own (xs.set t x))))
  | _=>.fail
 | _=>.fail
theorem jL {k:Nat} {n:List Sl->Tr PyData} (h:PS X st (dL (TAe PK i) (kY (cU k) (TAe PK n) jc))):PS X st (bg PK (fZ k n i)):=h.imp λD σ H hz0=>by
 obtain ⟨pa,G₀,H₀,m,ρ,G,R,z⟩:=hz0
 refine TAe.then R z λm1 x v G1 H1 s1 w1 R1 d1 q1=>?_
 split at q1
 ·rename_i xs hx
  obtain ⟨o,h1,h2⟩:=R1.sl k _ hx
  cases h2 with
  | @own p vs _ a1 a2 a3 a4 =>
   refine ⟨_,h1,?_⟩
   refine TAe.then R1 q1 λm2 y u G2 H2 s2 w2 R2 d2 q2=>?_
   obtain ⟨o,h1',h2⟩:=R2.sl k _ hx
   rw [h1] at h1'
   cases h1'
   cases h2 with
   | @own _ vs2 _ b1 b2 b3 b4 =>
    cases d2 with
    | int y =>
     rw [Tr.ok_bind] at q2
     obtain ⟨n',hn,q2⟩:=Tr.ok_of q2
     refine ⟨p,vs2,y,n',rfl,rfl,b1,by rw [b4.length]; exact hn,?_⟩
     exact q2 σ G2 _ (s1.gs.trans s2.gs) (R2.change hx h1 (b4.set n' (d1.mono s2.gs)))
    | _=>exact q2.elim
 ·exact q1.elim
theorem DnAll.reverse {H:Hp} {vs:List V} {ds:List PyData} (h:DnAll H vs ds):DnAll H vs.reverse ds.reverse:=by
 induction vs generalizing ds with
 | nil=>cases h; exact .nil
 | cons v vs ih=>cases h with | cons r t=>rw [List.reverse_cons,List.reverse_cons]; exact DnAll.append (ih t) (.cons r .nil)
noncomputable def nJ (k:Nat):List Sl->Tr Ou:=λρ=>match ρ[k]? with
 | some (.own xs)=>.ret (.next (ρ.set k (.own xs.reverse)))
 | _=>.fail
theorem Zok {k:Nat} {K:PySem.W.Frag} (h:PS X st (oD (Zaz K "list" ZbX (cU k)))):PS X st (bg PK (nJ k)):=h.imp λD σ H hz0=>by
 obtain ⟨pa,G₀,H₀,m,ρ,G,R,z⟩:=hz0
 unfold nJ at z
 split at z
 ·rename_i xs hx
  obtain ⟨o,h1,h2⟩:=R.sl k _ hx
  cases h2 with
  | @own p vs _ a1 a2 a3 a4 =>
   refine ⟨_,h1,.inl ⟨rfl,_,SqL.of a1⟩,p,vs,rfl,rfl,a1,?_⟩
   exact z σ G _ .refl (R.change hx h1 a4.reverse)
 ·exact z.elim
noncomputable def di (k:Nat) (s:List Sl->Tr Ou):List Sl->Tr Ou:=λρ=>s (fz k ρ)
theorem fc {k:Nat} (h:PS X st (bg PK s)):PS X st (bg PK (di k s)):=h.imp λD σ H hz0=>by
 obtain ⟨pa,G₀,H₀,m,ρ,G,R,z⟩:=hz0
 obtain ⟨G',sb,R'⟩:=R.freeze k
 exact ⟨pa,G₀,H₀,m,_,G',R',Tr.ok_mono z λ_ _ k'=>Ko.later k' sb⟩
noncomputable def fh (PK:Pk) (g:PyData->List Sl->Option (List Sl)):TG:=λv σ H Q=>∃ pa G₀ H₀ m ρ G x ρ',Rl PK pa G₀ H₀ m σ ρ G H/\Dn G v x/\g x ρ=some ρ'/\∀ σ',Rl PK pa G₀ H₀ m σ' ρ' G H->Q σ' H
noncomputable def nQ (PK:Pk) (g:List PyData->List Sl->Option (List Sl)):gf:=λvs σ H Q=>∃ pa G₀ H₀ m ρ G xs ρ',Rl PK pa G₀ H₀ m σ ρ G H/\DnAll G vs xs/\g xs ρ=some ρ'/\∀ σ',Rl PK pa G₀ H₀ m σ' ρ' G H->Q σ' H
theorem PG.imp {tg:Expr} {t t':TG} (h:PG X tg t) (q:∀ v σ H Q,t' v σ H Q->t v σ H Q):PG X tg t':=λpins s σ H v u Q I r z=>h pins s σ H v u Q I r (q v σ H Q z)
theorem PGs.imp {tg:List Expr} {t t':gf} (h:PGs X tg t) (q:∀ v σ H Q,t' v σ H Q->t v σ H Q):PGs X tg t':=λpins s σ H v u Q I r z=>h pins s σ H v u Q I r (q v σ H Q z)
noncomputable def ah (k:Nat):PyData->List Sl->Option (List Sl):=λx ρ=>some (ρ.set k (.d x))
theorem aP {k:Nat} (h:PG X e (eZ k)):PG X e (fh PK (ah k)):=h.imp λv σ H Q hz0=>by
 obtain ⟨pa,G₀,H₀,m,ρ,G,x,ρ',R,d,e,q⟩:=hz0
 cases e
 exact q _ (R.set d k)
noncomputable def bi:List PyData->List Sl->Option (List Sl):=λxs ρ=>match xs with
 | []=>some ρ
 | _=>none
noncomputable def aB (g:PyData->List Sl->Option (List Sl)) (gs:List PyData->List Sl->Option (List Sl)):List PyData->List Sl->Option (List Sl):=λxs ρ=>match xs with
 | x::xs=>(g x ρ).bind λρ'=>gs xs ρ'
 | []=>none
theorem cM:PGs X [] (nQ PK bi):=Zcl.imp λvs σ H Q hz0=>by
 obtain ⟨pa,G₀,H₀,m,ρ,G,xs,ρ',R,d,e,q⟩:=hz0
 cases d with
 | nil=>cases e; exact ⟨rfl,q _ R⟩
 | cons _ _=>cases e
theorem bp {g:PyData->List Sl->Option (List Sl)} {gs:List PyData->List Sl->Option (List Sl)} (h1:PG X e (fh PK g)) (h2:PGs X es (nQ PK gs))
  (hs:(assignEach (e::es) X.env).map (·.2)=assign e X.env::(assignEach es X.env).map (·.2):=by rfl):PGs X (e::es) (nQ PK (aB g gs)):=(pB h1 h2 hs).imp λvs σ H Q hz0=>by
 obtain ⟨pa,G₀,H₀,m,ρ,G,xs,ρ',R,d,e,q⟩:=hz0
 cases d with
 | nil=>cases e
 | cons d1 d2 =>
  have e':(g _ ρ).bind (λρ'=>gs _ ρ')=some ρ':=e
  cases h:g _ ρ with
  | none=>rw [h] at e'; cases e'
  | some ρ1 =>
   rw [h] at e'
   exact ⟨_,_,rfl,pa,G₀,H₀,m,ρ,G,_,ρ1,R,d1,h,λσ1 R1=>⟨pa,G₀,H₀,m,ρ1,G,_,ρ',R1,d2,e',q⟩⟩
noncomputable def bo (gs:List PyData->List Sl->Option (List Sl)):PyData->List Sl->Option (List Sl):=λx ρ=>match x with
 | .tuple xs=>gs xs ρ
 | _=>none
noncomputable def mZ (n:Nat) (gs:List PyData->List Sl->Option (List Sl)):Prop:=∀ xs ρ ρ',gs xs ρ=some ρ'->xs.length=n
theorem cK:mZ 0 bi:=λxs ρ ρ' h=>by cases xs with | nil=>rfl | cons _ _=>cases h
theorem bn {n:Nat} {g:PyData->List Sl->Option (List Sl)} {gs:List PyData->List Sl->Option (List Sl)} (h:mZ n gs):mZ (n+1) (aB g gs):=λxs ρ ρ' e=>by
 cases xs with
 | nil=>cases e
 | cons x xs =>
  have e':(g x ρ).bind (λρ'=>gs xs ρ')=some ρ':=e
  cases h1:g x ρ with
  | none=>rw [h1] at e'; cases e'
  | some ρ1 =>
   rw [h1] at e'
   exact congrArg (·+1) (h xs ρ1 ρ' e')
theorem cN {k:Nat} {gs:List PyData->List Sl->Option (List Sl)} {n:Nat} (hc:X.calm=true) (h:PGs X es (nQ PK gs)) (hl:mZ n gs)
  (hn:(assignEach es X.env).length=n:=by rfl) (hst:(assignEach es X.env).findIdx? (·.1)=none:=by rfl):PG X (.Tuple es k pos) (fh PK (bo gs)):=(Zcm hc h hn hst).imp λv σ H Q hz0=>by
 obtain ⟨pa,G₀,H₀,m,ρ,G,x,ρ',R,d,e,q⟩:=hz0
 cases d with
 | tup h1 h2=>exact ⟨_,_,rfl,SqT.of (R.wd.sub _ _ h1),by rw [h2.length]; exact hl _ _ _ e,pa,G₀,H₀,m,ρ,G,_,ρ',R,h2,e,q⟩
 | _=>cases e
noncomputable def gb (g:PyData->List Sl->Option (List Sl)) (i:List Sl->Tr PyData):List Sl->Tr Ou:=λρ=>(i ρ).bind λx=>(Tr.of (g x ρ)).bind λρ'=>.ret (.next ρ')
theorem iJ {g:PyData->List Sl->Option (List Sl)} (h:PS X st (dL (TAe PK i) (fh PK g))):PS X st (bg PK (gb g i)):=h.imp λD σ H hz0=>by
 obtain ⟨pa,G₀,H₀,m,ρ,G,R,z⟩:=hz0
 refine TAe.then R z λm1 x v G1 H1 s1 w1 R1 d1 q1=>?_
 rw [Tr.ok_bind] at q1
 obtain ⟨ρ',hg,q1⟩:=Tr.ok_of q1
 exact ⟨pa,G₀,H₀,m1,ρ,G1,x,ρ',R1,d1,hg,λσ' R'=>q1 σ' G1 H1 s1.gs R'⟩
noncomputable def iQ (k n:Nat) (is:List Sl->Tr (List PyData)):List Sl->Tr Ou:=λρ=>(is ρ).bind λxs=>match xs with
 | [x,y]=>.ret (.next ((ρ.set k (.d x)).set n (.d y)))
 | _=>.fail
theorem nC {k n:Nat} (h:PS X st (Zav k n (TAd PK is))):PS X st (bg PK (iQ k n is)):=h.imp λD σ H hz0=>by
 obtain ⟨pa,G₀,H₀,m,ρ,G,R,z⟩:=hz0
 refine TAd.then R z λm1 xs vs G1 H1 s1 w1 R1 d1 q1=>?_
 split at q1
 ·cases d1 with
  | cons e1 d1 =>
   cases d1 with
   | cons e2 d1 =>
    cases d1
    exact ⟨_,_,rfl,q1 _ G1 H1 s1.gs ((R1.set e1 k).set e2 n)⟩
 ·exact q1.elim
noncomputable def iT (PK:Pk) (pa:Addr) (J:It) (G:Hp) (xs:List PyData):Prop:=∀ m G2 H2,Sub G G2->Wd PK pa m G2 H2 ->
 (∀ (n:Nat) (d:PyData),xs[n]?=some d->J.go n H2/\∀ x H3,J.yld n H2 x H3->∃ G3,Stp pa G2 H2 G3 H3/\Wd PK pa m G3 H3/\Dn G3 x d)/\J.stop xs.length H2
noncomputable def dZ (PK:Pk) (is:List Sl->Tr (List PyData)):TI:=λσ H R=>∃ pa G₀ H₀ m ρ G,Rl PK pa G₀ H₀ m σ ρ G H/\(is ρ).ok m λm' xs=>∀ J G' H',Stp pa G H G' H'->Wd PK pa m' G' H'->iT PK pa J G' xs->R J H'
theorem PI.imp {tg iter:Expr} {t t':TI} (h:PI X tg iter t) (q:∀ σ H R,t' σ H R->t σ H R):PI X tg iter t':=λpins s σ H R I z=>h pins s σ H R I (q σ H R z)
noncomputable def bV (g:PyData->List Sl->Option (List Sl)) (s:List Sl->Tr Ou):List PyData->List Sl->Tr Ou
 | [],ρ=>.ret (.next ρ)
 | x::xs,ρ=>(Tr.of (g x ρ)).bind λρ1=>(s ρ1).bind λo=>match o with
  | .next ρ2=>bV g s xs ρ2
  | .cont ρ2=>bV g s xs ρ2
  | .brk ρ2=>.ret (.next ρ2)
  | .ret r=>.ret (.ret r)
noncomputable def cS (is:List Sl->Tr (List PyData)) (g:PyData->List Sl->Option (List Sl)) (s:List Sl->Tr Ou):List Sl->Tr Ou:=λρ=>(is ρ).bind λxs=>bV g s xs ρ
theorem dI {tg iter:Expr} {body:List Stmt} {g:PyData->List Sl->Option (List Sl)} (hp:PassesOwn (model X.prog X.w) X.A X.env X.xe) (hc:X.calm=true) (hi:PI X tg iter (dZ PK is)) (hg:PG X tg (fh PK g)) (hb:PSs X body (bg PK s))
  (hs:∀ x,foldedSetIterable iter X.env x=pure x:=by intro _; rfl):PS X (.For tg iter body [] pos) (bg PK (cS is g s)):=(Zkr hp hc hi hg hb hs).imp λD σ H hz0=>by
 obtain ⟨pa,G₀,H₀,m,ρ,G,R,z⟩:=hz0
 refine ⟨pa,G₀,H₀,m,ρ,G,R,Tr.ok_mono (Tr.ok_bind.mp z) λm1 xs k J G1 H1 s1 w1 jo=>?_⟩
 let W:Nat->Nat->St->Hp->Prop:=λn mm σ H=>mm=xs.length - n/\n<=xs.length/\∃ m ρ G,Sub G1 G/\Rl PK pa G₀ H₀ m σ ρ G H/\(bV g s (xs.drop n) ρ).ok m (Ko PK pa G₀ H₀ G1 D)
 refine ⟨W,⟨xs.length,rfl,Nat.zero_le _,m1,ρ,G1,λ_ _ h=>h,R.step s1 w1,Tr.ok_mono k λ_ _ k'=>Ko.later k' s1.gs⟩,?_⟩
 rintro n mm σ2 H2 ⟨rfl,hn,m2,ρ2,G2,sb,R2,k2⟩
 obtain ⟨j1,j2⟩:=jo m2 G2 H2 sb R2.wd
 by_cases hlt:n < xs.length
 ·have hx:xs[n]?=some xs[n]:=by simp [hlt]
  obtain ⟨jg,jy⟩:=j1 n _ hx
  refine .inr ⟨jg,W (n+1) (xs.length - (n+1)),λσ' H' h'=>⟨_,by omega,h'⟩,λx H3 y=>?_⟩
  obtain ⟨G3,s3,w3,d3⟩:=jy x H3 y
  rw [List.drop_eq_getElem_cons hlt] at k2
  unfold bV at k2
  rw [Tr.ok_bind] at k2
  obtain ⟨ρ3,hg3,k3⟩:=Tr.ok_of k2
  refine ⟨pa,G₀,H₀,m2,ρ2,G3,_,ρ3,R2.step s3 w3,d3,hg3,λσ4 R4=>?_⟩
  refine ⟨pa,G₀,H₀,m2,ρ3,G3,R4,Tr.ok_mono (Tr.ok_bind.mp k3) λm5 o ko=>?_⟩
  have again:∀ ρ5,(bV g s (xs.drop (n+1)) ρ5).ok m5 (Ko PK pa G₀ H₀ G1 D)->∀ σ5 G5 H5,Sub G3 G5->Rl PK pa G₀ H₀ m5 σ5 ρ5 G5 H5->W (n+1) (xs.length - (n+1)) σ5 H5:=λρ5 k5 σ5 G5 H5 sb5 R5 =>
   ⟨rfl,hlt,m5,ρ5,G5,(sb.trans s3.gs).trans sb5,R5,k5⟩
  cases o with
  | next ρ5=>exact again ρ5 ko
  | cont ρ5=>exact again ρ5 ko
  | brk ρ5=>exact λσ5 G5 H5 sb5 R5=>ko σ5 G5 H5 ((sb.trans s3.gs).trans sb5) R5
  | ret r=>exact ko
 ·have e:n=xs.length:=by omega
  subst e
  refine .inl ⟨j2,?_⟩
  rw [List.drop_length] at k2
  exact k2 σ2 G2 H2 sb R2
end L2
set_option Elab.async false
set_option linter.all false
set_option maxRecDepth 100000
namespace L2
open PySem PySem.Spec PyProof.Rows
variable {PK:Pk} {X:Cx} {a b c e:Expr} {es:List Expr} {pos:Pos} {i j l:List Sl->Tr PyData} {is:List Sl->Tr (List PyData)} {as:List Sl->Tr (List Sl)} {f:List Sl->Tr Re} {p q:List Sl->Tr Bool} {st:Stmt} {sts:List Stmt} {s t u:List Sl->Tr Ou}
noncomputable def cw (p:List Sl->Tr Bool) (s:List Sl->Tr Ou):Nat->List Sl->Tr Ou
 | 0,_=>.fail
 | n+1,ρ=>(p ρ).bind λb=>if b=true then (s ρ).bind λo=>match o with
   | .next ρ2=>cw p s n ρ2
   | .cont ρ2=>cw p s n ρ2
   | .brk ρ2=>.ret (.next ρ2)
   | .ret r=>.ret (.ret r)
  else .ret (.next ρ)
theorem rh {body:List Stmt} (n:Nat) (hp:PassesOwn (model X.prog X.w) X.A X.env X.xe) (hc:PT X c (TAt PK p)) (hb:PSs X body (bg PK s)):PS X (.While c body [] pos) (bg PK (cw p s n)):=(Zko hp hc hb).imp λD σ H hz0=>by
 obtain ⟨pa,G₀,H₀,m,ρ,G,R,z⟩:=hz0
 let W:Nat->St->Hp->Prop:=λn σ H=>∃ m ρ G1,Sub G G1/\Rl PK pa G₀ H₀ m σ ρ G1 H/\(cw p s n ρ).ok m (Ko PK pa G₀ H₀ G D)
 refine ⟨W,⟨n,m,ρ,G,.refl,R,z⟩,?_⟩
 rintro n σ2 H2 ⟨m2,ρ2,G2,sb,R2,k2⟩
 cases n with
 | zero=>exact k2.elim
 | succ n =>
  unfold cw at k2
  refine TAt.then R2 k2 λm3 x G3 H3 s3 w3 R3 k3=>?_
  cases x with
  | false =>
   rw [if_neg Bool.false_ne_true] at k3 ⊢
   exact k3 σ2 G3 H3 (sb.trans s3.gs) R3
  | true =>
   rw [if_pos rfl] at k3 ⊢
   refine ⟨W n,λσ' H' h=>⟨n,by omega,h⟩,pa,G₀,H₀,m3,ρ2,G3,R3,Tr.ok_mono (Tr.ok_bind.mp k3) λm4 o ko=>?_⟩
   have again:∀ ρ5,(cw p s n ρ5).ok m4 (Ko PK pa G₀ H₀ G D)->∀ σ5 G5 H5,Sub G3 G5->Rl PK pa G₀ H₀ m4 σ5 ρ5 G5 H5->W n σ5 H5:=λρ5 k5 σ5 G5 H5 sb5 R5 =>
    ⟨m4,ρ5,G5,(sb.trans s3.gs).trans sb5,R5,k5⟩
   cases o with
   | next ρ5=>exact again ρ5 ko
   | cont ρ5=>exact again ρ5 ko
   | brk ρ5=>exact λσ5 G5 H5 sb5 R5=>ko σ5 G5 H5 ((sb.trans s3.gs).trans sb5) R5
   | ret r=>exact ko
noncomputable def nu:Sl->Sl
 | .own _=>.un
 | .dic _=>.un
 | s=>s
noncomputable def blk (n:Nat) (ix:List Nat) (ρ:List Sl):List Sl:=List.replicate n .un++ix.map λj=>nu ((ρ[j]?).getD .un)
theorem Rl.blk {pa:Addr} {G₀ H₀ G H:Hp} {m:Nat} {σ:St} {ρ:List Sl} (R:Rl PK pa G₀ H₀ m σ ρ G H) (n:Nat) (ix:List Nat):Rl PK pa G₀ H₀ m (cC n ix σ) (blk n ix ρ) G H:=by
 have key:∀ (k:Nat) (s:Sl),(L2.blk n ix ρ)[k]?=some s->(∃ o,(cC n ix σ)[k]?=some o/\SlOk pa H₀ G H o s)/\(∀ xs,s≠.own xs)/\∀ xs,s≠.dic xs:=λk s h=>by
  unfold L2.blk at h
  unfold cC
  by_cases hk:k < n
  ·rw [List.getElem?_append_left (by simpa using hk),List.getElem?_replicate,if_pos hk] at h
   rw [List.getElem?_append_left (by simpa using hk),List.getElem?_replicate,if_pos hk]
   cases h
   exact ⟨⟨_,rfl,.un⟩,(λxs h=>by cases h),λxs h=>by cases h⟩
  ·rw [List.getElem?_append_right (by simpa using Nat.le_of_not_lt hk),List.length_replicate,List.getElem?_map] at h
   rw [List.getElem?_append_right (by simpa using Nat.le_of_not_lt hk),List.length_replicate,List.getElem?_map]
   cases hj:ix[k - n]? with
   | none=>rw [hj] at h; cases h
   | some j =>
    rw [hj] at h
    have h':nu ((ρ[j]?).getD .un)=s:=Option.some.inj h
    subst h'
    show (∃ o,some ((σ[j]?).getD none)=some o/\_)/\_
    cases hr:ρ[j]? with
    | none=>exact ⟨⟨_,rfl,.un⟩,(λxs h=>by cases h),λxs h=>by cases h⟩
    | some s' =>
     obtain ⟨o,h1,h2⟩:=R.sl j s' hr
     rw [h1]
     cases h2 with
     | un=>exact ⟨⟨_,rfl,.un⟩,(λxs h=>by cases h),λxs h=>by cases h⟩
     | d z=>exact ⟨⟨_,rfl,.d z⟩,(λxs h=>by cases h),λxs h=>by cases h⟩
     | own _ _ _ _=>exact ⟨⟨_,rfl,.un⟩,(λxs h=>by cases h),λxs h=>by cases h⟩
     | dic _ _ _ _=>exact ⟨⟨_,rfl,.un⟩,(λxs h=>by cases h),λxs h=>by cases h⟩
     | pen=>exact ⟨⟨_,rfl,.pen⟩,(λxs h=>by cases h),λxs h=>by cases h⟩
 refine ⟨R.wd,R.st,R.p0,λk s h=>(key k s h).1,?_,λk n' xs ys _ h1 _=>absurd rfl ((key k _ h1).2.1 xs),λk n' xs ys _ h1 _=>absurd rfl ((key k _ h1).2.2 xs)⟩
 unfold L2.blk cC
 simp
noncomputable def gg (n:Nat) (g:PyData->List Sl->Option (List Sl)):Prop:=∀ x ρ ρ',g x ρ=some ρ'->ρ'.length=ρ.length/\∀ k,n<=k->ρ'[k]?=ρ[k]?
noncomputable def nR (n:Nat) (g:List PyData->List Sl->Option (List Sl)):Prop:=∀ x ρ ρ',g x ρ=some ρ'->ρ'.length=ρ.length/\∀ k,n<=k->ρ'[k]?=ρ[k]?
theorem cg {n k:Nat} (h:k < n):gg n (ah k):=λx ρ ρ' e=>by
 cases e
 exact ⟨List.length_set,λj hj=>List.getElem?_set_ne (by omega)⟩
theorem je {n:Nat}:nR n bi:=λx ρ ρ' e=>by
 cases x with
 | nil=>cases e; exact ⟨rfl,λ_ _=>rfl⟩
 | cons _ _=>cases e
theorem eI {n:Nat} {g:PyData->List Sl->Option (List Sl)} {gs:List PyData->List Sl->Option (List Sl)} (h1:gg n g) (h2:nR n gs):nR n (aB g gs):=λx ρ ρ' e=>by
 cases x with
 | nil=>cases e
 | cons x xs =>
  have e':(g x ρ).bind (λρ'=>gs xs ρ')=some ρ':=e
  cases h:g x ρ with
  | none=>rw [h] at e'; cases e'
  | some ρ1 =>
   rw [h] at e'
   obtain ⟨a1,a2⟩:=h1 x ρ ρ1 h
   obtain ⟨b1,b2⟩:=h2 xs ρ1 ρ' e'
   exact ⟨b1.trans a1,λk hk=>(b2 k hk).trans (a2 k hk)⟩
theorem jd {n:Nat} {gs:List PyData->List Sl->Option (List Sl)} (h2:nR n gs):gg n (bo gs):=λx ρ ρ' e=>by
 cases x with
 | tuple xs=>exact h2 xs ρ ρ' e
 | _=>cases e
noncomputable def aV (h:PyData->Tr PyData):List PyData->Tr (List PyData)
 | []=>.ret []
 | x::xs=>(h x).bind λy=>(aV h xs).bind λys=>.ret (y::ys)
noncomputable def cG (is:List Sl->Tr (List PyData)) (n:Nat) (ix:List Nat) (g:PyData->List Sl->Option (List Sl)) (el:List Sl->Tr PyData):List Sl->Tr (List PyData):=λρ =>
 (is ρ).bind λxs=>if small xs.length=true then aV (λx=>(Tr.of (g x (blk n ix ρ))).bind el) xs else .fail
theorem Rl.weak {pa:Addr} {G₀ H₀ G H:Hp} {m:Nat} {σ:St} {ρ ρ':List Sl} (R:Rl PK pa G₀ H₀ m σ ρ' G H) (hl:ρ'.length=ρ.length) (h:∀ (k:Nat) (s:Sl),ρ[k]?=some s->s=.un\/ρ'[k]?=some s):Rl PK pa G₀ H₀ m σ ρ G H:=by
 refine ⟨R.wd,R.st,R.p0,λk s hk=>?_,hl.symm.trans R.len,λk n xs ys hkn h1 h2=>?_,λk n xs ys hkn h1 h2=>?_⟩
 ·rcases h k s hk with e | e
  ·subst e
   have hlt:k < σ.length:=by
    rw [<- R.len,hl]
    exact (List.getElem?_eq_some_iff.mp hk).1
   exact ⟨σ[k],by simp [hlt],.un⟩
  ·exact R.sl k s e
 ·rcases h k _ h1 with e | e
  ·cases e
  ·rcases h n _ h2 with e' | e'
   ·cases e'
   ·exact R.dj k n xs ys hkn e e'
 ·rcases h k _ h1 with e | e
  ·cases e
  ·rcases h n _ h2 with e' | e'
   ·cases e'
   ·exact R.dj2 k n xs ys hkn e e'
theorem Zdd {n:Nat} {ix:List Nat} {g:PyData->List Sl->Option (List Sl)} (hn:gg n g):∀ σ H Q,cT PK (cG is n ix g i) σ H Q->jY (dZ PK is) n ix (λ_=>fh PK g) (λ_=>TAe PK i) σ H Q:=by
 rintro σ H Q ⟨pa,G₀,H₀,m,ρ,G,R,z⟩
 refine ⟨pa,G₀,H₀,m,ρ,G,R,Tr.ok_mono (Tr.ok_bind.mp z) λm1 xs k J G1 H1 s1 w1 jo=>λB=>?_⟩
 obtain ⟨hs,k⟩:=fv k
 have hs:xs.length<=sizeLine:=of_decide_eq_true hs
 let el:PyData->Tr PyData:=λx=>(Tr.of (g x (blk n ix ρ))).bind i
 let W:Nat->Nat->St->List V->Hp->Prop:=λk mm τ ys H2=>mm=xs.length - k/\k<=xs.length/\ys.length=k/\∃ m G2 ds,Sub G1 G2/\Stp pa G H G2 H2/\Rl PK pa G₀ H₀ m τ (blk n ix ρ) G2 H2 /\
  DnAll G2 ys ds/\(aV el (xs.drop k)).ok m λm' zs=>Ko1 PK pa m' G H (ds++zs) Q
 refine ⟨W,⟨xs.length,rfl,Nat.zero_le _,rfl,m1,G1,[],.refl,s1,(R.step s1 w1).blk n ix,.nil,k⟩,?_⟩
 rintro k mm τ ys H2 ⟨rfl,hk,hy,m2,G2,ds,sb,st2,R2,dn,k2⟩
 obtain ⟨j1,j2⟩:=jo m2 G2 H2 sb R2.wd
 by_cases hlt:k < xs.length
 ·have hx:xs[k]?=some xs[k]:=by simp [hlt]
  obtain ⟨jg,jy⟩:=j1 k _ hx
  refine .inr ⟨jg,by omega,λx H3 y=>?_⟩
  obtain ⟨G3,s3,w3,d3⟩:=jy x H3 y
  rw [List.drop_eq_getElem_cons hlt] at k2
  unfold aV at k2
  rw [Tr.ok_bind,Tr.ok_bind] at k2
  obtain ⟨ρ3,hg3,k3⟩:=Tr.ok_of k2
  refine ⟨pa,G₀,H₀,m2,_,G3,_,ρ3,R2.step s3 w3,d3,hg3,λτ4 R4=>?_⟩
  refine ⟨pa,G₀,H₀,m2,ρ3,G3,R4,Tr.ok_mono k3 λm5 yd k5=>?_⟩
  intro v G5 H5 s5 w5 d5
  have s35:=s3.trans s5 w3.some
  obtain ⟨pl,pk⟩:=hn _ _ _ hg3
  refine ⟨xs.length - (k+1),by omega,rfl,hlt,by rw [List.length_append,hy]; rfl,m5,G5,ds++[yd],sb.trans s35.gs,st2.trans s35 R2.wd.some,?_,(DnAll.mono s35.gs dn).snoc d5,?_⟩
  ·refine (R4.step s5 w5).weak pl λq sl hq=>?_
   by_cases hqn:q < n
   ·left
    unfold blk at hq
    rw [List.getElem?_append_left (by simpa using hqn),List.getElem?_replicate,if_pos hqn] at hq
    cases hq
    rfl
   ·right
    rw [pk q (Nat.le_of_not_lt hqn)]
    exact hq
  ·refine Tr.ok_mono (Tr.ok_bind.mp k5) λm6 zs k6=>?_
   rw [List.append_assoc]
   exact k6
 ·have e:k=xs.length:=by omega
  subst e
  refine .inl ⟨j2,λp v H' hp ev eH=>?_⟩
  subst ev eH
  rw [List.drop_length] at k2
  have k2':Ko1 PK pa m2 G H (ds++[]) Q:=k2
  rw [List.append_nil] at k2'
  exact (Ko1.later k2' st2 R2.wd.some).new R2.wd dn hp
theorem eQ {n:Nat} {ix:List Nat} {g:PyData->List Sl->Option (List Sl)} (h:PE X e (jY (dZ PK is) n ix (λ_=>fh PK g) (λ_=>TAe PK i))) (hn:gg n g):PE X e (cT PK (cG is n ix g i)):=h.imp (Zdd hn)
theorem ZaD {te te':TE} {g:TG} (h:∀ σ H Q,te' σ H Q->te σ H Q):∀ D σ H,dL te' g D σ H->dL te g D σ H:=λD σ H z=>h σ H _ z
noncomputable def m9:Ou->Tr Re
 | .next _=>.ret (.d .none)
 | .ret r=>.ret r
 | _=>.fail
noncomputable def bv (n k:Nat) (s:List Sl->Tr Ou):List Sl->Tr Re:=λas=>if decide (as.length=n)=true then (s (as++List.replicate k .un)).bind m9 else .fail
theorem Rl.start {pa:Addr} {G H:Hp} {m:Nat} {N:List Str} {vs:List V} {as:List Sl} {k:Nat} (w:Wd PK pa m G H) (ar:ArsOk pa G vs as) (hk:N.length - vs.length=k):Rl PK pa G H m (L2.start N vs) (as++List.replicate k .un) G H:=by
 have key:∀ {vs:List V} {as:List Sl},ArsOk pa G vs as->∀ (q:Nat) (s:Sl),as[q]?=some s->(∃ o,(vs.map some)[q]?=some o/\SlOk pa H G H o s)/\(∀ xs,s≠.own xs)/\∀ xs,s≠.dic xs:=by
  intro vs as h
  induction h with
  | nil=>intro q s h; simp at h
  | cons h1 h2 ih =>
   intro q s h
   cases q with
   | zero =>
    simp at h
    subst h
    cases h1 with
    | d z=>exact ⟨⟨_,rfl,.d z⟩,(λxs h=>by cases h),λxs h=>by cases h⟩
    | pen=>exact ⟨⟨_,rfl,.pen⟩,(λxs h=>by cases h),λxs h=>by cases h⟩
   | succ q =>
    obtain ⟨⟨o,p1,p2⟩,p3⟩:=ih q s (by simpa using h)
    exact ⟨⟨o,by simpa using p1,p2⟩,p3⟩
 have hl:=ar.length
 have key2:∀ (q:Nat) (s:Sl),(as++List.replicate k .un)[q]?=some s->(∃ o,(L2.start N vs)[q]?=some o/\SlOk pa H G H o s)/\(∀ xs,s≠.own xs)/\∀ xs,s≠.dic xs:=λq s h=>by
  unfold L2.start
  by_cases hq:q < as.length
  ·rw [List.getElem?_append_left hq] at h
   rw [List.getElem?_append_left (by rw [List.length_map,hl]; exact hq)]
   exact key ar q s h
  ·rw [List.getElem?_append_right (by omega),List.getElem?_replicate] at h
   rw [List.getElem?_append_right (by rw [List.length_map]; omega),List.getElem?_replicate,List.length_map,hl]
   split at h
   ·rename_i hq2
    cases h
    rw [if_pos (by omega)]
    exact ⟨⟨_,rfl,.un⟩,(λxs h=>by cases h),λxs h=>by cases h⟩
   ·cases h
 refine ⟨w,.refl,w.some,λq s h=>(key2 q s h).1,?_,λq n xs ys _ h1 _=>absurd rfl ((key2 q _ h1).2.1 xs),λq n xs ys _ h1 _=>absurd rfl ((key2 q _ h1).2.2 xs)⟩
 unfold L2.start
 simp [hl,hk]
 omega
theorem b9 {P:Program} {w:World} {K:PySem.W.Frag} {mg:Str->Option Value} {base:Heap} {x:Str} {N ps:List Str} {kk k:Nat} (D:Def K mg x st ps) (S:FnScope N ps (aH st)) (hk:N.length - ps.length=k)
  (hbody:∀ (f:Addr) (cdv:Value) (A:Around) (outer:List Env) (sh:Shared) (H:Hp) (E:XK),Room kk (A.deeper (envOfC x (aH st) sh.heap.objs.size f cdv)) ->
   PSs (fU gi P w K mg base N x (aH st) f cdv A outer sh H E).nox (fB st) (bg PK s)):ACal PK P w K mg base x (kk+1) ps (bv ps.length k s):=by
 have len:∀ as m Z,(bv ps.length k s as).ok m Z->as.length=ps.length:=λas m Z h=>by
  unfold bv at h
  exact of_decide_eq_true (fv h).1
 refine ⟨D.ok S (λvs H Q E h=>h.1) λf cdv A outer sh H vs Q E hr hsp=>?_,len⟩
 obtain ⟨hv,pa,m,G,as,wd,ar,z⟩:=hsp
 refine ⟨_,hbody f cdv A outer sh H E hr,?_⟩
 unfold bv at z
 obtain ⟨_,z⟩:=fv z
 refine ⟨pa,G,H,m,_,G,Rl.start wd ar (by rw [hv]; exact hk),Tr.ok_mono (Tr.ok_bind.mp z) λm1 o ko=>?_⟩
 cases o with
 | next ρ=>exact λσ G1 H1 sb R1=>ko .non G1 H1 R1.st R1.wd .non
 | ret r=>exact ko
 | brk ρ=>exact ko.elim
 | cont ρ=>exact ko.elim
theorem Zky {tg l:Expr} {tl:TE} (hl:PE X l tl):PI X tg l (λσ H R=>tl σ H λx H1=>∃ a,x=.ref a/\((∃ xs,SqL X.K H1 a xs/\R (rZ X.K a) H1)\/(∃ xs,SqT X.K H1 a xs/\R (rY X.K a) H1))):=by
 intro pins s σ H R I h
 refine thn (hl pins s σ H _ I h) λv s1 hz0=>?_
 obtain ⟨x,H1,I1,r1,q1⟩:=hz0
 obtain ⟨a,e,q⟩:=q1
 subst e
 cases r1
 rcases q with ⟨xs,hq,q⟩ | ⟨xs,hq,q⟩
 ·obtain ⟨its,rv,p,hz⟩:=I1.list hq
  refine wpAny_pyIter_list p.isList ?_
  refine ⟨s1.heap.objs.size,[s1.heap.objs.size],_,_,H1,rfl,I1.kept (t':=s1.toks) λb o e=>Heap.get?_push_of_some _ e,ZiH a _,⟨_,Heap.get?_push_size _ rfl,rfl,rfl⟩,λb hb=>?_,q⟩
  have e:b=s1.heap.objs.size:=by simpa using hb
  subst e
  exact I1.fpOk (Nat.le_refl _) (I1.hok.fresh (Nat.le_refl _))
 ·obtain ⟨its,rv,p,hz⟩:=I1.tuple hq
  refine wpAny_pyIter_tuple (show s1.heap.IsTuple a its.toArray from p) ?_
  refine ⟨s1.heap.objs.size,[s1.heap.objs.size],_,_,H1,rfl,I1.kept (t':=s1.toks) λb o e=>Heap.get?_push_of_some _ e,ZiE a _,⟨_,Heap.get?_push_size _ rfl,rfl,rfl⟩,λb hb=>?_,q⟩
  have e:b=s1.heap.objs.size:=by simpa using hb
  subst e
  exact I1.fpOk (Nat.le_refl _) (I1.hok.fresh (Nat.le_refl _))
theorem DnAll.get {H:Hp}:∀ {vs:List V} {ds:List PyData} (n:Nat) {d:PyData},DnAll H vs ds->ds[n]?=some d->∃ v,vs[n]?=some v/\Dn H v d
 | _,_,_,_,.nil,e=>by simp at e
 | _,_,0,_,.cons g t,e=>by simp at e; subst e; exact ⟨_,rfl,g⟩
 | _,_,n+1,_,.cons g t,e=>by
  obtain ⟨v,h1,h2⟩:=DnAll.get n t (by simpa using e)
  exact ⟨v,by simpa using h1,h2⟩
theorem Zl4 {K:PySem.W.Frag} {pa a:Addr} {G:Hp} {vs:List V} {xs:List PyData} (h:G a=some (.lst vs)) (d:DnAll G vs xs):iT PK pa (rZ K a) G xs:=λm G2 H2 sb w=>by
 have hq:SqL K H2 a vs:=SqL.of (w.sub _ _ (sb _ _ h))
 refine ⟨λn x hx=>?_,vs,hq,by rw [d.length]; exact Nat.le_refl _⟩
 obtain ⟨v,hv,dv⟩:=d.get n hx
 refine ⟨⟨vs,v,hq,hv⟩,λy H3 hz0=>?_⟩
 obtain ⟨e,hy⟩:=hz0
 subst e
 have:=hy vs hq
 rw [hv] at this
 cases this
 exact ⟨G2,.refl,w,dv.mono sb⟩
theorem Zl2 {K:PySem.W.Frag} {pa a:Addr} {G:Hp} {vs:List V} {xs:List PyData} (h:G a=some (.tup vs)) (d:DnAll G vs xs):iT PK pa (rY K a) G xs:=λm G2 H2 sb w=>by
 have hq:SqT K H2 a vs:=SqT.of (w.sub _ _ (sb _ _ h))
 refine ⟨λn x hx=>?_,vs,hq,by rw [d.length]; exact Nat.le_refl _⟩
 obtain ⟨v,hv,dv⟩:=d.get n hx
 refine ⟨⟨vs,v,hq,hv⟩,λy H3 hz0=>?_⟩
 obtain ⟨e,hy⟩:=hz0
 subst e
 have:=hy vs hq
 rw [hv] at this
 cases this
 exact ⟨G2,.refl,w,dv.mono sb⟩
noncomputable def fy:PyData->Option (List PyData)
 | .list xs=>some xs
 | .tuple xs=>some xs
 | _=>none
@[simp] theorem Zpi (xs:List PyData):fy (.list xs)=some xs:=rfl
@[simp] theorem Zph (xs:List PyData):fy (.tuple xs)=some xs:=rfl
noncomputable def ga (i:List Sl->Tr PyData):List Sl->Tr (List PyData):=λρ=>(i ρ).bind λx=>Tr.of (fy x)
theorem iK {tg l:Expr} (hl:PE X l (TAe PK i)):PI X tg l (dZ PK (ga i)):=(Zky hl).imp λσ H R0 hz0=>by
 obtain ⟨pa,G₀,H₀,m,ρ,G,R,z⟩:=hz0
 refine TAe.then R z λm1 x v G1 H1 s1 w1 R1 d1 q1=>?_
 obtain ⟨xs,hx,q1⟩:=Tr.ok_of q1
 cases d1 with
 | lst h1 h2=>cases hx; exact ⟨_,rfl,.inl ⟨_,SqL.of (w1.sub _ _ h1),q1 _ G1 H1 s1 w1 (Zl4 h1 h2)⟩⟩
 | tup h1 h2=>cases hx; exact ⟨_,rfl,.inr ⟨_,SqT.of (w1.sub _ _ h1),q1 _ G1 H1 s1 w1 (Zl2 h1 h2)⟩⟩
 | _=>cases hx
noncomputable def aR (lo hi:Int):List PyData:=(au lo (hi - lo).toNat).map PyData.int
theorem Zdn {pa:Addr} {G:Hp} {lo:Int} {n:Nat}:iT PK pa (iU lo n) G ((au lo n).map PyData.int):=λm G2 H2 sb w=>by
 refine ⟨λk x hx=>?_,by show n<=_; rw [List.length_map,gw]; exact Nat.le_refl _⟩
 have hk:k < n:=by
  have:=(List.getElem?_eq_some_iff.mp hx).1
  rwa [List.length_map,gw] at this
 refine ⟨hk,λy H3 hz0=>?_⟩
 obtain ⟨e1,e2⟩:=hz0
 subst e1 e2
 have:x=.int (lo+k):=by
  unfold au at hx
  simp [hk] at hx
  exact hx.symm
 subst this
 exact ⟨G2,.refl,w,.int _⟩
noncomputable def eY (n:Int):Bool:=decide (-(2 ^ 62)<=n/\n < 2 ^ 62)
noncomputable def kh:List PyData->Option (List PyData)
 | [.int n]=>if eY n=true then some (aR 0 n) else none
 | _=>none
noncomputable def jb:List PyData->Option (List PyData)
 | [.int k,.int n]=>if (eY k && eY n)=true then some (aR k n) else none
 | _=>none
noncomputable def dY (is:List Sl->Tr (List PyData)):List Sl->Tr (List PyData):=λρ=>(is ρ).bind λxs=>Tr.of (kh xs)
noncomputable def iP (is:List Sl->Tr (List PyData)):List Sl->Tr (List PyData):=λρ=>(is ρ).bind λxs=>Tr.of (jb xs)
theorem Zj1 {G:Hp} {vs:List V} {xs ys:List PyData} (d:DnAll G vs xs) (h:kh xs=some ys):∃ n:Int,vs=[.int n]/\-(2 ^ 62)<=n/\n < 2 ^ 62/\ys=aR 0 n:=by
 unfold kh at h
 split at h
 ·rename_i n
  split at h
  ·rename_i hn
   cases h
   cases d with
   | cons d1 d2 =>
    cases d2
    cases d1
    have:=of_decide_eq_true hn
    exact ⟨n,rfl,this.1,this.2,rfl⟩
  ·cases h
 ·cases h
theorem ZbJ {G:Hp} {vs:List V} {xs ys:List PyData} (d:DnAll G vs xs) (h:jb xs=some ys):∃ k n:Int,vs=[.int k,.int n]/\(-(2 ^ 62)<=k/\k < 2 ^ 62/\-(2 ^ 62)<=n/\n < 2 ^ 62)/\ys=aR k n:=by
 unfold jb at h
 split at h
 ·rename_i k n
  split at h
  ·rename_i hn
   cases h
   cases d with
   | cons d1 d2 =>
    cases d2 with
    | cons d2 d3 =>
     cases d3
     cases d1
     cases d2
     rw [Bool.and_eq_true] at hn
     have h1:=of_decide_eq_true hn.1
     have h2:=of_decide_eq_true hn.2
     exact ⟨k,n,rfl,⟨h1.1,h1.2,h2.1,h2.2⟩,rfl⟩
  ·cases h
 ·cases h
theorem fe {tg e:Expr} (h:PI X tg e (Zdz (TAd PK is))):PI X tg e (dZ PK (dY is)):=h.imp λσ H R0 hz0=>by
 obtain ⟨pa,G₀,H₀,m,ρ,G,R,z⟩:=hz0
 refine TAd.then R z λm1 xs vs G1 H1 s1 w1 R1 d1 q1=>?_
 obtain ⟨ys,hy,q1⟩:=Tr.ok_of q1
 obtain ⟨n,e,h1,h2,rfl⟩:=Zj1 d1 hy
 refine ⟨n,e,h1,h2,?_⟩
 have q:=q1 (iU 0 n.toNat) G1 H1 s1 w1
 unfold aR at q
 rw [Int.sub_zero] at q
 exact q Zdn
theorem ZhW {tg e:Expr} (h:PI X tg e (Zdy (TAd PK is))):PI X tg e (dZ PK (iP is)):=h.imp λσ H R0 hz0=>by
 obtain ⟨pa,G₀,H₀,m,ρ,G,R,z⟩:=hz0
 refine TAd.then R z λm1 xs vs G1 H1 s1 w1 R1 d1 q1=>?_
 obtain ⟨ys,hy,q1⟩:=Tr.ok_of q1
 obtain ⟨k,n,e,h1,rfl⟩:=ZbJ d1 hy
 exact ⟨k,n,e,h1,q1 (iU k (n - k).toNat) G1 H1 s1 w1 Zdn⟩
end L2
set_option Elab.async false
set_option linter.all false
set_option maxRecDepth 100000
namespace L2
open PySem PySem.Spec PyProof.Rows
variable {PK:Pk} {X:Cx} {a b c e:Expr} {es:List Expr} {pos:Pos} {i j l:List Sl->Tr PyData} {is:List Sl->Tr (List PyData)}
noncomputable def fit (n:Int):Bool:=decide (n.natAbs < 2 ^ 8000)
noncomputable def aW:PyData->PyData->Option PyData
 | .int m,.int n=>some (.int (m+n))
 | .tuple xs,.tuple ys=>if (!xs.isEmpty && small (xs.length+ys.length))=true then some (.tuple (xs++ys)) else none
 | .list xs,.list ys=>if small (xs.length+ys.length)=true then some (.list (xs++ys)) else none
 | _,_=>none
noncomputable def ph (K:PySem.W.Frag):R2:=λx y H Q=>dO (λi j=>.int (i+j)) x y H Q\/Zb9 K x y H Q\/Zcb x y H Q
theorem bx:OpR X (binaryOp .Add) (ph X.K):=gE.or (Zk3.or Zk5)
theorem bw {K:PySem.W.Frag}:cz (ph K) aW:=λPK pa m G H x y dx dy dz Q w hx hy hz k=>by
 unfold aW at hz
 split at hz
 ·cases hz; cases hx; cases hy
  exact .inl ⟨_,_,rfl,rfl,k.here w (.int _)⟩
 ·rename_i xs ys
  split at hz
  ·rename_i hc
   rw [Bool.and_eq_true] at hc
   have h1:xs.isEmpty=false:=by simpa using hc.1
   have h2:xs.length+ys.length<=sizeLine:=of_decide_eq_true hc.2
   cases hz
   cases hx with
   | tup a1 a2 =>
    cases hy with
    | tup b1 b2 =>
     refine .inr (.inl ⟨_,_,_,_,rfl,rfl,SqT.of (w.sub _ _ a1),SqT.of (w.sub _ _ b1),?_,by rw [a2.length,b2.length]; exact h2,λe=>?_,λe p hp=>k.tup w (a2.append b2) hp⟩)
     ·intro e
      rw [<- a2.isEmpty,e] at h1
      cases h1
     ·subst e
      cases b2
      refine k.here w ?_
      rw [List.append_nil]
      exact .tup a1 a2
  ·cases hz
 ·rename_i xs ys
  split at hz
  ·rename_i hc
   have h2:xs.length+ys.length<=sizeLine:=of_decide_eq_true hc
   cases hz
   cases hx with
   | lst a1 a2 =>
    cases hy with
    | lst b1 b2=>exact .inr (.inr ⟨_,_,_,_,rfl,rfl,w.sub _ _ a1,w.sub _ _ b1,by rw [a2.length,b2.length]; exact h2,λp hp=>k.lst w (a2.append b2) hp⟩)
  ·cases hz
 ·cases hz
noncomputable def bJ:PyData->PyData->Option PyData
 | .int m,.int n=>some (.int (m - n))
 | _,_=>none
theorem bY:cz (dO λi j=>.int (i - j)) bJ:=λPK pa m G H x y dx dy dz Q w hx hy hz k=>by
 unfold bJ at hz
 split at hz
 ·cases hz; cases hx; cases hy
  exact ⟨_,_,rfl,rfl,k.here w (.int _)⟩
 ·cases hz
theorem DnAll.rep {H:Hp} {vs:List V} {ds:List PyData} (h:DnAll H vs ds):∀ k:Nat,DnAll H (List.replicate k vs).flatten (List.replicate k ds).flatten
 | 0=>.nil
 | k+1=>by
  rw [List.replicate_succ,List.replicate_succ,List.flatten_cons,List.flatten_cons]
  exact h.append (h.rep k)
noncomputable def Zb1 (K:PySem.W.Frag):R2:=λx y H Q=>rI CMulG (λi j=>.int (i * j)) x y H Q\/ZbY K x y H Q\/pf x y H Q
theorem bE:OpR X (binaryOp .Mult) (Zb1 X.K):=ZkY.or (ZkV.or pF)
noncomputable def bh:PyData->PyData->Option PyData
 | .int m,.int n=>if (fit m && fit n)=true then some (.int (m * n)) else none
 | .tuple xs,.int n=>if (decide (1 < n) && decide (n<=1000) && !xs.isEmpty && decide (xs.length<=1000))=true then some (.tuple (List.replicate n.toNat xs).flatten) else none
 | .list xs,.int n=>if (decide (-(2 ^ 63)<=n) && decide (n < 2 ^ 63) && small (xs.length * n.toNat))=true then some (.list (List.replicate n.toNat xs).flatten) else none
 | _,_=>none
theorem bB {K:PySem.W.Frag}:cz (Zb1 K) bh:=λPK pa m G H x y dx dy dz Q w hx hy hz k=>by
 unfold bh at hz
 split at hz
 ·split at hz
  ·rename_i hc
   rw [Bool.and_eq_true] at hc
   cases hz; cases hx; cases hy
   exact .inl ⟨_,_,rfl,rfl,⟨of_decide_eq_true hc.1,of_decide_eq_true hc.2⟩,k.here w (.int _)⟩
  ·cases hz
 ·split at hz
  ·rename_i hc
   simp only [Bool.and_eq_true,decide_eq_true_eq,Bool.not_eq_true'] at hc
   cases hz; cases hy
   cases hx with
   | tup a1 a2 =>
    refine .inr (.inl ⟨_,_,_,rfl,rfl,SqT.of (w.sub _ _ a1),hc.1.1.1,hc.1.1.2,?_,by rw [a2.length]; exact hc.2,λp hp=>k.tup w (a2.rep _) hp⟩)
    intro e
    have:=hc.1.2
    rw [<- a2.isEmpty,e] at this
    cases this
  ·cases hz
 ·split at hz
  ·rename_i hc
   simp only [Bool.and_eq_true,decide_eq_true_eq] at hc
   cases hz; cases hy
   cases hx with
   | lst a1 a2=>exact .inr (.inr ⟨_,_,_,rfl,rfl,w.sub _ _ a1,hc.1.1,hc.1.2,by rw [a2.length]; exact of_decide_eq_true hc.2,λp hp=>k.lst w (a2.rep _) hp⟩)
  ·cases hz
 ·cases hz
noncomputable def e9:PyData->PyData->Option PyData
 | .int m,.int n=>if (decide (n≠0) && fit n)=true then some (.int (m.fdiv n)) else none
 | _,_=>none
theorem iW:cz (rI Ziq λi j=>.int (i.fdiv j)) e9:=λPK pa m G H x y dx dy dz Q w hx hy hz k=>by
 unfold e9 at hz
 split at hz
 ·split at hz
  ·rename_i hc
   rw [Bool.and_eq_true] at hc
   cases hz; cases hx; cases hy
   exact ⟨_,_,rfl,rfl,⟨of_decide_eq_true hc.1,of_decide_eq_true hc.2⟩,k.here w (.int _)⟩
  ·cases hz
 ·cases hz
noncomputable def jr:PyData->PyData->Option PyData
 | .int m,.int n=>if decide (n≠0)=true then some (.int (m.fmod n)) else none
 | _,_=>none
theorem Zal:cz (rI (λ_ j=>j≠0) λi j=>.int (i.fmod j)) jr:=λPK pa m G H x y dx dy dz Q w hx hy hz k=>by
 unfold jr at hz
 split at hz
 ·split at hz
  ·rename_i hc
   cases hz; cases hx; cases hy
   exact ⟨_,_,rfl,rfl,of_decide_eq_true hc,k.here w (.int _)⟩
  ·cases hz
 ·cases hz
noncomputable def pz:PyData->PyData->Option PyData
 | .int m,.int n=>if (decide (0<=n) && decide (n<=1000000) && decide (m.natAbs < 2 ^ 64))=true then some (.int (m ^ n.toNat)) else none
 | _,_=>none
theorem Ziw:cz (rI Zip λi j=>.int (i ^ j.toNat)) pz:=λPK pa m G H x y dx dy dz Q w hx hy hz k=>by
 unfold pz at hz
 split at hz
 ·split at hz
  ·rename_i hc
   simp only [Bool.and_eq_true,decide_eq_true_eq] at hc
   cases hz; cases hx; cases hy
   exact ⟨_,_,rfl,rfl,⟨hc.1.1,hc.1.2,hc.2⟩,k.here w (.int _)⟩
  ·cases hz
 ·cases hz
noncomputable def fF (i:List Sl->Tr PyData):List Sl->Tr PyData:=λρ=>(i ρ).bind λx=>match x with
 | .int n=>.ret (.int (-n))
 | _=>.fail
theorem iL (ha:PE X a (TAe PK i)):PE X (.UnaryOp .USub a pos) (TAe PK (fF i)):=(ZkH ZiB ha).imp λσ H Q hz0=>by
 obtain ⟨pa,G₀,H₀,m,ρ,G,R,z⟩:=hz0
 refine TAe.then R z λm1 x v G1 H1 s1 w1 R1 d1 q1=>?_
 cases d1 with
 | int n=>exact ⟨n,rfl,(Kn.later q1 s1 w1.some).here w1 (.int _)⟩
 | _=>exact q1.elim
noncomputable def df (f:Int->Int->Bool):PyData->PyData->Option PyData
 | .int m,.int n=>some (.bool (f m n))
 | _,_=>none
theorem eu {f:Int->Int->Bool}:cz (dO λi j=>.bl (f i j)) (df f):=λPK pa m G H x y dx dy dz Q w hx hy hz k=>by
 unfold df at hz
 split at hz
 ·cases hz; cases hx; cases hy
  exact ⟨_,_,rfl,rfl,k.here w (.bl _)⟩
 ·cases hz
noncomputable def de:PyData->PyData->Option PyData
 | .str m,.str n=>some (.bool (m == n))
 | x,y=>if (SeqAt.shaped x && SeqAt.shaped y)=true then some (.bool (PyData.eqv x y)) else none
noncomputable def c5:PyData->PyData->Option PyData
 | .str m,.str n=>some (.bool (!(m == n)))
 | x,y=>if (SeqAt.shaped x && SeqAt.shaped y)=true then some (.bool (!PyData.eqv x y)) else none
noncomputable def Zb7:R2:=λx y H Q=>rEq x y H Q\/∃ d e,Dn H x d/\Dn H y e/\SeqAt.shaped d=true/\SeqAt.shaped e=true/\Q (.bl (PyData.eqv d e)) H
noncomputable def ZbZ:R2:=λx y H Q=>rNe x y H Q\/∃ d e,Dn H x d/\Dn H y e/\SeqAt.shaped d=true/\SeqAt.shaped e=true/\Q (.bl (!PyData.eqv d e)) H
theorem pI {k:Nat} (hr:Room k X.A):OpR X (compareOp .Eq) Zb7:=Zk2.or (Zk1 hr)
theorem gD {k:Nat} (hr:Room k X.A):OpR X (compareOp .NotEq) ZbZ:=ZkX.or (ZkW hr)
theorem ot:cz Zb7 de:=λPK pa m G H x y dx dy dz Q w hx hy hz k=>by
 unfold de at hz
 split at hz
 ·cases hz; cases hx; cases hy
  exact .inl ⟨rfl,by rw [no]; exact k.here w (.bl _)⟩
 ·split at hz
  ·rename_i hc
   rw [Bool.and_eq_true] at hc
   cases hz
   exact .inr ⟨_,_,hx.mono w.sub,hy.mono w.sub,hc.1,hc.2,k.here w (.bl _)⟩
  ·cases hz
theorem gj:cz ZbZ c5:=λPK pa m G H x y dx dy dz Q w hx hy hz k=>by
 unfold c5 at hz
 split at hz
 ·cases hz; cases hx; cases hy
  exact .inl ⟨rfl,by rw [no]; exact k.here w (.bl _)⟩
 ·split at hz
  ·rename_i hc
   rw [Bool.and_eq_true] at hc
   cases hz
   exact .inr ⟨_,_,hx.mono w.sub,hy.mono w.sub,hc.1,hc.2,k.here w (.bl _)⟩
  ·cases hz
noncomputable def am:PyData->PyData->Option PyData
 | .list xs,.int n=>a9 xs n
 | .tuple xs,.int n=>a9 xs n
 | _,_=>none
theorem DnAll.at {H:Hp} {vs:List V} {ds:List PyData} {n:Int} {d:PyData} (h:DnAll H vs ds) (e:a9 ds n=some d):∃ v,a9 vs n=some v/\Dn H v d:=by
 unfold a9 at e ⊢
 rw [<- h.length] at e
 cases hn:bG vs.length n with
 | none=>rw [hn] at e; cases e
 | some j =>
  rw [hn] at e
  exact h.get j e
theorem aI {K:PySem.W.Frag}:cz (rIx K) am:=λPK pa m G H x y dx dy dz Q w hx hy hz k=>by
 unfold am at hz
 split at hz
 ·cases hy
  cases hx with
  | lst a1 a2 =>
   obtain ⟨v,h1,h2⟩:=a2.at hz
   exact .inl ⟨_,_,_,v,rfl,rfl,SqL.of (w.sub _ _ a1),h1,k.here w h2⟩
 ·cases hy
  cases hx with
  | tup a1 a2 =>
   obtain ⟨v,h1,h2⟩:=a2.at hz
   exact .inr (.inl ⟨_,_,_,v,rfl,rfl,SqT.of (w.sub _ _ a1),h1,k.here w h2⟩)
 ·cases hz
noncomputable def cx:List PyData->Option PyData
 | [.list xs]=>some (.int xs.length)
 | [.tuple xs]=>some (.int xs.length)
 | _=>none
theorem hX {K:PySem.W.Frag}:eS (λxs H Q=>∃ p ys,xs=[.ref p]/\(SqL K H p ys\/SqT K H p ys)/\Q (.int ys.length) H) cx:=λPK pa m G H vs ds d Q w hv hd k=>by
 unfold cx at hd
 split at hd
 ·cases hd
  cases hv with
  | cons h1 h2 =>
   cases h2
   cases h1 with
   | lst a1 a2=>exact ⟨_,_,rfl,.inl (SqL.of (w.sub _ _ a1)),by rw [a2.length]; exact k.here w (.int _)⟩
 ·cases hd
  cases hv with
  | cons h1 h2 =>
   cases h2
   cases h1 with
   | tup a1 a2=>exact ⟨_,_,rfl,.inr (SqT.of (w.sub _ _ a1)),by rw [a2.length]; exact k.here w (.int _)⟩
 ·cases hd
noncomputable def nG (n:Int):Int:=if n < 0 then -n else n
noncomputable def jO:List PyData->Option PyData
 | [.int n]=>some (.int (nG n))
 | _=>none
theorem ow:eS (λxs H Q=>∃ i,xs=[.int i]/\Q (.int (if i < 0 then -i else i)) H) jO:=λPK pa m G H vs ds d Q w hv hd k=>by
 unfold jO at hd
 split at hd
 ·cases hd
  cases hv with
  | cons h1 h2=>cases h2; cases h1; exact ⟨_,rfl,k.here w (.int _)⟩
 ·cases hd
noncomputable def bz (m n:Int):Int:=if n > m then n else m
noncomputable def iy:List PyData->Option PyData
 | [.int m,.int n]=>some (.int (bz m n))
 | _=>none
theorem lE:eS (λxs H Q=>∃ i j,xs=[.int i,.int j]/\Q (.int (if j > i then j else i)) H) iy:=λPK pa m G H vs ds d Q w hv hd k=>by
 unfold iy at hd
 split at hd
 ·cases hd
  cases hv with
  | cons h1 h2=>cases h2 with | cons h2 h3=>cases h3; cases h1; cases h2; exact ⟨_,_,rfl,k.here w (.int _)⟩
 ·cases hd
noncomputable def iH:List PyData->Option PyData
 | [.int n]=>some (.int n)
 | [.bool n]=>some (.int (if n then 1 else 0))
 | _=>none
theorem ou:eS (λxs H Q=>(∃ i,xs=[.int i]/\Q (.int i) H)\/∃ k,xs=[.bl k]/\Q (.int (if k then 1 else 0)) H) iH:=λPK pa m G H vs ds d Q w hv hd k=>by
 unfold iH at hd
 split at hd
 ·cases hd
  cases hv with
  | cons h1 h2=>cases h2; cases h1; exact .inl ⟨_,rfl,k.here w (.int _)⟩
 ·cases hd
  cases hv with
  | cons h1 h2=>cases h2; cases h1; exact .inr ⟨_,rfl,k.here w (.int _)⟩
 ·cases hd
noncomputable def fm:List PyData->Option PyData
 | [.list xs]=>some (.tuple xs)
 | [.tuple xs]=>some (.tuple xs)
 | _=>none
theorem iX {K:PySem.W.Frag}:eS (λxs H Q=>∃ p ys,xs=[.ref p]/\((SqL K H p ys/\∀ l,H l=none->Q (.ref l) (upd H l (.tup ys)))\/(SqT K H p ys/\Q (.ref p) H))) fm:=λPK pa m G H vs ds d Q w hv hd k=>by
 unfold fm at hd
 split at hd
 ·cases hd
  cases hv with
  | cons h1 h2 =>
   cases h2
   cases h1 with
   | lst a1 a2=>exact ⟨_,_,rfl,.inl ⟨SqL.of (w.sub _ _ a1),λp hp=>k.tup w a2 hp⟩⟩
 ·cases hd
  cases hv with
  | cons h1 h2 =>
   cases h2
   cases h1 with
   | tup a1 a2=>exact ⟨_,_,rfl,.inr ⟨SqT.of (w.sub _ _ a1),k.here w (.tup a1 a2)⟩⟩
 ·cases hd
noncomputable def gN:List PyData->Option (List PyData)
 | [.list xs]=>some xs
 | [.tuple xs]=>some xs
 | _=>none
theorem Zao {K:PySem.W.Frag}:rN (λxs H Q=>∃ p ys,xs=[.ref p]/\(SqL K H p ys\/SqT K H p ys)/\∀ l,H l=none->Q (.ref l) (upd H l (.lst ys))) gN:=λPK pa m G H vs ds d Q w hv hd k=>by
 unfold gN at hd
 split at hd
 ·cases hd
  cases hv with
  | cons h1 h2 =>
   cases h2
   cases h1 with
   | lst a1 a2=>exact ⟨_,_,rfl,.inl (SqL.of (w.sub _ _ a1)),λp hp=>k.new w a2 hp⟩
 ·cases hd
  cases hv with
  | cons h1 h2 =>
   cases h2
   cases h1 with
   | tup a1 a2=>exact ⟨_,_,rfl,.inr (SqT.of (w.sub _ _ a1)),λp hp=>k.new w a2 hp⟩
 ·cases hd
noncomputable def ik (d:PyData):Bool:=!d.hasDict && d.showable && decide (d.depth<=32) && decide (d.shown.length<=sizeLine)
noncomputable def eG:List PyData->Option PyData
 | [d]=>if ik d=true then some (.str d.shown) else none
 | _=>none
theorem gl:eS (λxs H Q=>∃ v d,xs=[v]/\Dn H v d/\d.hasDict=false/\d.showable=true/\d.depth<=32/\d.shown.length<=sizeLine/\Q (.str d.shown) H) eG:=λPK pa m G H vs ds d Q w hv hd k=>by
 unfold eG at hd
 split at hd
 ·split at hd
  ·rename_i hc
   unfold ik at hc
   simp only [Bool.and_eq_true,decide_eq_true_eq,Bool.not_eq_true'] at hc
   cases hd
   cases hv with
   | cons h1 h2=>cases h2; exact ⟨_,_,rfl,h1.mono w.sub,hc.1.1.1,hc.1.1.2,hc.1.2,hc.2,k.here w (.str _)⟩
  ·cases hd
 ·cases hd
noncomputable def eP (xs:List PyData) (lo hi:Option Int):List PyData:=(xs.drop (HT.aD xs.length 0 lo)).take (HT.aD xs.length xs.length hi - HT.aD xs.length 0 lo)
theorem DnAll.take {H:Hp}:∀ {vs:List V} {ds:List PyData} (n:Nat),DnAll H vs ds->DnAll H (vs.take n) (ds.take n)
 | _,_,0,_=>.nil
 | _,_,_+1,.nil=>.nil
 | _,_,n+1,.cons r t=>.cons r (DnAll.take n t)
theorem DnAll.drop {H:Hp}:∀ {vs:List V} {ds:List PyData} (n:Nat),DnAll H vs ds->DnAll H (vs.drop n) (ds.drop n)
 | _,_,0,r=>r
 | _,_,_+1,.nil=>.nil
 | _,_,n+1,.cons r t=>DnAll.drop n t
theorem DnAll.cut {H:Hp} {vs:List V} {ds:List PyData} (h:DnAll H vs ds) (lo hi:Option Int):DnAll H (eO vs lo hi) (eP ds lo hi):=by
 unfold eO eP
 rw [h.length]
 exact (h.drop _).take _
noncomputable abbrev fg:=List Sl->Tr (Option Int)
noncomputable def f8:fg:=λ_=>.ret none
noncomputable def fE (i:List Sl->Tr PyData):fg:=λρ=>(i ρ).bind λx=>match x with
 | .int n=>.ret (some n)
 | _=>.fail
noncomputable def TAp (PK:Pk) (i:fg):TO:=λσ H Q=>∃ pa G₀ H₀ m ρ G,Rl PK pa G₀ H₀ m σ ρ G H/\(i ρ).ok m λm' x=>∀ G' H',Stp pa G H G' H'->Wd PK pa m' G' H'->Q x H'
theorem PO.imp {e:Option Expr} {t t':TO} (h:PO X e t) (q:∀ σ H Q,t' σ H Q->t σ H Q):PO X e t':=λpins s σ H Q I z=>h pins s σ H Q I (q σ H Q z)
theorem lh:PO X none (TAp PK f8):=Zcj.imp λσ H Q hz0=>by
 obtain ⟨pa,G₀,H₀,m,ρ,G,R,z⟩:=hz0
 exact z G H .refl R.wd
theorem lg (h:PE X e (TAe PK i)):PO X (some e) (TAp PK (fE i)):=(Zci h).imp λσ H Q hz0=>by
 obtain ⟨pa,G₀,H₀,m,ρ,G,R,z⟩:=hz0
 refine TAe.then R z λm1 x v G1 H1 s1 w1 R1 d1 q1=>?_
 cases d1 with
 | int n=>exact ⟨n,rfl,q1 G1 H1 s1 w1⟩
 | _=>exact q1.elim
theorem Zmf {prog:Program} {w:World} {A:Around} {E:Value->Shared->Prop} {s:Shared} {t sl:Addr} {items:Array Value} {vl vu:Value} {lo hi:Option Int} {Q:Value->Shared->Prop} (ht:IsTup s.heap t items) (hs:s.heap.IsSliceOf sl vl vu .none) (pl:IsPart vl lo) (pu:IsPart vu hi)
  (hw:HT.aD items.size 0 lo=0/\HT.aD items.size items.size hi=items.size) (h:Q (.ref t) s):wpAny (model prog w) A (getItem (.ref t) (.ref sl)) Q E s:=by
 obtain ⟨os,hos,hcs,hds⟩:=id hs
 have hTs:s.TypeIs (.ref sl) "slice":=⟨os,hos,hcs⟩
 unfold getItem
 try with_reducible refine wpAny_holding ?_
 first | refine wpAny_bind (wpAny_pure ?_) | skip
 refine wpAny_bind (wpAny_sequenceKey ht.typeIs (by decide) ?_)
 refine wpAny_bind (wpAny_callSpecial?_slot (name:=Str.ofString "__getitem__") ht.typeIs PyProof.Rows.slot_tuple_getitem
  (wpAny_call_entry PyProof.Rows.slot_tuple_getitem ht.typeIs entry_tuple_getitem ?_ (args_tuple_getitem _ _)))
 show wpAny _ _ (Builtin.Tuple.tupleItemsOf (.ref t) >>= _) _ _ s
 refine wpAny_bind (tupleItemsOf_ ht ?_)
 refine wpAny_bind (wpAny_typeOf hTs ?_)
 rw [if_pos (by decide)]
 refine wpAny_bind (HT.ZaX hs pl pu ?_)
 have hyes:(((HT.aD items.size 0 lo:Nat):Int) == 0 && (1:Int) == 1 && (HT.aD items.size items.size hi - HT.aD items.size 0 lo) == items.size)=true:=by
  rw [hw.1,hw.2]
  simp
 show wpAny _ _ (if (((HT.aD items.size 0 lo:Nat):Int) == 0 && (1:Int) == 1 && (HT.aD items.size items.size hi - HT.aD items.size 0 lo) == items.size)=true then _ else _) _ _ s
 rw [if_pos hyes]
 refine wpAny_bind (m:=Builtin.Tuple.tupleIsExact (.ref t)) ?_
 unfold Builtin.Tuple.tupleIsExact
 refine wpAny_bind (wpAny_typeOf ht.typeIs ?_)
 refine wpAny_pure ?_
 rw [if_pos (by decide)]
 refine wpAny_bind (wpAny_rule ?_)
 exact wpAny_pure ⟨_,rfl,wpAny_pure h⟩
noncomputable def ZbU (K:PySem.W.Frag):V->Option Int->Option Int->Hp->VK->Prop:=λx lo hi H Q=>∃ a xs,x=.ref a/\SqT K H a xs/\(HT.aD xs.length 0 lo=0/\HT.aD xs.length xs.length hi=xs.length)/\Q (.ref a) H
theorem Zjq:SlR X (ZbU X.K):=by
 intro pins s σ H x v vl vu lo hi sl Q I rx hs pl pu h
 obtain ⟨a,xs,rfl,hx,hw,q⟩:=h
 cases rx
 obtain ⟨its,r,ht,hz⟩:=I.tuple hx
 have hlen:its.toArray.size=xs.length:=by rw [List.size_toArray]; exact r.length.symm
 refine ⟨"tuple",_,PyProof.Rows.slot_tuple_getitem.lookup,ht.typeIs,?_⟩
 exact Zmf ht hs pl pu (by rw [hlen]; exact hw) ⟨.ref a,H,I,rfl,q⟩
noncomputable def Zkc (K:PySem.W.Frag):V->Option Int->Option Int->Hp->VK->Prop:=λx lo hi H Q=>ZbW K x lo hi H Q\/ZbV K x lo hi H Q\/ZbU K x lo hi H Q
theorem Zjs:SlR X (Zkc X.K):=ZaY.or (Zjr.or Zjq)
noncomputable def ZaW (x:PyData) (lo hi:Option Int):Option PyData:=match x with
 | .list xs=>some (.list (eP xs lo hi))
 | .tuple xs=>some (.tuple (eP xs lo hi))
 | _=>none
noncomputable def fY (i:List Sl->Tr PyData) (p q:fg):List Sl->Tr PyData:=λρ=>(i ρ).bind λx=>(p ρ).bind λlo=>(q ρ).bind λhi=>Tr.of (ZaW x lo hi)
theorem TAp.then {p:fg} {σ:St} {H:Hp} {β:Type} {k:Option Int->Tr β} {Z:Nat->β->Prop} {Q:Option Int->Hp->Prop} {pa:Addr} {G₀ H₀ G:Hp} {m:Nat} {ρ:List Sl} (R:Rl PK pa G₀ H₀ m σ ρ G H) (h:((p ρ).bind k).ok m Z)
  (hq:∀ m1 x G1 H1,Stp pa G H G1 H1->Wd PK pa m1 G1 H1->Rl PK pa G₀ H₀ m1 σ ρ G1 H1->(k x).ok m1 Z->Q x H1):TAp PK p σ H Q:=by
 refine ⟨pa,G₀,H₀,m,ρ,G,R,Tr.ok_mono (Tr.ok_bind.mp h) λm1 x hx G1 H1 s1 w1=>?_⟩
 exact hq m1 x G1 H1 s1 w1 (R.step s1 w1) hx
theorem li {p q:fg} {lo hi:Option Expr} {p2:Pos} (he:PE X e (TAe PK i)) (hl:PO X lo (TAp PK p)) (hu:PO X hi (TAp PK q)):PE X (.Subscript e (.Slice lo hi none p2) pos) (TAe PK (fY i p q)):=(Zcq Zjs he hl hu).imp λσ H Q hz0=>by
 obtain ⟨pa,G₀,H₀,m,ρ,G,R,z⟩:=hz0
 refine TAe.then R z λm1 x v G1 H1 s1 w1 R1 d1 q1=>?_
 refine TAp.then R1 q1 λm2 lo G2 H2 s2 w2 R2 q2=>?_
 refine TAp.then R2 q2 λm3 hi G3 H3 s3 w3 R3 q3=>?_
 obtain ⟨d,hd,k⟩:=Tr.ok_of q3
 have s13:=(s1.trans s2 w1.some).trans s3 w2.some
 have k':=Kn.later k s13 w3.some
 have d3:=d1.mono (s2.gs.trans s3.gs)
 cases d3 with
 | lst a1 a2=>cases hd; exact .inl ⟨_,_,rfl,SqL.of (w3.sub _ _ a1),λp hp=>k'.lst w3 (a2.cut lo hi) hp⟩
 | @tup a xs ds a1 a2 =>
  cases hd
  by_cases hw:HT.aD xs.length 0 lo=0/\HT.aD xs.length xs.length hi=xs.length
  ·refine .inr (.inr ⟨_,_,rfl,SqT.of (w3.sub _ _ a1),hw,k'.here w3 ?_⟩)
   have e:eP ds lo hi=ds:=by
    unfold eP
    rw [<- a2.length,hw.1,hw.2]
    simp
    rw [a2.length]
    exact List.take_length
   rw [e]
   exact .tup a1 a2
  ·exact .inr (.inl ⟨_,_,rfl,SqT.of (w3.sub _ _ a1),hw,λp hp=>k'.tup w3 (a2.cut lo hi) hp⟩)
 | _=>cases hd
theorem DnAll.range {H:Hp} (lo:Int) (n:Nat):DnAll H (eV lo n) ((au lo n).map PyData.int):=by
 rw [Zka]
 exact DnAll.ints _
noncomputable def kg (lo hi:Int):Bool:=eY lo && eY hi && decide ((hi - lo).toNat<=1000)
noncomputable def kf:List PyData->Option (List PyData)
 | [.int lo,.int hi]=>if kg lo hi=true then some (aR lo hi) else none
 | _=>none
theorem ZjY {G:Hp} {vs:List V} {xs ys:List PyData} (d:DnAll G vs xs) (h:kf xs=some ys):∃ k n:Int,vs=[.int k,.int n]/\(-(2 ^ 62)<=k/\k < 2 ^ 62/\-(2 ^ 62)<=n/\n < 2 ^ 62/\(n - k).toNat<=1000)/\ys=aR k n:=by
 unfold kf at h
 split at h
 ·split at h
  ·rename_i hn
   cases h
   cases d with
   | cons d1 d2 =>
    cases d2 with
    | cons d2 d3 =>
     cases d3
     cases d1
     cases d2
     unfold kg at hn
     rw [Bool.and_eq_true,Bool.and_eq_true] at hn
     have h1:=of_decide_eq_true hn.1.1
     have h2:=of_decide_eq_true hn.1.2
     exact ⟨_,_,rfl,⟨h1.1,h1.2,h2.1,h2.2,of_decide_eq_true hn.2⟩,rfl⟩
  ·cases h
 ·cases h
noncomputable def ZiU (t:TA):TE:=fq (λxs H Q=>∃ a lo hi,xs=[.ref a]/\H a=some (.rng lo hi)/\-(2 ^ 62)<=lo/\lo < 2 ^ 62/\-(2 ^ 62)<=hi/\hi < 2 ^ 62/\(hi - lo).toNat<=1000/\∀ p,H p=none->Q (.ref p) (upd H p (.tup (eV lo (hi - lo).toNat))))
 (fo (fq (λxs H Q=>∃ i j:Int,xs=[.int i,.int j]/\∀ p,H p=none->Q (.ref p) (upd H p (.rng i j))) t) aZ)
noncomputable def rE (is:List Sl->Tr (List PyData)):List Sl->Tr PyData:=λρ=>(is ρ).bind λxs=>(Tr.of (kf xs)).bind λys=>.ret (.tuple ys)
theorem Zox (h:PE X e (ZiU (TAd PK is))):PE X e (TAe PK (rE is)):=h.imp λσ H Q hz0=>by
 obtain ⟨pa,G₀,H₀,m,ρ,G,R,z⟩:=hz0
 refine TAd.then R z λm1 xs vs G1 H1 s1 w1 R1 d1 q1=>?_
 rw [Tr.ok_bind] at q1
 obtain ⟨ys,hy,k⟩:=Tr.ok_of q1
 obtain ⟨lo,hi,rfl,⟨b1,b2,b3,b4,b5⟩,rfl⟩:=ZjY d1 hy
 refine ⟨lo,hi,rfl,λp hp=>?_⟩
 obtain ⟨w2,s2⟩:=w1.own (o:=.rng lo hi) hp
 refine ⟨p,lo,hi,rfl,bZ,b1,b2,b3,b4,b5,λq hq=>?_⟩
 exact (Kn.later k (s1.trans s2 w1.some) w2.some).tup w2 (DnAll.range _ _) hq
noncomputable def ints?:List PyData->Option (List Int)
 | []=>some []
 | .int n::xs=>(ints? xs).bind λns=>some (n::ns)
 | _=>none
@[simp] theorem ints?_map:∀ ns:List Int,ints? (ns.map PyData.int)=some ns
 | []=>rfl
 | n::ns=>by rw [List.map_cons,ints?,ints?_map ns]; rfl
theorem DnAll.ints_inv {H:Hp} {vs:List V} {ds:List PyData} {ns:List Int} (a:DnAll H vs ds) (h:ints? ds=some ns):vs=ns.map V.int/\ds=ns.map PyData.int:=by
 induction vs generalizing ds ns with
 | nil=>cases a; cases h; exact ⟨rfl,rfl⟩
 | cons v vs ih =>
  cases a with
  | cons g t =>
   cases g with
   | int n =>
    unfold ints? at h
    rename_i ds
    cases e:ints? ds with
    | none=>rw [e] at h; cases h
    | some ms =>
     rw [e] at h
     cases h
     obtain ⟨h1,h2⟩:=ih t e
     exact ⟨by rw [h1]; rfl,by rw [h2]; rfl⟩
   | _=>unfold ints? at h; cases h
end L2
set_option Elab.async false
set_option linter.all false
set_option maxRecDepth 100000
namespace L2
open PySem PySem.Spec PyProof.Rows
section
variable {prog:Program} {w:World} {A:Around} {E:Value->Shared->Prop} {s:Shared}
noncomputable def ItAt (b:Bool) (h:Heap) (it a:Addr) (k:Nat):Prop:=match b with
 | true=>h.IsListIter it a k
 | false=>h.IsTupleIter it a k
noncomputable def SqAt (b:Bool) (h:Heap) (a:Addr) (items:Array Value):Prop:=match b with
 | true=>h.IsList a items
 | false=>h.IsTuple a items
theorem ItAt.at {b:Bool} {h h':Heap} {it a:Addr} {k:Nat} (x:ItAt b h it a k) (e:∀ o,h.get? it=some o->h'.get? it=some o):ItAt b h' it a k:=by
 cases b with
 | true=>exact Heap.IsListIter.at x e
 | false=>obtain ⟨o,ho,r⟩:=(show h.IsTupleIter it a k from x); exact ⟨o,e o ho,r⟩
theorem SqAt.at {b:Bool} {h h':Heap} {a:Addr} {items:Array Value} (x:SqAt b h a items) (e:∀ o,h.get? a=some o->h'.get? a=some o):SqAt b h' a items:=by
 cases b with
 | true=>exact Heap.IsList.at x e
 | false=>exact Heap.IsTuple.at x e
theorem ItAt.there {b:Bool} {h:Heap} {it a:Addr} {k:Nat} (x:ItAt b h it a k):∃ o,h.get? it=some o/\∀ v,o.data≠.cell v:=by
 cases b with
 | true=>obtain ⟨o,ho,_,hd⟩:=(show h.IsListIter it a k from x); exact ⟨o,ho,λv z=>by rw [hd] at z; cases z⟩
 | false=>obtain ⟨o,ho,_,hd⟩:=(show h.IsTupleIter it a k from x); exact ⟨o,ho,λv z=>by rw [hd] at z; cases z⟩
theorem Zll {it l:Addr} {i:Nat} {items:Array Value} {x:Value} {Q:Value->Shared->Prop} (hit:s.heap.IsTupleIter it l i) (hl:s.heap.IsTuple l items) (hx:items[i]?=some x)
  (hQ:∀ h',h'.IsTupleIter it l (i+1)->Heap.SameBut it s.heap h'->Q x { s with heap:=h' }):wpAny (model prog w) A (Builtin.SmallTypes.nextOf (.ref it)) Q E s:=by
 obtain ⟨o,ho,hc,hd⟩:=id hit; obtain ⟨ol,hol,_,nl,hdl⟩:=hl
 unfold Builtin.SmallTypes.nextOf
 refine wpAny_bind (wpAny_callSpecial?_slot (name:=Str.ofString "__next__") hit.typeIs F.slot_tuple_iterator_next (wpAny_call_entry F.slot_tuple_iterator_next hit.typeIs F.entry_tuple_iterator_next ?_ (F.args_tuple_iterator_next_1 _)))
 show wpAny _ _ (field (.ref it) 0 >>= _) _ _ s; refine wpAny_bind (wpAny_field ho hd (x:=.ref l) rfl ?_)
 show wpAny _ _ (if (Value.ref l == Value.none)=true then _ else _) _ _ s; rw [if_neg (show ¬ ((Value.ref l == Value.none)=true) from Bool.false_ne_true)]
 show wpAny _ _ (field (.ref it) 1 >>= _) _ _ s; refine wpAny_bind (wpAny_field ho hd (x:=.int i 0) rfl ?_)
 show wpAny _ _ (seqItems? (.ref l) >>= _) _ _ s; refine wpAny_bind (wpAny_seqItems hol hdl ?_); simp only [Int.toNat_natCast,hx]
 refine wpAny_bind (wpAny_setField ho hd (by simp) (wpAny_pure ⟨x,rfl,wpAny_pure (hQ _ ⟨_,Heap.get?_update_self _ ho (Obj.isFreed_of_fields (Obj.data_mapFields hd _)),(Obj.cls_mapFields ..).trans hc,?_⟩ (Heap.SameBut.update ..))⟩))
 rw [Obj.data_mapFields hd]; simp [rawInt]
theorem Zlm {it l:Addr} {i:Nat} {items:Array Value} {Q:Value->Shared->Prop} (hh:A.handled=none) (hit:s.heap.IsTupleIter it l i) (hl:s.heap.IsTuple l items) (hx:items[i]?=none)
  (hE:∀ h' e,Heap.ExtBut it s.heap h'->(∃ o,h'.get? e=some o/\o.cls=.type "StopIteration")->E (.ref e) { s with heap:=h' }):wpAny (model prog w) A (Builtin.SmallTypes.nextOf (.ref it)) Q E s:=by
 obtain ⟨o,ho,hc,hd⟩:=id hit; obtain ⟨ol,hol,_,nl,hdl⟩:=hl
 unfold Builtin.SmallTypes.nextOf
 refine wpAny_bind (wpAny_callSpecial?_slot (name:=Str.ofString "__next__") hit.typeIs F.slot_tuple_iterator_next (wpAny_call_entry F.slot_tuple_iterator_next hit.typeIs F.entry_tuple_iterator_next ?_ (F.args_tuple_iterator_next_1 _)))
 show wpAny _ _ (field (.ref it) 0 >>= _) _ _ s; refine wpAny_bind (wpAny_field ho hd (x:=.ref l) rfl ?_)
 show wpAny _ _ (if (Value.ref l == Value.none)=true then _ else _) _ _ s; rw [if_neg (show ¬ ((Value.ref l == Value.none)=true) from Bool.false_ne_true)]
 show wpAny _ _ (field (.ref it) 1 >>= _) _ _ s; refine wpAny_bind (wpAny_field ho hd (x:=.int i 0) rfl ?_)
 show wpAny _ _ (seqItems? (.ref l) >>= _) _ _ s; refine wpAny_bind (wpAny_seqItems hol hdl ?_); simp only [Int.toNat_natCast,hx]
 refine wpAny_bind (wpAny_rule (wpAny_bind (wpAny_setField ho hd (by simp) ?_))); show wpAny _ _ (newExc (.type "StopIteration") [] >>= _) _ _ _
 refine wpAny_bind ?_; simp only [newExc,newTuple]; refine wpAny_bind (wpAny_newObj_type ?_ (by size_fits))
 refine wpAny_bind (m:=firstArgMember _ _) (wpAny_of_eq (a:=Value.none) (by first | rfl | (simp only [firstArgMember]; rfl)) ?_); refine wpAny_newObj_type ?_ (by size_fits); simp only [raiseNew]
 refine wpAny_bind (wpAny_handled ?_); first | rw [show A.in1.handled=none from hh] | rw [hh]
 refine wpAny_bind (wpAny_pure (wpAny_throw (hE _ _ (((Heap.SameBut.update ..).extBut.push _).push _) ⟨_,Heap.get?_push_size _ rfl,rfl⟩)))
theorem mf {b:Bool} {it l:Addr} {i:Nat} {items:Array Value} {x:Value} {Q:Value->Shared->Prop} (hit:ItAt b s.heap it l i) (hl:SqAt b s.heap l items) (hx:items[i]?=some x)
  (hQ:∀ h',ItAt b h' it l (i+1)->Heap.SameBut it s.heap h'->Q x { s with heap:=h' }):wpAny (model prog w) A (Builtin.SmallTypes.nextOf (.ref it)) Q E s:=by
 cases b with
 | true=>exact wpAny_nextOf_list_item hit hl hx hQ
 | false=>exact Zll hit hl hx hQ
theorem pM {b:Bool} {it l:Addr} {i:Nat} {items:Array Value} {Q:Value->Shared->Prop} (hh:A.handled=none) (hit:ItAt b s.heap it l i) (hl:SqAt b s.heap l items) (hx:items[i]?=none)
  (hE:∀ h' e,Heap.ExtBut it s.heap h'->(∃ o,h'.get? e=some o/\o.cls=.type "StopIteration")->E (.ref e) { s with heap:=h' }):wpAny (model prog w) A (Builtin.SmallTypes.nextOf (.ref it)) Q E s:=by
 cases b with
 | true=>exact wpAny_nextOf_list_end hh hit hl hx hE
 | false=>exact Zlm hh hit hl hx hE
theorem ItAt.bt {b:Bool} {h h':Heap} {it a c:Addr} {k:Nat} (x:ItAt b h it a k) (e:Heap.ExtBut c h h') (n:it≠c):ItAt b h' it a k:=x.at λo q=>e it o n q
theorem SqAt.bt {b:Bool} {h h':Heap} {a c:Addr} {items:Array Value} (x:SqAt b h a items) (e:Heap.ExtBut c h h') (n:a≠c):SqAt b h' a items:=x.at λo q=>e a o n q
theorem Zir {b1 b2:Bool} {z TI TO i1 i2 l1 l2:Addr} {k1 k2:Nat} {xs ys:Array Value} {x y a b:Value} {Q:Value->Shared->Prop} (D:ZipApart z TI TO i1 i2 l1 l2)
  (hz:IsZip s.heap z TI TO .none) (hTI:IsPair s.heap TI (.ref i1) (.ref i2)) (hTO:IsPair s.heap TO a b) (h1:ItAt b1 s.heap i1 l1 k1) (h2:ItAt b2 s.heap i2 l2 k2) (hl1:SqAt b1 s.heap l1 xs) (hl2:SqAt b2 s.heap l2 ys) (hx:xs[k1]?=some x) (hy:ys[k2]?=some y)
  (hQ:∀ h',IsZip h' z TI TO (rawInt s.heap.objs.size)->IsPair h' TO x y->ItAt b1 h' i1 l1 (k1+1)->ItAt b2 h' i2 l2 (k2+1)->IsPair h' s.heap.objs.size x y ->
   (∀ c o,c≠z->c≠TO->c≠i1->c≠i2->s.heap.get? c=some o->h'.get? c=some o)->Q (.ref s.heap.objs.size) { s with heap:=h' }) :
  wpAny (model prog w) A (Builtin.«zip.__next__» ⟨[.ref z],[]⟩) (λfin s'=>∃ v,fin=.done (.ret v)/\Q v s') E s:=by
 show wpAny _ _ (field (.ref z) 2 >>= _) _ _ _; refine wpAny_bind (wpAny_field hz rfl (x:=.bool false) rfl ?_)
 show wpAny _ _ (field (.ref z) 3 >>= _) _ _ _; refine wpAny_bind (wpAny_field hz rfl (x:=.ref TI) rfl ?_); refine wpAny_bind (wpAny_seqItems hTI rfl ?_)
 show wpAny _ _ (Builtin.SmallTypes.ownedTupleIsFree (.ref z) >>= _) _ _ _; refine wpAny_bind ?_; unfold Builtin.SmallTypes.ownedTupleIsFree
 refine wpAny_bind (wpAny_field hz rfl (x:=.none) rfl (wpAny_pure ?_)); simp only [if_true]; refine wpAny_bind (wpAny_rule ?_); refine wpAny_bind (wpAny_field hz rfl (x:=.ref TO) rfl ?_)
 refine wpAny_bind (wpAny_setField_rec hz (by simp) λg1 hz1 e1=>?_); replace hz1:IsZip g1 z TI TO .ellipsis:=hz1
 refine wpAny_bind ?_; simp only [List.zipIdx_cons,List.zipIdx_nil,List.forIn_cons,List.forIn_nil]; refine wpAny_bind (wpAny_bind (wpAny_onRaise ?_))
 show wpAny _ _ (Builtin.SmallTypes.nextOf (.ref i1) >>= _) _ _ _; refine wpAny_bind (mf (h1.bt e1.extBut D.i1z) (hl1.bt e1.extBut D.l1z) hx λg2 t1 e2=>wpAny_pure ?_)
 have p2:IsPair g2 TO a b:=e2.extBut _ _ D.TOi1 (e1.extBut _ _ D.TOz hTO)
 refine wpAny_bind (wpAny_seqItems p2 rfl ?_); refine wpAny_bind (wpAny_updateSeq_pair p2 λg3 p3 e3=>?_); replace p3:IsPair g3 TO x b:=p3
 refine wpAny_bind (wpAny_letGo (wpAny_pure ?_)); refine wpAny_bind (wpAny_bind (wpAny_onRaise ?_))
 show wpAny _ _ (Builtin.SmallTypes.nextOf (.ref i2) >>= _) _ _ _
 refine wpAny_bind (mf (((h2.bt e1.extBut D.i2z).bt e2.extBut D.i12.symm).bt e3.extBut D.TOi2.symm) (((hl2.bt e1.extBut D.l2z).bt e2.extBut D.l2i1).bt e3.extBut D.l2TO) hy λg4 t2 e4=>wpAny_pure ?_)
 have p4:IsPair g4 TO x b:=e4.extBut _ _ D.TOi2 p3
 refine wpAny_bind (wpAny_seqItems p4 rfl ?_); refine wpAny_bind (wpAny_updateSeq_pair p4 λg5 p5 e5=>?_); replace p5:IsPair g5 TO x y:=p5
 refine wpAny_bind (wpAny_letGo (wpAny_pure (wpAny_pure ?_))); refine wpAny_bind (wpAny_seqItems p5 rfl ?_); refine wpAny_bind (wpAny_newTuple ?_)
 have hsz:g5.objs.size=s.heap.objs.size:=by rw [e5.1,e4.1,e3.1,e2.1,e1.1]
 have z5:IsZip g5 z TI TO .ellipsis:=e5.extBut _ _ D.TOz.symm (e4.extBut _ _ D.i2z.symm (e3.extBut _ _ D.TOz.symm (e2.extBut _ _ D.i1z.symm hz1)))
 have k5:∀ c o,c≠z->c≠TO->c≠i1->c≠i2->s.heap.get? c=some o->g5.get? c=some o:=λc o c1 c2 c3 c4 q=>e5.extBut _ _ c2 (e4.extBut _ _ c4 (e3.extBut _ _ c2 (e2.extBut _ _ c3 (e1.extBut _ _ c1 q))))
 have u1:ItAt b1 g5 i1 l1 (k1+1):=((t1.bt e3.extBut D.TOi1.symm).bt e4.extBut D.i12).bt e5.extBut D.TOi1.symm
 have u2:ItAt b2 g5 i2 l2 (k2+1):=t2.bt e5.extBut D.TOi2.symm
 have zlt:z < g5.objs.size:=Heap.lt_size z5
 show wpAny _ _ (Builtin.SmallTypes.ownedTupleHandOut (.ref z) (.ref g5.objs.size) >>= _) _ _ _; refine wpAny_bind ?_; unfold Builtin.SmallTypes.ownedTupleHandOut
 have z6:IsZip (g5.push { cls:=.type "tuple",data:=.seq #[x,y] }) z TI TO .ellipsis:=Heap.get?_push_of_some _ z5
 refine wpAny_bind (wpAny_setField_rec z6 (by simp) λg7 z7 e7=>?_); replace z7:IsZip g7 z TI TO (rawInt g5.objs.size):=z7
 refine wpAny_setField_rec z7 (by simp) λg8 z8 e8=>?_; replace z8:IsZip g8 z TI TO (rawInt g5.objs.size):=z8
 have up:∀ c o,c≠z->g5.get? c=some o->g8.get? c=some o:=λc o c1 q=>e8.extBut _ _ c1 (e7.extBut _ _ c1 (Heap.get?_push_of_some _ q))
 have t8:IsPair g8 g5.objs.size x y:=e8.extBut _ _ (Nat.ne_of_gt zlt) (e7.extBut _ _ (Nat.ne_of_gt zlt) (Heap.get?_push_size _ rfl))
 rw [hsz] at z8 t8
 refine wpAny_pure ⟨_,rfl,?_⟩; show Q (.ref g5.objs.size) _; rw [hsz]
 exact hQ g8 z8 (up _ _ D.TOz p5) (u1.at λo q=>up _ o D.i1z q) (u2.at λo q=>up _ o D.i2z q) t8 λc o c1 c2 c3 c4 q=>up c o c1 (k5 c o c1 c2 c3 c4 q)
theorem Zis {b1 b2:Bool} {z TI TO i1 i2 l1 l2:Addr} {k1 k2:Nat} {xs ys:Array Value} {a b:Value} {Q:Fin->Shared->Prop} (hh:A.handled=none) (D:ZipApart z TI TO i1 i2 l1 l2)
  (hz:IsZip s.heap z TI TO .none) (hTI:IsPair s.heap TI (.ref i1) (.ref i2)) (hTO:IsPair s.heap TO a b) (h1:ItAt b1 s.heap i1 l1 k1) (h2:ItAt b2 s.heap i2 l2 k2) (hl1:SqAt b1 s.heap l1 xs) (hl2:SqAt b2 s.heap l2 ys) (hend:xs[k1]?=none\/ys[k2]?=none)
  (hE:∀ h' e,(∀ c o,c≠z->c≠TO->c≠i1->c≠i2->s.heap.get? c=some o->h'.get? c=some o)->(∃ o,h'.get? e=some o/\o.cls=.type "StopIteration")->E (.ref e) { s with heap:=h' }) :
  wpAny (model prog w) A (Builtin.«zip.__next__» ⟨[.ref z],[]⟩) Q E s:=by
 show wpAny _ _ (field (.ref z) 2 >>= _) _ _ _; refine wpAny_bind (wpAny_field hz rfl (x:=.bool false) rfl ?_)
 show wpAny _ _ (field (.ref z) 3 >>= _) _ _ _; refine wpAny_bind (wpAny_field hz rfl (x:=.ref TI) rfl ?_); refine wpAny_bind (wpAny_seqItems hTI rfl ?_)
 show wpAny _ _ (Builtin.SmallTypes.ownedTupleIsFree (.ref z) >>= _) _ _ _; refine wpAny_bind ?_; unfold Builtin.SmallTypes.ownedTupleIsFree
 refine wpAny_bind (wpAny_field hz rfl (x:=.none) rfl (wpAny_pure ?_)); simp only [if_true]; refine wpAny_bind (wpAny_rule ?_); refine wpAny_bind (wpAny_field hz rfl (x:=.ref TO) rfl ?_)
 refine wpAny_bind (wpAny_setField_rec hz (by simp) λg1 hz1 e1=>?_); replace hz1:IsZip g1 z TI TO .ellipsis:=hz1
 refine wpAny_bind ?_; simp only [List.zipIdx_cons,List.zipIdx_nil,List.forIn_cons,List.forIn_nil]; refine wpAny_bind (wpAny_bind (wpAny_onRaise ?_))
 show wpAny _ _ (Builtin.SmallTypes.nextOf (.ref i1) >>= _) _ _ _
 cases hx:xs[k1]? with
 | none =>
  refine wpAny_bind (pM hh (h1.bt e1.extBut D.i1z) (hl1.bt e1.extBut D.l1z) hx λg2 e e2 he=>?_)
  obtain ⟨oe,hoe,hce⟩:=he
  have z2:IsZip g2 z TI TO .ellipsis:=e2 _ _ D.i1z.symm hz1
  have ne:e≠z:=λq=>by subst q; rw [z2] at hoe; cases hoe; simp at hce
  exact wpAny_setField_rec z2 (by simp) λg3 _ e3=>hE g3 e (λc o c1 _ c3 _ q=>e3.extBut _ _ c1 (e2 _ _ c3 (e1.extBut _ _ c1 q))) ⟨oe,e3.extBut _ _ ne hoe,hce⟩
 | some x =>
  have hy:ys[k2]?=none:=by rcases hend with h | h; rw [hx] at h; cases h; exact h
  refine wpAny_bind (mf (h1.bt e1.extBut D.i1z) (hl1.bt e1.extBut D.l1z) hx λg2 t1 e2=>wpAny_pure ?_)
  have p2:IsPair g2 TO a b:=e2.extBut _ _ D.TOi1 (e1.extBut _ _ D.TOz hTO)
  refine wpAny_bind (wpAny_seqItems p2 rfl ?_); refine wpAny_bind (wpAny_updateSeq_pair p2 λg3 p3 e3=>?_)
  refine wpAny_bind (wpAny_letGo (wpAny_pure ?_)); refine wpAny_bind (wpAny_bind (wpAny_onRaise ?_))
  show wpAny _ _ (Builtin.SmallTypes.nextOf (.ref i2) >>= _) _ _ _
  refine wpAny_bind (pM hh (((h2.bt e1.extBut D.i2z).bt e2.extBut D.i12.symm).bt e3.extBut D.TOi2.symm) (((hl2.bt e1.extBut D.l2z).bt e2.extBut D.l2i1).bt e3.extBut D.l2TO) hy λg4 e e4 he=>?_)
  obtain ⟨oe,hoe,hce⟩:=he
  have z4:IsZip g4 z TI TO .ellipsis:=e4 _ _ D.i2z.symm (e3.extBut _ _ D.TOz.symm (e2.extBut _ _ D.i1z.symm hz1))
  have ne:e≠z:=λq=>by subst q; rw [z4] at hoe; cases hoe; simp at hce
  exact wpAny_setField_rec z4 (by simp) λg5 _ e5=>hE g5 e (λc o c1 c2 c3 c4 q=>e5.extBut _ _ c1 (e4 _ _ c4 (e3.extBut _ _ c2 (e2.extBut _ _ c3 (e1.extBut _ _ c1 q))))) ⟨oe,e5.extBut _ _ ne hoe,hce⟩
noncomputable def dD (b:Bool) (l:Addr):Obj:=match b with
 | true=>{ cls:=.type "list_iterator",data:=.fields #[.ref l,.int 0 0] }
 | false=>{ cls:=.type "tuple_iterator",data:=.fields #[.ref l,.int 0 0] }
theorem im {b:Bool} {l:Addr} {items:Array Value} {Q:Value->Shared->Prop} (hl:SqAt b s.heap l items) (hQ:Q (.ref s.heap.objs.size) { s with heap:=s.heap.push (dD b l) }):wpAny (model prog w) A (pyIter (.ref l)) Q E s:=by
 cases b with
 | true=>exact wpAny_pyIter_list hl hQ
 | false=>exact wpAny_pyIter_tuple hl hQ
theorem SqAt.push {b:Bool} {h:Heap} {l:Addr} {items:Array Value} (x:SqAt b h l items) (o:Obj):SqAt b (h.push o) l items:=x.at λ_ q=>Heap.get?_push_of_some _ q
theorem kU {b:Bool} {h:Heap} {it l:Addr} (e:h.get? it=some (dD b l)):ItAt b h it l 0:=by
 cases b with
 | true=>exact ⟨_,e,rfl,rfl⟩
 | false=>exact ⟨_,e,rfl,rfl⟩
noncomputable abbrev zA (b1:Bool) (h:Heap) (l1:Addr):Heap:=h.push (dD b1 l1)
noncomputable abbrev zB (b1 b2:Bool) (h:Heap) (l1 l2:Addr):Heap:=(zA b1 h l1).push (dD b2 l2)
noncomputable abbrev zC (b1 b2:Bool) (h:Heap) (l1 l2:Addr):Heap:=(zB b1 b2 h l1 l2).push { cls:=.type "tuple",data:=.seq #[.ref h.objs.size,.ref (zA b1 h l1).objs.size] }
noncomputable abbrev zD (b1 b2:Bool) (h:Heap) (l1 l2:Addr):Heap:=(zC b1 b2 h l1 l2).push { cls:=.type "tuple",data:=.seq #[.none,.none] }
noncomputable abbrev zH (b1 b2:Bool) (h:Heap) (l1 l2:Addr):Heap:=(zD b1 b2 h l1 l2).push { cls:=.type "zip",data:=.fields #[.none,.bool false,.bool false,.ref (zB b1 b2 h l1 l2).objs.size,.ref (zC b1 b2 h l1 l2).objs.size] }
theorem Zly (b1 b2:Bool) (l1 l2:Addr) (xs ys:Array Value) :
  Meets (Builtin.«zip.__new__» ⟨[.type "zip",.ref l1,.ref l2],[]⟩) (λ_ R s=>SqAt b1 s.heap l1 xs/\SqAt b2 s.heap l2 ys/\R (.ok (.ret (.ref (zD b1 b2 s.heap l1 l2).objs.size))) { s with heap:=zH b1 b2 s.heap l1 l2 }) :=
 .of_wp λprog w A R s h=>by
  obtain ⟨hp,g,d,tk,os⟩:=s
  obtain ⟨hl1,hl2,h⟩:=h
  have hsub:=sub_zip
  have q1:SqAt b1 (Shared.heap ⟨hp,g,d,tk,os⟩) l1 xs:=hl1
  have q2:SqAt b2 (Shared.heap ⟨hp.push (dD b1 l1),g,d,tk,os⟩) l2 ys:=hl2.push _
  wp_walk using im q1,im q2
  exact ⟨_,rfl,h⟩
theorem ZnJ {b1 b2:Bool} {l1 l2:Addr} {xs ys:Array Value} {Q:Value->Shared->Prop} (hl1:SqAt b1 s.heap l1 xs) (hl2:SqAt b2 s.heap l2 ys)
  (h:∀ h',IsZip h' (s.heap.objs.size+4) (s.heap.objs.size+2) (s.heap.objs.size+3) .none->IsPair h' (s.heap.objs.size+2) (.ref s.heap.objs.size) (.ref (s.heap.objs.size+1))->IsPair h' (s.heap.objs.size+3) .none .none ->
   ItAt b1 h' s.heap.objs.size l1 0->ItAt b2 h' (s.heap.objs.size+1) l2 0->(∀ c o,s.heap.get? c=some o->h'.get? c=some o)->Q (.ref (s.heap.objs.size+4)) { s with heap:=h' }) :
  wpAny (model prog w) A (call (.type "zip") [.ref l1,.ref l2]) Q E s:=by
 refine callType_new F.called_zip (by decide) (F.typeCall_zip_2 _ _) (F.newCall_zip_2 _ _) (λobj=>F.args_object_init_3 obj _ _) F.entry_zip_new (Zly b1 b2 l1 l2 xs ys) ⟨hl1,hl2,?_⟩
 have n1:(zA b1 s.heap l1).objs.size=s.heap.objs.size+1:=Heap.size_push ..
 have n2:(zB b1 b2 s.heap l1 l2).objs.size=s.heap.objs.size+2:=(Heap.size_push ..).trans (by rw [n1])
 have n3:(zC b1 b2 s.heap l1 l2).objs.size=s.heap.objs.size+3:=(Heap.size_push ..).trans (by rw [n2])
 have n4:(zD b1 b2 s.heap l1 l2).objs.size=s.heap.objs.size+4:=(Heap.size_push ..).trans (by rw [n3])
 have a5:IsZip (zH b1 b2 s.heap l1 l2) (zD b1 b2 s.heap l1 l2).objs.size (zB b1 b2 s.heap l1 l2).objs.size (zC b1 b2 s.heap l1 l2).objs.size .none:=Heap.get?_push_size _ rfl
 have a4:IsPair (zH b1 b2 s.heap l1 l2) (zC b1 b2 s.heap l1 l2).objs.size .none .none:=Heap.get?_push_of_some _ (Heap.get?_push_size _ rfl)
 have a3:IsPair (zH b1 b2 s.heap l1 l2) (zB b1 b2 s.heap l1 l2).objs.size (.ref s.heap.objs.size) (.ref (zA b1 s.heap l1).objs.size):=Heap.get?_push_of_some _ (Heap.get?_push_of_some _ (Heap.get?_push_size _ rfl))
 have a2:(zH b1 b2 s.heap l1 l2).get? (zA b1 s.heap l1).objs.size=some (dD b2 l2):=Heap.get?_push_of_some _ (Heap.get?_push_of_some _ (Heap.get?_push_of_some _ (Heap.get?_push_size _ (by cases b2 <;> rfl))))
 have a1:(zH b1 b2 s.heap l1 l2).get? s.heap.objs.size=some (dD b1 l1):=Heap.get?_push_of_some _ (Heap.get?_push_of_some _ (Heap.get?_push_of_some _ (Heap.get?_push_of_some _ (Heap.get?_push_size _ (by cases b1 <;> rfl)))))
 rw [n2,n3,n4] at a5
 rw [n3] at a4
 rw [n1,n2] at a3
 rw [n1] at a2
 show _/\_
 rw [n4]
 exact ⟨⟨_,a5,rfl⟩,h _ a5 a3 a4 (kU a1) (kU a2) λc o x=>Heap.get?_push_of_some _ (Heap.get?_push_of_some _ (Heap.get?_push_of_some _ (Heap.get?_push_of_some _ (Heap.get?_push_of_some _ x))))⟩
theorem Zkd {b1 b2:Bool} {z TI TO i1 i2 l1 l2:Addr} {k1 k2:Nat} {xs ys:Array Value} {x y a b:Value} {Q:Option Value->Shared->Prop} (D:ZipApart z TI TO i1 i2 l1 l2)
  (hz:IsZip s.heap z TI TO .none) (hTI:IsPair s.heap TI (.ref i1) (.ref i2)) (hTO:IsPair s.heap TO a b) (h1:ItAt b1 s.heap i1 l1 k1) (h2:ItAt b2 s.heap i2 l2 k2) (hl1:SqAt b1 s.heap l1 xs) (hl2:SqAt b2 s.heap l2 ys) (hx:xs[k1]?=some x) (hy:ys[k2]?=some y)
  (hQ:∀ h',IsZip h' z TI TO (rawInt s.heap.objs.size)->IsPair h' TO x y->ItAt b1 h' i1 l1 (k1+1)->ItAt b2 h' i2 l2 (k2+1)->IsPair h' s.heap.objs.size x y ->
   (∀ c o,c≠z->c≠TO->c≠i1->c≠i2->s.heap.get? c=some o->h'.get? c=some o)->Q (some (.ref s.heap.objs.size)) { s with heap:=h' }):wpAny (model prog w) A (pyNext (.ref z)) Q E s:=by
 have hT:s.TypeIs (.ref z) "zip":=⟨_,hz,rfl⟩
 unfold pyNext
 exact wpAny_bind (wpAny_attempt (wpAny_callSpecial?_slot (name:=Str.ofString "__next__") hT F.slot_zip_next (wpAny_call_entry F.slot_zip_next hT F.entry_zip_next (Zir D hz hTI hTO h1 h2 hl1 hl2 hx hy λh' a1 a2 a3 a4 a5 a6=>wpAny_pure (hQ h' a1 a2 a3 a4 a5 a6)) (F.args_zip_next_1 _))))
theorem Zke {b1 b2:Bool} {z TI TO i1 i2 l1 l2:Addr} {k1 k2:Nat} {xs ys:Array Value} {a b:Value} {Q:Option Value->Shared->Prop} (hh:A.handled=none) (D:ZipApart z TI TO i1 i2 l1 l2)
  (hz:IsZip s.heap z TI TO .none) (hTI:IsPair s.heap TI (.ref i1) (.ref i2)) (hTO:IsPair s.heap TO a b) (h1:ItAt b1 s.heap i1 l1 k1) (h2:ItAt b2 s.heap i2 l2 k2) (hl1:SqAt b1 s.heap l1 xs) (hl2:SqAt b2 s.heap l2 ys) (hend:xs[k1]?=none\/ys[k2]?=none)
  (hQ:∀ h',(∀ c o,c≠z->c≠TO->c≠i1->c≠i2->s.heap.get? c=some o->h'.get? c=some o)->Q none { s with heap:=h' }):wpAny (model prog w) A (pyNext (.ref z)) Q E s:=by
 have hT:s.TypeIs (.ref z) "zip":=⟨_,hz,rfl⟩
 unfold pyNext
 refine wpAny_bind (wpAny_attempt (wpAny_callSpecial?_slot (name:=Str.ofString "__next__") hT F.slot_zip_next (wpAny_call_entry F.slot_zip_next hT F.entry_zip_next (Zis hh D hz hTI hTO h1 h2 hl1 hl2 hend λh' e hk he=>?_) (F.args_zip_next_1 _))))
 obtain ⟨o,ho,hc⟩:=he
 exact wpAny_bind (wpAny_isInstance (T:="StopIteration") (b:=true) ⟨o,ho,hc⟩ isSubtype_stop (wpAny_pure (hQ _ hk)))
end
section
variable {X:Cx} {pins:List (Addr×Obj)} {σ:St} {H:Hp} {s:Shared} {h':Heap}
theorem Inv.turns {t':Nat} {ch:List Addr} (I:Inv X pins σ H s) (k:∀ b o,b ∉ ch->s.heap.get? b=some o->h'.get? b=some o) (hf:∀ b∈ch,fj X pins H b):Inv X pins σ H { s with heap:=h',toks:=t' }:=by
 have nit:∀ b u,H b=some u->b ∉ ch:=λb u e z=>by rw [(hf b z).1] at e; cases e
 refine I.step (g':=s.gens) (d':=s.drawn) (ch:=ch) (λb hb=>?_) (λb o _ _ hc e _=>k b o hc e) (λb o _ _ hc e _=>⟨o.slots,k b o hc e⟩) (λ_ _ _ _ n=>n)
  (λb o hc e=>⟨o,k b o hc e⟩) (λ_ _ e=>e) (λ_ _ _ e=>e) (λb ps e=>⟨#[],by rw [e]; simp⟩) (λm hm=>?_) (λb u e=>?_) I.bare
 ·obtain ⟨_,f1,_,f3,f4,f5⟩:=hf b hb
  exact ⟨f3,f1,f4,f5⟩
 ·obtain ⟨o,es,ep,ho,r⟩:=hm
  exact ⟨o,es,ep,k _ o (λz=>(hf _ z).2.1 rfl) ho,r⟩
 ·refine (I.hok b u e).stay (λc v hc q=>k c v ?_ q) (λ_ q=>q) λ_ _ q=>q
  rcases hc with z | z
  ·rw [z]; exact nit b u e
  ·exact nit c _ z
theorem Inv.pair {T:Addr} {x y:V} {u v:Value} (I:Inv X pins σ H s) (hT:H T=none) (ho:IsPair s.heap T u v) (r1:RelV x u) (r2:RelV y v)
  (hL:T≠X.env.locals) (hs0:X.s₀.heap.objs.size<=T) (hc:∀ x c,X.env.cells.lookup x=some c->c≠T) (hp:∀ p∈X.pn++pins,p.1≠T):Inv X pins σ (upd H T (.tup [x,y])) s:=by
 have ne:∀ {b:Addr} {o:HO},H b=some o->b≠T:=λe=>cm e hT
 refine I.step (g':=s.gens) (d':=s.drawn) (t':=s.toks) (h':=s.heap) (ch:=[T]) (λb hb=>?_) (λb o _ _ _ e _=>e) (λb o _ _ _ e _=>⟨o.slots,e⟩) (λb o hb e n=>?_) (λb o _ e=>⟨o,e⟩)
  (λb xs e=>by rw [aL (ne e)]; exact e) (λb o u e=>by rw [aL (ne e)]; exact e) (λb ps e=>⟨#[],by rw [aL (ne e),e]; simp⟩) (λm hm=>hm) (λb u e=>?_) I.bare
 ·have e:b=T:=by simpa using hb
  subst e
  exact ⟨.inr hs0,hL,hc,hp⟩
 ·have hb':b≠T:=by simpa using hb
  rw [aL hb']
  exact n
 ·by_cases hb:b=T
  ·subst hb
   rw [bZ] at e
   cases e
   exact ⟨by show 2<=sizeLine; decide,[_,_],.cons r1 (.cons r2 .nil),⟨_,ho,rfl,_,rfl⟩⟩
  ·rw [aL hb] at e
   exact (I.hok b u e).stay (λc v _ q=>q) (λc q=>by rw [aL (ne q)]; exact q) λc xs q=>by rw [aL (ne q)]; exact q
end
noncomputable def bc (b:Bool) (xs:List V):HO:=match b with
 | true=>.lst xs
 | false=>.tup xs
theorem cV {P:Program} {w:World} {H:Hp} {h:Heap} (ok:HOk P w H h) {b:Bool} {a:Addr} {xs:List V} (e:H a=some (bc b xs)):∃ its:List Value,Vals xs its/\SqAt b h a its.toArray:=by
 cases b with
 | true=>obtain ⟨_,its,n,r,q⟩:=ok a _ e; exact ⟨its,r,⟨_,q,rfl,n,rfl⟩⟩
 | false=>obtain ⟨_,its,r,q⟩:=ok a _ e; exact ⟨its,r,q⟩
noncomputable def hU (b1 b2:Bool) (l1 l2:Addr):It :=
 ⟨λi H=>∃ xs ys x y,H l1=some (bc b1 xs)/\H l2=some (bc b2 ys)/\xs[i]?=some x/\ys[i]?=some y,
  λi H v H'=>∃ xs ys x y p,H l1=some (bc b1 xs)/\H l2=some (bc b2 ys)/\xs[i]?=some x/\ys[i]?=some y/\H p=none/\v=.ref p/\H'=upd H p (.tup [x,y]),
  λi H=>∃ xs ys,H l1=some (bc b1 xs)/\H l2=some (bc b2 ys)/\(xs[i]?=none\/ys[i]?=none)⟩
noncomputable def ZSt (b1 b2:Bool) (z TI TO i1 i2 l1 l2:Addr) (i:Nat) (h:Heap):Prop :=
 IsZip h z TI TO .none/\IsPair h TI (.ref i1) (.ref i2)/\(∃ a b,IsPair h TO a b)/\ItAt b1 h i1 l1 i/\ItAt b2 h i2 l2 i
theorem ZiD {P:Program} {w:World} {K:PySem.W.Frag} {elts:List Expr} {x1:Nat} {pos:Pos} {b1 b2:Bool} {l1 l2:Addr} (z TI TO i1 i2:Addr)
  (d:TI≠z/\TO≠z/\i1≠z/\i2≠z/\TI≠TO/\TI≠i1/\TI≠i2/\TO≠i1/\TO≠i2/\i1≠i2) :
  Turn P w K (.Tuple elts x1 pos) (hU b1 b2 l1 l2) [z,TI,TO,i1,i2] z (ZSt b1 b2 z TI TO i1 i2 l1 l2) where
 mem:=by simp
 obj:=λi h st b hb=>by
  obtain ⟨hz,hTI,⟨a,c,hTO⟩,h1,h2⟩:=st
  simp at hb
  rcases hb with rfl | rfl | rfl | rfl | rfl
  ·exact ⟨_,hz,λv q=>by cases q⟩
  ·exact ⟨_,hTI,λv q=>by cases q⟩
  ·exact ⟨_,hTO,λv q=>by cases q⟩
  ·exact h1.there
  ·exact h2.there
 keep:=λi h h' st k=>by
  obtain ⟨hz,hTI,⟨a,c,hTO⟩,h1,h2⟩:=st
  exact ⟨k _ (by simp) _ hz,k _ (by simp) _ hTI,⟨a,c,k _ (by simp) _ hTO⟩,h1.at λo e=>k _ (by simp) o e,h2.at λo e=>k _ (by simp) o e⟩
 item:=by
  intro X hP hw hK hc i pins s σ H E I hf st hg
  subst hP hw hK
  obtain ⟨xs,ys,x,y,e1,e2,hx,hy⟩:=hg
  obtain ⟨hz,hTI,⟨a,c,hTO⟩,h1,h2⟩:=st
  obtain ⟨us,r1,q1⟩:=cV I.hok e1
  obtain ⟨vs,r2,q2⟩:=cV I.hok e2
  obtain ⟨u,hu,ru⟩:=r1.get hx
  obtain ⟨v,hv,rv⟩:=r2.get hy
  have n1:∀ b∈[z,TI,TO,i1,i2],l1≠b/\l2≠b:=λb hb=>⟨cm e1 (hf b hb).1,cm e2 (hf b hb).1⟩
  obtain ⟨d1,d2,d3,d4,d5,d6,d7,d8,d9,d10⟩:=d
  have D:ZipApart z TI TO i1 i2 l1 l2:=⟨d1,d2,d3,d4,d5,d6,d7,d8,d9,d10,(n1 z (by simp)).1,(n1 TO (by simp)).1,(n1 i1 (by simp)).1,(n1 i2 (by simp)).1,(n1 z (by simp)).2,(n1 TO (by simp)).2,(n1 i1 (by simp)).2,(n1 i2 (by simp)).2⟩
  refine Zkd D hz hTI hTO h1 h2 q1 q2 (by simpa using hu) (by simpa using hv) λh' z' p' t1 t2 pr kk=>?_
  refine ⟨_,rfl,wpAny_letOwnedTupleGo_zip z' λh2' z2 sb=>?_⟩
  have lt:∀ {b:Addr} {o:Obj},s.heap.get? b=some o->s.heap.objs.size≠b:=λq=>Nat.ne_of_gt (Heap.lt_size q)
  have zlt:=lt hz
  have I1:Inv X pins σ H { s with heap:=h2' }:=I.turns (ch:=[z,TI,TO,i1,i2]) (t':=s.toks) (λb o hb e=>by
   simp at hb
   exact sb.extBut _ _ hb.1 (kk b o hb.1 hb.2.2.1 hb.2.2.2.1 hb.2.2.2.2 e)) hf
  have hTn:H s.heap.objs.size=none:=I.hok.fresh (Nat.le_refl _)
  have I2:=I1.pair (T:=s.heap.objs.size) (x:=x) (y:=y) hTn (sb.extBut _ _ zlt pr) ru rv (Nat.ne_of_gt I.lt) I.sz
   (λq cc e hq=>by obtain ⟨vv,zz⟩:=I.cell q cc e; exact absurd zz.lt (by rw [hq]; exact Nat.lt_irrefl _)) (λp hp hq=>absurd (Heap.lt_size (I.pin p hp).1) (by rw [hq]; exact Nat.lt_irrefl _))
  refine ⟨.ref s.heap.objs.size,_,I2,rfl,⟨xs,ys,x,y,_,e1,e2,hx,hy,hTn,rfl,rfl⟩,⟨z2,sb.extBut _ _ d1 (kk _ _ d1 d5 d6 d7 hTI),⟨u,v,sb.extBut _ _ d2 p'⟩,t1.at λo e=>sb.extBut _ _ d3 e,t2.at λo e=>sb.extBut _ _ d4 e⟩,λb hb=>?_⟩
  have hbn:b≠s.heap.objs.size:=by
   simp at hb
   obtain ⟨o1,g1,_⟩:=h1.there
   obtain ⟨o2,g2,_⟩:=h2.there
   rcases hb with rfl | rfl | rfl | rfl | rfl
   ·exact (lt hz).symm
   ·exact (lt hTI).symm
   ·exact (lt hTO).symm
   ·exact (lt g1).symm
   ·exact (lt g2).symm
  rw [aL hbn]
  exact (hf b hb).1
 done:=by
  intro X hP hw hK hc i pins s σ H E I hf st hg
  subst hP hw hK
  obtain ⟨xs,ys,e1,e2,hend⟩:=hg
  obtain ⟨hz,hTI,⟨a,c,hTO⟩,h1,h2⟩:=st
  obtain ⟨us,r1,q1⟩:=cV I.hok e1
  obtain ⟨vs,r2,q2⟩:=cV I.hok e2
  have n1:∀ b∈[z,TI,TO,i1,i2],l1≠b/\l2≠b:=λb hb=>⟨cm e1 (hf b hb).1,cm e2 (hf b hb).1⟩
  obtain ⟨d1,d2,d3,d4,d5,d6,d7,d8,d9,d10⟩:=d
  have D:ZipApart z TI TO i1 i2 l1 l2:=⟨d1,d2,d3,d4,d5,d6,d7,d8,d9,d10,(n1 z (by simp)).1,(n1 TO (by simp)).1,(n1 i1 (by simp)).1,(n1 i2 (by simp)).1,(n1 z (by simp)).2,(n1 TO (by simp)).2,(n1 i1 (by simp)).2,(n1 i2 (by simp)).2⟩
  refine Zke (I.ok.hd hc) D hz hTI hTO h1 h2 q1 q2 (hend.imp (λq=>by simpa using r1.none_of q) (λq=>by simpa using r2.none_of q)) λh' kk=>⟨rfl,?_⟩
  exact I.turns (ch:=[z,TI,TO,i1,i2]) (t':=s.toks) (λb o hb e=>by
   simp at hb
   exact kk b o hb.1 hb.2.2.1 hb.2.2.2.1 hb.2.2.2.2 e) hf
 self:=λ_ _ _ _ _ st h=>wpAny_pyIter_zip st.1 h
end L2
set_option Elab.async false
set_option linter.all false
set_option maxRecDepth 100000
namespace L2
open PySem PySem.Spec PyProof.Rows
open AutoSeq1 (wpAny_loadPart')
section
variable {X:Cx} {tg:Expr} {PK:Pk} {a b:Expr} {i j:List Sl->Tr PyData} {p pos:Pos}
noncomputable def Zdx (ta tb:TE):TI:=λσ H R=>ta σ H λx H1=>tb σ H1 λy H2=>∃ b1 b2 l1 l2 xs ys,x=.ref l1/\y=.ref l2/\H2 l1=some (bc b1 xs)/\H2 l2=some (bc b2 ys)/\R (hU b1 b2 l1 l2) H2
theorem l5 {elts:List Expr} {x1:Nat} {tpos:Pos} {ta tb:TE} (hc:X.calm=true) (hg:Gl X "zip") (hm:X.mg "zip"=none) (ha:PE X a ta) (hb:PE X b tb)
  (hs:starEach [a,b] X.env=[(false,eval a X.env),(false,eval b X.env)]:=by rfl) (hs2:starEach [b] X.env=[(false,eval b X.env)]:=by rfl):PI X (.Tuple elts x1 tpos) (.Call (.Name "zip" p) [a,b] [] pos) (Zdx ta tb):=by
 intro pins s σ H R I h
 have hab:PA X [a,b] (fo ta (fo tb aZ)):=bU ha (bU hb ci (by rw [hs2]; rfl)) (by rw [hs,hs2])
 refine Call_ (iE I hg hm boot_zip (PyProof.Rows.callWith_type1 (thn (hab pos pins s σ H (λvs H2=>∃ b1 b2 l1 l2 xs ys,vs=[.ref l1,.ref l2]/\H2 l1=some (bc b1 xs)/\H2 l2=some (bc b2 ys)/\R (hU b1 b2 l1 l2) H2) I ?_) λus s1 ⟨vs,H1,I1,r1,q1⟩=>?_) (by rw [hs,hs2]) (by rw [hs2]; rfl)))
 ·refine (show ta σ H _ from ?_)
  have h':ta σ H λx H1=>tb σ H1 λy H2=>∃ b1 b2 l1 l2 xs ys,x=.ref l1/\y=.ref l2/\H2 l1=some (bc b1 xs)/\H2 l2=some (bc b2 ys)/\R (hU b1 b2 l1 l2) H2:=h
  have e:(λ(x:V) (H1:Hp)=>tb σ H1 λy H2=>∃ b1 b2 l1 l2 xs ys,x=.ref l1/\y=.ref l2/\H2 l1=some (bc b1 xs)/\H2 l2=some (bc b2 ys)/\R (hU b1 b2 l1 l2) H2) =
    λx H1=>fo tb aZ σ H1 λxs H2=>∃ b1 b2 l1 l2 us ys,x::xs=[.ref l1,.ref l2]/\H2 l1=some (bc b1 us)/\H2 l2=some (bc b2 ys)/\R (hU b1 b2 l1 l2) H2:=by
   funext x H1
   show _=tb σ H1 _
   congr 1
   funext y H2
   show _=(∃ b1 b2 l1 l2 us ys,[x,y]=[.ref l1,.ref l2]/\H2 l1=some (bc b1 us)/\H2 l2=some (bc b2 ys)/\R (hU b1 b2 l1 l2) H2)
   apply propext
   constructor
   ·rintro ⟨b1,b2,l1,l2,xs,ys,rfl,rfl,q⟩; exact ⟨b1,b2,l1,l2,xs,ys,rfl,q⟩
   ·rintro ⟨b1,b2,l1,l2,xs,ys,e,q⟩
    have e1:x=V.ref l1/\y=V.ref l2:=by simpa using e
    exact ⟨b1,b2,l1,l2,xs,ys,e1.1,e1.2,q⟩
  rw [e] at h'
  exact h'
 ·obtain ⟨b1,b2,l1,l2,xs,ys,rfl,e1,e2,q⟩:=q1
  obtain ⟨u1,u2,rfl,r1,r2⟩:=ox r1
  cases r1
  cases r2
  obtain ⟨us,ru,q1⟩:=cV I1.hok e1
  obtain ⟨vs,rv,q2⟩:=cV I1.hok e2
  refine ZnJ q1 q2 λh' z pTI pTO t1 t2 kk=>?_
  have I2:Inv X pins σ H1 { s1 with heap:=h' }:=I1.kept (t':=s1.toks) kk
  have na:∀ n k:Nat,n≠k->(s1.heap.objs.size+n:Nat)≠s1.heap.objs.size+k:=λn k h e=>h (by omega)
  refine wpAny_pyIter_zip z ⟨s1.heap.objs.size+4,[s1.heap.objs.size+4,s1.heap.objs.size+2,s1.heap.objs.size+3,s1.heap.objs.size,s1.heap.objs.size+1],_,_,H1,rfl,I2,ZiD _ _ _ _ _ ⟨na 2 4 (by decide),na 3 4 (by decide),na 0 4 (by decide),na 1 4 (by decide),na 2 3 (by decide),na 2 0 (by decide),na 2 1 (by decide),na 3 0 (by decide),na 3 1 (by decide),na 0 1 (by decide)⟩,⟨z,pTI,⟨_,_,pTO⟩,t1,t2⟩,λb hb=>?_,q⟩
  have hle:s1.heap.objs.size<=b:=by
   simp at hb
   rcases hb with rfl | rfl | rfl | rfl | rfl <;> first | exact Nat.le_add_right _ _ | exact Nat.le_refl _
  exact I1.fpOk hle (I1.hok.fresh hle)
noncomputable def bI (xs ys:List PyData):List PyData:=(xs.zip ys).map λ(x,y)=>.tuple [x,y]
theorem mY {G:Hp} {v:V} {x:PyData} {xs:List PyData} (d:Dn G v x) (h:fy x=some xs):∃ b a vs,v=.ref a/\G a=some (bc b vs)/\DnAll G vs xs:=by
 cases d with
 | lst h1 h2=>cases h; exact ⟨true,_,_,rfl,h1,h2⟩
 | tup h1 h2=>cases h; exact ⟨false,_,_,rfl,h1,h2⟩
 | _=>cases h
theorem qr {b:Bool} {xs ys:List V} (h:some (bc b xs)=some (bc b ys)):xs=ys:=by
 cases b <;> (cases h; rfl)
theorem Zl1 {pa:Addr} {G:Hp} {b1 b2:Bool} {l1 l2:Addr} {us vs:List V} {xs ys:List PyData} (h1:G l1=some (bc b1 us)) (h2:G l2=some (bc b2 vs)) (d1:DnAll G us xs) (d2:DnAll G vs ys):iT PK pa (hU b1 b2 l1 l2) G (bI xs ys):=λm G2 H2 sb w=>by
 have e1:H2 l1=some (bc b1 us):=w.sub _ _ (sb _ _ h1)
 have e2:H2 l2=some (bc b2 vs):=w.sub _ _ (sb _ _ h2)
 refine ⟨λn d hd=>?_,us,vs,e1,e2,?_⟩
 ·unfold bI at hd
  rw [List.getElem?_map] at hd
  cases hz:(xs.zip ys)[n]? with
  | none=>rw [hz] at hd; cases hd
  | some xy =>
   rw [hz] at hd
   cases hd
   have hxy:=List.getElem?_zip_eq_some.mp hz
   obtain ⟨u,hu,du⟩:=d1.get n hxy.1
   obtain ⟨v,hv,dv⟩:=d2.get n hxy.2
   refine ⟨⟨us,vs,u,v,e1,e2,hu,hv⟩,λx H3 hz0=>?_⟩
   obtain ⟨us',vs',u',v',p,f1,f2,hu',hv',hp,ex,eH⟩:=hz0
   rw [e1] at f1
   rw [e2] at f2
   have:=qr f1
   have:=qr f2
   subst us' vs'
   rw [hu] at hu'
   rw [hv] at hv'
   cases hu'
   cases hv'
   subst ex eH
   obtain ⟨w3,s3⟩:=w.new (o:=.tup [u,v]) hp
   exact ⟨_,s3,w3,.tup bZ (.cons ((du.mono sb).mono s3.gs) (.cons ((dv.mono sb).mono s3.gs) .nil))⟩
 ·unfold bI
  rw [List.length_map,List.length_zip,d1.length.symm,d2.length.symm]
  rcases Nat.le_total us.length vs.length with hle | hle
  ·left
   rw [Nat.min_eq_left hle]
   simp
  ·right
   rw [Nat.min_eq_right hle]
   simp
noncomputable def jP (i j:List Sl->Tr PyData):List Sl->Tr (List PyData):=λρ=>(i ρ).bind λx=>(j ρ).bind λy=>(Tr.of (fy x)).bind λxs=>(Tr.of (fy y)).bind λys=>.ret (bI xs ys)
theorem nE {iter:Expr} (h:PI X tg iter (Zdx (TAe PK i) (TAe PK j))):PI X tg iter (dZ PK (jP i j)):=h.imp λσ H R0 hz0=>by
 obtain ⟨pa,G₀,H₀,m,ρ,G,R,z⟩:=hz0
 refine TAe.then R z λm1 x v G1 H1 s1 w1 R1 d1 q1=>?_
 refine TAe.then R1 q1 λm2 y u G2 H2 s2 w2 R2 d2 q2=>?_
 rw [Tr.ok_bind] at q2
 obtain ⟨xs,hx,q2⟩:=Tr.ok_of q2
 rw [Tr.ok_bind] at q2
 obtain ⟨ys,hy,q2⟩:=Tr.ok_of q2
 obtain ⟨b1,l1,us,rfl,e1,f1⟩:=mY (d1.mono s2.gs) hx
 obtain ⟨b2,l2,vs,rfl,e2,f2⟩:=mY d2 hy
 exact ⟨b1,b2,l1,l2,us,vs,rfl,rfl,w2.sub _ _ e1,w2.sub _ _ e2,q2 _ G2 H2 (s1.trans s2 w1.some) w2 (Zl1 e1 e2 f1 f2)⟩
end
theorem ZgV {prog:Program} {w:World} {A:Around} (hh:A.handled=none) (b:Bool) (it l:Addr) (hne:l≠it) (items:Array Value):Draws prog w A it [it,l] items.size (λi v=>items[i]?=some v) (λi h=>ItAt b h it l i/\SqAt b h l items) where
 live:=λ_ _ st=>let ⟨o,ho,_⟩:=st.1.there; ⟨o,ho⟩
 frame:=λ_ _ _ st hk=>⟨st.1.at λo e=>hk it (by simp) o e,st.2.at λo e=>hk l (by simp) o e⟩
 item:=λi s Q E hi st hQ=>mf st.1 st.2 (x:=items[i]) (by simp [hi]) λh' hit' hs'=>hQ _ h' s.toks (by simp [hi]) ⟨hit',st.2.bt hs'.extBut hne⟩ hs'
 done:=λs Q E st hE=>pM hh st.1 st.2 (by simp) hE
theorem ZlB (b:Bool) (l:Addr) (items:Array Value) :
  Meets (Builtin.«enumerate.__new__» ⟨[.type "enumerate",.ref l],[]⟩) (λ_ R s=>SqAt b s.heap l items /\
   R (.ok (.ret (.ref (s.heap.push (dD b l)).objs.size))) { s with heap:=(s.heap.push (dD b l)).push { cls:=.type "enumerate",data:=.fields #[.none,.bool false,.ref s.heap.objs.size,rawInt 0,.none,.none] } }) :=
 .of_wp λprog w A R s h=>by
  obtain ⟨hp,g,d,tk,os⟩:=s
  obtain ⟨hl,h⟩:=h
  have hsub:=sub_enumerate
  have q:SqAt b (Shared.heap ⟨hp,g,d,tk,os⟩) l items:=hl
  have ho:∃ ob,hp.get? l=some ob:=by
   cases b with
   | true=>obtain ⟨ob,e,_⟩:=hl; exact ⟨ob,e⟩
   | false=>obtain ⟨ob,e,_⟩:=hl; exact ⟨ob,e⟩
  obtain ⟨ob,ho⟩:=ho
  wp_walk using wpAny_loadPart' ho
  refine wpAny_stack_any λst=>wpAny_pure ?_
  split
  ·rename_i c _ _ _ _ _
   cases (c == Value.type "enumerate")
   ·wp_walk using wpAny_loadPart' ho,im q
    exact ⟨_,rfl,h⟩
   ·wp_walk using wpAny_loadPart' ho,im q
    exact ⟨_,rfl,h⟩
  ·wp_walk using wpAny_loadPart' ho,im q
   exact ⟨_,rfl,h⟩
section
variable {prog:Program} {w:World} {A:Around} {E:Value->Shared->Prop} {s:Shared}
theorem ZnO {b:Bool} {l:Addr} {items:Array Value} {Q:Value->Shared->Prop} (hl:SqAt b s.heap l items)
  (h:∀ h',IsEnum h' (s.heap.objs.size+1) s.heap.objs.size 0 .none->ItAt b h' s.heap.objs.size l 0->(∀ c o,s.heap.get? c=some o->h'.get? c=some o)->Q (.ref (s.heap.objs.size+1)) { s with heap:=h' }) :
  wpAny (model prog w) A (call (.type "enumerate") [.ref l]) Q E s:=by
 refine callType_new F.called_enumerate (by decide) (F.typeCall_enumerate_1 _) (F.newCall_enumerate_1 _) (λobj=>F.args_object_init_2 obj _) F.entry_enumerate_new (ZlB b l items) ⟨hl,?_⟩
 have n1:(s.heap.push (dD b l)).objs.size=s.heap.objs.size+1:=Heap.size_push ..
 have a2:IsEnum ((s.heap.push (dD b l)).push { cls:=.type "enumerate",data:=.fields #[.none,.bool false,.ref s.heap.objs.size,rawInt 0,.none,.none] }) (s.heap.push (dD b l)).objs.size s.heap.objs.size 0 .none:=Heap.get?_push_size _ rfl
 have a1:((s.heap.push (dD b l)).push { cls:=.type "enumerate",data:=.fields #[.none,.bool false,.ref s.heap.objs.size,rawInt 0,.none,.none] }).get? s.heap.objs.size=some (dD b l):=Heap.get?_push_of_some _ (Heap.get?_push_size _ (by cases b <;> rfl))
 rw [n1] at a2
 show _/\_
 rw [n1]
 exact ⟨⟨_,a2,rfl⟩,h _ a2 (kU a1) λc o x=>Heap.get?_push_of_some _ (Heap.get?_push_of_some _ x)⟩
end
noncomputable def iV (b:Bool) (l:Addr):It :=
 ⟨λi H=>∃ xs x,H l=some (bc b xs)/\xs[i]?=some x,
  λi H v H'=>∃ xs x p,H l=some (bc b xs)/\xs[i]?=some x/\H p=none/\v=.ref p/\H'=upd H p (.tup [.int i,x]),
  λi H=>∃ xs,H l=some (bc b xs)/\xs.length=i⟩
theorem ZiI {P:Program} {w:World} {K:PySem.W.Frag} {elts:List Expr} {x1:Nat} {pos:Pos} {b:Bool} {l:Addr} (e it:Addr) (hne:e≠it) :
  Turn P w K (.Tuple elts x1 pos) (iV b l) [e,it] e (λi h=>(∃ old,IsEnum h e it i old)/\ItAt b h it l i) where
 mem:=by simp
 obj:=λi h st c hb=>by
  obtain ⟨⟨old,he⟩,h1⟩:=st
  simp at hb
  rcases hb with rfl | rfl
  ·exact ⟨_,he,λv q=>by cases q⟩
  ·exact h1.there
 keep:=λi h h' st k=>by
  obtain ⟨⟨old,he⟩,h1⟩:=st
  exact ⟨⟨old,k _ (by simp) _ he⟩,h1.at λo q=>k _ (by simp) o q⟩
 item:=by
  intro X hP hw hK hc i pins s σ H E I hf st hg
  subst hP hw hK
  obtain ⟨xs,x,e1,hx⟩:=hg
  obtain ⟨⟨old,he⟩,h1⟩:=st
  obtain ⟨us,r1,q1⟩:=cV I.hok e1
  obtain ⟨u,hu,ru⟩:=r1.get hx
  have nl:∀ c∈[e,it],l≠c:=λc hc=>cm e1 (hf c hc).1
  have hlt:i < us.toArray.size:=by
   have:=(List.getElem?_eq_some_iff.mp hu).1
   simpa using this
  refine wpAny_pyNext_enum_itemD (ZgV (A:=X.A.in1) (show X.A.in1.handled=none from I.ok.hd hc) b it l (nl it (by simp)) us.toArray) he ⟨h1,q1⟩ hlt hne (by simp only [List.mem_cons,List.not_mem_nil,or_false,not_or]; exact ⟨hne,(nl e (by simp)).symm⟩) λx' h' tk hP' ho st' hT hsz kk=>?_
  have hxu:x'=u:=by
   have q:us[i]?=some x':=by simpa using hP'
   rw [hu] at q
   cases q
   rfl
  subst hxu
  refine ⟨_,rfl,wpAny_letOwnedTupleGo_enum ho λh2' z2 sb=>?_⟩
  have lt:∀ {c:Addr} {o:Obj},s.heap.get? c=some o->s.heap.objs.size≠c:=λq=>Nat.ne_of_gt (Heap.lt_size q)
  have I1:Inv X pins σ H { s with heap:=h2',toks:=tk+1 }:=I.turns (ch:=[e,it]) (λc o hb q=>by
   simp at hb
   exact sb.extBut _ _ hb.1 (kk c o hb.1 hb.2 q)) hf
  have hTn:H s.heap.objs.size=none:=I.hok.fresh (Nat.le_refl _)
  have I2:=I1.pair (T:=s.heap.objs.size) (x:=.int i) (y:=x) hTn (sb.extBut _ _ (lt he) hT) ⟨tk,rfl⟩ ru (Nat.ne_of_gt I.lt) I.sz
   (λq cc ee hq=>by obtain ⟨vv,zz⟩:=I.cell q cc ee; exact absurd zz.lt (by rw [hq]; exact Nat.lt_irrefl _)) (λp hp hq=>absurd (Heap.lt_size (I.pin p hp).1) (by rw [hq]; exact Nat.lt_irrefl _))
  refine ⟨.ref s.heap.objs.size,_,I2,rfl,⟨xs,x,_,e1,hx,hTn,rfl,rfl⟩,⟨⟨_,z2⟩,st'.1.at λo q=>sb.extBut _ _ (Ne.symm hne) q⟩,λc hb=>?_⟩
  have hbn:c≠s.heap.objs.size:=by
   simp at hb
   obtain ⟨o1,g1,_⟩:=h1.there
   rcases hb with rfl | rfl
   ·exact (lt he).symm
   ·exact (lt g1).symm
  rw [aL hbn]
  exact (hf c hb).1
 done:=by
  intro X hP hw hK hc i pins s σ H E I hf st hg
  subst hP hw hK
  obtain ⟨xs,e1,hend⟩:=hg
  obtain ⟨⟨old,he⟩,h1⟩:=st
  obtain ⟨us,r1,q1⟩:=cV I.hok e1
  have nl:∀ c∈[e,it],l≠c:=λc hc=>cm e1 (hf c hc).1
  have hsz:us.toArray.size=i:=by rw [List.size_toArray,<- r1.length]; exact hend
  subst hsz
  refine wpAny_pyNext_enum_endD (ZgV (A:=X.A.in1) (show X.A.in1.handled=none from I.ok.hd hc) b it l (nl it (by simp)) us.toArray) he ⟨h1,q1⟩ λh' eb=>⟨rfl,?_⟩
  exact I.turns (ch:=[e,it]) (t':=s.toks) (λc o hb q=>by
   simp at hb
   exact eb c o hb.2 q) hf
 self:=λ_ _ _ _ _ st h=>by
  obtain ⟨⟨old,he⟩,_⟩:=st
  exact wpAny_pyIter_enum he h
section
variable {X:Cx} {tg:Expr} {PK:Pk} {a b:Expr} {i j:List Sl->Tr PyData} {p pos:Pos}
noncomputable def ZdB (ta:TE):TI:=λσ H R=>ta σ H λx H1=>∃ b l xs,x=.ref l/\H1 l=some (bc b xs)/\R (iV b l) H1
theorem l6 {elts:List Expr} {x1:Nat} {tpos:Pos} {ta:TE} (hc:X.calm=true) (hg:Gl X "enumerate") (hm:X.mg "enumerate"=none) (ha:PE X a ta)
  (hs:starEach [a] X.env=[(false,eval a X.env)]:=by rfl):PI X (.Tuple elts x1 tpos) (.Call (.Name "enumerate" p) [a] [] pos) (ZdB ta):=by
 intro pins s σ H R I h
 have hab:PA X [a] (fo ta aZ):=bU ha ci (by rw [hs]; rfl)
 have h':fo ta aZ σ H λvs H1=>∃ x,vs=[x]/\∃ b l xs,x=.ref l/\H1 l=some (bc b xs)/\R (iV b l) H1:=by
  have e:(λ(x:V) (H1:Hp)=>∃ b l xs,x=.ref l/\H1 l=some (bc b xs)/\R (iV b l) H1)=λx H1=>aZ σ H1 λxs H2=>∃ y,x::xs=[y]/\∃ b l xs,y=.ref l/\H2 l=some (bc b xs)/\R (iV b l) H2:=by
   funext x H1
   apply propext
   constructor
   ·exact λq=>⟨x,rfl,q⟩
   ·rintro ⟨y,e,q⟩
    have e':x=y:=by simpa using e
    subst e'
    exact q
  have h0:ta σ H λx H1=>∃ b l xs,x=.ref l/\H1 l=some (bc b xs)/\R (iV b l) H1:=h
  rw [e] at h0
  exact h0
 refine Call_ (iE I hg hm boot_enumerate (PyProof.Rows.callWith_type1 (thn (hab pos pins s σ H _ I h') λus s1 hz0=>?_) (by rw [hs]; rfl) rfl))
 obtain ⟨vs,H1,I1,r1,q1⟩:=hz0
 obtain ⟨x,rfl,b,l,xs,rfl,e1,q⟩:=q1
 obtain ⟨u,rfl,ru⟩:=eA r1
 cases ru
 obtain ⟨us,ru,q1⟩:=cV I1.hok e1
 refine ZnO q1 λh' z t1 kk=>?_
 have I2:Inv X pins σ H1 { s1 with heap:=h' }:=I1.kept (t':=s1.toks) kk
 refine wpAny_pyIter_enum z ⟨s1.heap.objs.size+1,[s1.heap.objs.size+1,s1.heap.objs.size],_,_,H1,rfl,I2,ZiI _ _ (λq=>absurd (show (s1.heap.objs.size+1:Nat)=s1.heap.objs.size from q) (by omega)),⟨⟨_,z⟩,t1⟩,λc hb=>?_,q⟩
 have hle:s1.heap.objs.size<=c:=by
  simp at hb
  rcases hb with rfl | rfl <;> first | exact Nat.le_add_right _ _ | exact Nat.le_refl _
 exact I1.fpOk hle (I1.hok.fresh hle)
noncomputable def cL (xs:List PyData):List PyData:=(List.range xs.length).zipWith (λ(n:Nat) x=>.tuple [.int n,x]) xs
theorem Zl5 {pa:Addr} {G:Hp} {b:Bool} {l:Addr} {us:List V} {xs:List PyData} (h1:G l=some (bc b us)) (d1:DnAll G us xs):iT PK pa (iV b l) G (cL xs):=λm G2 H2 sb w=>by
 have e1:H2 l=some (bc b us):=w.sub _ _ (sb _ _ h1)
 have hlen:(cL xs).length=xs.length:=by unfold cL; simp
 refine ⟨λn d hd=>?_,us,e1,by rw [hlen,d1.length]⟩
 have hn:n < xs.length:=by rw [<- hlen]; exact (List.getElem?_eq_some_iff.mp hd).1
 have hd':d=.tuple [.int n,xs[n]]:=by
  unfold cL at hd
  rw [List.getElem?_zipWith] at hd
  simp [hn] at hd
  exact hd.symm
 subst hd'
 obtain ⟨u,hu,du⟩:=d1.get n (show xs[n]?=some xs[n] by simp [hn])
 refine ⟨⟨us,u,e1,hu⟩,λx H3 hz0=>?_⟩
 obtain ⟨us',u',p,f1,hu',hp,ex,eH⟩:=hz0
 rw [e1] at f1
 have:=qr f1
 subst us'
 rw [hu] at hu'
 cases hu'
 subst ex eH
 obtain ⟨w3,s3⟩:=w.new (o:=.tup [.int n,u]) hp
 exact ⟨_,s3,w3,.tup bZ (.cons (.int n) (.cons ((du.mono sb).mono s3.gs) .nil))⟩
noncomputable def jR (i:List Sl->Tr PyData):List Sl->Tr (List PyData):=λρ=>(i ρ).bind λx=>(Tr.of (fy x)).bind λxs=>.ret (cL xs)
theorem nF {iter:Expr} (h:PI X tg iter (ZdB (TAe PK i))):PI X tg iter (dZ PK (jR i)):=h.imp λσ H R0 hz0=>by
 obtain ⟨pa,G₀,H₀,m,ρ,G,R,z⟩:=hz0
 refine TAe.then R z λm1 x v G1 H1 s1 w1 R1 d1 q1=>?_
 rw [Tr.ok_bind] at q1
 obtain ⟨xs,hx,q1⟩:=Tr.ok_of q1
 obtain ⟨b1,l1,us,rfl,e1,f1⟩:=mY d1 hx
 exact ⟨b1,l1,us,rfl,w1.sub _ _ e1,q1 _ G1 H1 s1 w1 (Zl5 e1 f1)⟩
end
end L2
set_option Elab.async false
set_option linter.all false
set_option maxRecDepth 100000
namespace L2
open PySem PySem.Spec PyProof.Rows
section
variable {prog:Program} {w:World} {A:Around}
theorem Zag (hh:A.handled=none) (b:Bool) (I ax:Addr) (hne:ax≠I) (items:Array Value):Walks prog w A I [I,ax] [I] items.size (λi v=>items[i]?=some v) (λi h=>ItAt b h I ax i/\SqAt b h ax items):=by
 cases b with
 | true=>exact Walks.list hh I ax hne items
 | false=>exact Walks.tuple hh I ax hne items
end
theorem ql {ns:List Int} {us:List Value} (r:Vals (ns.map V.int) us) {i:Nat} {v:Value} (h:us[i]?=some v):∃ t,v=.int ((ns[i]?).getD 0) t:=by
 have hi:i < us.length:=(List.getElem?_eq_some_iff.mp h).1
 have hl:us.length=ns.length:=by rw [<- r.length,List.length_map]
 obtain ⟨u,e1,e2⟩:=r.get (i:=i) (x:=V.int ns[i]) (by simp [show i < ns.length by omega])
 rw [h] at e1
 cases e1
 obtain ⟨t,e2⟩:=e2
 exact ⟨t,by simp [show i < ns.length by omega,e2]⟩
theorem Zku (ns:List Int):preSum (λi=>(ns[i]?).getD 0) ns.length=ns.sum:=by
 have key:∀ k,k<=ns.length->preSum (λi=>(ns[i]?).getD 0) k=(ns.take k).sum:=by
  intro k
  induction k with
  | zero=>intro _; simp [preSum]
  | succ k ih =>
   intro hk
   rw [preSum,ih (by omega),List.take_add_one,List.sum_append]
   simp [show k < ns.length by omega]
 rw [key _ (Nat.le_refl _),List.take_length]
section
variable {X:Cx} {PK:Pk}
theorem gW (hc:X.calm=true):dJ X (.builtin "sum") (λxs H Q=>∃ (b:Bool) (l:Addr) (ns:List Int),xs=[.ref l]/\H l=some (bc b (ns.map V.int))/\Q (.int ns.sum) H):=by
 intro pins s σ H xs us Q I r h
 obtain ⟨b,l,ns,rfl,e1,q⟩:=h
 obtain ⟨u,rfl,ru⟩:=eA r
 cases ru
 obtain ⟨vs,rv,sq⟩:=cV I.hok e1
 have hlt:l < s.heap.objs.size:=I.hok.lt e1
 refine call_sum_walkG (im sq ?_)
 refine ⟨s.heap.objs.size,[s.heap.objs.size,l],[s.heap.objs.size],vs.toArray.size,_,_,λi=>(ns[i]?).getD 0,rfl,Zag (A:=X.A.in1) (I.ok.hd hc) b _ l (Nat.ne_of_lt hlt) vs.toArray,
  ⟨kU (Heap.get?_push_size _ (by cases b <;> rfl)),sq.push _⟩,λc hc=>?_,λi v hv=>ql rv (by simpa using hv),λh' tk t' hk=>?_⟩
 ·rw [Heap.size_push]
  simp at hc
  rcases hc with rfl | rfl
  ·exact Nat.lt_succ_self _
  ·exact Nat.lt_succ_of_lt hlt
 ·refine ⟨.int ns.sum,H,I.kept (t':=tk) λc o e=>hk c o (λz=>?_) (Heap.get?_push_of_some _ e),⟨t',?_⟩,q⟩
  ·have:c=s.heap.objs.size:=by simpa using z
   subst this
   exact Nat.lt_irrefl _ (Heap.lt_size e)
  ·have e:vs.toArray.size=ns.length:=by rw [List.size_toArray,<- rv.length,List.length_map]
   rw [e,Zku]
noncomputable def dQ:List Int->Int
 | []=>0
 | [n]=>n
 | n::m::r=>bz (dQ (m::r)) n
theorem mq:∀ {ns:List Int},ns≠[]->dQ ns∈ns/\∀ m∈ns,m<=dQ ns
 | [],h=>absurd rfl h
 | [n],_=>⟨by simp [dQ],by simp [dQ]⟩
 | n::m::r,_=>by
  obtain ⟨h1,h2⟩:=mq (ns:=m::r) (by simp)
  unfold dQ bz
  split
  ·refine ⟨by simp,λk hk=>?_⟩
   rcases List.mem_cons.mp hk with rfl | hk
   ·exact Int.le_refl _
   ·have:=h2 k hk; omega
  ·refine ⟨List.mem_cons_of_mem _ h1,λk hk=>?_⟩
   rcases List.mem_cons.mp hk with rfl | hk
   ·omega
   ·exact h2 k hk
theorem ZhH (f:Nat->Int):∀ k,argBest (λi j=>decide (f i > f j)) k<=k/\∀ j,j<=k->f j<=f (argBest (λi j=>decide (f i > f j)) k)
 | 0=>⟨Nat.le_refl _,λj hj=>by
  have:j=0:=by omega
  subst this
  exact Int.le_refl _⟩
 | k+1=>by
  obtain ⟨h1,h2⟩:=ZhH f k
  unfold argBest
  by_cases hc:f (k+1) > f (argBest (λi j=>decide (f i > f j)) k)
  ·rw [if_pos (by simpa using hc)]
   refine ⟨Nat.le_refl _,λj hj=>?_⟩
   rcases Nat.lt_or_eq_of_le hj with h | h
   ·have:=h2 j (by omega); omega
   ·subst h; exact Int.le_refl _
  ·rw [if_neg (by simpa using hc)]
   refine ⟨by omega,λj hj=>?_⟩
   rcases Nat.lt_or_eq_of_le hj with h | h
   ·exact h2 j (by omega)
   ·subst h; omega
theorem ZnN (hc:X.calm=true):dJ X (.builtin "max") (λxs H Q=>∃ (b:Bool) (l:Addr) (ns:List Int),xs=[.ref l]/\H l=some (bc b (ns.map V.int))/\ns≠[]/\Q (.int (dQ ns)) H):=by
 intro pins s σ H xs us Q I r h
 obtain ⟨b,l,ns,rfl,e1,hne,q⟩:=h
 obtain ⟨u,rfl,ru⟩:=eA r
 cases ru
 obtain ⟨vs,rv,sq⟩:=cV I.hok e1
 have hlt:l < s.heap.objs.size:=I.hok.lt e1
 have hsz:vs.toArray.size=ns.length:=by rw [List.size_toArray,<- rv.length,List.length_map]
 have hpos:0 < ns.length:=List.length_pos_iff.mpr hne
 refine call_max_walk (im sq ?_)
 refine ⟨s.heap.objs.size,[s.heap.objs.size,l],[s.heap.objs.size],vs.toArray.size,_,_,λi j=>decide ((ns[i]?).getD 0 > (ns[j]?).getD 0),rfl,Zag (A:=X.A.in1) (I.ok.hd hc) b _ l (Nat.ne_of_lt hlt) vs.toArray,
  ⟨kU (Heap.get?_push_size _ (by cases b <;> rfl)),sq.push _⟩,λc hc=>?_,by omega,CmpOf.ints_gt (λi=>(ns[i]?).getD 0) (λi v hv=>ql rv (by simpa using hv)),λv h' tk hv hk=>?_⟩
 ·rw [Heap.size_push]
  simp at hc
  rcases hc with rfl | rfl
  ·exact Nat.lt_succ_self _
  ·exact Nat.lt_succ_of_lt hlt
 ·obtain ⟨t,rfl⟩:=ql rv (by rw [<- List.getElem?_toArray]; exact hv)
  obtain ⟨b1,b2⟩:=ZhH (λi=>(ns[i]?).getD 0) (vs.toArray.size - 1)
  obtain ⟨m1,m2⟩:=mq hne
  refine ⟨.int (dQ ns),H,I.kept (t':=tk) λc o e=>hk c o (λz=>?_) (Heap.get?_push_of_some _ e),⟨t,?_⟩,q⟩
  ·have:c=s.heap.objs.size:=by simpa using z
   subst this
   exact Nat.lt_irrefl _ (Heap.lt_size e)
  ·congr 1
   obtain ⟨i,hi,ei⟩:=List.getElem_of_mem m1
   have h1:=b2 i (by omega)
   simp only [hi,List.getElem?_eq_getElem,Option.getD_some,ei] at h1
   have hb:argBest (λi j=>decide ((ns[i]?).getD 0 > (ns[j]?).getD 0)) (vs.toArray.size - 1) < ns.length:=by omega
   have h2:=m2 _ (List.getElem_mem hb)
   simp only [hb,List.getElem?_eq_getElem,Option.getD_some] at h1 ⊢
   omega
noncomputable def bools?:List PyData->Option (List Bool)
 | []=>some []
 | .bool n::xs=>(bools? xs).bind λns=>some (n::ns)
 | _=>none
@[simp] theorem bools?_map:∀ ns:List Bool,bools? (ns.map PyData.bool)=some ns
 | []=>rfl
 | n::ns=>by rw [List.map_cons,bools?,bools?_map ns]; rfl
noncomputable def gF {α:Type} (p:List PyData->Option α) (f:α->Option PyData):List PyData->Option PyData
 | [x]=>(fy x).bind λxs=>(p xs).bind f
 | _=>none
noncomputable def cA:List PyData->Option PyData:=gF ints? λns=>some (.int ns.sum)
noncomputable def iz:List PyData->Option PyData:=gF ints? λns=>if (!ns.isEmpty)=true then some (.int (dQ ns)) else none
theorem Zcy {α:Type} {p:List PyData->Option α} {f:α->Option PyData} {G:Hp} {vs:List V} {ds:List PyData} {d:PyData} (hv:DnAll G vs ds) (h:gF p f ds=some d):∃ b l us xs y,vs=[.ref l]/\G l=some (bc b us)/\DnAll G us xs/\p xs=some y/\f y=some d:=by
 unfold gF at h
 split at h
 ·rename_i x
  cases hx:fy x with
  | none=>rw [hx] at h; cases h
  | some xs =>
   rw [hx] at h
   have h':(p xs).bind f=some d:=h
   cases hp:p xs with
   | none=>rw [hp] at h'; cases h'
   | some y =>
    rw [hp] at h'
    cases hv with
    | cons h1 h2 =>
     cases h2
     obtain ⟨b,l,us,rfl,e1,e2⟩:=mY h1 hx
     exact ⟨b,l,us,xs,y,rfl,e1,e2,hp,h'⟩
 ·cases h
theorem gk:eS (λxs H Q=>∃ (b:Bool) (l:Addr) (ns:List Int),xs=[.ref l]/\H l=some (bc b (ns.map V.int))/\Q (.int ns.sum) H) cA:=λPK pa m G H vs ds d Q w hv hd k=>by
 obtain ⟨b,l,us,xs,ns,rfl,e1,e2,hp,hf⟩:=Zcy hv hd
 obtain ⟨rfl,rfl⟩:=e2.ints_inv hp
 cases hf
 exact ⟨b,l,ns,rfl,w.sub _ _ e1,k.here w (.int _)⟩
theorem Ziy:eS (λxs H Q=>∃ (b:Bool) (l:Addr) (ns:List Int),xs=[.ref l]/\H l=some (bc b (ns.map V.int))/\ns≠[]/\Q (.int (dQ ns)) H) iz:=λPK pa m G H vs ds d Q w hv hd k=>by
 obtain ⟨b,l,us,xs,ns,rfl,e1,e2,hp,hf⟩:=Zcy hv hd
 obtain ⟨rfl,rfl⟩:=e2.ints_inv hp
 split at hf
 ·rename_i hc
  cases hf
  exact ⟨b,l,ns,rfl,w.sub _ _ e1,(λz=>by subst z; cases hc),k.here w (.int _)⟩
 ·cases hf
variable {a b c e:Expr} {pos:Pos} {i j l:List Sl->Tr PyData}
theorem pip {op:Operator} {r:R2} (h:OpR X (inplaceOp op) r):lw X op r:=h
noncomputable def mW:PyData->PyData->Option PyData
 | .int m,.int n=>some (.int (m+n))
 | _,_=>none
theorem Zix:cz (dO λi j=>.int (i+j)) mW:=λPK pa m G H x y dx dy dz Q w hx hy hz k=>by
 unfold mW at hz
 split at hz
 ·cases hz; cases hx; cases hy
  exact ⟨_,_,rfl,rfl,k.here w (.int _)⟩
 ·cases hz
end
theorem ZcA {PK:Pk} {is:List Sl->Tr (List PyData)}:∀ σ H Q,TAe PK (bX is) σ H Q->cT PK is σ H Q:=by
 intro σ H Q z
 obtain ⟨pa,G₀,H₀,m,ρ,G,R,z⟩:=z
 exact ⟨pa,G₀,H₀,m,ρ,G,R,Tr.ok_mono (Tr.ok_bind.mp z) λm1 xs k=>Ko1.of k R.wd.some⟩
theorem Zoj {PK:Pk} {X:Cx} {st:Stmt} {is:List Sl->Tr (List PyData)} {i:List Sl->Tr PyData} {n k:Nat} {ix:List Nat} {g:PyData->List Sl->Option (List Sl)} (h:PS X st (dL (jY (dZ PK is) n ix (λ_=>fh PK g) (λ_=>TAe PK i)) (eZ k))) (hn:gg n g):PS X st (bg PK (aX k (bX (cG is n ix g i)))) :=
 bd (h.imp (ZaD λσ H Q z=>Zdd hn σ H Q (ZcA σ H Q z)))
end L2
set_option Elab.async false
set_option linter.all false
set_option maxRecDepth 100000
namespace L2
open PySem PySem.Spec PyProof.Rows
variable {ρ:List Sl} {s t:List Sl->Tr Ou} {i j l:List Sl->Tr PyData} {is:List Sl->Tr (List PyData)} {as:List Sl->Tr (List Sl)} {f:List Sl->Tr Re} {p q:List Sl->Tr Bool} {k n:Nat} {x y d:PyData} {xs ys:List PyData} {sl:Sl}
theorem Zd2:aa 0 (.d x::ρ)=.ret x:=rfl
theorem Zd1:aa (k+1) (sl::ρ)=aa k ρ:=rfl
theorem ZgI:aC d ρ=.ret d:=rfl
noncomputable def aG (g:PyData->PyData->Option PyData) (x y:PyData):Tr PyData:=Tr.of (g x y)
noncomputable def ZhG (g:PyData->PyData->Option PyData) (j:List Sl->Tr PyData) (ρ:List Sl) (x:PyData):Tr PyData:=(j ρ).bind (aG g x)
theorem Zgk {g:PyData->PyData->Option PyData}:ac g i j ρ=(i ρ).bind (ZhG g j ρ):=rfl
theorem Zgj {g:PyData->PyData->Option PyData}:ZhG g j ρ x=(j ρ).bind (aG g x):=rfl
theorem ZgA (m n:Int):aG aW (.int m) (.int n)=.ret (.int (m+n)):=rfl
theorem Zgx (h1:xs.isEmpty=false) (h2:small (xs.length+ys.length)=true):aG aW (.tuple xs) (.tuple ys)=.ret (.tuple (xs++ys)):=by
 simp [aG,aW,h1,h2]
theorem jE (h2:small (xs.length+ys.length)=true):aG aW (.list xs) (.list ys)=.ret (.list (xs++ys)):=by
 simp [aG,aW,h2]
theorem Zeg (m n:Int):aG bJ (.int m) (.int n)=.ret (.int (m - n)):=rfl
theorem Zfa {m n:Int} (h1:fit m=true) (h2:fit n=true):aG bh (.int m) (.int n)=.ret (.int (m * n)):=by
 simp [aG,bh,h1,h2]
theorem k9 {m n:Int} (h1:n≠0) (h2:fit n=true):aG e9 (.int m) (.int n)=.ret (.int (m.fdiv n)):=by
 simp [aG,e9,h1,h2]
theorem Zfb {m n:Int} (h1:n≠0):aG jr (.int m) (.int n)=.ret (.int (m.fmod n)):=by
 simp [aG,jr,h1]
theorem Zf9 {g:Int->Int->Bool} (m n:Int):aG (df g) (.int m) (.int n)=.ret (.bool (g m n)):=rfl
theorem ZfY (m n:Int):aG de (.int m) (.int n)=.ret (.bool (m == n)):=rfl
theorem Ze9 (m n:Int):aG c5 (.int m) (.int n)=.ret (.bool (!(m == n))):=rfl
theorem ZfZ (m n:Bool):aG de (.bool m) (.bool n)=.ret (.bool (m == n)):=rfl
theorem ZfX (m n:Str):aG de (.str m) (.str n)=.ret (.bool (m == n)):=rfl
theorem Ze8 (m n:Str):aG c5 (.str m) (.str n)=.ret (.bool (!(m == n))):=rfl
theorem Zmo (h1:SeqAt.shaped x=true) (h2:SeqAt.shaped y=true) (h3:∀ a b,¬ (x=.str a/\y=.str b)):aG de x y=.ret (.bool (PyData.eqv x y)):=by
 unfold aG de
 split
 ·exact absurd ⟨rfl,rfl⟩ (h3 _ _)
 ·rw [h1,h2]; rfl
theorem Zlo (h1:SeqAt.shaped x=true) (h2:SeqAt.shaped y=true) (h3:∀ a b,¬ (x=.str a/\y=.str b)):aG c5 x y=.ret (.bool (!PyData.eqv x y)):=by
 unfold aG c5
 split
 ·exact absurd ⟨rfl,rfl⟩ (h3 _ _)
 ·rw [h1,h2]; rfl
theorem Zmn (h1:SeqAt.shaped (.list xs)=true) (h2:SeqAt.shaped (.list ys)=true):aG de (.list xs) (.list ys)=.ret (.bool (PyData.eqvAll xs ys)):=by
 rw [Zmo h1 h2 (λa b z=>by cases z.1)]
 simp only [PyData.eqv]
theorem fS (n:Int):aG am (.list xs) (.int n)=Tr.of (a9 xs n):=rfl
theorem dE (n:Int):aG am (.tuple xs) (.int n)=Tr.of (a9 xs n):=rfl
theorem dF {α:Type} {xs:List α} {n:Int} {v:α} (h0:0<=n) (h:xs[n.toNat]?=some v):a9 xs n=some v:=by
 have e:(n.toNat:Int)=n:=Int.toNat_of_nonneg h0
 rw [<- e]
 exact fb h
section
variable {α:Type} {a0 a1 a2 a3 a4 a5 a6 a7 a8:α} {r:List α}
theorem jK:a9 (a0::r) 0=some a0:=fb (j:=0) rfl
theorem lf:a9 (a0::a1::r) 1=some a1:=fb (j:=1) rfl
theorem ny:a9 (a0::a1::a2::r) 2=some a2:=fb (j:=2) rfl
theorem nw:a9 (a0::a1::a2::a3::r) 3=some a3:=fb (j:=3) rfl
theorem nv:a9 (a0::a1::a2::a3::a4::r) 4=some a4:=fb (j:=4) rfl
theorem rg:a9 (a0::a1::a2::a3::a4::a5::r) 5=some a5:=fb (j:=5) rfl
theorem rc:a9 (a0::a1::a2::a3::a4::a5::a6::r) 6=some a6:=fb (j:=6) rfl
theorem q9:a9 (a0::a1::a2::a3::a4::a5::a6::a7::r) 7=some a7:=fb (j:=7) rfl
theorem qZ:a9 (a0::a1::a2::a3::a4::a5::a6::a7::a8::r) 8=some a8:=fb (j:=8) rfl
end
noncomputable def ZcE:PyData->Tr PyData
 | .int n=>.ret (.int (-n))
 | _=>.fail
theorem Ze7:fF i ρ=(i ρ).bind ZcE:=by
 unfold fF
 refine congrArg (Tr.bind (i ρ)) (funext λx=>?_)
 cases x <;> rfl
theorem Ze6 (n:Int):ZcE (.int n)=.ret (.int (-n)):=rfl
noncomputable def Zas (x:PyData):Tr Bool:=Tr.of (lJ x)
theorem Zef:cb i ρ=(i ρ).bind Zas:=rfl
theorem Zd8 (b:Bool):Zas (.bool b)=.ret b:=rfl
noncomputable def i0 (x:PyData):Tr Bool:=Tr.of (Zat x)
theorem Zee:rF i ρ=(i ρ).bind i0:=rfl
theorem Zed (b:Bool):i0 (.bool b)=.ret b:=rfl
theorem Zec (n:Int):i0 (.int n)=.ret (n != 0):=rfl
theorem Zeb:i0 (.list xs)=.ret (!xs.isEmpty):=rfl
theorem Zd9:i0 (.tuple xs)=.ret (!xs.isEmpty):=rfl
theorem Zea:i0 .none=.ret false:=rfl
noncomputable def pE (q:List Sl->Tr Bool) (ρ:List Sl) (b:Bool):Tr Bool:=if b=true then .ret true else q ρ
noncomputable def ZcC (b:Bool):Tr Bool:=.ret (!b)
theorem Ze1:nK p q ρ=(p ρ).bind (pE q ρ):=rfl
theorem Ze4:ZoE p ρ=(p ρ).bind ZcC:=rfl
theorem ZeZ:pE q ρ true=.ret true:=rfl
theorem Ze0:pE q ρ false=q ρ:=rfl
theorem Ze3 (b:Bool):ZcC b=.ret (!b):=rfl
noncomputable def qq (i j:List Sl->Tr PyData) (ρ:List Sl) (b:Bool):Tr PyData:=if b=true then i ρ else j ρ
theorem ZfM:rK p i j ρ=(p ρ).bind (qq i j ρ):=rfl
theorem ZfK:qq i j ρ true=i ρ:=rfl
theorem ZfL:qq i j ρ false=j ρ:=rfl
noncomputable def qO (x:PyData) (xs:List PyData):Tr (List PyData):=.ret (x::xs)
noncomputable def Zhk (is:List Sl->Tr (List PyData)) (ρ:List Sl) (x:PyData):Tr (List PyData):=(is ρ).bind (qO x)
theorem Ze5:ap ρ=.ret []:=rfl
theorem Zf8:af i is ρ=(i ρ).bind (Zhk is ρ):=rfl
theorem Zf7:Zhk is ρ x=(is ρ).bind (qO x):=rfl
theorem Zf6:qO x xs=.ret (x::xs):=rfl
noncomputable def oA (xs:List PyData):Tr PyData:=if small xs.length=true then .ret (.tuple xs) else .fail
theorem Zd7:cv is ρ=(is ρ).bind oA:=rfl
theorem Zd6 (h:small xs.length=true):oA xs=.ret (.tuple xs):=by unfold oA; rw [if_pos h]
noncomputable def ZcU (xs:List PyData):Tr PyData:=.ret (.list xs)
theorem Zfh:bX is ρ=(is ρ).bind ZcU:=rfl
theorem Zfg:ZcU xs=.ret (.list xs):=rfl
noncomputable def pX (xs:List PyData):Tr (List PyData):=if small xs.length=true then .ret xs else .fail
theorem Zfj:cF is ρ=(is ρ).bind pX:=rfl
theorem Zfi (h:small xs.length=true):pX xs=.ret xs:=by unfold pX; rw [if_pos h]
theorem bK {n:Nat} (h:n<=10000):small n=true:=decide_eq_true (Nat.le_trans h (by decide))
noncomputable def bH (g:List PyData->Option PyData) (xs:List PyData):Tr PyData:=Tr.of (g xs)
noncomputable def ld (g:List PyData->Option (List PyData)) (xs:List PyData):Tr (List PyData):=Tr.of (g xs)
theorem Zgd {g:List PyData->Option PyData}:bf g is ρ=(is ρ).bind (bH g):=rfl
theorem Zga {g:List PyData->Option (List PyData)}:lq g is ρ=(is ρ).bind (ld g):=rfl
theorem k8:bH cx [.list xs]=.ret (.int xs.length):=rfl
theorem qA:bH cx [.tuple xs]=.ret (.int xs.length):=rfl
theorem ZgB (n:Int):bH jO [.int n]=.ret (.int (nG n)):=rfl
theorem Zfd (m n:Int):bH iy [.int m,.int n]=.ret (.int (bz m n)):=rfl
theorem ZfB (n:Int):bH iH [.int n]=.ret (.int n):=rfl
theorem ZfC (b:Bool):bH iH [.bool b]=.ret (.int (if b then 1 else 0)):=rfl
theorem Zd5:bH fm [.list xs]=.ret (.tuple xs):=rfl
theorem Zd3:bH fm [.tuple xs]=.ret (.tuple xs):=rfl
theorem Zff:ld gN [.list xs]=.ret xs:=rfl
theorem Zfe:ld gN [.tuple xs]=.ret xs:=rfl
theorem ZeN (h:ik x=true):bH eG [x]=.ret (.str x.shown):=by
 simp [bH,eG,h]
theorem nh (ns:List Int):bH cA [.list (ns.map .int)]=.ret (.int ns.sum):=by
 unfold bH cA gF
 simp
theorem ng (ns:List Int):bH cA [.tuple (ns.map .int)]=.ret (.int ns.sum):=by
 unfold bH cA gF
 simp
theorem Zfc (ns:List Int) (h:ns.isEmpty=false):bH iz [.list (ns.map .int)]=.ret (.int (dQ ns)):=by
 have h':ns≠[]:=λz=>by subst z; cases h
 unfold bH iz gF
 simp [h']
noncomputable def gm (x:PyData) (lo:Option Int) (hi:Option Int):Tr PyData:=Tr.of (ZaW x lo hi)
noncomputable def eE (q:fg) (ρ:List Sl) (x:PyData) (lo:Option Int):Tr PyData:=(q ρ).bind (gm x lo)
noncomputable def sl1 (p q:fg) (ρ:List Sl) (x:PyData):Tr PyData:=(p ρ).bind (eE q ρ x)
theorem Zek {p q:fg}:fY i p q ρ=(i ρ).bind (sl1 p q ρ):=rfl
theorem Zej {p q:fg}:sl1 p q ρ x=(p ρ).bind (eE q ρ x):=rfl
theorem Zei {q:fg} {lo:Option Int}:eE q ρ x lo=(q ρ).bind (gm x lo):=rfl
theorem jC {lo hi:Option Int}:gm (.list xs) lo hi=.ret (.list (eP xs lo hi)):=rfl
theorem Zeh {lo hi:Option Int}:gm (.tuple xs) lo hi=.ret (.tuple (eP xs lo hi)):=rfl
theorem ZeW:f8 ρ=.ret none:=rfl
noncomputable def pa1:PyData->Tr (Option Int)
 | .int n=>.ret (some n)
 | _=>.fail
theorem ZeV:fE i ρ=(i ρ).bind pa1:=by
 unfold fE
 refine congrArg (Tr.bind (i ρ)) (funext λx=>?_)
 cases x <;> rfl
theorem ZeU (n:Int):pa1 (.int n)=.ret (some n):=rfl
noncomputable def oz (xs:List PyData):Tr PyData:=(Tr.of (kf xs)).bind λys=>.ret (.tuple ys)
theorem Zd4:rE is ρ=(is ρ).bind oz:=rfl
theorem qx {lo hi:Int} (h:kg lo hi=true):oz [.int lo,.int hi]=.ret (.tuple (aR lo hi)):=by
 simp [oz,kf,h]
theorem ZgE:aE ρ=.ret []:=rfl
noncomputable def lj (x:Sl) (xs:List Sl):Tr (List Sl):=.ret (x::xs)
noncomputable def nH (as:List Sl->Tr (List Sl)) (ρ:List Sl) (x:PyData):Tr (List Sl):=(as ρ).bind (lj (.d x))
theorem ZgF:aj i as ρ=(i ρ).bind (nH as ρ):=rfl
theorem ZgH:nH as ρ x=(as ρ).bind (lj (.d x)):=rfl
theorem ZgG {xs:List Sl}:lj sl xs=.ret (sl::xs):=rfl
noncomputable def jh:Nat->List Sl->Tr Unit
 | 0,.pen::_=>.ret ()
 | k+1,_::ρ=>jh k ρ
 | _,_=>.fail
theorem ZeR:jh 0 (.pen::ρ)=.ret ():=rfl
theorem ZeQ:jh (k+1) (sl::ρ)=jh k ρ:=rfl
noncomputable def aap (as:List Sl->Tr (List Sl)) (ρ:List Sl) (_:Unit):Tr (List Sl):=(as ρ).bind (lj .pen)
theorem ZgD:cu k as ρ=(jh k ρ).bind (aap as ρ):=by
 have key:∀ (k:Nat) (σ:List Sl) (as:List Sl->Tr (List Sl)) (ρ:List Sl),(match σ[k]? with | some Sl.pen=>(as ρ).bind λxs=>Tr.ret (Sl.pen::xs) | _=>Tr.fail)=(jh k σ).bind (aap as ρ):=by
  intro k
  induction k with
  | zero =>
   intro σ as ρ
   cases σ with
   | nil=>rfl
   | cons s r=>cases s <;> rfl
  | succ k ih =>
   intro σ as ρ
   cases σ with
   | nil=>rfl
   | cons s r=>exact ih r as ρ
 exact key k ρ as ρ
theorem ZgC (u:Unit):aap as ρ u=(as ρ).bind (lj .pen):=rfl
theorem Zgf:aQ f as ρ=(as ρ).bind f:=rfl
noncomputable def re1 (r:Re):Tr PyData:=.ret r.val
theorem ZeP:aS f ρ=(f ρ).bind re1:=rfl
theorem ZeO (r:Re):re1 r=.ret r.val:=rfl
theorem Zf5 {as:List Sl} (h:as.length=n):bv n k s as=(s (as++List.replicate k .un)).bind m9:=by
 unfold bv
 rw [if_pos (decide_eq_true h)]
theorem ZfW:m9 (.next ρ)=.ret (.d .none):=rfl
theorem ZfV (r:Re):m9 (.ret r)=.ret r:=rfl
noncomputable def j6 (t:List Sl->Tr Ou):Ou->Tr Ou
 | .next ρ=>t ρ
 | o=>.ret o
theorem qy:ao s t ρ=(s ρ).bind (j6 t):=by
 unfold ao
 refine congrArg (Tr.bind (s ρ)) (funext λo=>?_)
 cases o <;> rfl
theorem Zeu:j6 t (.next ρ)=t ρ:=rfl
theorem Zet (r:Re):j6 t (.ret r)=.ret (.ret r):=rfl
theorem Zew:j6 t (.brk ρ)=.ret (.brk ρ):=rfl
theorem Zev:j6 t (.cont ρ)=.ret (.cont ρ):=rfl
theorem Zel:cQ ρ=.ret (.next ρ):=rfl
noncomputable def qm (s t:List Sl->Tr Ou) (ρ:List Sl) (b:Bool):Tr Ou:=if b=true then s ρ else t ρ
theorem ZfF:cR p s t ρ=(p ρ).bind (qm s t ρ):=rfl
theorem ZfD:qm s t ρ true=s ρ:=rfl
theorem ZfE:qm s t ρ false=t ρ:=rfl
noncomputable def ZbO (x:PyData):Tr Ou:=.ret (.ret (.d x))
theorem ZeM:bP i ρ=(i ρ).bind ZbO:=rfl
theorem ZeL:ZbO x=.ret (.ret (.d x)):=rfl
noncomputable def ZbN (xs:List PyData):Tr Ou:=.ret (.ret (.own xs))
theorem ZeK:rH is ρ=(is ρ).bind ZbN:=rfl
theorem ZeJ:ZbN xs=.ret (.ret (.own xs)):=rfl
noncomputable def ZbM (r:Re):Tr Ou:=.ret (.ret r)
theorem ZeI:lp f ρ=(f ρ).bind ZbM:=rfl
theorem ZeH (r:Re):ZbM r=.ret (.ret r):=rfl
theorem ZeG:f7 0 (.d x::ρ)=.ret (.ret (.d x)):=rfl
theorem ZeF:f7 0 (.own xs::ρ)=.ret (.ret (.own xs)):=rfl
theorem ZeE:f7 (k+1) (sl::ρ)=f7 k ρ:=rfl
noncomputable def lO (k:Nat) (ρ:List Sl) (x:PyData):Tr Ou:=.ret (.next (ρ.set k (.d x)))
theorem Zes:aX k i ρ=(i ρ).bind (lO k ρ):=rfl
theorem Zer:lO k ρ x=.ret (.next (ρ.set k (.d x))):=rfl
noncomputable def Zbf (k:Nat) (ρ:List Sl) (x:List PyData):Tr Ou:=.ret (.next (ρ.set k (.own x)))
theorem Zeq:ff k is ρ=(is ρ).bind (Zbf k ρ):=rfl
theorem Zep:Zbf k ρ xs=.ret (.next (ρ.set k (.own xs))):=rfl
theorem ZcX {α:Type} {a b:α} {r:List α}:(a::r).set 0 b=b::r:=rfl
theorem ZcW {α:Type} {a b:α} {r:List α}:(a::r).set (k+1) b=a::r.set k b:=rfl
noncomputable def qY (g:PyData->PyData->Option PyData) (k:Nat) (ρ:List Sl) (x y:PyData):Tr Ou:=(aG g x y).bind (lO k ρ)
noncomputable def ZhK (g:PyData->PyData->Option PyData) (k:Nat) (i:List Sl->Tr PyData) (ρ:List Sl) (x:PyData):Tr Ou:=(i ρ).bind (qY g k ρ x)
theorem Zgo {g:PyData->PyData->Option PyData}:nN g k i ρ=(aa k ρ).bind (ZhK g k i ρ):=rfl
theorem Zgn {g:PyData->PyData->Option PyData}:ZhK g k i ρ x=(i ρ).bind (qY g k ρ x):=rfl
theorem Zgm {g:PyData->PyData->Option PyData}:qY g k ρ x y=(aG g x y).bind (lO k ρ):=rfl
theorem ZfN (m n:Int):aG mW (.int m) (.int n)=.ret (.int (m+n)):=rfl
noncomputable def fM:Nat->List Sl->Tr (List PyData)
 | 0,.own xs::_=>.ret xs
 | k+1,_::ρ=>fM k ρ
 | _,_=>.fail
theorem ZeY:fM 0 (.own xs::ρ)=.ret xs:=rfl
theorem ZeX:fM (k+1) (sl::ρ)=fM k ρ:=rfl
theorem l9 {β:Type} {g:List PyData->Tr β}:∀ (k:Nat) (σ:List Sl),(match σ[k]? with | some (Sl.own xs)=>g xs | _=>Tr.fail)=(fM k σ).bind g
 | 0,[]=>rfl
 | 0,s::r=>by cases s <;> rfl
 | k+1,[]=>rfl
 | k+1,s::r=>l9 k r
noncomputable def nD (k:Nat) (ρ:List Sl) (xs:List PyData) (x:PyData):Tr Ou:=if small (xs.length+1)=true then .ret (.next (ρ.set k (.own (xs++[x])))) else .fail
noncomputable def ZhS (k:Nat) (i:List Sl->Tr PyData) (ρ:List Sl) (xs:List PyData):Tr Ou:=(i ρ).bind (nD k ρ xs)
theorem Zgt:ge k i ρ=(fM k ρ).bind (ZhS k i ρ):=l9 k ρ
theorem Zgs:ZhS k i ρ xs=(i ρ).bind (nD k ρ xs):=rfl
theorem Zgr (h:small (xs.length+1)=true):nD k ρ xs x=.ret (.next (ρ.set k (.own (xs++[x])))):=by unfold nD; rw [if_pos h]
noncomputable def ZbL (k:Nat) (ρ:List Sl) (xs:List PyData):Tr Ou:=.ret (.next (ρ.set k (.own xs.reverse)))
theorem ZeD:nJ k ρ=(fM k ρ).bind (ZbL k ρ):=l9 k ρ
theorem ZeC:ZbL k ρ xs=.ret (.next (ρ.set k (.own xs.reverse))):=rfl
theorem ZfO:di k s ρ=s (fz k ρ):=rfl
theorem ZdN:fz 0 (.own xs::ρ)=.d (.list xs)::ρ:=rfl
theorem ZdO:fz 0 (.d x::ρ)=.d x::ρ:=rfl
theorem ZdM:fz 0 (.pen::ρ)=.pen::ρ:=rfl
theorem ZdL:fz 0 (.un::ρ)=.un::ρ:=rfl
theorem ZdP:fz (k+1) (sl::ρ)=sl::fz k ρ:=by
 unfold fz
 rw [List.getElem?_cons_succ]
 cases h:ρ[k]? with
 | none=>rfl
 | some s=>cases s <;> rfl
noncomputable def pK (ρ:List Sl):Tr Ou:=.ret (.next ρ)
noncomputable def ZhM (g:PyData->List Sl->Option (List Sl)) (ρ:List Sl) (x:PyData):Tr Ou:=(Tr.of (g x ρ)).bind pK
theorem Zgq {g:PyData->List Sl->Option (List Sl)}:gb g i ρ=(i ρ).bind (ZhM g ρ):=rfl
theorem Zgp {g:PyData->List Sl->Option (List Sl)}:ZhM g ρ x=(Tr.of (g x ρ)).bind pK:=rfl
theorem Ze2:pK ρ=.ret (.next ρ):=rfl
theorem ZdF:ah k x ρ=some (ρ.set k (.d x)):=rfl
theorem ZdD {gs:List PyData->List Sl->Option (List Sl)}:bo gs (.tuple xs) ρ=gs xs ρ:=rfl
theorem ZdG:bi [] ρ=some ρ:=rfl
theorem ZdH {g:PyData->List Sl->Option (List Sl)} {gs:List PyData->List Sl->Option (List Sl)}:aB g gs (x::xs) ρ=(g x ρ).bind (gs xs):=rfl
theorem ZdE {α β:Type} {a:α} {g:α->Option β}:(some a).bind g=g a:=rfl
noncomputable def Zct (k n:Nat) (ρ:List Sl):List PyData->Tr Ou
 | [x,y]=>.ret (.next ((ρ.set k (.d x)).set n (.d y)))
 | _=>.fail
theorem ZeT:iQ k n is ρ=(is ρ).bind (Zct k n ρ):=by
 unfold iQ
 refine congrArg (Tr.bind (is ρ)) (funext λxs=>?_)
 match xs with
 | []=>rfl
 | [_]=>rfl
 | [_,_]=>rfl
 | _::_::_::_=>rfl
theorem ZeS:Zct k n ρ [x,y]=.ret (.next ((ρ.set k (.d x)).set n (.d y))):=rfl
noncomputable def cf (x:PyData):Tr (List PyData):=Tr.of (fy x)
theorem ZfA:ga i ρ=(i ρ).bind cf:=rfl
theorem Zfz:cf (.list xs)=.ret xs:=rfl
theorem Zfy:cf (.tuple xs)=.ret xs:=rfl
noncomputable def dN (xs:List PyData):Tr (List PyData):=Tr.of (kh xs)
noncomputable def ij (xs:List PyData):Tr (List PyData):=Tr.of (jb xs)
theorem ZeA:dY is ρ=(is ρ).bind dN:=rfl
theorem Zez:iP is ρ=(is ρ).bind ij:=rfl
theorem c8 {n:Int} (h1:-1000000000000<=n) (h2:n<=1000000000000):eY n=true:=decide_eq_true (by omega)
theorem fA {n:Int} (h:eY n=true):dN [.int n]=.ret (aR 0 n):=by
 simp [dN,kh,h]
theorem qz {m n:Int} (h1:eY m=true) (h2:eY n=true):ij [.int m,.int n]=.ret (aR m n):=by
 simp [ij,jb,h1,h2]
noncomputable def n6 (xs:List PyData) (ys:List PyData):Tr (List PyData):=.ret (bI xs ys)
noncomputable def oa (y:PyData) (xs:List PyData):Tr (List PyData):=(cf y).bind (n6 xs)
noncomputable def og (x y:PyData):Tr (List PyData):=(cf x).bind (oa y)
noncomputable def Zab (j:List Sl->Tr PyData) (ρ:List Sl) (x:PyData):Tr (List PyData):=(j ρ).bind (og x)
theorem Zd0:jP i j ρ=(i ρ).bind (Zab j ρ):=rfl
theorem ZdZ:Zab j ρ x=(j ρ).bind (og x):=rfl
theorem ZdY:og x y=(cf x).bind (oa y):=rfl
theorem ZdX:oa y xs=(cf y).bind (n6 xs):=rfl
theorem ZdW:n6 xs ys=.ret (bI xs ys):=rfl
noncomputable def qD (xs:List PyData):Tr (List PyData):=.ret (cL xs)
noncomputable def ZgN (x:PyData):Tr (List PyData):=(cf x).bind qD
theorem Zf0:jR i ρ=(i ρ).bind ZgN:=rfl
theorem Zf2:ZgN x=(cf x).bind qD:=rfl
theorem Zf1:qD xs=.ret (cL xs):=rfl
noncomputable def ZdT (g:PyData->List Sl->Option (List Sl)) (s:List Sl->Tr Ou) (ρ:List Sl) (xs:List PyData):Tr Ou:=bV g s xs ρ
theorem ZfT {g:PyData->List Sl->Option (List Sl)}:cS is g s ρ=(is ρ).bind (ZdT g s ρ):=rfl
theorem ZfS {g:PyData->List Sl->Option (List Sl)}:ZdT g s ρ xs=bV g s xs ρ:=rfl
noncomputable def jA (g:PyData->List Sl->Option (List Sl)) (s:List Sl->Tr Ou) (xs:List PyData):Ou->Tr Ou
 | .next ρ=>bV g s xs ρ
 | .cont ρ=>bV g s xs ρ
 | .brk ρ=>.ret (.next ρ)
 | .ret r=>.ret (.ret r)
noncomputable def kZ (g:PyData->List Sl->Option (List Sl)) (s:List Sl->Tr Ou) (xs:List PyData) (ρ:List Sl):Tr Ou:=(s ρ).bind (jA g s xs)
theorem ZdQ {g:PyData->List Sl->Option (List Sl)}:bV g s [] ρ=.ret (.next ρ):=rfl
theorem c9 {g:PyData->List Sl->Option (List Sl)}:bV g s (x::xs) ρ=(Tr.of (g x ρ)).bind (kZ g s xs):=by
 rw [bV]
 refine congrArg (Tr.bind (Tr.of (g x ρ))) (funext λρ1=>?_)
 unfold kZ
 refine congrArg (Tr.bind (s ρ1)) (funext λo=>?_)
 cases o <;> rfl
theorem eN {g:PyData->List Sl->Option (List Sl)}:kZ g s xs ρ=(s ρ).bind (jA g s xs):=rfl
theorem dS {g:PyData->List Sl->Option (List Sl)}:jA g s xs (.next ρ)=bV g s xs ρ:=rfl
theorem ZfQ {g:PyData->List Sl->Option (List Sl)}:jA g s xs (.cont ρ)=bV g s xs ρ:=rfl
theorem ZfR {g:PyData->List Sl->Option (List Sl)}:jA g s xs (.brk ρ)=.ret (.next ρ):=rfl
theorem ZfP {g:PyData->List Sl->Option (List Sl)} (r:Re):jA g s xs (.ret r)=.ret (.ret r):=rfl
noncomputable def bM (g:PyData->List Sl->Option (List Sl)) (el:List Sl->Tr PyData) (τ:List Sl) (x:PyData):Tr PyData:=(Tr.of (g x τ)).bind el
noncomputable def p7 (n:Nat) (ix:List Nat) (g:PyData->List Sl->Option (List Sl)) (el:List Sl->Tr PyData) (ρ:List Sl) (xs:List PyData):Tr (List PyData):=if small xs.length=true then aV (bM g el (blk n ix ρ)) xs else .fail
theorem Zft {ix:List Nat} {g:PyData->List Sl->Option (List Sl)}:cG is n ix g i ρ=(is ρ).bind (p7 n ix g i ρ):=rfl
theorem Zfs {ix:List Nat} {g:PyData->List Sl->Option (List Sl)} (h:small xs.length=true):p7 n ix g i ρ xs=aV (bM g i (blk n ix ρ)) xs:=by unfold p7; rw [if_pos h]
theorem Zfr {τ:List Sl} {g:PyData->List Sl->Option (List Sl)}:bM g i τ x=(Tr.of (g x τ)).bind i:=rfl
theorem ZcT {h:PyData->Tr PyData} {n:Nat} {P:PyData->Prop}:∀ {xs:List PyData},(∀ x∈xs,(h x).all n P)->(aV h xs).all (xs.length * n) λys=>ys.length=xs.length/\∀ y∈ys,P y
 | [],_=>⟨rfl,λy hy=>by cases hy⟩
 | x::xs,hx=>by
  have e:(x::xs).length * n=n+(xs.length * n+0):=by rw [List.length_cons,Nat.succ_mul]; omega
  rw [e,aV]
  refine Tr.all_bind (hx x (by simp)) λy hy=>Tr.all_bind (ZcT λz hz=>hx z (List.mem_cons_of_mem _ hz)) λys hys=>?_
  exact ⟨by simp [hys.1],λz hz=>by
   rcases List.mem_cons.mp hz with rfl | hz
   ·exact hy
   ·exact hys.2 z hz⟩
theorem ZdS {g:PyData->List Sl->Option (List Sl)} {n:Nat} (I:List PyData->List Sl->Prop) {Q:Ou->Prop} :
  ∀ {xs pre:List PyData} {ρ:List Sl},I pre ρ->(∀ pre x post ρ,pre++x::post=pre++x::post->I pre ρ->x∈xs->∃ ρ1,g x ρ=some ρ1/\(s ρ1).all n λo=>∃ ρ2,o=.next ρ2/\I (pre++[x]) ρ2)->(∀ ρ,I (pre++xs) ρ->Q (.next ρ))->(bV g s xs ρ).all (xs.length * n) Q
 | [],pre,ρ,h0,_,hq=>hq ρ (by rw [List.append_nil]; exact h0)
 | x::xs,pre,ρ,h0,ht,hq=>by
  obtain ⟨ρ1,e,ha⟩:=ht pre x xs ρ rfl h0 (by simp)
  have en:(x::xs).length * n=n+xs.length * n:=by rw [List.length_cons,Nat.succ_mul]; omega
  rw [en,c9,e,Tr.of_some,Tr.ret_bind]
  unfold kZ
  refine Tr.all_bind ha λo ⟨ρ2,eo,h2⟩=>?_
  subst eo
  rw [dS]
  exact ZdS I h2 (λpre y post ρ e h hy=>ht pre y post ρ e h (List.mem_cons_of_mem _ hy)) (λρ h=>hq ρ (by rw [List.append_assoc] at h; exact h))
theorem ZmP {α:Type} {w:Int} {k:Int->Tr α} {n:Nat} {P:α->Prop} (h1:0 < w) (h2:w < 1073741824) (h:∀ r,0<=r->r < w->(k r).all n P):(Tr.draw w k).all (n+1) P:=⟨h1,h2,h⟩
noncomputable def pS (y:PyData) (ys:List PyData):Tr (List PyData):=.ret (y::ys)
noncomputable def mt1 (h:PyData->Tr PyData) (xs:List PyData) (y:PyData):Tr (List PyData):=(aV h xs).bind (pS y)
theorem ZcL {h:PyData->Tr PyData}:aV h []=.ret []:=rfl
theorem ZcM {h:PyData->Tr PyData} {x:PyData} {xs:List PyData}:aV h (x::xs)=(h x).bind (mt1 h xs):=rfl
theorem ZcO {h:PyData->Tr PyData} {y:PyData} {xs:List PyData}:mt1 h xs y=(aV h xs).bind (pS y):=rfl
theorem ZcN {y:PyData} {ys:List PyData}:pS y ys=.ret (y::ys):=rfl
theorem pick {α:Type} {xs:List α} {r:Int} (h0:0<=r) (h1:r < xs.length):∃ v,a9 xs r=some v/\v∈xs:=by
 have h:r.toNat < xs.length:=by omega
 exact ⟨xs[r.toNat],dF h0 (by simp [h]),List.getElem_mem h⟩
theorem ZlK {α:Type} {xs:List α} (h:xs.length=7):∃ a b c d e f g,xs=[a,b,c,d,e,f,g]:=by
 rcases xs with _ | ⟨a,_ | ⟨b,_ | ⟨c,_ | ⟨d,_ | ⟨e,_ | ⟨f,_ | ⟨g,_ | ⟨k,xs⟩⟩⟩⟩⟩⟩⟩⟩
 ·cases h
 ·cases h
 ·cases h
 ·cases h
 ·cases h
 ·cases h
 ·cases h
 ·exact ⟨a,b,c,d,e,f,g,rfl⟩
 ·exact absurd h (by simp)
end L2
namespace L2
open PySem
@[irreducible] noncomputable def Al {α:Type} (t:Tr α) (n:Nat) (P:α->Prop):Prop:=t.all n P
section
variable {α β:Type} {t:Tr α} {n n' N:Nat} {P:α->Prop} {P':β->Prop}
theorem Al.of (h:t.all n P):Al t n P:=by unfold Al; exact h
theorem Al.out (h:Al t n P):t.all n P:=by unfold Al at h; exact h
theorem cD {a:α} (h:P a):Al (.ret a) n P:=.of h
theorem dW {w:Int} {k:Int->Tr α} (h1:0 < w) (h2:w < 1073741824) (hN:n+1<=N) (h:∀ r,0<=r->r < w->Al (k r) n P):Al (.draw w k) N P:=.of (Tr.all_mono (ZmP h1 h2 λr a b=>(h r a b).out) hN λ_ h=>h)
theorem dX {f:α->Tr β} (h:Al t n P) (hN:n+n'<=N) (hf:∀ a,P a->Al (f a) n' P'):Al (t.bind f) N P':=.of (Tr.all_mono (Tr.all_bind h.out λa ha=>(hf a ha).out) hN λ_ h=>h)
theorem rn {Q:α->Prop} (h:Al t n P) (hN:n<=N) (hq:∀ a,P a->Q a):Al t N Q:=.of (Tr.all_mono h.out hN hq)
theorem Zot {g:PyData->List Sl->Option (List Sl)} {s:List Sl->Tr Ou} {xs:List PyData} {ρ:List Sl} {Q:Ou->Prop} (I:List Sl->Prop) (h0:I ρ) (hN:xs.length * n<=N) (ht:∀ x ρ,x∈xs->I ρ->∃ ρ1,g x ρ=some ρ1/\Al (s ρ1) n λo=>∃ ρ2,o=.next ρ2/\I ρ2) (hq:∀ ρ,I ρ->Q (.next ρ)):Al (bV g s xs ρ) N Q :=
 .of (Tr.all_mono (ZdS (λ_ ρ=>I ρ) (pre:=[]) h0 (λpre x post ρ _ h hx=>let ⟨ρ1,e,a⟩:=ht x ρ hx h; ⟨ρ1,e,a.out⟩) λρ h=>hq ρ h) hN λ_ h=>h)
theorem Zos {h:PyData->Tr PyData} {P:PyData->Prop} {xs:List PyData} {Q:List PyData->Prop} (hN:xs.length * n<=N) (hx:∀ x∈xs,Al (h x) n P) (hq:∀ ys,ys.length=xs.length->(∀ y∈ys,P y)->Q ys):Al (aV h xs) N Q :=
 .of (Tr.all_mono (ZcT λx m=>(hx x m).out) hN λys ⟨a,b⟩=>hq ys a b)
end
noncomputable def jx (lo hi:Int) (x:PyData):Prop:=∃ z:Int,x=.int z/\lo<=z/\z<=hi
theorem Zdu {lo hi:Int}:∀ {xs:List PyData},(∀ x∈xs,jx lo hi x)->∃ ns:List Int,xs=ns.map PyData.int/\∀ n∈ns,lo<=n/\n<=hi
 | [],_=>⟨[],rfl,λn hn=>by cases hn⟩
 | x::xs,h=>by
  obtain ⟨ns,e,hn⟩:=Zdu (xs:=xs) λy hy=>h y (List.mem_cons_of_mem _ hy)
  obtain ⟨z,rfl,h1,h2⟩:=h x (by simp)
  exact ⟨z::ns,by rw [e]; rfl,λn hn'=>by
   rcases List.mem_cons.mp hn' with rfl | hn'
   ·exact ⟨h1,h2⟩
   ·exact hn n hn'⟩
theorem cI {lo hi:Int}:(aR lo hi).length=(hi - lo).toNat:=by unfold aR; rw [List.length_map,gw]
theorem pA {xs:List PyData} {lo hi r:Int} (h:∀ x∈xs,jx lo hi x) (h0:0<=r) (h1:r < xs.length):∃ z:Int,a9 xs r=some (.int z)/\lo<=z/\z<=hi:=by
 obtain ⟨v,e,m⟩:=pick h0 h1
 obtain ⟨z,rfl,a,b⟩:=h v m
 exact ⟨z,e,a,b⟩
end L2
set_option Elab.async false
set_option linter.all false
set_option maxRecDepth 100000
namespace L2
open PySem PySem.Spec PyProof.Rows
variable {PK:Pk} {X:Cx} {a b c e:Expr} {es:List Expr} {pos:Pos} {i j l:List Sl->Tr PyData} {is:List Sl->Tr (List PyData)} {p q:List Sl->Tr Bool} {st:Stmt}
noncomputable def gT:PyData->Bool
 | .none=>true
 | .bool _=>true
 | .int _=>true
 | .str _=>true
 | _=>false
end L2
set_option Elab.async false
set_option linter.all false
set_option maxRecDepth 100000
namespace L2
open PySem PySem.Spec PyProof.Rows
variable {PK:Pk} {X:Cx} {a b c e:Expr} {es:List Expr} {pos:Pos} {i j l:List Sl->Tr PyData} {as:List Sl->Tr (List Sl)}
structure PkLow (PK:Pk):Prop where
 low:∀ {o o':HO} {G G':Hp} {m m':Nat},PK.is o G m->Sub G G'->PK.is o' G' m'->PK.is o' G m'
inductive ArB (pa:Addr) (G H:Hp):V->Sl->Prop
 | ok {v:V} {s:Sl}:ArOk pa G v s->ArB pa G H v s
 | own {p:Addr} {vs:List V} {xs:List PyData}:H p=some (.lst vs)->G p=none->pa≠p->DnAll G vs xs->ArB pa G H (.ref p) (.d (.list xs))
inductive ArsB (pa:Addr) (G H:Hp):List V->List Sl->Prop
 | nil:ArsB pa G H [] []
 | cons {v:V} {vs:List V} {s:Sl} {ss:List Sl}:ArB pa G H v s->ArsB pa G H vs ss->ArsB pa G H (v::vs) (s::ss)
theorem ArB.step {pa:Addr} {G H G' H':Hp} {v:V} {s:Sl} (h:ArB pa G H v s) (st:Stp pa G H G' H'):ArB pa G' H' v s:=by
 cases h with
 | ok h=>exact .ok (h.mono st.gs)
 | @own p vs xs h1 h2 h3 h4 =>
  refine .own (st.hk _ _ h1 (Ne.symm h3)) ?_ h3 (DnAll.mono st.gs h4)
  cases e:G' p with
  | none=>rfl
  | some u =>
   rcases st.gn p u e with z | z
   ·rw [h2] at z; cases z
   ·rw [h1] at z; cases z
theorem ArsB.ok {pa:Addr} {m:Nat} {G H:Hp}:∀ {vs:List V} {ss:List Sl} {G1:Hp},Sub G G1->Wd PK pa m G1 H->ArsB pa G H vs ss->∃ G2,Sub G1 G2/\Wd PK pa m G2 H/\ArsOk pa G2 vs ss
 | _,_,G1,_,w,.nil=>⟨G1,λ_ _ h=>h,w,.nil⟩
 | _,_,G1,sb,w,.cons h t=>by
  obtain ⟨G2,s2,w2,t2⟩:=ArsB.ok sb w t
  cases h with
  | ok h=>exact ⟨G2,s2,w2,.cons (h.mono (sb.trans s2)) t2⟩
  | @own p vs xs h1 h2 h3 h4 =>
   cases e:G2 p with
   | none =>
    have s3:Sub G2 (upd G2 p (.lst vs)):=Sub.new e
    exact ⟨upd G2 p (.lst vs),s2.trans s3,w2.freeze h1 e h3,.cons (.d (.lst bZ (DnAll.mono ((sb.trans s2).trans s3) h4))) (ArsOk.mono s3 t2)⟩
   | some u =>
    have:=w2.sub p u e
    rw [h1] at this
    cases this
    exact ⟨G2,s2,w2,.cons (.d (.lst e (DnAll.mono (sb.trans s2) h4))) t2⟩
noncomputable def TAb (PK:Pk) (i:List Sl->Tr (List Sl)):TA:=λσ H Q=>∃ pa G₀ H₀ m ρ G,Rl PK pa G₀ H₀ m σ ρ G H/\(i ρ).ok m λm' as=>∀ vs G' H',Stp pa G H G' H'->Wd PK pa m' G' H'->ArsB pa G' H' vs as->Q vs H'
theorem TAb.then {σ:St} {H:Hp} {β:Type} {k:List Sl->Tr β} {Z:Nat->β->Prop} {Q:List V->Hp->Prop} {pa:Addr} {G₀ H₀ G:Hp} {m:Nat} {ρ:List Sl} (R:Rl PK pa G₀ H₀ m σ ρ G H) (h:((as ρ).bind k).ok m Z)
  (hq:∀ m1 xs vs G1 H1,Stp pa G H G1 H1->Wd PK pa m1 G1 H1->Rl PK pa G₀ H₀ m1 σ ρ G1 H1->ArsB pa G1 H1 vs xs->(k xs).ok m1 Z->Q vs H1):TAb PK as σ H Q:=by
 refine ⟨pa,G₀,H₀,m,ρ,G,R,Tr.ok_mono (Tr.ok_bind.mp h) λm1 x hx v G1 H1 s1 w1 d1=>?_⟩
 exact hq m1 x v G1 H1 s1 w1 (R.step s1 w1) d1 hx
theorem iN:PA X [] (TAb PK aE):=ci.imp λσ H Q hz0=>by
 obtain ⟨pa,G₀,H₀,m,ρ,G,R,z⟩:=hz0
 exact z [] G H .refl R.wd .nil
noncomputable def cE (k:Nat) (as:List Sl->Tr (List Sl)):List Sl->Tr (List Sl):=λρ=>match ρ[k]? with
 | some (.own xs)=>(as ρ).bind λys=>.ret (.d (.list xs)::ys)
 | some (.d x)=>(as ρ).bind λys=>.ret (.d x::ys)
 | _=>.fail
theorem iO {k:Nat} (ha:PE X e (cU k)) (hr:PA X es (TAb PK as)) (hs:starEach (e::es) X.env=(false,eval e X.env)::starEach es X.env:=by rfl):PA X (e::es) (TAb PK (cE k as)):=(bU ha hr hs).imp λσ H Q hz0=>by
 obtain ⟨pa,G₀,H₀,m,ρ,G,R,z⟩:=hz0
 unfold cE at z
 split at z
 ·rename_i xs hk
  obtain ⟨o,h1,h2⟩:=R.sl k _ hk
  cases h2 with
  | @own p vs _ a1 a2 a3 a4 =>
   have hne:pa≠p:=λe=>by
    obtain ⟨u,hu⟩:=R.p0
    rw [e,a3] at hu; cases hu
   refine ⟨_,h1,?_⟩
   refine TAb.then R z λm2 ys ws G2 H2 s2 w2 R2 d2 q2=>?_
   exact q2 _ _ _ s2 w2 (.cons ((ArB.own a1 a2 hne a4).step s2) d2)
 ·rename_i x hk
  obtain ⟨o,h1,h2⟩:=R.sl k _ hk
  cases h2 with
  | d d1 =>
   refine ⟨_,h1,?_⟩
   refine TAb.then R z λm2 ys ws G2 H2 s2 w2 R2 d2 q2=>?_
   exact q2 _ _ _ s2 w2 (.cons (.ok (.d (d1.mono s2.gs))) d2)
 ·exact z.elim
theorem Dn.flat_any {G G':Hp} {v:V} {x:PyData} (h:Dn G v x) (f:gT x=true):Dn G' v x:=by
 cases h with
 | non=>exact .non
 | bl b=>exact .bl b
 | int i=>exact .int i
 | str s=>exact .str s
 | _=>cases f
variable {ρ:List Sl} {k:Nat} {xs:List PyData} {x:PyData} {sl:Sl} {f:List Sl->Tr Re}
noncomputable def iD:Nat->List Sl->Tr PyData
 | 0,.own xs::_=>.ret (.list xs)
 | 0,.d x::_=>.ret x
 | k+1,_::ρ=>iD k ρ
 | _,_=>.fail
theorem Zfm:iD 0 (.own xs::ρ)=.ret (.list xs):=rfl
theorem Zfn:iD 0 (.d x::ρ)=.ret x:=rfl
theorem Zfl:iD (k+1) (sl::ρ)=iD k ρ:=rfl
theorem Zfk:cE k as ρ=(iD k ρ).bind (nH as ρ):=by
 have key:∀ (k:Nat) (σ:List Sl) (as:List Sl->Tr (List Sl)) (ρ:List Sl),(match σ[k]? with | some (.own xs)=>(as ρ).bind λys=>Tr.ret (Sl.d (.list xs)::ys) | some (.d x)=>(as ρ).bind λys=>Tr.ret (Sl.d x::ys) | _=>Tr.fail)=(iD k σ).bind (nH as ρ):=by
  intro k
  induction k with
  | zero =>
   intro σ as ρ
   cases σ with
   | nil=>rfl
   | cons s r=>cases s <;> rfl
  | succ k ih =>
   intro σ as ρ
   cases σ with
   | nil=>rfl
   | cons s r=>exact ih r as ρ
 exact key k ρ as ρ
end L2
set_option Elab.async false
set_option linter.all false
set_option maxRecDepth 100000
namespace L2
open PySem PySem.Spec PyProof.Rows
theorem ZnA {prog:Program} {w:World} {A:Around} {R:Result->Shared->Prop} {s:Shared} {elt target iter cnd:Expr} {scope:Scope} {pos:Pos} {it acc:Value} {env:Env} (J:Nat->Shared->Prop)
  (step:∀ k s0,J k s0->wpAny (model prog w) A (pyNext it) (λgot s1=>match got with
   | none=>R (.ok .next) s1
   | some v=>wpAny (model prog w) A (letOwnedTupleGo target it v) (λ_ s2=>wpAny (model prog w) A (assign target env v) (λ_ s3=>wpAny (model prog w) A (isTrue cnd env (eval cnd env)) (λok s3'=>if ok=true then wpAny (model prog w) A (eval elt env) (λy s4 =>
     wpAny (model prog w) A (call (.builtin "list.append") [acc,y]) (λ_ s5=>∃ j,j < k/\J j s5) (λ_ _=>False) s4) (λ_ _=>False) s3' else ∃ j,j < k/\J j s3') (λ_ _=>False) s3) (λ_ _=>False) s2) (λ_ _=>False) s1) (λ_ _=>False) s0)
  (k:Nat) (h:J k s):codeAny (model prog w) A (.compLoop (.ListComp elt [⟨target,iter,[cnd],0⟩] scope pos) 0 it acc env) R s:=by
 refine codeAny_loop rfl J (λk0 s0 hJ=>?_) k h
 show wpAny _ _ ((compTurn (.ListComp elt [⟨target,iter,[cnd],0⟩] scope pos) 0 it acc env).onRaise (λx=>do noteFrame x env; theTreesLotGoes x)) _ _ s0
 apply wpAny_noted
 rw [compTurn_list]
 refine wpAny_bind (wpAny_standAt (wpAny_bind (wpAny_mono (step k0 s0 hJ) (λgot s1 h1=>?_) λ_ _ z=>z.elim)))
 cases got with
 | none=>exact wpAny_pure h1
 | some v =>
  refine wpAny_bind (wpAny_mono h1 (λ_ s2 h2=>?_) λ_ _ z=>z.elim)
  refine wpAny_bind (wpAny_mono h2 (λ_ s3 h3=>?_) λ_ _ z=>z.elim)
  refine wpAny_bind (wpAny_mono (wpAny_tests_one h3) (λok s3' h3'=>?_) λ_ _ z=>z.elim)
  cases ok with
  | false=>exact wpAny_pure ⟨rfl,h3'⟩
  | true =>
   refine wpAny_bind (wpAny_bind (wpAny_mono h3' (λy s4 h4=>?_) λ_ _ z=>z.elim))
   exact wpAny_bind (wpAny_mono h4 (λ_ s5 h5=>wpAny_pure (wpAny_pure ⟨rfl,h5⟩)) λ_ _ z=>z.elim)
noncomputable def jX (wi:TI) (n:Nat) (ix:List Nat) (g:Blk->TG) (tc:Blk->TT) (te:Blk->TE):TE:=λσ H Q=>wi σ H λJ H1=>∀ b:Blk,∃ W:Nat->Nat->St->List V->Hp->Prop,(∃ m,W 0 m (cC n ix σ) [] H1)/\∀ i m τ ys H2,W i m τ ys H2 ->
 (J.stop i H2/\∀ p v H',H2 p=none->v=V.ref p->H'=upd H2 p (.lst ys)->Q v H') \/
 (J.go i H2/\ys.length < sizeLine/\∀ x H3,J.yld i H2 x H3->g b x τ H3 λτ2 H4=>tc b τ2 H4 λok H4'=>if ok=true then te b τ2 H4' λy H5=>∃ m',m' < m/\W (i+1) m' τ2 (ys++[y]) H5 else ∃ m',m' < m/\W (i+1) m' τ2 ys H4')
section
variable {X:Cx} {pins:List (Addr×Obj)} {σ:St} {H:Hp} {s:Shared}
theorem Zdc {elt target iter cnd:Expr} {scope:Scope} {pos:Pos} {Nx ts:List Str} {ix:List Nat} {g:Blk->TG} {tc:Blk->TT} {te:Blk->TE} {cl:List (Str×Addr)} {s2:Shared} {itv:Value} {R:Value->Addr->Result->Shared->Prop}
  {E:Value->Shared->Prop} {Q:VK}
  (hc:X.calm=true) (hg:∀ b,PG (br X (bN Nx ts ix) scope b) target (g b)) (hcn:∀ b,PT (br X (bN Nx ts ix) scope b) cnd (tc b)) (he:∀ b,PE (br X (bN Nx ts ix) scope b) elt (te b))
  (hNx:X.N=Nx) (ok:BlkOk Nx X.env.scope scope ix) (cl1:∀ x c,cl.lookup x=some c->X.env.cells.lookup x=some c) (cl2:∀ y∈scope.names,y.2=.free->∃ c,cl.lookup y.1=some c)
  (h2:nT X pins σ target (λJ H1=>∀ b:Blk,∃ W:Nat->Nat->St->List V->Hp->Prop,(∃ m,W 0 m (cC ts.length ix σ) [] H1)/\∀ i m τ ys H2,W i m τ ys H2 ->
   (J.stop i H2/\∀ p v H',H2 p=none->v=V.ref p->H'=upd H2 p (.lst ys)->Q v H') \/
   (J.go i H2/\ys.length < sizeLine/\∀ x H3,J.yld i H2 x H3->g b x τ H3 λτ2 H4=>tc b τ2 H4 λok H4'=>if ok=true then te b τ2 H4' λy H5=>∃ m',m' < m/\W (i+1) m' τ2 (ys++[y]) H5 else ∃ m',m' < m/\W (i+1) m' τ2 ys H4')) itv s2)
  (hR:∀ (D C:Addr) (H':Hp) (s':Shared) (v:V),Inv X pins σ H' s'->v=.ref D->Q v H'->(∃ m,s'.heap.Ns C m)->H' C=none->C≠X.env.locals->X.s₀.heap.objs.size<=C->(∀ x c,X.env.cells.lookup x=some c->c≠C)->(∀ p∈X.pn++pins,p.1≠C) ->
   R (.ref D) C (.ok .next) s') :
  wpAny (model X.prog X.w) X.A (newList []) (λacc s₃=>wpAny (model X.prog X.w) X.A (newFunctionEnv scope X.env.globals cl [] X.env.qual none .none (some X.env)) (λcenv s₄ =>
   codeAny (model X.prog X.w) X.A (.compStart (.ListComp elt [⟨target,iter,[cnd],0⟩] scope pos) 0 itv acc { cenv with scope:=relabel scope X.env }) (R acc cenv.locals) s₄) E s₃) E s2:=by
 obtain ⟨it,fp,tn,J,H1,e,I2,T,st2,f2,q2⟩:=h2
 subst e
 refine wpAny_newObj_type (Zaf ?_)
 dsimp only
 generalize hG:s2.heap.push { cls:=.type "list",dict:=none,data:=.seq ([]:List Value).toArray }=G
 have hGs:G.objs.size=s2.heap.objs.size+1:=by rw [<- hG,Heap.size_push]
 have hfs:∀ b∈fp,b < s2.heap.objs.size:=λb hb=>let ⟨o,e,_⟩:=T.obj _ _ st2 b hb; Heap.lt_size e
 have kpG:∀ b o,G.get? b=some o->(pushCells (G.push { cls:=.type "dict",data:=.dict #[] }) scope.names).get? b=some o:=λb o e=>pushCells_keeps _ _ _ _ (Heap.get?_push_of_some _ e)
 have hns3:(pushCells (G.push { cls:=.type "dict",data:=.dict #[] }) scope.names).Ns G.objs.size (λ_=>none):=(Heap.Ns.new G (.type "dict")).keeps (pushCells_keeps _ _)
 obtain ⟨sp1,sp2,sp4,sp3⟩:=Zhn scope.names (G.push { cls:=.type "dict",data:=.dict #[] }) cl
 rw [Heap.size_push] at sp1 sp2 sp3 sp4
 generalize hh3:pushCells (G.push { cls:=.type "dict",data:=.dict #[] }) scope.names=h3 at kpG hns3 sp1 ⊢
 have kp:∀ b o,s2.heap.get? b=some o->h3.get? b=some o:=λb o e=>kpG b o (by rw [<- hG]; exact Heap.get?_push_of_some _ e)
 have hD3:h3.get? s2.heap.objs.size=some { cls:=.type "list",data:=.seq ([]:List Value).toArray }:=kpG _ _ (by rw [<- hG]; exact Heap.get?_push_size _ rfl)
 have clB:∀ x c,cl.lookup x=some c->c < G.objs.size+1:=λx c e=>by
  obtain ⟨v,q⟩:=I2.cell x c (cl1 x c e)
  exact Nat.lt_succ_of_lt (Nat.lt_of_lt_of_le q.lt (by rw [hGs]; exact Nat.le_succ _))
 have csI:=sp3 clB λx y c e1 e2=>I2.ok.inj x y c (cl1 x c e1) (cl1 y c e2)
 have cs1:∀ x c,(cellsFrom (G.objs.size+1) scope.names cl).lookup x=some c->X.env.cells.lookup x=some c\/(G.objs.size < c/\h3.IsCell c none/\(x,NameKind.cell)∈scope.names):=λx c e=>by
  rcases sp1 x c e with z | ⟨z1,z2,z3⟩
  ·exact .inl (cl1 x c z)
  ·exact .inr ⟨by omega,z2,z3⟩
 have cs2:∀ y∈scope.names,(y.2=.free\/y.2=.cell)->∃ c,(cellsFrom (G.objs.size+1) scope.names cl).lookup y.1=some c:=λy hy hk=>by
  refine sp2 y.1 ?_
  rcases hk with z | z
  ·exact .inr (cl2 y hy z)
  ·exact .inl (by rw [<- z]; exact hy)
 have csA:∀ x c,(x,NameKind.cell)∈scope.names->(cellsFrom (G.objs.size+1) scope.names cl).lookup x=some c->G.objs.size<=c:=λx c e1 e2=>Nat.le_of_succ_le (sp4 x c e1 e2)
 generalize hcs:cellsFrom (G.objs.size+1) scope.names cl=cs at csI cs1 cs2 csA ⊢
 generalize hCe:G.objs.size=C at hns3 cs1 csA ⊢
 have hC:s2.heap.objs.size<=C:=by omega
 have hDC:s2.heap.objs.size≠C:=by omega
 let B:Blk:=⟨cs,C,s2,H1,fp,X.pn++pins⟩
 have I3:Inv (br X (bN Nx ts ix) scope B) [] (cC ts.length ix σ) H1 { s2 with heap:=h3 }:=Zdt I2 hNx ok cs1 csI cs2 csA f2 hfs hC kp hns3
 have fC:H1 s2.heap.objs.size=none:=I2.hok.fresh (Nat.le_refl _)
 have cellIn:∀ x c,cs.lookup x=some c->c≠s2.heap.objs.size:=λx c e=>by
  rcases cs1 x c e with z | ⟨z,_,_⟩
  ·obtain ⟨v,q⟩:=I2.cell x c z
   exact Nat.ne_of_lt q.lt
  ·exact Nat.ne_of_gt (Nat.lt_of_le_of_lt hC z)
 have pinIn:∀ p∈X.pn++pins,p.1 < s2.heap.objs.size:=λp hp=>Heap.lt_size (I2.pin p hp).1
 have nofrs:s2.heap.objs.size ∉ frs X.stack:=λhb=>by
  rcases List.mem_cons.mp (I2.stkSub _ hb) with z | z
  ·exact absurd I2.lt (by rw [<- z]; exact Nat.lt_irrefl _)
  ·exact I2.nofs (Nat.le_refl _) z
 -- a state with the list at its place,pinned
 have pinD:∀ {τ:St} {H':Hp} {s':Shared} {ob:Obj},Inv (br X (bN Nx ts ix) scope B) [] τ H' s'->s'.heap.get? s2.heap.objs.size=some ob->H' s2.heap.objs.size=none->(∀ v,ob.data≠.cell v)->Inv (br X (bN Nx ts ix) scope B) [(s2.heap.objs.size,ob)] τ H' s' :=
  λ{τ H' s' ob} I' ho hn hd=>I'.pins_of λp hp=>by
   have e:p=(s2.heap.objs.size,ob):=by simpa using hp
   subst e
   exact ⟨ho,hn,hDC,nofrs,hd⟩
 obtain ⟨W,⟨m0,w0⟩,turn⟩:=q2 B
 have stat:∀ {H':Hp} {ob:Obj},(∀ b∈fp,H' b=none)->∀ b∈fp,fj (br X (bN Nx ts ix) scope B) [(s2.heap.objs.size,ob)] H' b:=λ{H' ob} hn b hb=>by
  refine ⟨hn b hb,Nat.ne_of_lt (Nat.lt_of_lt_of_le (hfs b hb) hC),λz=>?_,.inl hb,λx c e=>by
   rcases cs1 x c e with z | ⟨z,_,_⟩
   ·exact (f2 b hb).2.2.2.2.1 x c z
   ·exact Nat.ne_of_gt (Nat.lt_of_lt_of_le (hfs b hb) (Nat.le_trans hC (Nat.le_of_lt z))),λp hp=>?_⟩
  ·rcases List.mem_cons.mp (I2.stkSub _ z) with q | q
   ·exact (f2 b hb).2.1 q
   ·exact (f2 b hb).2.2.1 q
  ·rcases List.mem_append.mp hp with z | z
   ·exact (f2 b hb).2.2.2.2.2 p z
   ·have e:p=(s2.heap.objs.size,ob):=by simpa using z
    subst e
    exact Nat.ne_of_gt (hfs b hb)
 have loop:∀ s4:Shared,s4={ s2 with heap:=h3 } ->
   codeAny (model X.prog X.w) X.A (.compLoop (.ListComp elt [⟨target,iter,[cnd],0⟩] scope pos) 0 (.ref it) (.ref s2.heap.objs.size) (compEnvC scope cs C X.env)) (R (.ref s2.heap.objs.size) C) s4:=by
  rintro s4 rfl
  refine ZnA (λk s'=>∃ i τ ys its n H',Inv (br X (bN Nx ts ix) scope B) [(s2.heap.objs.size,({ cls:=.type "list",data:=.seq (List.toArray its) n }:Obj))] τ H' s'/\tn i s'.heap/\(∀ b∈fp,H' b=none)/\Vals ys its/\ys.length<=sizeLine/\W i k τ ys H') ?_ m0
   ⟨0,_,[],[],_,H1,pinD I3 hD3 fC (λv z=>by cases z),T.keep _ _ _ st2 λb hb o e=>kp b o e,λb hb=>(f2 b hb).1,.nil,Nat.zero_le _,w0⟩
  rintro k s5 ⟨i,τ,ys,its,n,H5,I5,st5,fr5,rv,hz,w5⟩
  rcases turn i k τ ys H5 w5 with ⟨stop,qn⟩ | ⟨go,hlt,step⟩
  ·refine thn (T.done (br X (bN Nx ts ix) scope B) rfl rfl rfl hc i _ s5 τ H5 _ I5 (stat fr5) st5 stop) λgot s6 hz0=>?_
   obtain ⟨hr,I6⟩:=hz0
   subst hr
   obtain ⟨ho,hn,_,_,_⟩:=I6.pin (s2.heap.objs.size,({ cls:=.type "list",data:=.seq (List.toArray its) n }:Obj)) (List.mem_append_right _ (by simp))
   have I7:Inv X pins σ H5 s6:=I2.call' (ch:=fp) (H':=H5) (by exact I6.os) I6.base I6.hok I6.bare λb hb=>⟨(f2 b hb).2.2.2.1,(f2 b hb).2.1,(f2 b hb).2.2.2.2.1,(f2 b hb).2.2.2.2.2⟩
   have hs0:X.s₀.heap.objs.size<=s2.heap.objs.size:=I2.sz
   have I8:=I7.track hn ho rv hz (Nat.ne_of_gt I2.lt) hs0 (λx c e z=>by
    obtain ⟨v,q⟩:=I2.cell x c e
    exact absurd q.lt (by rw [z]; exact Nat.lt_irrefl _)) (λp hp=>Nat.ne_of_lt (pinIn p hp))
   obtain ⟨m6,hm6,_⟩:=I6.loc
   refine hR _ C _ s6 _ I8 rfl (qn _ _ _ hn rfl rfl) ⟨m6,hm6⟩ ?_ (λz=>?_) (Nat.le_trans hs0 hC) (λx c e z=>?_) λp hp=>Nat.ne_of_lt (Nat.lt_of_lt_of_le (pinIn p hp) hC)
   ·rw [aL (Ne.symm hDC)]
    exact I6.free
   ·exact absurd (Nat.lt_of_lt_of_le I2.lt hC) (by rw [z]; exact Nat.lt_irrefl _)
   ·obtain ⟨v,q⟩:=I2.cell x c e
    exact absurd (Nat.lt_of_lt_of_le q.lt hC) (by rw [z]; exact Nat.lt_irrefl _)
  ·refine thn (T.item (br X (bN Nx ts ix) scope B) rfl rfl rfl hc i _ s5 τ H5 _ I5 (stat fr5) st5 go) λgot s6 hz0=>?_
   obtain ⟨u,hr,h6⟩:=hz0
   subst hr
   refine thn h6 λ_ s7 hz0=>?_
   obtain ⟨x,H7,I7,r7,y7,st7,fr7⟩:=hz0
   have I7':=I7.pinned (stat fr7) (T.obj _ _ st7)
   refine thn (hg B _ s7 τ H7 x u _ I7' r7 (step x H7 y7)) λ_ s8 hz0=>?_
   obtain ⟨τ8,H8,I8,q8⟩:=hz0
   refine thn (hcn B _ s8 τ8 H8 _ I8 q8) λokk s8' hz0=>?_
   obtain ⟨H8',I8',q8'⟩:=hz0
   cases okk with
   | false =>
    obtain ⟨m',hm',w9⟩:=q8'
    obtain ⟨ho,hn,_,_,_⟩:=I8'.pin (s2.heap.objs.size,({ cls:=.type "list",data:=.seq (List.toArray its) n }:Obj)) (List.mem_append_right _ (List.mem_append_left _ (by simp)))
    have I9':Inv (br X (bN Nx ts ix) scope B) [] τ8 H8' s8':=I8'.pins_of λp hp=>absurd hp (by simp)
    refine ⟨m',hm',i+1,τ8,ys,its,n,H8',pinD I9' ho hn (λv z=>by cases z),?_,λb hb=>?_,rv,hz,w9⟩
    ·refine T.keep _ _ _ st7 λb hb o e=>?_
     exact (I8'.pin (b,o) (List.mem_append_right _ (List.mem_append_right _ (gL hb e)))).1
    ·obtain ⟨o,e,d⟩:=T.obj _ _ st7 b hb
     exact (I8'.pin (b,o) (List.mem_append_right _ (List.mem_append_right _ (gL hb e)))).2.1
   | true =>
   refine thn (he B _ s8' τ8 H8' _ I8' q8') λy s9 hz0=>?_
   obtain ⟨vy,H9,I9,r9,m',hm',w9⟩:=hz0
   obtain ⟨ho,hn,_,_,_⟩:=I9.pin (s2.heap.objs.size,({ cls:=.type "list",data:=.seq (List.toArray its) n }:Obj)) (List.mem_append_right _ (List.mem_append_left _ (by simp)))
   have lenv:=rv.length
   refine wpAny_list_append_plain (l:=s2.heap.objs.size) ⟨n,ho⟩ (λh' hpl hsb=>?_) (by rw [List.size_toArray]; omega)
   obtain ⟨n',ho'⟩:=hpl
   have eobj:(its.toArray.push y)=List.toArray (its++[y]):=by simp
   rw [eobj] at ho'
   have I9':Inv (br X (bN Nx ts ix) scope B) [] τ8 H9 s9:=I9.pins_of λp hp=>absurd hp (by simp)
   have I10:Inv (br X (bN Nx ts ix) scope B) [] τ8 H9 { s9 with heap:=h' }:=I9'.turned (it:=s2.heap.objs.size) (t':=s9.toks) (λb o hb e=>(hsb.2 b hb).trans e) hn hDC (.inr (Nat.le_refl _)) cellIn (λp hp=>by
    have hp':p∈(X.pn++pins)++[]:=hp
    rw [List.append_nil] at hp'
    exact Nat.ne_of_lt (pinIn p hp'))
   refine ⟨m',hm',i+1,τ8,ys++[vy],its++[y],n',H9,pinD I10 ho' hn (λv z=>by cases z),?_,λb hb=>?_,rv.append (.cons r9 .nil),by rw [List.length_append]; show ys.length+1<=_; omega,w9⟩
   ·refine T.keep _ _ _ st7 λb hb o e=>?_
    have q:=(I9.pin (b,o) (List.mem_append_right _ (List.mem_append_right _ (gL hb e)))).1
    exact (hsb.2 b (Nat.ne_of_lt (hfs b hb))).trans q
   ·obtain ⟨o,e,d⟩:=T.obj _ _ st7 b hb
    exact (I9.pin (b,o) (List.mem_append_right _ (List.mem_append_right _ (gL hb e)))).2.1
 exact codeAny_compStart_list (loop _ rfl) (T.self X.A 0 _ _ _ (T.keep _ _ _ st2 λb hb o e=>kp b o e) (loop _ rfl))
theorem ZkJ {elt target iter cnd:Expr} {scope:Scope} {pos:Pos} {wi:TI} {g:Blk->TG} {tc:Blk->TT} {te:Blk->TE} (Nx:List Str) (ts:List Str) (ix:List Nat)
  (hc:X.calm=true) (hi:PI X target iter wi) (hg:∀ b,PG (br X (bN Nx ts ix) scope b) target (g b)) (hcn:∀ b,PT (br X (bN Nx ts ix) scope b) cnd (tc b)) (he:∀ b,PE (br X (bN Nx ts ix) scope b) elt (te b))
  (hNx:X.N=Nx) (ok:BlkOk Nx X.env.scope scope ix) (hs:∀ x,foldedSetIterable iter X.env x=pure x:=by intro _; rfl) :
  PE X (.ListComp elt [⟨target,iter,[cnd],0⟩] scope pos) (jX wi ts.length ix g tc te):=by
 intro pins s σ H Q I h
 obtain ⟨cl,hcl,cl1,cl2⟩:=nq (scope:=scope) (env:=X.env) λy hy hf=>I.ok.has y.1 (ok.frees y hy hf)
 rw [eval_ListComp]
 refine wpAny_comprehension_free (use:=none) rfl hs hcl ok.kind ok.locs (thn (hi pins s σ H _ I h) λv s1 h1=>thn h1 λitv s2 h2=>?_)
 refine Zdc (R:=λacc C=>compPost (model X.prog X.w) X.A X.xe none (EP X pins σ Q) acc C) hc hg hcn he hNx ok cl1 cl2 h2 ?_
 rintro D C H' s' v I' rfl q ⟨m,hm⟩ hn hL h0 hcl' hp
 exact ⟨m,hm,λh' hsb=>⟨.ref D,H',I'.turned (it:=C) (t':=s'.toks) (λb o hb e=>(hsb.2 b hb).trans e) hn hL (.inr h0) hcl' hp,rfl,q⟩⟩
theorem Zkp {elt target iter cnd:Expr} {scope:Scope} {pos pos' spos:Pos} {wi:TI} {g:Blk->TG} {tc:Blk->TT} {te:Blk->TE} {i:Nat} {x:Str} (Nx:List Str) (ts:List Str) (ix:List Nat)
  (hc:X.calm=true) (hN:X.N.Nodup) (hix:X.N[i]?=some x) (hx:X.env.scope.names.lookup x=some .local) (hi:PI X target iter wi) (hg:∀ b,PG (br X (bN Nx ts ix) scope b) target (g b)) (hcn:∀ b,PT (br X (bN Nx ts ix) scope b) cnd (tc b)) (he:∀ b,PE (br X (bN Nx ts ix) scope b) elt (te b))
  (hNx:X.N=Nx) (ok:BlkOk Nx X.env.scope scope ix) (hsw:swapsWith (.ListComp elt [⟨target,iter,[cnd],0⟩] scope pos) (some (.Name x pos')) spos.line X.env=pure true) (hs:∀ x,foldedSetIterable iter X.env x=pure x:=by intro _; rfl) :
  PS X (.Assign [.Name x pos'] (.ListComp elt [⟨target,iter,[cnd],0⟩] scope pos) spos) (dL (jX wi ts.length ix g tc te) (eZ i)):=by
 intro pins s σ H D0 I h
 obtain ⟨cl,hcl,cl1,cl2⟩:=nq (scope:=scope) (env:=X.env) λy hy hf=>I.ok.has y.1 (ok.frees y hy hf)
 rw [exec_Assign_Name_used _ _ _ _ hsw]
 refine wpAny_bind (wpAny_standAt (wpAny_bind ?_))
 show wpAny _ X.A (do let _ <- comprehension (.ListComp elt [⟨target,iter,[cnd],0⟩] scope pos) scope X.env _ (newList []) false (eval iter X.env) (some (assign (.Name x pos') X.env))) _ _ s
 refine wpAny_bind (thn (wpAny_comprehension_free (use:=some (assign (.Name x pos') X.env)) (Q:=λ_ s'=>SP X pins D0 .next s') rfl hs hcl ok.kind ok.locs (thn (hi pins s σ H _ I h) λv s1 h1=>thn h1 λitv s2 h2=>?_)) λ_ s' hq=>wpAny_pure (wpAny_pure hq))
 refine Zdc (R:=λacc C=>compPost (model X.prog X.w) X.A X.xe (some (assign (.Name x pos') X.env)) (λ_ s'=>SP X pins D0 .next s') acc C) (Q:=λx H1=>eZ i x σ H1 D0.nx) hc hg hcn he hNx ok cl1 cl2 h2 ?_
 rintro D C H' s' v I' rfl q ⟨m,hm⟩ hn hL h0 hcl' hp
 show wpAny _ X.A (assign (.Name x pos') X.env (.ref D)) _ _ _
 refine wpAny_assign_Name (oJ I' hN hix (.inl hx) (show RelV (.ref D) (.ref D) from rfl) (λs'' I'' hch=>?_) (.inr hx))
 obtain ⟨a,hsb,ha⟩:=hch
 have haC:C≠a:=by
  rcases ha with z | z
  ·rw [z]; exact hL
  ·exact λe=>hcl' _ _ z e.symm
 exact ⟨m,hm.sameBut hsb haC,λh'' hs''=>⟨_,H',I''.turned (it:=C) (t':=s''.toks) (λb o hb e=>(hs''.2 b hb).trans e) hn hL (.inr h0) hcl' hp,q⟩⟩
end
section
variable {PK:Pk} {X:Cx} {e:Expr} {st:Stmt} {i:List Sl->Tr PyData} {is:List Sl->Tr (List PyData)} {p:List Sl->Tr Bool}
noncomputable def js (y:Option PyData) (ys:List PyData):Tr (List PyData):=.ret (match y with
 | some y=>y::ys
 | none=>ys)
noncomputable def dR (h:PyData->Tr (Option PyData)):List PyData->Tr (List PyData)
 | []=>.ret []
 | x::xs=>(h x).bind λy=>(dR h xs).bind (js y)
noncomputable def jz (p:List Sl->Tr Bool) (i:List Sl->Tr PyData) (τ:List Sl):Tr (Option PyData):=(p τ).bind λok=>if ok=true then (i τ).bind λy=>.ret (some y) else .ret none
noncomputable def f9 (is:List Sl->Tr (List PyData)) (n:Nat) (ix:List Nat) (g:PyData->List Sl->Option (List Sl)) (p:List Sl->Tr Bool) (el:List Sl->Tr PyData):List Sl->Tr (List PyData):=λρ =>
 (is ρ).bind λxs=>if small xs.length=true then dR (λx=>(Tr.of (g x (blk n ix ρ))).bind (jz p el)) xs else .fail
theorem Zdb {n:Nat} {ix:List Nat} {g:PyData->List Sl->Option (List Sl)} (hn:gg n g):∀ σ H Q,cT PK (f9 is n ix g p i) σ H Q->jX (dZ PK is) n ix (λ_=>fh PK g) (λ_=>TAt PK p) (λ_=>TAe PK i) σ H Q:=by
 rintro σ H Q ⟨pa,G₀,H₀,m,ρ,G,R,z⟩
 refine ⟨pa,G₀,H₀,m,ρ,G,R,Tr.ok_mono (Tr.ok_bind.mp z) λm1 xs k J G1 H1 s1 w1 jo=>λB=>?_⟩
 obtain ⟨hs,k⟩:=fv k
 have hs:xs.length<=sizeLine:=of_decide_eq_true hs
 let el:PyData->Tr (Option PyData):=λx=>(Tr.of (g x (blk n ix ρ))).bind (jz p i)
 let W:Nat->Nat->St->List V->Hp->Prop:=λk mm τ ys H2=>mm=xs.length - k/\k<=xs.length/\ys.length<=k/\∃ m G2 ds,Sub G1 G2/\Stp pa G H G2 H2/\Rl PK pa G₀ H₀ m τ (blk n ix ρ) G2 H2 /\
  DnAll G2 ys ds/\(dR el (xs.drop k)).ok m λm' zs=>Ko1 PK pa m' G H (ds++zs) Q
 refine ⟨W,⟨xs.length,rfl,Nat.zero_le _,Nat.le_refl _,m1,G1,[],.refl,s1,(R.step s1 w1).blk n ix,.nil,k⟩,?_⟩
 rintro k mm τ ys H2 ⟨rfl,hk,hy,m2,G2,ds,sb,st2,R2,dn,k2⟩
 obtain ⟨j1,j2⟩:=jo m2 G2 H2 sb R2.wd
 by_cases hlt:k < xs.length
 ·have hx:xs[k]?=some xs[k]:=by simp [hlt]
  obtain ⟨jg,jy⟩:=j1 k _ hx
  refine .inr ⟨jg,by omega,λx H3 y=>?_⟩
  obtain ⟨G3,s3,w3,d3⟩:=jy x H3 y
  rw [List.drop_eq_getElem_cons hlt] at k2
  unfold dR at k2
  rw [Tr.ok_bind,Tr.ok_bind] at k2
  obtain ⟨ρ3,hg3,k3⟩:=Tr.ok_of k2
  refine ⟨pa,G₀,H₀,m2,_,G3,_,ρ3,R2.step s3 w3,d3,hg3,λτ4 R4=>?_⟩
  obtain ⟨pl,pk⟩:=hn _ _ _ hg3
  have hback:∀ (q:Nat) (sl:Sl),(blk n ix ρ)[q]?=some sl->sl=.un\/ρ3[q]?=some sl:=λq sl hq=>by
   by_cases hqn:q < n
   ·left
    unfold blk at hq
    rw [List.getElem?_append_left (by simpa using hqn),List.getElem?_replicate,if_pos hqn] at hq
    cases hq
    rfl
   ·right
    rw [pk q (Nat.le_of_not_lt hqn)]
    exact hq
  unfold jz at k3
  rw [Tr.ok_bind] at k3
  refine ⟨pa,G₀,H₀,m2,ρ3,G3,R4,Tr.ok_mono k3 λm4 ok k4 G4 H4 s4 w4=>?_⟩
  have R4':=R4.step s4 w4
  have s34:=s3.trans s4 w3.some
  cases ok with
  | false =>
   have k4':((dR el (xs.drop (k+1))).bind (js none)).ok m4 λm' zs=>Ko1 PK pa m' G H (ds++zs) Q:=k4
   refine ⟨xs.length - (k+1),by omega,rfl,hlt,by omega,m4,G4,ds,sb.trans s34.gs,st2.trans s34 R2.wd.some,R4'.weak pl hback,DnAll.mono s34.gs dn,?_⟩
   exact Tr.ok_mono (Tr.ok_bind.mp k4') λm6 zs k6=>k6
  | true =>
   have k4':((i ρ3).bind λy=>.ret (some y)).ok m4 λm' y=>((dR el (xs.drop (k+1))).bind (js y)).ok m' λm' zs=>Ko1 PK pa m' G H (ds++zs) Q:=k4
   rw [Tr.ok_bind] at k4'
   refine ⟨pa,G₀,H₀,m4,ρ3,G4,R4',Tr.ok_mono k4' λm5 yd k5=>?_⟩
   intro v G5 H5 s5 w5 d5
   have s35:=s34.trans s5 w4.some
   refine ⟨xs.length - (k+1),by omega,rfl,hlt,by rw [List.length_append]; show ys.length+1<=_; omega,m5,G5,ds++[yd],sb.trans s35.gs,st2.trans s35 R2.wd.some,(R4'.step s5 w5).weak pl hback,(DnAll.mono s35.gs dn).snoc d5,?_⟩
   have k5':((dR el (xs.drop (k+1))).bind (js (some yd))).ok m5 λm' zs=>Ko1 PK pa m' G H (ds++zs) Q:=k5
   refine Tr.ok_mono (Tr.ok_bind.mp k5') λm6 zs k6=>?_
   rw [List.append_assoc]
   exact k6
 ·have e:k=xs.length:=by omega
  subst e
  refine .inl ⟨j2,λp v H' hp ev eH=>?_⟩
  subst ev eH
  rw [List.drop_length] at k2
  have k2':Ko1 PK pa m2 G H (ds++[]) Q:=k2
  rw [List.append_nil] at k2'
  exact (Ko1.later k2' st2 R2.wd.some).new R2.wd dn hp
theorem Zop {n:Nat} {ix:List Nat} {g:PyData->List Sl->Option (List Sl)} (h:PE X e (jX (dZ PK is) n ix (λ_=>fh PK g) (λ_=>TAt PK p) (λ_=>TAe PK i))) (hn:gg n g):PE X e (cT PK (f9 is n ix g p i)):=h.imp (Zdb hn)
end
end L2
set_option Elab.async false
set_option linter.all false
set_option maxRecDepth 100000
namespace L2
open PySem PySem.Spec PyProof.Rows
section
variable {X:Cx}
section
variable {ρ:List Sl} {is:List Sl->Tr (List PyData)} {n:Nat} {i:List Sl->Tr PyData} {p:List Sl->Tr Bool} {xs:List PyData} {x:PyData}
noncomputable def gP (g:PyData->List Sl->Option (List Sl)) (p:List Sl->Tr Bool) (el:List Sl->Tr PyData) (τ:List Sl) (x:PyData):Tr (Option PyData):=(Tr.of (g x τ)).bind (jz p el)
noncomputable def p6 (n:Nat) (ix:List Nat) (g:PyData->List Sl->Option (List Sl)) (p:List Sl->Tr Bool) (el:List Sl->Tr PyData) (ρ:List Sl) (xs:List PyData):Tr (List PyData):=if small xs.length=true then dR (gP g p el (blk n ix ρ)) xs else .fail
theorem Zfo {ix:List Nat} {g:PyData->List Sl->Option (List Sl)}:f9 is n ix g p i ρ=(is ρ).bind (p6 n ix g p i ρ):=rfl
theorem Zfq {ix:List Nat} {g:PyData->List Sl->Option (List Sl)} (h:small xs.length=true):p6 n ix g p i ρ xs=dR (gP g p i (blk n ix ρ)) xs:=by unfold p6; rw [if_pos h]
theorem Zfp {τ:List Sl} {g:PyData->List Sl->Option (List Sl)}:gP g p i τ x=(Tr.of (g x τ)).bind (jz p i):=rfl
noncomputable def qo (y:PyData):Tr (Option PyData):=.ret (some y)
noncomputable def qp (i:List Sl->Tr PyData) (τ:List Sl) (b:Bool):Tr (Option PyData):=if b=true then (i τ).bind qo else .ret none
theorem ZfG {τ:List Sl}:jz p i τ=(p τ).bind (qp i τ):=rfl
theorem ZfI {τ:List Sl}:qp i τ true=(i τ).bind qo:=rfl
theorem ZfJ {τ:List Sl}:qp i τ false=.ret none:=rfl
theorem ZfH:qo x=.ret (some x):=rfl
end
end
end L2
set_option Elab.async false
set_option linter.all false
set_option maxRecDepth 100000
namespace L2
open PySem PySem.Spec PyProof.Rows
section
variable {PK:Pk} {X:Cx} {e:Expr} {as:List Sl->Tr (List Sl)}
noncomputable def slD:List Sl->Option (List PyData)
 | []=>some []
 | .d x::r=>(slD r).bind λxs=>some (x::xs)
 | _=>none
theorem ArsOk.slD {pa:Addr} {G:Hp} {vs:List V} {ss:List Sl} {ds:List PyData} (a:ArsOk pa G vs ss) (h:L2.slD ss=some ds):DnAll G vs ds:=by
 induction a generalizing ds with
 | nil=>cases h; exact .nil
 | cons h0 t ih =>
  cases h0 with
  | d h1 =>
   unfold L2.slD at h
   cases e:L2.slD _ with
   | none=>rw [e] at h; cases h
   | some xs =>
    rw [e] at h
    cases h
    exact .cons h1 (ih e)
  | pen=>cases h
noncomputable def k7 (d:PyData):Tr PyData:=if gT d=true then .ret d else .fail
noncomputable def eR (f:List PyData->Option PyData) (as:List Sl->Tr (List Sl)):List Sl->Tr PyData:=λρ=>(as ρ).bind λss=>(Tr.of ((slD ss).bind f)).bind k7
theorem iM {r:List V->Hp->VK->Prop} {f:List PyData->Option PyData} (L:PkLow PK) (h:PE X e (fq r (TAb PK as))) (hv:eS r f):PE X e (TAe PK (eR f as)):=h.imp λσ H Q hz0=>by
 obtain ⟨pa,G₀,H₀,m,ρ,G,R,z⟩:=hz0
 refine TAb.then R z λm1 ss vs G1 H1 s1 w1 R1 d1 q1=>?_
 obtain ⟨d,hd,q1⟩:=Tr.ok_of (Tr.ok_bind.mp q1)
 obtain ⟨G2,s2,w2,d2⟩:=ArsB.ok (λ_ _ h=>h) w1 d1
 cases e:slD ss with
 | none=>rw [e] at hd; cases hd
 | some ds =>
  rw [e] at hd
  unfold k7 at q1
  obtain ⟨hf,k⟩:=fv (c:=gT d) q1
  refine hv PK pa m1 G2 H1 vs ds d Q w2 (ArsOk.slD d2 e) hd ?_
  intro v G3 H3 s3 w3 d3
  have s13:Stp pa G1 H1 G1 H3:=⟨λ_ _ h=>h,λ_ _ h=>.inl h,s3.hk⟩
  obtain ⟨o1,e1,p1⟩:=w1.pen
  obtain ⟨o3,e3,p3⟩:=w3.pen
  have w13:Wd PK pa m1 G1 H3:=⟨λb o h=>s3.hk b o (w1.sub b o h) (λz=>by subst z; rw [w1.gpa] at h; cases h),w1.gpa,o3,e3,L.low p1 (s2.trans s3.gs) p3⟩
  exact k v G1 H3 (s1.trans s13 w1.some) w13 (Dn.flat_any d3 hf)
end
section
variable {ρ:List Sl} {as:List Sl->Tr (List Sl)} {f:List PyData->Option PyData} {x:PyData} {xs:List PyData} {i j:List Sl->Tr PyData} {k:Nat} {p:List Sl->Tr Bool} {s:List Sl->Tr Ou}
noncomputable def Zhp (f:List PyData->Option PyData) (ss:List Sl):Tr PyData:=(Tr.of ((slD ss).bind f)).bind k7
theorem Zgc:eR f as ρ=(as ρ).bind (Zhp f):=rfl
theorem Zgb:Zhp f [.d x]=(bH f [x]).bind k7:=rfl
theorem ZfU (n:Int):k7 (.int n)=.ret (.int n):=rfl
noncomputable def j5 (k:Nat) (ρ:List Sl) (x:PyData) (xs:List PyData):PyData->Tr Ou
 | .int y=>(Tr.of (bG xs.length y)).bind λt=>.ret (.next (ρ.set k (.own (xs.set t x))))
 | _=>.fail
noncomputable def oN (k:Nat) (n:List Sl->Tr PyData) (ρ:List Sl) (x:PyData) (xs:List PyData):Tr Ou:=(n ρ).bind (j5 k ρ x xs)
noncomputable def oO (k:Nat) (n:List Sl->Tr PyData) (ρ:List Sl) (x:PyData):Tr Ou:=(fM k ρ).bind (oN k n ρ x)
theorem Zeo:fZ k j i ρ=(i ρ).bind (oO k j ρ):=by
 unfold fZ
 refine congrArg (Tr.bind (i ρ)) (funext λx=>?_)
 rw [oO,<- l9 k ρ]
 cases ρ[k]? with
 | none=>rfl
 | some sl =>
  cases sl with
  | own xs =>
   show ((j ρ).bind _:Tr Ou)=(j ρ).bind (j5 k ρ x xs)
   refine congrArg (Tr.bind (j ρ)) (funext λy=>?_)
   cases y <;> rfl
  | _=>rfl
theorem Zen {n:List Sl->Tr PyData}:oO k n ρ x=(fM k ρ).bind (oN k n ρ x):=rfl
theorem Zem {n:List Sl->Tr PyData}:oN k n ρ x xs=(n ρ).bind (j5 k ρ x xs):=rfl
theorem jD {y:Int} {t:Nat} (h:bG xs.length y=some t):j5 k ρ x xs (.int y)=.ret (.next (ρ.set k (.own (xs.set t x)))):=by
 simp only [j5,h]
 rfl
end
end L2
set_option Elab.async false
set_option linter.all false
set_option maxRecDepth 100000
namespace L2
open PySem PySem.Spec PyProof.Rows
open AutoSeq1 (wpAny_loadPart')
noncomputable def jT (hi:Int) (n:Nat):It:=⟨λi _=>i < n,λi H x H'=>H'=H/\x=.int (hi - i),λi _=>n<=i⟩
theorem ZiF {P:Program} {w:World} {K:PySem.W.Frag} {tg:Expr} (it:Addr) (hi:Int) (n:Nat):Turn P w K tg (jT hi n) [it] it (λi h=>IsRangeIter h it (hi+(i:Nat) * (-1)) ((n:Int) - (i:Nat)) (-1)) where
 mem:=by simp
 obj:=λi h st b hb=>by
  have e:b=it:=by simpa using hb
  subst e
  exact ⟨_,st,λv z=>by
   have z':Data.fields _=Data.cell v:=z
   cases z'⟩
 keep:=λi h h' st k=>k it (by simp) _ st
 item:=by
  intro X hP hw hK hc i pins s σ H E I hf st hg
  subst hP hw hK
  obtain ⟨f0,f1,f2,f3,f4,f5⟩:=hf it (by simp)
  have W:=Walks.range (prog:=X.prog) (w:=X.w) (I.ok.hd hc) it hi (-1) n
  refine W.item i s _ _ hg st λv h' tk hv st' kk=>?_
  obtain ⟨t,rfl⟩:=hv
  have I1:Inv X pins σ H { s with heap:=h',toks:=tk }:=I.turned (λb o hb e=>kk b o (by simpa using hb) e) f0 f1 f3 f4 f5
  refine ⟨_,rfl,kW (s:={ s with heap:=h',toks:=tk }) (n:="range_iterator") st' rfl rfl (by decide) ⟨.int (hi - i),H,I1,⟨t,?_⟩,⟨rfl,rfl⟩,st',λb hb=>(hf b hb).1⟩⟩
  have e:hi+(i:Int) * -1=hi - i:=by omega
  rw [e]
 done:=by
  intro X hP hw hK hc i pins s σ H E I hf st hg
  subst hP hw hK
  obtain ⟨f0,f1,f2,f3,f4,f5⟩:=hf it (by simp)
  exact wpAny_pyNext_range_end (I.ok.hd hc) st (by have:n<=i:=hg; omega) λh' eb=>⟨rfl,I.turned (t':=s.toks) (λb o hb e=>eb b o hb e) f0 f1 f3 f4 f5⟩
 self:=λ_ _ _ _ _ st h=>wpAny_pyIter_rangeiter st h
theorem ZlA (r:Addr) (a b c:Int) (t u v:Tok) (hs:¬ (!(Builtin.Range.rangeFitsLong a && Builtin.Range.rangeFitsLong b && Builtin.Range.rangeFitsLong c && Builtin.Range.rangeFitsLong (-c) && Builtin.Range.rangeFitsLong (a - c) && Builtin.Range.rangeFitsLong (Builtin.Range.rangeSize a b c)))=true) :
  Meets (Builtin.«range.__reversed__» ⟨[.ref r],[]⟩) (λ_ R s=>s.heap.get? r=some { cls:=.type "range",dict:=none,data:=.fields #[.int a t,.int b u,.int c v],slots:=#[] } /\
   R (.ok (.ret (.ref s.heap.objs.size))) { s with heap:=s.heap.push { cls:=.type "range_iterator",data:=.fields #[rawInt (a+(Builtin.Range.rangeSize a b c - 1) * c),rawInt (Builtin.Range.rangeSize a b c),rawInt (-c)] },toks:=s.toks }) :=
 .of_wp λprog w A R s h=>by
  obtain ⟨hp,g,d,tk,os⟩:=s
  obtain ⟨hl,h⟩:=h
  have hs':=hs
  rw [Bool.not_eq_true',Bool.not_eq_false] at hs'
  wp_walk
  rw [if_pos hs']
  exact ⟨_,rfl,h⟩
theorem jB {n:Int} (h1:-(2 ^ 63)<=n) (h2:n < 2 ^ 63):Builtin.Range.rangeFitsLong n=true:=by
 unfold Builtin.Range.rangeFitsLong
 simp
 omega
section
variable {prog:Program} {w:World} {A:Around} {E:Value->Shared->Prop} {s:Shared}
theorem ZnD {r:Addr} {a b:Int} {t u v:Tok} {Q₁:Value->Shared->Prop} (hr:IsRange s.heap r a b 1 t u v) (ha:-(2 ^ 62)<=a) (ha':a < 2 ^ 62) (hb:-(2 ^ 62)<=b) (hb':b < 2 ^ 62)
  (h:Q₁ (.ref s.heap.objs.size) { s with heap:=s.heap.push { cls:=.type "range_iterator",data:=.fields #[rawInt (a+(Builtin.Range.rangeSize a b 1 - 1) * 1),rawInt (Builtin.Range.rangeSize a b 1),rawInt (-1)] } }) :
  codeAny (model prog w) A (.call (.builtin "reversed.__new__") ⟨[.type "reversed",.ref r],[]⟩) (wants Q₁ E) s:=by
 have hT:s.TypeIs (.ref r) "range":=⟨_,hr,rfl⟩
 refine codeAny_of_tree ?_
 show wpAny _ A.in1 (do checkBuiltinCall "reversed.__new__" ⟨[.type "reversed",.ref r],[]⟩; again (.builtin "reversed.__new__" ⟨[.type "reversed",.ref r],[]⟩)) _ _ s
 refine wpAny_bind (wpAny_of_eq (F.newCall_reversed_1 _) (wpAny_pure ⟨plainId_quiet F.plain_reversed_new _,codeAny_builtin F.entry_reversed_new ?_⟩))
 rw [Around.under_plainId F.plain_reversed_new _]
 unfold Builtin.«reversed.__new__»
 refine wpAny_bind (wpAny_of_eq (newClass_reversed _) ?_)
 try dsimp only
 refine wpAny_bind (wpAny_of_eq (a:=()) (by first | rfl | kernel_rfl) ?_)
 refine wpAny_bind (wpAny_of_eq (a:=()) (by first | rfl | kernel_rfl) ?_)
 try dsimp only
 refine wpAny_bind (wpAny_specialOf hT F.slot_range_reversed.lookup ?_)
 try dsimp only
 refine wpAny_bind (wpAny_of_eq (F.slot_range_reversed.bind _) ?_)
 try dsimp only
 first
 | rw [if_neg (show ¬ ((Value.builtin "range.__reversed__" == Value.none)=true) from Bool.false_ne_true)]
 | (show wpAny _ _ (if (Value.builtin "range.__reversed__" == Value.none)=true then _ else _) _ _ _; rw [if_neg (show ¬ ((Value.builtin "range.__reversed__" == Value.none)=true) from Bool.false_ne_true)])
 refine wpAny_bind (wpAny_rule ?_)
 have hsz:Builtin.Range.rangeSize a b 1=if a < b then b - a else 0:=rangeSize_one a b
 refine wpAny_bind (m:=runValue (.call (.builtin "range.__reversed__") ⟨[.ref r],[]⟩)) (show wpAny _ _ (call (.builtin "range.__reversed__") [.ref r]) _ _ _ from
  call_meets F.slot_range_reversed hT F.entry_range_reversed (F.args_range_reversed_1 _) (ZlA r a b 1 t u v ?_) ⟨hr,?_⟩)
 ·rw [Bool.not_eq_true',Bool.not_eq_false,jB (by omega) (by omega),jB (by omega) (by omega),jB (by decide) (by decide),jB (by decide) (by decide),jB (n:=a - 1) (by omega) (by omega),jB (n:=Builtin.Range.rangeSize a b 1) (by rw [hsz]; split <;> omega) (by rw [hsz]; split <;> omega)]
  rfl
 ·first
  | exact wpAny_pure h
  | exact wpAny_bind (wpAny_pure (wpAny_pure h))
theorem Zjf:isSubtype (.type "range_iterator") (.type "reversed")=pure false:=by rw [isSubtype_type]; kernel_rfl
theorem ZnM {r:Addr} {a b:Int} {t u v:Tok} {Q:Value->Shared->Prop} (hr:IsRange s.heap r a b 1 t u v) (ha:-(2 ^ 62)<=a) (ha':a < 2 ^ 62) (hb:-(2 ^ 62)<=b) (hb':b < 2 ^ 62)
  (h:Q (.ref s.heap.objs.size) { s with heap:=s.heap.push { cls:=.type "range_iterator",data:=.fields #[rawInt (a+(Builtin.Range.rangeSize a b 1 - 1) * 1),rawInt (Builtin.Range.rangeSize a b 1),rawInt (-1)] } }):wpAny (model prog w) A (call (.type "reversed") [.ref r]) Q E s:=by
 refine callType_other (U:="range_iterator") (Q₁:=λobj s₁=>obj=.ref s.heap.objs.size/\s₁={ s with heap:=s.heap.push { cls:=.type "range_iterator",data:=.fields #[rawInt (a+(Builtin.Range.rangeSize a b 1 - 1) * 1),rawInt (Builtin.Range.rangeSize a b 1),rawInt (-1)] } }) (by decide +kernel) F.create_reversed ⟨_,_,F.mro_reversed⟩ F.made_reversed Zjf (F.typeCall_reversed_1 _) (ZnD hr ha ha' hb hb' ⟨rfl,rfl⟩) ?_
 rintro obj s₁ ⟨rfl,rfl⟩
 exact ⟨⟨_,Heap.get?_push_size _ rfl,rfl⟩,h⟩
end
theorem Zcv:Manifest.owners.lookup (String.ofList ['d','e','s','r','e','v','e','r'].reverse)=some Manifest.sig_reversed:=by kernel_rfl
theorem Zjn:Slot "reversed" "__init__" "object.__init__" :=
 .of (owner:="object") (n:="__init__") (by rw [typeLookup_type,builtinLookup_eq_fast]; kernel_rfl) (by decide +kernel) (by decide +kernel) (by decide +kernel)
  (by first | exact .inl (by decide +kernel) | exact .inr (by decide +kernel)) (by rw [isSubtype_type]; kernel_rfl)
theorem j4:Slot "reversed" "__next__" "reversed.__next__" :=
 .of (owner:="reversed") (n:="__next__") (by rw [typeLookup_type,builtinLookup_eq_fast]; kernel_rfl) (by decide +kernel) (by decide +kernel) (by decide +kernel)
  (by first | exact .inl (by decide +kernel) | exact .inr (by decide +kernel)) (by rw [isSubtype_type]; kernel_rfl)
theorem ZgO:entryFor table "reversed.__next__"=some Builtin.«reversed.__next__»:=entryFor_of_tree (by kernel_rfl)
theorem ZhQ (a:Value):argsOk "reversed.__next__" ⟨[a],[]⟩:=by
 unfold argsOk; rw [signature?_of (id:="reversed.__next__") (n:=['_','_','t','x','e','n','_','_']) (o:=['d','e','s','r','e','v','e','r']) (by kernel_rfl) Zcv]; kernel_rfl
theorem ZaU:Slot "reversed" "__iter__" "reversed.__iter__" :=
 .of (owner:="reversed") (n:="__iter__") (by rw [typeLookup_type,builtinLookup_eq_fast]; kernel_rfl) (by decide +kernel) (by decide +kernel) (by decide +kernel)
  (by first | exact .inl (by decide +kernel) | exact .inr (by decide +kernel)) (by rw [isSubtype_type]; kernel_rfl)
theorem Zon (a:Value):argsOk "reversed.__iter__" ⟨[a],[]⟩:=by
 unfold argsOk; rw [signature?_of (id:="reversed.__iter__") (n:=['_','_','r','e','t','i','_','_']) (o:=['d','e','s','r','e','v','e','r']) (by kernel_rfl) Zcv]; kernel_rfl
theorem Zms:entryFor table "reversed.__iter__"=some Builtin.«dict_keyiterator.__iter__» :=
 entryFor_alias (id':="dict_keyiterator.__iter__") (by kernel_rfl) (by first | rfl | decide +kernel | (unfold String.splitOn; simp +decide [String.splitOnAux])) (by decide +kernel) (by kernel_rfl)
theorem ZnI:TypeCalled "reversed" "reversed.__new__" "object.__init__" :=
 ⟨by decide +kernel,by decide +kernel,⟨_,_,F.mro_reversed⟩,F.made_reversed,by decide +kernel,by rw [isSubtype_type]; kernel_rfl,Zjn⟩
theorem Zli:typeLookup (.type "tuple") "__reversed__"=pure none:=by rw [typeLookup_type,builtinLookup_eq_fast]; kernel_rfl
theorem Zlz (l:Addr) (items:Array Value) (hfit:(items.size:Int) < 2 ^ 63) :
  Meets (Builtin.«reversed.__new__» ⟨[.type "reversed",.ref l],[]⟩) (λ_ R s=>IsTup s.heap l items /\
   R (.ok (.ret (.ref s.heap.objs.size))) { s with heap:=s.heap.push { cls:=.type "reversed",data:=.fields #[.ref l,rawInt ((items.size:Int) - 1)] },toks:=s.toks+1+1 }) :=
 .of_wp λprog w A R s h=>by
  obtain ⟨hp,g,d,tk,os⟩:=s
  obtain ⟨hl,h⟩:=h
  have hl':(Shared.mk hp g d tk os).heap.IsTuple l items:=hl
  unfold Builtin.«reversed.__new__»
  refine wpAny_bind (wpAny_of_eq (newClass_reversed _) ?_)
  try dsimp only
  refine wpAny_bind (wpAny_of_eq (a:=()) (by first | rfl | kernel_rfl) ?_)
  refine wpAny_bind (wpAny_of_eq (a:=()) (by first | rfl | kernel_rfl) ?_)
  try dsimp only
  refine wpAny_bind (wpAny_specialOf hl'.typeIs Zli ?_)
  try dsimp only
  refine wpAny_bind ?_
  show wpAny _ _ (isInstance (Value.ref l) (.type "dict") >>= _) _ _ _
  refine wpAny_bind (wpAny_isInstance (T:="tuple") (b:=false) hl'.typeIs (by rw [isSubtype_type]; kernel_rfl) ?_)
  show wpAny _ _ (specialOf (Value.ref l) "__getitem__" >>= _) _ _ _
  refine wpAny_bind (wpAny_specialOf hl'.typeIs F.slot_tuple_getitem.lookup ?_)
  refine wpAny_pure ?_
  show wpAny _ _ (call (Value.builtin "len") [Value.ref l] >>= _) _ _ _
  refine wpAny_bind (len_tuple hl hfit ?_)
  refine wpAny_bind (wpAny_of_eq (a:=some (items.size:Int)) rfl ?_)
  show wpAny _ _ (newObj (.type "reversed") (.fields #[.ref l,rawInt ((items.size:Int) - 1)]) >>= _) _ _ _
  refine wpAny_bind (wpAny_newObj_type ?_)
  exact wpAny_pure ⟨_,rfl,h⟩
noncomputable def IsTRev (h:Heap) (a l:Addr) (i:Int):Prop:=∃ o,h.get? a=some o/\o.cls=.type "reversed"/\o.data=.fields #[.ref l,rawInt i]
theorem IsTRev.at {h h':Heap} {a l:Addr} {i:Int} (x:IsTRev h a l i) (e:∀ o,h.get? a=some o->h'.get? a=some o):IsTRev h' a l i:=let ⟨o,ho,r⟩:=x; ⟨o,e _ ho,r⟩
section
variable {prog:Program} {w:World} {A:Around} {E:Value->Shared->Prop} {s:Shared}
theorem ZnL {l:Addr} {items:Array Value} {Q:Value->Shared->Prop} (hl:IsTup s.heap l items) (hfit:(items.size:Int) < 2 ^ 63)
  (h:Q (.ref s.heap.objs.size) { s with heap:=s.heap.push { cls:=.type "reversed",data:=.fields #[.ref l,rawInt ((items.size:Int) - 1)] },toks:=s.toks+1+1 }) :
  wpAny (model prog w) A (call (.type "reversed") [.ref l]) Q E s :=
 callType_new ZnI (by decide) (F.typeCall_reversed_1 _) (F.newCall_reversed_1 _) (λobj=>F.args_object_init_2 obj _) F.entry_reversed_new (Zlz l items hfit) ⟨hl,⟨_,Heap.get?_push_size _ rfl,rfl⟩,h⟩
theorem Zkf {it l:Addr} {i:Nat} {items:Array Value} {x:Value} {Q:Option Value->Shared->Prop} (hit:IsTRev s.heap it l (i:Int)) (hl:IsTup s.heap l items) (hne:l≠it) (hx:items[i]?=some x) (hfit:(items.size:Int) < 2 ^ 63)
  (hQ:∀ h',IsTRev h' it l ((i:Int) - 1)->Heap.SameBut it s.heap h'->Q (some x) { s with heap:=h',toks:=s.toks+1 }):wpAny (model prog w) A (pyNext (.ref it)) Q E s:=by
 obtain ⟨o,ho,hc,hd⟩:=id hit
 have hT:s.TypeIs (.ref it) "reversed":=⟨o,ho,hc⟩
 have hl':s.heap.IsTuple l items:=hl
 have hlt:i < items.size:=(Array.getElem?_eq_some_iff.mp hx).1
 unfold pyNext
 refine wpAny_bind (wpAny_attempt (wpAny_callSpecial?_slot (name:=Str.ofString "__next__") hT j4
  (wpAny_call_entry j4 hT ZgO ?_ (ZhQ _))))
 unfold Builtin.«reversed.__next__»
 refine wpAny_bind (wpAny_of_eq (a:=(Value.ref it,[])) rfl ?_)
 try dsimp only
 refine wpAny_bind (wpAny_field ho hd (x:=.ref l) rfl ?_)
 refine wpAny_bind (wpAny_field ho hd (x:=rawInt (i:Int)) rfl ?_)
 show wpAny _ _ (if (i:Int) < 0 then _ else _) _ _ s
 rw [if_neg (by omega)]
 refine wpAny_bind (wpAny_specialOf hl'.typeIs F.slot_tuple_getitem.lookup ?_)
 show wpAny _ _ (mkInt (i:Int) >>= _) _ _ s
 refine wpAny_bind (wpAny_mkInt ?_)
 refine wpAny_bind (wpAny_attempt (getItem_tuple (j:=i) (x:=x) hl (by omega) (by omega) ?_ hx ?_))
 ·unfold seqIndex?
  simp
  omega
 ·dsimp only
  refine wpAny_bind (wpAny_field ho hd (x:=rawInt (i:Int)) rfl ?_)
  show wpAny _ _ (setField (.ref it) 1 (rawInt ((i:Int) - 1)) >>= _) _ _ _
  refine wpAny_bind (wpAny_setField ho hd (by simp) ?_)
  refine wpAny_pure ⟨x,rfl,wpAny_pure (hQ _ ?_ (Heap.SameBut.update ..))⟩
  exact ⟨_,Heap.get?_update_self _ ho (Obj.isFreed_of_fields (Obj.data_mapFields hd _)),(Obj.cls_mapFields ..).trans hc,by
   rw [Obj.data_mapFields hd]; simp⟩
theorem Zkg {it l:Addr} {Q:Option Value->Shared->Prop} (hh:A.handled=none) (hit:IsTRev s.heap it l (-1))
  (hQ:∀ h',Heap.ExtBut it s.heap h'->Q none { s with heap:=h' }):wpAny (model prog w) A (pyNext (.ref it)) Q E s:=by
 obtain ⟨o,ho,hc,hd⟩:=id hit
 have hT:s.TypeIs (.ref it) "reversed":=⟨o,ho,hc⟩
 unfold pyNext
 refine wpAny_bind (wpAny_attempt (wpAny_callSpecial?_slot (name:=Str.ofString "__next__") hT j4
  (wpAny_call_entry j4 hT ZgO ?_ (ZhQ _))))
 unfold Builtin.«reversed.__next__»
 refine wpAny_bind (wpAny_of_eq (a:=(Value.ref it,[])) rfl ?_)
 try dsimp only
 refine wpAny_bind (wpAny_field ho hd (x:=.ref l) rfl ?_)
 refine wpAny_bind (wpAny_field ho hd (x:=rawInt (-1)) rfl ?_)
 show wpAny _ _ (if (-1:Int) < 0 then _ else _) _ _ s
 rw [if_pos (by decide)]
 refine wpAny_bind (wpAny_rule ?_)
 refine wpAny_bind ?_
 show wpAny _ _ (setField (.ref it) 1 (rawInt (-1)) >>= _) _ _ _
 refine wpAny_bind (wpAny_setField ho hd (by simp) ?_)
 have ho2:=Heap.get?_update_self (Obj.mapFields λx_1=>x_1.setIfInBounds 1 (rawInt (-1))) ho (Obj.isFreed_of_fields (Obj.data_mapFields hd _))
 refine wpAny_setField ho2 (Obj.data_mapFields hd _) (by simp) ?_
 have eb:Heap.ExtBut it s.heap ((s.heap.update it (Obj.mapFields λx_1=>x_1.setIfInBounds 1 (rawInt (-1)))).update it (Obj.mapFields λx_1=>x_1.setIfInBounds 0 Value.none)):=λb o' hb e=>(Heap.SameBut.update _ _ _).extBut b o' hb ((Heap.SameBut.update _ _ _).extBut b o' hb e)
 show wpAny _ _ (newExc (.type "StopIteration") [] >>= _ >>= _) _ _ _
 refine wpAny_bind ?_
 refine wpAny_bind ?_
 simp only [newExc,newTuple]
 refine wpAny_bind (wpAny_newObj_type ?_ (by size_fits))
 refine wpAny_bind (m:=firstArgMember _ _) (wpAny_of_eq (a:=Value.none) (by first | rfl | (simp only [firstArgMember]; rfl)) ?_)
 refine wpAny_newObj_type ?_ (by size_fits)
 simp only [raiseNew]
 refine wpAny_bind (wpAny_handled ?_)
 first | rw [show A.in1.handled=none from hh] | rw [hh]
 refine wpAny_bind (wpAny_pure (wpAny_throw ?_))
 refine wpAny_bind (wpAny_isInstance (T:="StopIteration") (b:=true) ⟨_,Heap.get?_push_size _ rfl,rfl⟩ isSubtype_stop ?_)
 exact wpAny_pure (hQ _ ((eb.push _).push _))
theorem Zcg {it l:Addr} {i:Int} {Q:Value->Shared->Prop} (hit:IsTRev s.heap it l i) (h:Q (.ref it) s):wpAny (model prog w) A (pyIter (.ref it)) Q E s:=by
 obtain ⟨o,ho,hc,hd⟩:=id hit
 have hT:s.TypeIs (.ref it) "reversed":=⟨o,ho,hc⟩
 refine wpAny_pyIter_slot hT ZaU (wpAny_call_entry ZaU hT Zms ?_ (Zon _))
 show wpAny _ _ (ret (.ref it)) _ _ s
 exact wpAny_pure ⟨_,rfl,"reversed",_,hT,j4.lookup,h⟩
end
noncomputable def lC (b:Bool) (l:Addr) (n:Nat):It :=
 ⟨λi H=>i < n/\∃ xs,H l=some (bc b xs)/\xs.length=n,λi H x H'=>H'=H/\∃ xs,H l=some (bc b xs)/\xs[n - 1 - i]?=some x,λi _=>i=n⟩
noncomputable def RvAt (b:Bool) (h:Heap) (it l:Addr) (i:Int):Prop:=match b with
 | true=>h.IsRevIter it l i
 | false=>IsTRev h it l i
theorem RvAt.there {b:Bool} {h:Heap} {it l:Addr} {i:Int} (x:RvAt b h it l i):∃ o n vs,h.get? it=some o/\o.cls=.type n/\o.data=.fields vs/\["enumerate","zip","dict_itemiterator","dict_reverseitemiterator","odict_iterator","itertools.zip_longest","itertools.pairwise"].contains n=false:=by
 cases b with
 | true=>obtain ⟨o,h1,h2,h3⟩:=x; exact ⟨o,_,_,h1,h2,h3,by decide⟩
 | false=>obtain ⟨o,h1,h2,h3⟩:=x; exact ⟨o,_,_,h1,h2,h3,by decide⟩
theorem RvAt.at {b:Bool} {h h':Heap} {it l:Addr} {i:Int} (x:RvAt b h it l i) (e:∀ o,h.get? it=some o->h'.get? it=some o):RvAt b h' it l i:=by
 cases b with
 | true=>exact Heap.IsRevIter.at x e
 | false=>exact IsTRev.at x e
theorem Zar {P:Program} {w:World} {K:PySem.W.Frag} {tg:Expr} {b:Bool} {l:Addr} {n:Nat} (it:Addr) (hn:(n:Int) < 2 ^ 63):Turn P w K tg (lC b l n) [it] it (λi h=>RvAt b h it l ((n:Int) - 1 - (i:Nat))) where
 mem:=by simp
 obj:=λi h st c hb=>by
  have e:c=it:=by simpa using hb
  subst e
  obtain ⟨o,_,_,h1,_,h3,_⟩:=st.there
  exact ⟨o,h1,λv z=>by rw [h3] at z; cases z⟩
 keep:=λi h h' st k=>st.at λo e=>k it (by simp) o e
 item:=by
  intro X hP hw hK hc i pins s σ H E I hf st hg
  subst hP hw hK
  obtain ⟨hi,xs,e1,hlen⟩:=hg
  obtain ⟨us,r1,q1⟩:=cV I.hok e1
  obtain ⟨f0,f1,f2,f3,f4,f5⟩:=hf it (by simp)
  have hxl:n - 1 - i < xs.length:=by omega
  have hx:xs[n - 1 - i]?=some xs[n - 1 - i]:=List.getElem?_eq_getElem hxl
  obtain ⟨u,hu,ru⟩:=r1.get hx
  have ne:l≠it:=cm e1 f0
  have ei:(n:Int) - 1 - (i:Nat)=((n - 1 - i:Nat):Int):=by omega
  have ei2:((n - 1 - i:Nat):Int) - 1=(n:Int) - 1 - ((i+1:Nat):Int):=by omega
  rw [ei] at st
  have usz:us.toArray.size=n:=by rw [List.size_toArray,<- r1.length]; exact hlen
  have fin:∀ (h':Heap) (tk:Nat),RvAt b h' it l ((n:Int) - 1 - ((i+1:Nat):Int))->Heap.SameBut it s.heap h'->∃ u',some u=some u'/\wpAny (model X.prog X.w) X.A (letOwnedTupleGo tg (.ref it) u') (λ_ s2=>∃ x H',Inv X pins σ H' s2/\RelV x u'/\(lC b l n).yld i H x H'/\RvAt b s2.heap it l ((n:Int) - 1 - ((i+1:Nat):Int))/\∀ b∈[it],H' b=none) E { s with heap:=h',toks:=tk }:=λh' tk st' sb=>by
   have I1:Inv X pins σ H { s with heap:=h',toks:=tk }:=I.turned (λb o hb e=>(sb.2 b hb).trans e) f0 f1 f3 f4 f5
   obtain ⟨o,nm,vs,g1,g2,g3,g4⟩:=st'.there
   exact ⟨u,rfl,kW (s:={ s with heap:=h',toks:=tk }) g1 g2 g3 g4 ⟨_,H,I1,ru,⟨rfl,xs,e1,hx⟩,st',λb hb=>(hf b hb).1⟩⟩
  cases b with
  | true =>
   refine wpAny_pyNext_rev_item (i:=n - 1 - i) st q1 (x:=u) (by simpa using hu) λh' st' sb=>?_
   rw [ei2] at st'
   exact fin h' s.toks st' sb
  | false =>
   refine Zkf (i:=n - 1 - i) st q1 ne (x:=u) (by simpa using hu) (by rw [usz]; exact hn) λh' st' sb=>?_
   rw [ei2] at st'
   exact fin h' (s.toks+1) st' sb
 done:=by
  intro X hP hw hK hc i pins s σ H E I hf st hg
  subst hP hw hK
  obtain ⟨f0,f1,f2,f3,f4,f5⟩:=hf it (by simp)
  have hi:i=n:=hg
  subst hi
  have e:(i:Int) - 1 - (i:Nat)=-1:=by omega
  rw [e] at st
  cases b with
  | true=>exact wpAny_pyNext_rev_end (I.ok.hd hc) st λh' eb=>⟨rfl,I.turned (t':=s.toks) (λb o hb e=>eb b o hb e) f0 f1 f3 f4 f5⟩
  | false=>exact Zkg (I.ok.hd hc) st λh' eb=>⟨rfl,I.turned (t':=s.toks) (λb o hb e=>eb b o hb e) f0 f1 f3 f4 f5⟩
 self:=λ_ _ _ _ _ st h=>by
  cases b with
  | true=>exact wpAny_pyIter_revIter st h
  | false=>exact Zcg st h
section
variable {X:Cx} {tg:Expr} {PK:Pk} {a b:Expr} {i j:List Sl->Tr PyData} {p pos:Pos}
noncomputable def ZdA (ta:TE):TI:=λσ H R=>ta σ H λx H1=>(∃ b l xs,x=.ref l/\H1 l=some (bc b xs)/\R (lC b l xs.length) H1) \/
 (∃ l lo hi,x=.ref l/\H1 l=some (.rng lo hi)/\-(2 ^ 62)<=lo/\lo < 2 ^ 62/\-(2 ^ 62)<=hi/\hi < 2 ^ 62/\R (jT (lo+(hi - lo).toNat - 1) (hi - lo).toNat) H1)
theorem Zkz {ta:TE} (hg:Gl X "reversed") (hm:X.mg "reversed"=none) (ha:PE X a ta)
  (hs:starEach [a] X.env=[(false,eval a X.env)]:=by rfl):PI X tg (.Call (.Name "reversed" p) [a] [] pos) (ZdA ta):=by
 intro pins s σ H R I h
 have hab:PA X [a] (fo ta aZ):=bU ha ci (by rw [hs]; rfl)
 have h':fo ta aZ σ H λvs H1=>∃ x,vs=[x]/\((∃ b l xs,x=.ref l/\H1 l=some (bc b xs)/\R (lC b l xs.length) H1) \/
   (∃ l lo hi,x=.ref l/\H1 l=some (.rng lo hi)/\-(2 ^ 62)<=lo/\lo < 2 ^ 62/\-(2 ^ 62)<=hi/\hi < 2 ^ 62/\R (jT (lo+(hi - lo).toNat - 1) (hi - lo).toNat) H1)):=by
  have h0:ta σ H λx H1=>(∃ b l xs,x=.ref l/\H1 l=some (bc b xs)/\R (lC b l xs.length) H1) \/
   (∃ l lo hi,x=.ref l/\H1 l=some (.rng lo hi)/\-(2 ^ 62)<=lo/\lo < 2 ^ 62/\-(2 ^ 62)<=hi/\hi < 2 ^ 62/\R (jT (lo+(hi - lo).toNat - 1) (hi - lo).toNat) H1):=h
  refine cast (congrArg (ta σ H) ?_) h0
  funext x H1
  apply propext
  constructor
  ·exact λq=>⟨x,rfl,q⟩
  ·rintro ⟨y,e,q⟩
   have e':x=y:=by simpa using e
   subst e'
   exact q
 refine Call_ (iE I hg hm boot_reversed (PyProof.Rows.callWith_type1 (thn (hab pos pins s σ H _ I h') λus s1 hz0=>?_) (by rw [hs]; rfl) rfl))
 obtain ⟨vs,H1,I1,r1,q1⟩:=hz0
 obtain ⟨x,rfl,q1⟩:=q1
 obtain ⟨u,rfl,ru⟩:=eA r1
 have fp:∀ c∈[s1.heap.objs.size],fj X pins H1 c:=λc hb=>by
  have e:c=s1.heap.objs.size:=by simpa using hb
  subst e
  exact I1.fpOk (Nat.le_refl _) (I1.hok.fresh (Nat.le_refl _))
 have hn:=gO
 rcases q1 with ⟨b,l,xs,rfl,e1,q⟩ | ⟨l,lo,hi,rfl,e1,b1,b2,b3,b4,q⟩
 ·cases ru
  obtain ⟨us,r2,q2⟩:=cV I1.hok e1
  have usz:us.toArray.size=xs.length:=by rw [List.size_toArray,<- r2.length]
  have hz:xs.length<=sizeLine:=by
   cases b with
   | true=>exact (I1.hok _ _ e1).1
   | false=>exact (I1.hok _ _ e1).1
  cases b with
  | true =>
   refine call_reversed_list q2 (wpAny_pyIter_revIter ⟨_,Heap.get?_push_size _ rfl,rfl,rfl⟩ ?_)
   refine ⟨_,_,_,_,H1,rfl,I1.kept (t':=s1.toks) λb o e=>Heap.get?_push_of_some _ e,Zar (b:=true) (l:=l) (n:=xs.length) s1.heap.objs.size (by omega),?_,fp,q⟩
   refine ⟨_,Heap.get?_push_size _ rfl,rfl,?_⟩
   rw [usz]
   show Data.fields #[_,rawInt ((xs.length:Int) - 1)]=Data.fields #[_,rawInt ((xs.length:Int) - 1 - ((0:Nat):Int))]
   simp
  | false =>
   refine ZnL q2 (by rw [usz]; omega) (Zcg ⟨_,Heap.get?_push_size _ rfl,rfl,rfl⟩ ?_)
   refine ⟨_,_,_,_,H1,rfl,I1.kept (t':=s1.toks+1+1) λb o e=>Heap.get?_push_of_some _ e,Zar (b:=false) (l:=l) (n:=xs.length) s1.heap.objs.size (by omega),?_,fp,q⟩
   refine ⟨_,Heap.get?_push_size _ rfl,rfl,?_⟩
   rw [usz]
   show Data.fields #[_,rawInt ((xs.length:Int) - 1)]=Data.fields #[_,rawInt ((xs.length:Int) - 1 - ((0:Nat):Int))]
   simp
 ·cases ru
  obtain ⟨t,u,v,e⟩:=I1.hok _ _ e1
  have hsz:Builtin.Range.rangeSize lo hi 1=((hi - lo).toNat:Int):=by rw [rangeSize_one]; split <;> omega
  refine ZnM e b1 b2 b3 b4 (wpAny_pyIter_rangeiter (Heap.get?_push_size _ rfl) ?_)
  refine ⟨_,_,_,_,H1,rfl,I1.kept (t':=s1.toks) λb o e=>Heap.get?_push_of_some _ e,ZiF s1.heap.objs.size (lo+(hi - lo).toNat - 1) (hi - lo).toNat,?_,fp,q⟩
  rw [hsz]
  have e1:lo+(((hi - lo).toNat:Int) - 1) * 1=lo+(hi - lo).toNat - 1+((0:Nat):Int) * (-1):=by simp; omega
  have e2:((hi - lo).toNat:Int)=((hi - lo).toNat:Int) - ((0:Nat):Int):=by simp
  rw [e1]
  show IsRangeIter _ _ _ (((hi - lo).toNat:Int) - ((0:Nat):Int)) (-1)
  rw [<- e2]
  exact Heap.get?_push_size _ rfl
end
end L2
set_option Elab.async false
set_option linter.all false
set_option maxRecDepth 100000
namespace L2
open PySem PySem.Spec PyProof.Rows
section
variable {X:Cx} {tg:Expr} {PK:Pk} {e:Expr} {i j:List Sl->Tr PyData} {is:List Sl->Tr (List PyData)} {p pos:Pos}
theorem Zl3 {pa:Addr} {G:Hp} {lo:Int} {n:Nat}:iT PK pa (jT (lo+n - 1) n) G ((au lo n).map PyData.int).reverse:=λm G2 H2 sb w=>by
 have hl:((au lo n).map PyData.int).length=n:=by rw [List.length_map,gw]
 refine ⟨λk x hx=>?_,by show n<=_; rw [List.length_reverse,hl]; exact Nat.le_refl _⟩
 have hk:k < n:=by
  have:=(List.getElem?_eq_some_iff.mp hx).1
  rwa [List.length_reverse,hl] at this
 refine ⟨hk,λy H3 hz0=>?_⟩
 obtain ⟨e1,e2⟩:=hz0
 subst e1 e2
 have:x=.int (lo+n - 1 - k):=by
  rw [List.getElem?_reverse (by rw [hl]; exact hk),hl] at hx
  unfold au at hx
  rw [List.map_map,List.getElem?_map,List.getElem?_range (by omega)] at hx
  cases hx
  show PyData.int (lo+((n - 1 - k:Nat):Int))=_
  congr 1
  omega
 subst this
 exact ⟨G2,.refl,w,.int _⟩
noncomputable def rG (is:List Sl->Tr (List PyData)):List Sl->Tr (List PyData):=λρ=>(is ρ).bind λxs=>(Tr.of (jb xs)).bind λys=>.ret ys.reverse
noncomputable def ZiV (t:TA):TE:=fq (λxs H Q=>∃ i j:Int,xs=[.int i,.int j]/\∀ p,H p=none->Q (.ref p) (upd H p (.rng i j))) t
theorem Zov {iter:Expr} (h:PI X tg iter (ZdA (ZiV (TAd PK is)))):PI X tg iter (dZ PK (rG is)):=h.imp λσ H R0 hz0=>by
 obtain ⟨pa,G₀,H₀,m,ρ,G,R,z⟩:=hz0
 refine TAd.then R z λm1 xs vs G1 H1 s1 w1 R1 d1 q1=>?_
 rw [Tr.ok_bind] at q1
 obtain ⟨ys,hy,q1⟩:=Tr.ok_of q1
 obtain ⟨k,n,e,⟨h1,h2,h3,h4⟩,rfl⟩:=ZbJ d1 hy
 refine ⟨k,n,e,λp hp=>?_⟩
 obtain ⟨w2,s2⟩:=w1.own (o:=.rng k n) hp
 refine .inr ⟨p,k,n,rfl,bZ,h1,h2,h3,h4,?_⟩
 exact q1 (jT (k+(n - k).toNat - 1) (n - k).toNat) G1 _ (s1.trans s2 w1.some) w2 Zl3
end
section
variable {X:Cx} {PK:Pk} {i n:List Sl->Tr PyData}
end
section
variable {prog:Program} {w:World} {A:Around} {E:Value->Shared->Prop} {s:Shared}
end
section
variable {X:Cx} {PK:Pk} {e st:Expr} {te ts:TE} {i j:List Sl->Tr PyData} {p2 pos:Pos}
end
end L2
set_option Elab.async false
set_option linter.all false
set_option maxRecDepth 100000
namespace L2
open PySem PySem.Spec PyProof.Rows
noncomputable abbrev hI (h0 h:Heap):Prop:=∀ c o,h0.get? c=some o->h.get? c=some o
noncomputable def Zio (prog:Program) (w:World) (A:Around) (h0:Heap) (P:Nat->Value->Prop) (bt:Nat->Nat->Bool):Prop :=
 ∀ i j vi vj (s:Shared) (Q:Value->Shared->Prop) (E:Value->Shared->Prop),j < i->hI h0 s.heap->P i vi->P j vj->Q (.bool (bt i j)) s->wpAny (model prog w) A (richCompare .Lt vi vj) Q E s
theorem ZhR (bt:Nat->Nat->Bool):∀ j,argBest bt j<=j
 | 0=>Nat.le_refl _
 | j+1=>by
  have:=ZhR bt j
  unfold argBest
  split <;> omega
section
variable {prog:Program} {w:World} {A:Around} {R:Result->Shared->Prop} {I S:Addr} {fp wr:List Addr} {n:Nat} {P:Nat->Value->Prop} {St:Nat->Heap->Prop} {h0:Heap}
theorem mo:(toString "min"++toString ".loop":String)="min.loop":=by decide
theorem Zlw (W:Walks prog w A.in1 I fp wr n P St) (bt:Nat->Nat->Bool) (hcmp:Zio prog w A.in1 h0 P bt) (hSf:S ∉ fp) (h0w:∀ c o,h0.get? c=some o->c ∉ wr/\c≠S) :
  ∀ (k j:Nat) (s:Shared) (vb:Value) (c:Nat),n - (j+1)=k->j+1<=n->hI h0 s.heap->St (j+1) s.heap->P (argBest bt j) vb ->
  s.heap.get? S=some { cls:=.type "list",data:=.seq #[vb,vb] c } ->
  (∀ v h' tk,P (argBest bt (n - 1)) v->(∀ b o,b ∉ wr->b≠S->s.heap.get? b=some o->h'.get? b=some o)->R (.ok (.ret v)) { s with heap:=h',toks:=tk }) ->
  codeAny (model prog w) A (.builtin "min.loop" ⟨[.ref I,.none,.ref S],[]⟩) R s:=by
 have hSw:S ∉ wr:=λh=>hSf (W.sub _ h)
 intro k
 induction k with
 | zero =>
  intro j s vb c hk hj kp hst hPb hS hR
  have hin:j+1=n:=by omega
  refine codeAny_builtin F.entry_min_loop (by
   rw [Around.under_plainId F.plain_min_loop _]
   show wpAny _ A.in1 (seqItems? (.ref S) >>= _) _ _ s
   refine wpAny_bind (wpAny_seqItems hS rfl ?_)
   show wpAny _ A.in1 (tryCatch (pyNext (.ref I)) _ >>= _) _ _ s
   refine wpAny_bind (wpAny_tryCatch (W.done s _ _ (hin ▸ hst) λh' tk hk'=>?_))
   have hS':=hk' S _ hSw hS
   show wpAny _ A.in1 (updateSeq S (λ_=>#[]) >>= _) _ _ _
   refine wpAny_bind (wpAny_updateSeq hS' rfl (wpAny_bind (wpAny_letGo (wpAny_pure ?_))))
   exact hR vb _ tk (by rw [<- hin]; exact hPb) λb o hbw hbS e=>(Heap.get?_update_other _ _ (Ne.symm hbS)).trans (hk' b o hbw e))
 | succ k ih =>
  intro j s vb c hk hj kp hst hPb hS hR
  have hlt:j+1 < n:=by omega
  refine codeAny_builtin F.entry_min_loop (by
   rw [Around.under_plainId F.plain_min_loop _]
   show wpAny _ A.in1 (seqItems? (.ref S) >>= _) _ _ s
   refine wpAny_bind (wpAny_seqItems hS rfl ?_)
   show wpAny _ A.in1 (tryCatch (pyNext (.ref I)) _ >>= _) _ _ s
   refine wpAny_bind (wpAny_tryCatch (W.item (j+1) s _ _ hlt hst λv h' tk hP hst' hk'=>?_))
   have hS':=hk' S _ hSw hS
   have kp':hI h0 h':=λc o e=>hk' c o (h0w c o e).1 (kp c o e)
   show wpAny _ A.in1 (tryCatch (holding [v,v] (richCompare .Lt v vb >>= _)) _ >>= _) _ _ _
   refine wpAny_bind (wpAny_tryCatch (wpAny_holding (wpAny_bind (hcmp (j+1) (argBest bt j) v vb _ _ _ (Nat.lt_succ_of_le (ZhR bt j)) kp' hP hPb (wpAny_bind (wpAny_holding (wpAny_truthy_bool (wpAny_bind (wpAny_letGo (wpAny_pure ?_))))))))))
   cases hb:bt (j+1) (argBest bt j) with
   | true =>
    simp only [if_true]
    refine wpAny_bind (wpAny_updateSeq hS' rfl (wpAny_bind (wpAny_letGo ?_)))
    rw [mo]
    refine wpAny_pure ⟨plainId_quiet F.plain_min_loop _,ih (j+1) _ v _ (by omega) hlt (λc o e=>(Heap.get?_update_other _ _ (Ne.symm (h0w c o e).2)).trans (kp' c o e)) (W.frame _ _ _ hst' λb hbf o e=>?_) (by simp only [argBest,hb,if_true]; exact hP) (Heap.get?_update_self _ hS' rfl)
     λv' h'' tk'' hP' hk''=>hR v' h'' tk'' hP' λb o hbw hbS e=>hk'' b o hbw hbS ((Heap.get?_update_other _ _ (Ne.symm hbS)).trans (hk' b o hbw e))⟩
    exact (Heap.get?_update_other _ _ (λh:S=b=>hSf (by rw [h]; exact hbf))).trans e
   | false =>
    simp only [Bool.false_eq_true,if_false]
    refine wpAny_bind (wpAny_letGo ?_)
    rw [mo]
    exact wpAny_pure ⟨plainId_quiet F.plain_min_loop _,ih (j+1) _ vb c (by omega) hlt kp' hst' (by simp only [argBest,hb,Bool.false_eq_true,if_false]; exact hPb) hS' λv' h'' tk'' hP' hk'' =>
     hR v' h'' tk'' hP' λb o hbw hbS e=>hk'' b o hbw hbS (hk' b o hbw e)⟩)
theorem Zlx (W:Walks prog w A.in1 I fp wr n P St) (bt:Nat->Nat->Bool) (hcmp:Zio prog w A.in1 h0 P bt) (hSf:S ∉ fp) (h0w:∀ c o,h0.get? c=some o->c ∉ wr/\c≠S) (hn:0 < n) {s:Shared} {c:Nat} (kp:hI h0 s.heap) (hst:St 0 s.heap)
  (hS:s.heap.get? S=some { cls:=.type "list",data:=.seq #[] c })
  (hR:∀ v h' tk,P (argBest bt (n - 1)) v->(∀ b o,b ∉ wr->b≠S->s.heap.get? b=some o->h'.get? b=some o)->R (.ok (.ret v)) { s with heap:=h',toks:=tk }) :
  codeAny (model prog w) A (.builtin "min.loop" ⟨[.ref I,.none,.ref S],[]⟩) R s:=by
 have hSw:S ∉ wr:=λh=>hSf (W.sub _ h)
 refine codeAny_builtin F.entry_min_loop (by
  rw [Around.under_plainId F.plain_min_loop _]
  show wpAny _ A.in1 (seqItems? (.ref S) >>= _) _ _ s
  refine wpAny_bind (wpAny_seqItems hS rfl ?_)
  show wpAny _ A.in1 (tryCatch (pyNext (.ref I)) _ >>= _) _ _ s
  refine wpAny_bind (wpAny_tryCatch (W.item 0 s _ _ hn hst λv h' tk hP hst' hk'=>?_))
  have hS':=hk' S _ hSw hS
  have kp':hI h0 h':=λc o e=>hk' c o (h0w c o e).1 (kp c o e)
  show wpAny _ A.in1 (updateSeq S (λ_=>#[v,v]) >>= _) _ _ _
  refine wpAny_bind (wpAny_updateSeq hS' rfl ?_)
  rw [mo]
  refine wpAny_pure ⟨plainId_quiet F.plain_min_loop _,Zlw W bt hcmp hSf h0w _ 0 _ v _ rfl hn (λc o e=>(Heap.get?_update_other _ _ (Ne.symm (h0w c o e).2)).trans (kp' c o e)) (W.frame _ _ _ hst' λb hbf o e=>?_) hP (Heap.get?_update_self _ hS' rfl)
   λv' h'' tk'' hP' hk''=>hR v' h'' tk'' hP' λb o hbw hbS e=>hk'' b o hbw hbS ((Heap.get?_update_other _ _ (Ne.symm hbS)).trans (hk' b o hbw e))⟩
  exact (Heap.get?_update_other _ _ (λh:S=b=>hSf (by rw [h]; exact hbf))).trans e)
end
section
variable {prog:Program} {w:World} {A:Around} {E:Value->Shared->Prop} {s:Shared}
theorem Zlv {a b:Value} {Q:Value->Shared->Prop} {c:Bool} (hh:A.handled=none) (hcmp:∀ (s':Shared) (Q:Value->Shared->Prop) (E:Value->Shared->Prop),hI s.heap s'.heap->Q (.bool c) s'->wpAny (model prog w) A.in1 (richCompare .Lt b a) Q E s')
  (h:∀ h' tk,hI s.heap h'->Q (if c=true then b else a) { s with heap:=h',toks:=tk }):wpAny (model prog w) A (call (.builtin "min") [a,b]) Q E s:=by
 refine call_function_tree F.kind_min F.plain_min F.entry_min (F.args_min2 _ _) (by
  show wpAny _ A.in1 (Builtin.Builtins.bindParams "min" ["key","default"] 0 ⟨[],[]⟩ >>= _) _ _ s
  refine wpAny_bind (wpAny_of_eq (a:=[none,none]) rfl ?_)
  show wpAny _ A.in1 (newTuple [a,b] >>= _) _ _ s
  refine wpAny_bind (wpAny_newObj_type ?_)
  have hT:(s.heap.push { cls:=.type "tuple",data:=.seq #[a,b] }).IsTuple s.heap.objs.size #[a,b]:=⟨_,Heap.get?_push_size _ rfl,rfl,0,rfl⟩
  have hsz:(s.heap.push { cls:=.type "tuple",data:=.seq #[a,b] }).objs.size=s.heap.objs.size+1:=Heap.size_push ..
  have hgk:hI s.heap (s.heap.push { cls:=.type "tuple",data:=.seq #[a,b] }):=λc o e=>Heap.get?_push_of_some _ e
  generalize (s.heap.push { cls:=.type "tuple",data:=.seq #[a,b] })=g at hT hsz hgk ⊢
  refine wpAny_bind (wpAny_pyIter_tuple hT (wpAny_bind (wpAny_newObj_type ?_)))
  rw [mo]
  have hlt:∀ {c:Nat} {o:Obj},s.heap.get? c=some o->c < s.heap.objs.size:=λe=>Heap.lt_size e
  have hsz2:∀ ob:Obj,(g.push ob).objs.size=s.heap.objs.size+2:=λob=>by rw [Heap.size_push,hsz]
  have W:=Walks.tuple (prog:=prog) (w:=w) (A:=A.in1) hh g.objs.size s.heap.objs.size (by rw [hsz]; exact Nat.ne_of_lt (Nat.lt_succ_self _)) #[a,b]
  refine wpAny_pure ⟨plainId_quiet F.plain_min_loop _,Zlx (A:=A) (h0:=s.heap) W (λi j=>if i=1/\j=0 then c else false) ?_ ?_ ?_ (show 0 < 2 by decide) ?_ ⟨?_,?_⟩ (Heap.get?_push_size _ rfl) ?_⟩
  ·intro i j vi vj s' Q' E' hji kp hi hj hq
   have hi2:i < 2:=by
    have:=(Array.getElem?_eq_some_iff.mp hi).1
    simpa using this
   have e1:i=1:=by omega
   have e2:j=0:=by omega
   subst e1 e2
   have e3:b=vi:=by simpa using hi
   have e4:a=vj:=by simpa using hj
   subst e3 e4
   exact hcmp s' Q' E' kp (by simpa using hq)
  ·intro hm
   have hm':(g.push { cls:=.type "tuple_iterator",data:=.fields #[.ref s.heap.objs.size,.int 0 0] }).objs.size∈[g.objs.size,s.heap.objs.size]:=hm
   rw [hsz2,hsz] at hm'
   simp at hm'
  ·intro (c:Nat) o e
   have hc:=hlt e
   refine ⟨λhm=>?_,?_⟩
   ·have hm':c=g.objs.size:=by simpa using hm
    rw [hm',hsz] at hc
    omega
   ·show c≠(g.push { cls:=.type "tuple_iterator",data:=.fields #[.ref s.heap.objs.size,.int 0 0] }).objs.size
    rw [hsz2]
    omega
  ·exact λc o e=>Heap.get?_push_of_some _ (Heap.get?_push_of_some _ (hgk c o e))
  ·exact ⟨_,Heap.get?_push_of_some _ (Heap.get?_push_size _ rfl),rfl,rfl⟩
  ·exact hT.at λo e=>Heap.get?_push_of_some _ (Heap.get?_push_of_some _ e)
  ·intro v h' tk hP hk
   have hv:v=if c=true then b else a:=by
    cases c with
    | true =>
     have e:argBest (λi j=>if i=1/\j=0 then true else false) ((#[a,b]:Array Value).size - 1)=1:=rfl
     rw [e] at hP
     simpa using hP.symm
    | false =>
     have e:argBest (λi j=>if i=1/\j=0 then false else false) ((#[a,b]:Array Value).size - 1)=0:=rfl
     rw [e] at hP
     simpa using hP.symm
   rw [hv]
   refine h h' tk λ(c:Nat) o e=>hk c o (λhm=>?_) ?_ (Heap.get?_push_of_some _ (Heap.get?_push_of_some _ (hgk c o e)))
   ·have hc:=hlt e
    have hm':c=g.objs.size:=by simpa using hm
    rw [hm',hsz] at hc
    omega
   ·have hc:=hlt e
    show c≠(g.push { cls:=.type "tuple_iterator",data:=.fields #[.ref s.heap.objs.size,.int 0 0] }).objs.size
    rw [hsz2]
    omega)
end
section
variable {X:Cx}
noncomputable def Zb2:List V->Hp->VK->Prop:=λxs H Q=>∃ a b ns ms,xs=[.ref a,.ref b]/\H a=some (.tup (ns.map V.int))/\H b=some (.tup (ms.map V.int))/\Q (if HT.cp ms ns=true then .ref b else .ref a) H
theorem Zhs {k:Nat} (hr:Room k X.A) (hc:X.calm=true):dJ X (.builtin "min") Zb2:=by
 intro pins s σ H xs us Q I r h
 obtain ⟨a,b,ns,ms,rfl,ha,hb,q⟩:=h
 obtain ⟨u,w',rfl,ru,rw'⟩:=ox r
 cases ru
 cases rw'
 obtain ⟨u1,r1,p1⟩:=cV (b:=false) I.hok ha
 obtain ⟨u2,r2,p2⟩:=cV (b:=false) I.hok hb
 have i1:IntsAre u1.toArray.toList ns:=Zdv r1
 have i2:IntsAre u2.toArray.toList ms:=Zdv r2
 refine Zlv (c:=HT.cp ms ns) (I.ok.hd hc) (λs' Q' E' kp hq=>?_) λh' tk kp=>⟨_,H,I.kept kp,?_,q⟩
 ·have q1:IsTup s'.heap a u1.toArray:=SqAt.at (b:=false) p1 λo e=>kp a o e
  have q2:IsTup s'.heap b u2.toArray:=SqAt.at (b:=false) p2 λo e=>kp b o e
  exact HT.ZlH q2 q1 i2 i1 (show X.A.units+1 < cLine from by have:=hr.units; omega) hq
 ·cases HT.cp ms ns
  ·exact rfl
  ·exact rfl
noncomputable def gK:List PyData->Option PyData
 | [.tuple xs,.tuple ys]=>(ints? xs).bind λns=>(ints? ys).bind λms=>some (if HT.cp ms ns=true then .tuple (ms.map PyData.int) else .tuple (ns.map PyData.int))
 | _=>none
theorem Zan:eS Zb2 gK:=λPK pa m G H vs ds d Q w hv hd k=>by
 unfold gK at hd
 split at hd
 ·rename_i xs ys
  cases e1:ints? xs with
  | none=>rw [e1] at hd; cases hd
  | some ns =>
   cases e2:ints? ys with
   | none=>rw [e1,e2] at hd; cases hd
   | some ms =>
    rw [e1,e2] at hd
    have hd':(if HT.cp ms ns=true then PyData.tuple (ms.map PyData.int) else .tuple (ns.map PyData.int))=d:=Option.some.inj hd
    cases hv with
    | cons h1 h2 =>
     cases h2 with
     | cons h2 h3 =>
      cases h3
      cases h1 with
      | @tup a us _ a1 a2 =>
       cases h2 with
       | @tup b ws _ b1 b2 =>
        obtain ⟨rfl,rfl⟩:=a2.ints_inv e1
        obtain ⟨rfl,rfl⟩:=b2.ints_inv e2
        refine ⟨a,b,ns,ms,rfl,w.sub _ _ a1,w.sub _ _ b1,?_⟩
        subst hd'
        cases hl:HT.cp ms ns
        ·rw [hl] at k
         exact k.here w (.tup a1 (DnAll.ints _))
        ·rw [hl] at k
         exact k.here w (.tup b1 (DnAll.ints _))
 ·cases hd
end
section
variable {X:Cx} {PK:Pk} {e:Expr} {is:List Sl->Tr (List PyData)}
end
end L2
set_option Elab.async false
set_option linter.all false
set_option maxRecDepth 100000
namespace L2
open PySem PySem.Spec PyProof.Rows
section
variable {prog:Program} {w:World} {A:Around} {E:Value->Shared->Prop} {s:Shared}
end
noncomputable def Zoa:List (List Int)->List Int
 | []=>[]
 | x::r=>r.foldl (λb y=>if HT.cp y b=true then y else b) x
section
variable {X:Cx}
noncomputable def tups?:List PyData->Option (List (List Int))
 | []=>some []
 | .tuple x::xs=>(ints? x).bind λns=>(tups? xs).bind λr=>some (ns::r)
 | _=>none
noncomputable def Zpg:List PyData->Option PyData
 | [.list xs]=>(tups? xs).bind λnss=>if nss.isEmpty=true then none else some (.tuple ((Zoa nss).map PyData.int))
 | _=>none
end
section
variable {X:Cx} {PK:Pk} {a b:Expr} {pos:Pos} {j:List Sl->Tr PyData}
noncomputable def iG (xs:List PyData):PyData->Tr PyData
 | .int i=>Tr.of (a9 xs i)
 | _=>.fail
noncomputable def cH (k:Nat) (j:List Sl->Tr PyData):List Sl->Tr PyData:=λρ=>(j ρ).bind λy=>match ρ[k]? with
 | some (.own xs)=>iG xs y
 | some (.d (.list xs))=>iG xs y
 | _=>.fail
theorem Zog {G:Hp} {vs:List V} {xs:List PyData} {i:Int} {d:PyData} (h:DnAll G vs xs) (e:a9 xs i=some d):∃ v,a9 vs i=some v/\Dn G v d:=by
 unfold a9 at e ⊢
 rw [h.length]
 cases hi:bG xs.length i with
 | none=>rw [hi] at e; cases e
 | some n =>
  rw [hi] at e
  exact h.get n e
theorem nc {α β:Type}:∀ {t:Tr α} {m:Nat} {Z:Nat->β->Prop},(t.bind λ_=>(Tr.fail:Tr β)).ok m Z->False
 | .ret a,m,Z,h=>h
 | .draw n k,m,Z,h=>nc (t:=k 0) (h.2.2.2 0 (Int.le_refl _) h.2.1)
 | .fail,m,Z,h=>h
theorem fX {k:Nat} (hb:PE X b (TAe PK j)) (ha:PE X a (cU k)) (hs:rT b):PE X (.Subscript a b pos) (TAe PK (cH k j)):=(l7 qi ha hb hs).imp λσ H Q hz0=>by
 obtain ⟨pa,G₀,H₀,m,ρ,G,R,z⟩:=hz0
 have key:∀ xs:List PyData,(∃ (sl:Sl),ρ[k]?=some sl/\(sl=.own xs\/sl=.d (.list xs)))->((j ρ).bind λy=>iG xs y).ok m (λm1 x=>Kn PK pa m1 G H x Q)->h9 (pg X.K) (cU k) (TAe PK j) σ H Q:=λxs ⟨sl,hsl,hx⟩ z=>by
  obtain ⟨o,h1,h2⟩:=R.sl k _ hsl
  have hp:∃ p,o=some (.ref p):=by
   rcases hx with rfl | rfl
   ·cases h2; exact ⟨_,rfl⟩
   ·cases h2 with
    | d q=>cases q; exact ⟨_,rfl⟩
  obtain ⟨p,rfl⟩:=hp
  refine ⟨_,h1,?_⟩
  refine TAe.then R z λm1 y u G1 H1 s1 w1 R1 d1 q1=>?_
  obtain ⟨o',h1',h2'⟩:=R1.sl k _ hsl
  rw [h1] at h1'
  cases h1'
  have hl:∃ vs,H1 p=some (.lst vs)/\DnAll G1 vs xs:=by
   rcases hx with rfl | rfl
   ·cases h2' with
    | own a1 a2 a3 a4=>exact ⟨_,a1,a4⟩
   ·cases h2' with
    | d q=>cases q with
     | lst b1 b2=>exact ⟨_,w1.sub _ _ b1,b2⟩
  obtain ⟨vs,e1,e2⟩:=hl
  cases d1 with
  | int i =>
   obtain ⟨d,hd,kq⟩:=Tr.ok_of q1
   obtain ⟨v,hv,dv⟩:=Zog e2 hd
   exact ⟨p,vs,i,v,rfl,rfl,SqL.of e1,hv,kq v G1 H1 s1 w1 dv⟩
  | _=>exact q1.elim
 unfold cH at z
 cases hk:ρ[k]? with
 | none=>rw [hk] at z; exact (nc (t:=j ρ) z).elim
 | some sl =>
  rw [hk] at z
  cases sl with
  | own xs=>exact key xs ⟨_,hk,.inl rfl⟩ z
  | d x =>
   cases x with
   | list xs=>exact key xs ⟨_,hk,.inr rfl⟩ z
   | _=>exact (nc (t:=j ρ) z).elim
  | _=>exact (nc (t:=j ρ) z).elim
end
end L2
set_option Elab.async false
set_option linter.all false
set_option maxRecDepth 100000
namespace L2
open PySem PySem.Spec PyProof.Rows
section
variable {prog:Program} {w:World} {A:Around} {E:Value->Shared->Prop} {s:Shared}
theorem ZnH {t b:Addr} {ws:List Value} {Q:Value->Shared->Prop} (ht:IsTup s.heap t ([]:List Value).toArray) (hb:IsTup s.heap b ws.toArray) (h1:Q (.ref b) s):wpAny (model prog w) A (binaryOp .Add (.ref t) (.ref b)) Q E s:=by
 obtain ⟨⟨cls,dd,data,sl⟩,ho,hc,n,hd⟩:=id ht
 obtain ⟨⟨cls2,dd2,data2,eE⟩,ho2,hc2,n2,hd2⟩:=id hb
 simp only at hc hd hc2 hd2
 subst hc hd hc2 hd2
 exact concat_meets ⟨_,ho,rfl⟩ ⟨_,ho2,rfl⟩ noFill_tuple_add seq_tuple_add PySem.F.slot_tuple_add PySem.F.entry_tuple_add (PySem.F.args_tuple_add_2 _ _) (tuple_addW0 t b _ ws.toArray n n2 dd dd2 sl eE rfl) ⟨ho,ho2,h1⟩
end
section
variable {X:Cx}
noncomputable def Zca (K:PySem.W.Frag):R2:=λx y H Q=>∃ a b ys,x=.ref a/\y=.ref b/\SqT K H a []/\SqT K H b ys/\Q (.ref b) H
theorem Zk4:OpR X (binaryOp .Add) (Zca X.K):=by
 intro pins s σ H x y v u Q I rx ry h
 obtain ⟨a,b,ys,rfl,rfl,ha,hb,q⟩:=h
 cases rx
 cases ry
 obtain ⟨its,r1,p1,_⟩:=I.tuple ha
 obtain ⟨its2,r2,p2,_⟩:=I.tuple hb
 cases r1
 exact ZnH p1 p2 ⟨.ref b,H,I,rfl,q⟩
noncomputable def gY:PyData->PyData->Option PyData
 | .tuple [],.tuple ys=>some (.tuple ys)
 | x,y=>aW x y
noncomputable def Zcd (K:PySem.W.Frag):R2:=λx y H Q=>ph K x y H Q\/Zca K x y H Q
theorem Zcx:OpR X (binaryOp .Add) (Zcd X.K):=bx.or Zk4
theorem Zam {K:PySem.W.Frag}:cz (Zcd K) gY:=λPK pa m G H x y dx dy dz Q w hx hy hz k=>by
 unfold gY at hz
 split at hz
 ·cases hz
  cases hx with
  | tup a1 a2 =>
   cases a2
   cases hy with
   | tup b1 b2=>exact .inr ⟨_,_,_,rfl,rfl,SqT.of (w.sub _ _ a1),SqT.of (w.sub _ _ b1),k.here w (.tup b1 b2)⟩
 ·exact .inl (bw PK pa m G H x y _ _ dz Q w hx hy hz k)
theorem Zgz {ys:List PyData}:aG gY (.tuple []) (.tuple ys)=.ret (.tuple ys):=rfl
theorem Zgy {x:PyData} {xs ys:List PyData} (h:small ((x::xs).length+ys.length)=true):aG gY (.tuple (x::xs)) (.tuple ys)=.ret (.tuple (x::xs++ys)):=by
 show Tr.of (aW (.tuple (x::xs)) (.tuple ys))=_
 unfold aW
 simp only [List.isEmpty_cons,Bool.not_false,Bool.true_and,h,if_true]
 rfl
end
end L2
set_option Elab.async false
set_option linter.all false
set_option maxRecDepth 100000
namespace L2
open PySem PySem.Spec PyProof.Rows
section
variable {PK:Pk} {X:Cx} {a b:Expr} {pos:Pos} {i j:List Sl->Tr PyData}
noncomputable def rM (r:R2) (f:PyData->PyData->Option (List PyData)):Prop:=∀ (PK:Pk) (pa:Addr) (m:Nat) (G H:Hp) (x y:V) (dx dy:PyData) (dz:List PyData) (Q:VK),Wd PK pa m G H->Dn G x dx->Dn G y dy->f dx dy=some dz->Ko1 PK pa m G H dz Q->r x y H Q
noncomputable def lr (f:PyData->PyData->Option (List PyData)) (i j:List Sl->Tr PyData):List Sl->Tr (List PyData):=λρ=>(i ρ).bind λx=>(j ρ).bind λy=>Tr.of (f x y)
theorem ZoH {r:R2} {f:PyData->PyData->Option (List PyData)} (hv:rM r f):∀ σ H Q,cT PK (lr f i j) σ H Q->h9 r (TAe PK i) (TAe PK j) σ H Q:=by
 rintro σ H Q ⟨pa,G₀,H₀,m,ρ,G,R,q⟩
 refine TAe.then R q λm1 x v G1 H1 s1 w1 R1 d1 q1=>?_
 refine TAe.then R1 q1 λm2 y u G2 H2 s2 w2 R2 d2 q2=>?_
 obtain ⟨z,hz,k⟩:=Tr.ok_of q2
 exact hv PK pa m2 G2 H2 v u x y z Q w2 (d1.mono s2.gs) d2 hz (Ko1.later k (s1.trans s2 w1.some) w2.some)
theorem ZhT {op:Operator} {r:R2} {f:PyData->PyData->Option (List PyData)} (ho:OpR X (binaryOp op) r) (hv:rM r f) (ha:PE X a (TAe PK i)) (hb:PE X b (TAe PK j)):PE X (.BinOp a op b pos) (cT PK (lr f i j)) :=
 (bT ho ha hb).imp (ZoH hv)
noncomputable def gv:PyData->PyData->Option (List PyData)
 | .list xs,.int k=>if (decide (-1000<=k) && decide (k<=1000) && decide (xs.length<=1000))=true then some (List.replicate k.toNat xs).flatten else none
 | _,_=>none
theorem Zg0 {G:Hp}:∀ {vs:List V} {ds:List PyData} {us:List V} {es:List PyData},DnAll G vs ds->DnAll G us es->DnAll G (vs++us) (ds++es)
 | _,_,_,_,.nil,h=>h
 | _,_,_,_,.cons a b,h=>.cons a (Zg0 b h)
theorem ZgZ {G:Hp} {vs:List V} {ds:List PyData} (h:DnAll G vs ds):∀ k:Nat,DnAll G (List.replicate k vs).flatten (List.replicate k ds).flatten
 | 0=>.nil
 | k+1=>by
  rw [List.replicate_succ,List.replicate_succ,List.flatten_cons,List.flatten_cons]
  exact Zg0 h (ZgZ h k)
theorem Zak:rM pf gv:=λPK pa m G H x y dx dy dz Q w hx hy hz k=>by
 unfold gv at hz
 split at hz
 ·split at hz
  ·rename_i hc
   cases hz
   simp only [Bool.and_eq_true,decide_eq_true_eq] at hc
   cases hx with
   | lst a1 a2 =>
    cases hy
    refine ⟨_,_,_,rfl,rfl,w.sub _ _ a1,by omega,by omega,?_,λp hp=>?_⟩
    ·rw [a2.length]
     have h0:∀ z:Int,z<=1000->z.toNat<=1000:=λz hz=>by omega
     exact Nat.le_trans (Nat.mul_le_mul hc.2 (h0 _ hc.1.2)) (show 1000 * 1000<=sizeLine by decide)
    ·exact k.new w (ZgZ a2 _) hp
  ·cases hz
 ·cases hz
noncomputable def jJ (f:PyData->PyData->Option (List PyData)) (x y:PyData):Tr (List PyData):=Tr.of (f x y)
noncomputable def ZhB (f:PyData->PyData->Option (List PyData)) (j:List Sl->Tr PyData) (ρ:List Sl) (x:PyData):Tr (List PyData):=(j ρ).bind (jJ f x)
theorem Zgi {f:PyData->PyData->Option (List PyData)} {ρ:List Sl}:lr f i j ρ=(i ρ).bind (ZhB f j ρ):=rfl
theorem Zgh {f:PyData->PyData->Option (List PyData)} {ρ:List Sl} {x:PyData}:ZhB f j ρ x=(j ρ).bind (jJ f x):=rfl
theorem ZbP {xs:List PyData} {k:Int} (h:(decide (-1000<=k) && decide (k<=1000) && decide (xs.length<=1000))=true):jJ gv (.list xs) (.int k)=.ret (List.replicate k.toNat xs).flatten:=by
 simp only [jJ,gv,h,if_true]
 rfl
end
theorem kQ {α:Type} {n:Nat}:∀ {us:List α},us.length=n+1->∃ (a:α) (t:List α),us=a::t/\t.length=n
 | a::t,h=>⟨a,t,rfl,Nat.succ.inj h⟩
theorem ZlO {α:Type} {us:List α} (h:us.length=0):us=[]:=List.eq_nil_of_length_eq_zero h
theorem Zc8 {α:Type} {us:List α} (h:us.length=1):∃ a,us=[a]:=by
 obtain ⟨a,t,rfl,h2⟩:=kQ h
 exact ⟨a,by rw [ZlO h2]⟩
theorem Zc7 {α:Type} {us:List α} (h:us.length=2):∃ a0 a1,us=[a0,a1]:=by
 obtain ⟨a0,t,rfl,h2⟩:=kQ h
 obtain ⟨a1,rfl⟩:=Zc8 h2
 exact ⟨a0,a1,rfl⟩
theorem Zc6 {α:Type} {us:List α} (h:us.length=3):∃ a0 a1 a2,us=[a0,a1,a2]:=by
 obtain ⟨a0,t,rfl,h2⟩:=kQ h
 obtain ⟨a1,a2,rfl⟩:=Zc7 h2
 exact ⟨a0,a1,a2,rfl⟩
theorem Zc5 {α:Type} {us:List α} (h:us.length=4):∃ a0 a1 a2 a3,us=[a0,a1,a2,a3]:=by
 obtain ⟨a0,t,rfl,h2⟩:=kQ h
 obtain ⟨a1,a2,a3,rfl⟩:=Zc6 h2
 exact ⟨a0,a1,a2,a3,rfl⟩
theorem ZlR {α:Type} {us:List α} (h:us.length=5):∃ a0 a1 a2 a3 a4,us=[a0,a1,a2,a3,a4]:=by
 obtain ⟨a0,t,rfl,h2⟩:=kQ h
 obtain ⟨a1,a2,a3,a4,rfl⟩:=Zc5 h2
 exact ⟨a0,a1,a2,a3,a4,rfl⟩
end L2
set_option Elab.async false
set_option linter.all false
set_option maxRecDepth 100000
namespace L2
open PySem PySem.Spec PyProof.Rows
section
variable {PK:Pk} {X:Cx} {pos:Pos} {n:Nat} {is:List Sl->Tr (List PyData)} {s t:List Sl->Tr Ou}
end
end L2
set_option Elab.async false
set_option linter.all false
set_option maxRecDepth 100000
namespace L2
open PySem PySem.Spec PyProof.Rows
section
variable {PK:Pk} {X:Cx} {a b c d e:Expr} {pos:Pos} {i j l n:List Sl->Tr PyData}
end
end L2
set_option Elab.async false
set_option linter.all false
set_option maxRecDepth 100000
set_option exponentiation.threshold 9000
namespace Tw
open PySem L2
noncomputable def nb (k:Nat) (n:Int):Prop:=n.natAbs < 2 ^ k
theorem aF {k:Nat} {n:Int} (h:nb k n) (hk:k<=8000):fit n=true:=decide_eq_true (Nat.lt_of_lt_of_le h (Nat.pow_le_pow_right (by decide) hk))
theorem bb {k l:Nat} {n:Int} (h:nb k n) (hk:k<=l):nb l n:=Nat.lt_of_lt_of_le h (Nat.pow_le_pow_right (by decide) hk)
theorem ce {k l:Nat} {m n:Int} (h:nb k m) (h':nb l n):nb (k+l) (m * n):=by
 unfold nb at *
 rw [Int.natAbs_mul,Nat.pow_add]
 exact Nat.mul_lt_mul'' h h'
theorem dP {k l:Nat} {m n:Int} (h:nb k m) (h':nb l n):nb (max k l+1) (m+n):=by
 have h1:=bb h (Nat.le_max_left k l)
 have h2:=bb h' (Nat.le_max_right k l)
 unfold nb at *
 rw [Nat.pow_succ,Nat.mul_two]
 exact Nat.lt_of_le_of_lt (Int.natAbs_add_le m n) (Nat.add_lt_add h1 h2)
theorem jm {k:Nat} {n:Int} (h:nb k n):nb k (-n):=by
 unfold nb at *
 omega
theorem eX {k l:Nat} {m n:Int} (h:nb k m) (h':nb l n):nb (max k l+1) (m - n):=by
 rw [Int.sub_eq_add_neg]
 exact dP h (jm h')
theorem bL {k:Nat} {n:Int} (h1:-(2 ^ k:Nat) < n) (h2:n < (2 ^ k:Nat)):nb k n:=by
 unfold nb
 omega
theorem mh {k:Nat} {c:Prop} [Decidable c] {m n:Int} (h:nb k m) (h':nb k n):nb k (if c then m else n):=by split <;> assumption
noncomputable def ws (f:Int->Int):Nat->List Int->Int
 | _,[]=>0
 | k,w::l=>w * f k+ws f (k+1) l
theorem Zae {f:Int->Int} {a b:Nat} (hf:∀ x:Int,0<=x->nb b (f x)):∀ {l:List Int} {k:Nat},(∀ w∈l,nb a w)->nb (a+b+l.length) (ws f k l)
 | [],k,h=>by unfold ws nb; exact Nat.pos_of_ne_zero (by simp)
 | w::l,k,h=>by
  unfold ws
  have h1:=ce (h w (by simp)) (hf k (by omega))
  have h2:=Zae hf (l:=l) (k:=k+1) λv hv=>h v (List.mem_cons_of_mem _ hv)
  refine bb (dP h1 h2) ?_
  rw [List.length_cons]
  omega
theorem lD {f g:Int->Int}:∀ {l:List Int} {k:Nat},(∀ x:Int,0<=x->f x=g x)->ws f k l=ws g k l
 | [],k,h=>rfl
 | w::l,k,h=>by
  unfold ws
  rw [h k (by omega),lD h]
theorem ZaM {a:Nat}:∀ {l:List Int},(∀ w∈l,nb a w)->nb (a+l.length) l.sum
 | [],h=>by unfold nb; simp; exact Nat.pos_of_ne_zero (by simp)
 | w::l,h=>by
  rw [List.sum_cons]
  refine bb (dP (h w (by simp)) (ZaM (l:=l) λv hv=>h v (List.mem_cons_of_mem _ hv))) ?_
  rw [List.length_cons]
  omega
structure Shp where
 top:Int
 depth:Int
 start:Int
 piece:Int
 keep:Int
 lack:Int
 lost:Int
 back:Int
 late:Int
noncomputable def Shp.l (s:Shp):List Int:=[s.top,s.depth,s.start,s.piece,s.keep,s.lack,s.lost,s.back,s.late]
@[irreducible] noncomputable def Shp.d (s:Shp):PyData:=.tuple (s.l.map PyData.int)
structure Shp.Ok (s:Shp):Prop where
 t0:0<=s.top
 d0:0<=s.depth
 td:s.top+s.depth<=100
 start0:0<=s.start
 start:nb 45 s.start
 piece:nb 45 s.piece
 keep:nb 45 s.keep
 lack:nb 45 s.lack
 lost:nb 45 s.lost
 back:nb 45 s.back
 late:nb 45 s.late
theorem Za8 (s:Shp):aG am s.d (.int 0)=.ret (.int s.top):=by unfold Shp.d; rw [dE]; exact congrArg Tr.of jK
theorem Za7 (s:Shp):aG am s.d (.int 1)=.ret (.int s.depth):=by unfold Shp.d; rw [dE]; exact congrArg Tr.of lf
theorem Za6 (s:Shp):aG am s.d (.int 2)=.ret (.int s.start):=by unfold Shp.d; rw [dE]; exact congrArg Tr.of ny
theorem Za5 (s:Shp):aG am s.d (.int 3)=.ret (.int s.piece):=by unfold Shp.d; rw [dE]; exact congrArg Tr.of nw
theorem Za4 (s:Shp):aG am s.d (.int 4)=.ret (.int s.keep):=by unfold Shp.d; rw [dE]; exact congrArg Tr.of nv
theorem Za3 (s:Shp):aG am s.d (.int 5)=.ret (.int s.lack):=by unfold Shp.d; rw [dE]; exact congrArg Tr.of rg
theorem Za2 (s:Shp):aG am s.d (.int 6)=.ret (.int s.lost):=by unfold Shp.d; rw [dE]; exact congrArg Tr.of rc
theorem Za1 (s:Shp):aG am s.d (.int 7)=.ret (.int s.back):=by unfold Shp.d; rw [dE]; exact congrArg Tr.of q9
theorem Za0 (s:Shp):aG am s.d (.int 8)=.ret (.int s.late):=by unfold Shp.d; rw [dE]; exact congrArg Tr.of qZ
section
variable (s:Shp)
noncomputable def Shp.nx (y f:Int):Int:=bz (y - f) (-s.depth)
noncomputable def Shp.day (y f:Int):Int:=(if s.nx y f > 0 then s.keep * s.nx y f else s.lack * -s.nx y f)+s.lost * (s.nx y f - (y - f))
noncomputable def Shp.ord (x y:Int):Int:=if y<=x then 0 else s.start+s.piece * (y - x)
noncomputable def Shp.wg (day:List Int) (y:Int) (ahead:Int->Int) (sc:Int):Int:=ws (λf=>sc * s.day y f+ahead (s.nx y f)) 0 day
noncomputable def Shp.sm (day:List Int) (ahead:Int->Int) (sc:Int) (y:Int):Int:=sc * day.sum * s.piece * y+s.wg day y ahead sc
end
noncomputable def Shp.n (s:Shp):Nat:=(s.top+1 - -s.depth).toNat
noncomputable def Shp.row (s:Shp) (f:Int->Int):List Int:=(au (-s.depth) s.n).map f
noncomputable def lI (l:List Int):PyData:=.list (l.map PyData.int)
noncomputable def tI (l:List Int):PyData:=.tuple (l.map PyData.int)
theorem Shp.Ok.n_eq {s:Shp} (h:s.Ok):(s.n:Int)=s.top+s.depth+1:=by have:=h.t0; have:=h.d0; unfold Shp.n; omega
theorem ZjW (s:Shp) (f:Int->Int):(s.row f).length=s.n:=by unfold Shp.row; rw [List.length_map,gw]
theorem i9 {s:Shp} {f:Int->Int} {x:Int} (h1:-s.depth<=x) (h2:x<=s.top):(s.row f)[(x+s.depth).toNat]?=some (f x):=by
 unfold Shp.row au
 rw [List.map_map,List.getElem?_map,List.getElem?_range (by unfold Shp.n; omega)]
 show some (f (-s.depth+((x+s.depth).toNat:Int)))=_
 congr 2
 omega
theorem ZjX {s:Shp} {f:Int->Int} {x:Int} (h1:-s.depth<=x) (h2:x<=s.top):a9 ((s.row f).map PyData.int) (x+s.depth)=some (.int (f x)) :=
 dF (by omega) (by rw [List.getElem?_map,i9 h1 h2]; rfl)
theorem fP (s:Shp) (y f:Int):-s.depth<=s.nx y f:=by unfold Shp.nx bz; split <;> omega
theorem fO {s:Shp} (h:s.Ok) {y f:Int} (hy:y<=s.top) (hf:0<=f):s.nx y f<=s.top:=by have:=h.t0; have:=h.d0; unfold Shp.nx bz; split <;> omega
end Tw
set_option Elab.async false
set_option linter.all false
set_option maxRecDepth 100000
namespace L2
open PySem PySem.Spec PyProof.Rows
variable {ρ:List Sl} {s t:List Sl->Tr Ou} {i j l:List Sl->Tr PyData} {is:List Sl->Tr (List PyData)} {k n:Nat} {x y d:PyData} {xs ys:List PyData} {sl:Sl}
theorem rb2 {α β:Type} {a:α} {f:α->Tr β}:(Tr.ret a).bind f=f a:=Eq.trans (Tr.ret_bind a f) (Eq.refl _)
noncomputable def o5 (xs:List PyData):Tr (List PyData):=.ret xs.reverse
theorem Zey:o5 xs=.ret xs.reverse:=rfl
noncomputable def ZbG (xs:List PyData):Tr (List PyData):=(ij xs).bind o5
theorem ZeB:rG is ρ=(is ρ).bind ZbG:=rfl
theorem Zex:ZbG xs=(ij xs).bind o5:=rfl
noncomputable def Zpj (k:Nat) (ρ:List Sl) (xs:List PyData):PyData->Tr Ou
 | .list ys=>if small (xs.length+ys.length)=true then .ret (.next (ρ.set k (.own (xs++ys)))) else .fail
 | _=>.fail
theorem ni (a b c d:Int):bH gK [.tuple [.int a,.int b],.tuple [.int c,.int d]]=.ret (if c < a\/c=a/\d < b then .tuple [.int c,.int d] else .tuple [.int a,.int b]):=by
 have h1:ints? [PyData.int a,.int b]=some [a,b]:=ints?_map [a,b]
 have h2:ints? [PyData.int c,.int d]=some [c,d]:=ints?_map [c,d]
 unfold bH gK
 simp only [h1,h2]
 show Tr.of (some _)=_
 rw [Tr.of_some]
 have e:HT.cp [c,d] [a,b]=true ↔ (c < a\/c=a/\d < b):=by
  simp only [HT.Zc2,HT.Zc1]
  by_cases hca:c=a
  ·subst hca
   by_cases hdb:d=b
   ·simp [hdb]
   ·simp [hdb]
  ·simp [hca]
 by_cases hc:(c < a\/c=a/\d < b)
 ·rw [if_pos (e.mpr hc),if_pos hc]; rfl
 ·rw [if_neg (λz=>hc (e.mp z)),if_neg hc]; rfl
theorem ZlE (ns:List Int) (h:ns≠[]):bH iz [.list (ns.map PyData.int)]=.ret (.int (dQ ns)):=by
 unfold bH iz gF
 simp [h]
noncomputable def iF:Nat->List Sl->PyData->Tr PyData
 | 0,.own xs::_,y=>iG xs y
 | 0,.d (.list xs)::_,y=>iG xs y
 | k+1,_::ρ,y=>iF k ρ y
 | _,_,_=>.fail
theorem Zfx:cH k j ρ=(j ρ).bind (iF k ρ):=by
 have key:∀ (k:Nat) (σ:List Sl) (y:PyData),(match σ[k]? with | some (Sl.own xs)=>iG xs y | some (Sl.d (.list xs))=>iG xs y | _=>Tr.fail)=iF k σ y:=by
  intro k
  induction k with
  | zero =>
   intro σ y
   cases σ with
   | nil=>rfl
   | cons s r =>
    cases s with
    | d x=>cases x <;> rfl
    | _=>rfl
  | succ k ih =>
   intro σ y
   cases σ with
   | nil=>rfl
   | cons s r=>exact ih r y
 unfold cH
 exact congrArg (Tr.bind (j ρ)) (funext λy=>key k ρ y)
theorem Zfw (n:Int):iF 0 (.own xs::ρ) (.int n)=Tr.of (a9 xs n):=rfl
theorem Zfv (n:Int):iF 0 (.d (.list xs)::ρ) (.int n)=Tr.of (a9 xs n):=rfl
theorem Zfu:iF (k+1) (sl::ρ) y=iF k ρ y:=rfl
theorem Zou {α:Type} {t:Tr α} {P:α->Prop} (h:Al t 0 P):∃ a,t=.ret a/\P a:=by
 have h':=h.out
 cases t with
 | ret a=>exact ⟨a,rfl,h'⟩
 | draw w k=>exact h'.elim
 | fail=>exact h'.elim
theorem ZhV {α:Type} {t:Tr α} {a:α} (h:Al t 0 λb=>b=a):t=.ret a:=by
 obtain ⟨b,e,rfl⟩:=Zou h
 exact e
theorem ZdR {s:List Sl->Tr Ou} {g:PyData->List Sl->Option (List Sl)} {n:Nat} {full:List PyData} (I:List PyData->List Sl->Prop) {Q:Ou->Prop} (ht:∀ pre x post ρ,full=pre++x::post->I pre ρ->∃ ρ1,g x ρ=some ρ1/\(s ρ1).all n λo=>∃ ρ2,o=.next ρ2/\I (pre++[x]) ρ2) (hq:∀ ρ,I full ρ->Q (.next ρ)) :
  ∀ {xs pre:List PyData} {ρ:List Sl},full=pre++xs->I pre ρ->(bV g s xs ρ).all (xs.length * n) Q
 | [],pre,ρ,e,h0=>hq ρ (by rw [e,List.append_nil]; exact h0)
 | x::xs,pre,ρ,e0,h0=>by
  obtain ⟨ρ1,e,ha⟩:=ht pre x xs ρ e0 h0
  have en:(x::xs).length * n=n+xs.length * n:=by rw [List.length_cons,Nat.succ_mul]; omega
  rw [en,c9,e,Tr.of_some,Tr.ret_bind]
  unfold kZ
  refine Tr.all_bind ha λo ⟨ρ2,eo,h2⟩=>?_
  subst eo
  rw [dS]
  exact ZdR I ht hq (by rw [e0,List.append_assoc]; rfl) h2
theorem rq {n N:Nat} {g:PyData->List Sl->Option (List Sl)} {s:List Sl->Tr Ou} {xs:List PyData} {ρ:List Sl} {Q:Ou->Prop} (I:List PyData->List Sl->Prop) (h0:I [] ρ) (hN:xs.length * n<=N) (ht:∀ pre x post ρ,xs=pre++x::post->I pre ρ->∃ ρ1,g x ρ=some ρ1/\Al (s ρ1) n λo=>∃ ρ2,o=.next ρ2/\I (pre++[x]) ρ2) (hq:∀ ρ,I xs ρ->Q (.next ρ)):Al (bV g s xs ρ) N Q :=
 .of (Tr.all_mono (ZdR (full:=xs) I (λpre x post ρ e h=>let ⟨ρ1,e,a⟩:=ht pre x post ρ e h; ⟨ρ1,e,a.out⟩) hq (pre:=[]) rfl h0) hN λ_ h=>h)
theorem Zj0 {lo hi:Int} {pre post:List PyData} {x:PyData} (h:aR lo hi=pre++x::post):x=.int (lo+pre.length)/\(pre.length:Int) < hi - lo:=by
 have h1:(aR lo hi)[pre.length]?=some x:=by rw [h]; simp
 have hl:pre.length < (aR lo hi).length:=(List.getElem?_eq_some_iff.mp h1).1
 rw [cI] at hl
 unfold aR au at h1
 rw [List.map_map,List.getElem?_map,List.getElem?_range (by omega)] at h1
 refine ⟨?_,by omega⟩
 cases h1
 rfl
theorem ZjZ {lo hi:Int} {pre post:List PyData} {x:PyData} (h:(aR lo hi).reverse=pre++x::post):x=.int (hi - 1 - pre.length)/\(pre.length:Int) < hi - lo:=by
 have h1:((aR lo hi).reverse)[pre.length]?=some x:=by rw [h]; simp
 have hl:pre.length < ((aR lo hi).reverse).length:=(List.getElem?_eq_some_iff.mp h1).1
 rw [List.length_reverse,cI] at hl
 rw [List.getElem?_reverse (by rw [cI]; exact hl),cI] at h1
 unfold aR au at h1
 rw [List.map_map,List.getElem?_map,List.getElem?_range (by omega)] at h1
 refine ⟨?_,by omega⟩
 cases h1
 show PyData.int (lo+(((hi - lo).toNat - 1 - pre.length:Nat):Int))=_
 congr 1
 omega
theorem ZlF {h:PyData->Tr PyData} {f:Int->PyData} {lo hi:Int} (hx:∀ z:Int,lo<=z->z < hi->h (.int z)=.ret (f z)):aV h (aR lo hi)=.ret ((au lo (hi - lo).toNat).map f):=by
 have key:∀ l:List Int,(∀ z∈l,lo<=z/\z < hi)->aV h (l.map PyData.int)=.ret (l.map f):=by
  intro l
  induction l with
  | nil=>intro _; rfl
  | cons z l ih =>
   intro hz
   have hh:=hz z (by simp)
   rw [List.map_cons,aV,hx z hh.1 hh.2,Tr.ret_bind,ih λy hy=>hz y (List.mem_cons_of_mem _ hy)]
   rfl
 unfold aR
 refine key _ λz hz=>?_
 have:=Zkb hz
 omega
theorem Zmq {xs:List PyData} {pre post:List PyData} {x:PyData} (h:cL xs=pre++x::post):∃ y,xs[pre.length]?=some y/\x=.tuple [.int pre.length,y]:=by
 have h1:(cL xs)[pre.length]?=some x:=by rw [h]; simp
 unfold cL at h1
 rw [List.getElem?_zipWith] at h1
 cases hx:xs[pre.length]? with
 | none=>rw [hx] at h1; simp at h1
 | some y =>
  have hl:pre.length < xs.length:=(List.getElem?_eq_some_iff.mp hx).1
  rw [hx,List.getElem?_range hl] at h1
  simp at h1
  exact ⟨y,rfl,h1.symm⟩
theorem Zmr (xs:List PyData):(cL xs).length=xs.length:=by unfold cL; simp
end L2
set_option Elab.async false
set_option linter.all false
set_option maxRecDepth 100000
namespace Tw
open PySem L2
noncomputable def bst (g:Int->Int) (top:Int):Nat->Int×Int
 | 0=>(g top,top)
 | n+1=>if (bst g top n).1 < g (top - ((n+1:Nat):Int)) then bst g top n else (g (top - ((n+1:Nat):Int)),top - ((n+1:Nat):Int))
theorem nt (g:Int->Int) (top:Int):∀ n:Nat,top - n<=(bst g top n).2/\(bst g top n).2<=top/\g (bst g top n).2=(bst g top n).1
 | 0=>by unfold bst; simp
 | n+1=>by
  have ih:=nt g top n
  unfold bst
  split
  ·exact ⟨by omega,ih.2.1,ih.2.2⟩
  ·exact ⟨Int.le_refl _,by omega,rfl⟩
theorem qW (g:Int->Int) (top:Int):∀ (n:Nat) (y:Int),top - n<=y->y<=top->(bst g top n).1<=g y
 | 0,y,h1,h2=>by
  have:y=top:=by omega
  subst this
  unfold bst
  exact Int.le_refl _
 | n+1,y,h1,h2=>by
  by_cases hy:y=top - ((n+1:Nat):Int)
  ·unfold bst
   split
   ·subst hy; omega
   ·subst hy; exact Int.le_refl _
  ·have ih:=qW g top n y (by omega) h2
   unfold bst
   split
   ·exact ih
   ·omega
noncomputable def pck (g:Int->Int) (top K x:Int):Int×Int :=
 match (top - x).toNat with
 | 0=>(g x,x)
 | n+1=>if K+(bst g top n).1 < g x then (K+(bst g top n).1,(bst g top n).2) else (g x,x)
noncomputable def cst (g:Int->Int) (top K P x:Int):Int:=(pck g top K x).1 - P * x
noncomputable def lvl (g:Int->Int) (top K x:Int):Int:=(pck g top K x).2
theorem ip (g:Int->Int) (top K:Int):pck g top K top=(g top,top):=by
 unfold pck
 rw [Int.sub_self]
 rfl
theorem iq (g:Int->Int) (top K:Int) (n:Nat):pck g top K (top - ((n+1:Nat):Int))=if K+(bst g top n).1 < g (top - ((n+1:Nat):Int)) then (K+(bst g top n).1,(bst g top n).2) else (g (top - ((n+1:Nat):Int)),top - ((n+1:Nat):Int)):=by
 unfold pck
 have e:(top - (top - ((n+1:Nat):Int))).toNat=n+1:=by omega
 rw [e]
theorem Zcs {g:Int->Int} {top K x:Int} (hx:x<=top):(pck g top K x).1<=g x/\∀ y,x < y->y<=top->(pck g top K x).1<=K+g y:=by
 by_cases ht:x=top
 ·subst ht
  rw [ip]
  exact ⟨Int.le_refl _,λy h1 h2=>by omega⟩
 ·obtain ⟨n,hn⟩:∃ n:Nat,x=top - ((n+1:Nat):Int):=⟨(top - x - 1).toNat,by omega⟩
  subst hn
  rw [iq]
  split
  ·rename_i hc
   exact ⟨by dsimp only; omega,λy h1 h2=>by have:=qW g top n y (by omega) h2; dsimp only; omega⟩
  ·rename_i hc
   exact ⟨Int.le_refl _,λy h1 h2=>by have:=qW g top n y (by omega) h2; dsimp only; omega⟩
theorem pC {g:Int->Int} {top K x:Int} (hx:x<=top):x<=(pck g top K x).2/\(pck g top K x).2<=top/\(((pck g top K x).2=x/\(pck g top K x).1=g x)\/(x < (pck g top K x).2/\(pck g top K x).1=K+g (pck g top K x).2/\(pck g top K x).1 < g x)):=by
 by_cases ht:x=top
 ·subst ht
  rw [ip]
  exact ⟨Int.le_refl _,Int.le_refl _,.inl ⟨rfl,rfl⟩⟩
 ·obtain ⟨n,hn⟩:∃ n:Nat,x=top - ((n+1:Nat):Int):=⟨(top - x - 1).toNat,by omega⟩
  subst hn
  rw [iq]
  have hb:=nt g top n
  split
  ·rename_i hc
   exact ⟨by dsimp only; omega,hb.2.1,.inr ⟨by dsimp only; omega,by dsimp only; rw [hb.2.2],hc⟩⟩
  ·exact ⟨Int.le_refl _,by dsimp only; omega,.inl ⟨rfl,rfl⟩⟩
theorem ZkS {g g':Int->Int} {top K x:Int} (h:∀ y,x<=y->y<=top->g y=g' y) (hx:x<=top):pck g top K x=pck g' top K x:=by
 have key:∀ n:Nat,x<=top - n->bst g top n=bst g' top n:=by
  intro n
  induction n with
  | zero=>intro hn; unfold bst; rw [h top (by omega) (by omega)]
  | succ n ih =>
   intro hn
   unfold bst
   rw [ih (by omega),h _ hn (by omega)]
 by_cases ht:x=top
 ·subst ht
  rw [ip,ip,h x (by omega) (by omega)]
 ·obtain ⟨n,hn⟩:∃ n:Nat,x=top - ((n+1:Nat):Int):=⟨(top - x - 1).toNat,by omega⟩
  subst hn
  rw [iq,iq,key n (by omega),h _ (by omega) (by omega)]
structure DayB (l:List Int):Prop where
 len:l.length<=16
 nb:∀ w∈l,nb 30 w
 w0:∀ w∈l,0<=w
 pos:0 < l.sum
theorem lb {s:Shp} (h:s.Ok) {y f:Int} (hy:nb 20 y) (hf:nb 40 f):nb 100 (s.day y f):=by
 have hd:nb 7 s.depth:=by have:=h.t0; have:=h.d0; have:=h.td; exact bL (by show -128 < _; omega) (by show _ < 128; omega)
 have hn:nb 50 (s.nx y f):=by
  unfold Shp.nx bz
  exact mh (bb (jm hd) (by decide)) (bb (eX hy hf) (by decide))
 unfold Shp.day
 refine bb (dP (mh (k:=95) (ce h.keep hn) (ce h.lack (jm hn))) (ce h.lost (eX hn (eX hy hf)))) (by decide)
noncomputable def Bd (s:Shp) (b:Nat) (f:Int->Int):Prop:=∀ x,-s.depth<=x->x<=s.top->nb b (f x)
theorem Zit {s:Shp} (h:s.Ok) {day:List Int} (hd:DayB day) {y:Int} (y1:-s.depth<=y) (y2:y<=s.top) {A:Int->Int} {b:Nat} (hA:Bd s b A) {sc:Int} (hs:nb b sc):nb (b+150) (s.wg day y A sc):=by
 have:=h.t0
 have:=h.d0
 have:=h.td
 have hlen:=hd.len
 have hy:nb 20 y:=bL (by show -1048576 < _; omega) (by show _ < 1048576; omega)
 have key:∀ (l:List Int) (k:Nat),(∀ w∈l,nb 30 w)->k+l.length<=16->nb (30+(b+101)+l.length) (ws (λf=>sc * s.day y f+A (s.nx y f)) k l):=by
  intro l
  induction l with
  | nil=>intro k _ _; unfold ws nb; exact Nat.pos_of_ne_zero (by simp)
  | cons w l ih =>
   intro k hw hk
   rw [List.length_cons] at hk ⊢
   have hf:nb 40 (k:Int):=bL (by show -1099511627776 < _; omega) (by show _ < 1099511627776; omega)
   have b1:=dP (ce hs (lb h hy hf)) (hA _ (fP s y k) (fO h y2 (show (0:Int)<=k by omega)))
   have h1:=ce (hw w (by simp)) b1
   have h2:=ih (k+1) (λv hv=>hw v (List.mem_cons_of_mem _ hv)) (by omega)
   unfold ws
   exact bb (dP h1 h2) (by omega)
 exact bb (key day 0 hd.nb (by omega)) (by omega)
theorem eB {day:List Int} (hd:DayB day):nb 46 day.sum:=bb (ZaM hd.nb) (by have:=hd.len; omega)
theorem Zjm {s:Shp} (h:s.Ok) {day:List Int} (hd:DayB day) {A:Int->Int} {b:Nat} (hA:Bd s b A) {sc:Int} (hs:nb b sc):Bd s (b+151) (s.sm day A sc):=λy y1 y2=>by
 have:=h.t0
 have:=h.d0
 have:=h.td
 have hy:nb 20 y:=bL (by show -1048576 < _; omega) (by show _ < 1048576; omega)
 unfold Shp.sm
 exact bb (dP (ce (ce (ce hs (eB hd)) h.piece) hy) (Zit h hd y1 y2 hA hs)) (by omega)
end Tw
set_option Elab.async false
set_option linter.all false
set_option maxRecDepth 100000
namespace Tw
open PySem L2
noncomputable abbrev rng (lo hi:Int):List Int:=au lo (hi - lo).toNat
variable {α:Type}
theorem pe (lo:Int) (a b:Nat):au lo (a+b)=au lo a++au (lo+a) b:=by
 unfold au
 rw [List.range_add,List.map_append,List.map_map]
 congr 1
 apply List.map_congr_left
 intro k _
 show lo+((a+k:Nat):Int)=lo+(a:Int)+(k:Int)
 omega
noncomputable def f3 (lo a b c:Int) (t:Int->Int->Int->Option α):Option α:=(rng lo a).findSome? λu=>(rng (u+1) b).findSome? λv=>(rng (v+1) c).findSome? λw=>t u v w
end Tw
set_option Elab.async false
set_option linter.all false
set_option maxRecDepth 100000
namespace Tw
open PySem L2
noncomputable def enu:Nat->List Int->List PyData
 | _,[]=>[]
 | k,n::ns=>.tuple [.int k,.int n]::enu (k+1) ns
theorem ZgM:∀ (ns:List Int) (k:Nat),(List.range' k (ns.map PyData.int).length).zipWith (λ(n:Nat) x=>PyData.tuple [.int n,x]) (ns.map PyData.int)=enu k ns
 | [],k=>rfl
 | n::ns,k=>by
  rw [List.map_cons,List.length_cons,List.range'_succ,List.zipWith_cons_cons,ZgM ns (k+1)]
  rfl
theorem qC (ns:List Int):cL (ns.map PyData.int)=enu 0 ns:=by
 unfold cL
 rw [List.range_eq_range',ZgM]
theorem ZgL:∀ (ns:List Int) (k:Nat),(enu k ns).length=ns.length
 | [],k=>rfl
 | n::ns,k=>by rw [enu,List.length_cons,List.length_cons,ZgL ns]
noncomputable def dM:Nat->List Int->List Int
 | _,[]=>[]
 | k,n::ns=>if n > 0 then (k:Int)::dM (k+1) ns else dM (k+1) ns
theorem oM:∀ {ns:List Int} {k:Nat},(∃ n∈ns,n > 0)->dM k ns≠[]
 | [],k,h=>by obtain ⟨n,h,_⟩:=h; cases h
 | n::ns,k,h=>by
  unfold dM
  split
  ·simp
  ·rename_i hn
   obtain ⟨m,hm,hp⟩:=h
   rcases List.mem_cons.mp hm with rfl | hm
   ·exact absurd hp hn
   ·exact oM ⟨m,hm,hp⟩
noncomputable def great (ls:List Int):Int:=dQ (dM 0 ls)
structure DayOk (most:Nat) (ls:List Int):Prop where
 len:ls.length<=most
 pos:∃ n∈ls,n > 0
 le:∀ n∈ls,0<=n/\n<=1001
theorem Zje {ls:List Int} (h:∀ n∈ls,0<=n):∀ n∈ls,n<=ls.sum:=by
 induction ls with
 | nil=>intro n hn; cases hn
 | cons a l ih =>
  intro n hn
  have h0:0<=l.sum:=by
   clear ih hn
   have h':∀ n∈l,0<=n:=λm hm=>h m (List.mem_cons_of_mem _ hm)
   clear h
   induction l with
   | nil=>decide
   | cons b l ih2 =>
    rw [List.sum_cons]
    have:=h' b (by simp)
    have:=ih2 λm hm=>h' m (List.mem_cons_of_mem _ hm)
    omega
  have ha:=h a (by simp)
  rw [List.sum_cons]
  rcases List.mem_cons.mp hn with rfl | hn
  ·omega
  ·have:=ih (λm hm=>h m (List.mem_cons_of_mem _ hm)) n hn
   omega
theorem DayOk.B {m:Nat} {ls:List Int} (h:DayOk m ls) (hm:m<=16):DayB ls:=by
 refine ⟨Nat.le_trans h.len hm,λw hw=>?_,λw hw=>(h.le w hw).1,?_⟩
 ·have:=h.le w hw
  exact bL (by show -1073741824 < _; omega) (by show _ < 1073741824; omega)
 ·obtain ⟨n,hn,hp⟩:=h.pos
  have:=Zje (λn hn=>(h.le n hn).1) n hn
  omega
structure Shp.Dr (s:Shp):Prop where
 t0:0<=s.top
 d0:0<=s.depth
 td:s.top+s.depth<=39
 p:∀ n∈[s.start,s.piece,s.keep,s.lack,s.lost,s.back,s.late],0<=n/\n<=1000000
theorem Shp.Dr.ok {s:Shp} (h:s.Dr):s.Ok:=by
 have hp:=h.p
 simp only [List.mem_cons,List.not_mem_nil,or_false,forall_eq_or_imp,forall_eq] at hp
 obtain ⟨h1,h2,h3,h4,h5,h6,h7⟩:=hp
 have k:∀ n:Int,0<=n/\n<=1000000->nb 45 n:=λn hn=>bL (by show -35184372088832 < _; omega) (by show _ < 35184372088832; omega)
 exact ⟨h.t0,h.d0,by have:=h.td; omega,h1.1,k _ h1,k _ h2,k _ h3,k _ h4,k _ h5,k _ h6,k _ h7⟩
theorem Zjt {a b c d e f g h i:Int}:PyData.tuple [.int a,.int b,.int c,.int d,.int e,.int f,.int g,.int h,.int i]=(Shp.mk a b c d e f g h i).d:=by
 unfold Shp.d
 rfl
theorem qj (l:List Int):cf (tI l)=.ret (l.map PyData.int):=rfl
theorem Zdr (l:List Int):cf (lI l)=.ret (l.map PyData.int):=rfl
theorem j0 (l:List Int):bH cA [tI l]=.ret (.int l.sum):=ng l
end Tw
set_option Elab.async false
set_option linter.all false
set_option maxRecDepth 100000
set_option exponentiation.threshold 9000
namespace Tw
open PySem L2
structure Rp (d:PyData) (k n:Nat):Prop where
 hd:d.hasDict=false
 sh:d.showable=true
 dp:d.depth<=k
 ln:d.shown.length<=n
theorem ZbH {d:PyData} {k n:Nat} (h:Rp d k n) (hk:k<=32) (hn:n<=10000000):ik d=true:=by
 unfold ik
 rw [h.hd,h.sh,decide_eq_true (Nat.le_trans h.dp hk),decide_eq_true (Nat.le_trans h.ln (Nat.le_trans hn (by rw [sizeLine_eq]; decide)))]
 rfl
theorem ie {d:PyData} {k n k' n':Nat} (h:Rp d k n) (hk:k<=k') (hn:n<=n'):Rp d k' n':=⟨h.hd,h.sh,Nat.le_trans h.dp hk,Nat.le_trans h.ln hn⟩
theorem o8 {i:Int} (h:nb 1900 i):Rp (.int i) 0 1901:=by
 have h1:=Zba [i] λn hn=>by simp at hn; subst hn; exact h
 have h2:=(Za9 [i] λn hn=>by simp at hn; subst hn; exact h).1
 refine ⟨rfl,?_,Nat.zero_le _,?_⟩
 ·simp only [List.map_cons,List.map_nil,PyData.showableAll,Bool.and_true] at h1
  exact h1
 ·simp only [List.map_cons,List.map_nil,PyData.shownAll,List.sum_cons,List.sum_nil,List.length_cons,List.length_nil] at h2
  omega
theorem o9 {k n:Nat}:∀ {xs:List PyData},(∀ x∈xs,Rp x k n)->PyData.hasDictAll xs=false/\PyData.showableAll xs=true/\PyData.depthAll xs<=k/\((PyData.shownAll xs).map (·.length)).sum<=xs.length * n/\(PyData.shownAll xs).length=xs.length
 | [],_=>⟨rfl,rfl,Nat.zero_le _,by simp [PyData.shownAll],rfl⟩
 | x::xs,h=>by
  obtain ⟨h1,h2,h3,h4,h5⟩:=o9 (xs:=xs) λy hy=>h y (List.mem_cons_of_mem _ hy)
  have hx:=h x (by simp)
  refine ⟨?_,?_,?_,?_,?_⟩
  ·rw [PyData.hasDictAll,hx.hd,h1]; rfl
  ·rw [PyData.showableAll,hx.sh,h2]; rfl
  ·rw [PyData.depthAll]; have:=hx.dp; omega
  ·rw [PyData.shownAll,List.map_cons,List.sum_cons,List.length_cons,Nat.succ_mul]; have:=hx.ln; omega
  ·rw [PyData.shownAll,List.length_cons,List.length_cons,h5]
theorem o6 {xs:List PyData} {k n:Nat} (h:∀ x∈xs,Rp x k n):Rp (.tuple xs) (k+1) (xs.length * n+2 * xs.length+10):=by
 obtain ⟨h1,h2,h3,h4,h5⟩:=o9 h
 have c3:=tupleText_len_le (PyData.shownAll xs)
 refine ⟨?_,?_,?_,?_⟩
 ·rw [PyData.hasDict,h1]
 ·rw [PyData.showable,h2]
 ·rw [PyData.depth]; omega
 ·rw [PyData.shown]; omega
theorem ZjU {xs:List PyData} {k n:Nat} (h:∀ x∈xs,Rp x k n):Rp (.list xs) (k+1) (xs.length * n+2 * xs.length+10):=by
 obtain ⟨h1,h2,h3,h4,h5⟩:=o9 h
 have c3:=listText_len_le (PyData.shownAll xs)
 refine ⟨?_,?_,?_,?_⟩
 ·rw [PyData.hasDict,h1]
 ·rw [PyData.showable,h2]
 ·rw [PyData.depth]; omega
 ·rw [PyData.shown]; omega
theorem o7 {l:List Int} {m:Nat} (h:∀ n∈l,nb 1900 n) (hl:l.length<=m):Rp (tI l) 1 (m * 1903+10):=by
 refine ie (o6 (k:=0) (n:=1901) λx hx=>?_) (Nat.le_refl _) ?_
 ·obtain ⟨i,hi,rfl⟩:=List.mem_map.mp hx
  exact o8 (h i hi)
 ·rw [List.length_map]
  have:l.length * 1903<=m * 1903:=Nat.mul_le_mul_right _ hl
  omega
theorem ZjR {s:Shp} (h:s.Ok):Rp s.d 1 20000:=by
 have e:s.d=tI s.l:=by unfold Shp.d; rfl
 rw [e]
 refine ie (o7 (m:=9) (λn hn=>?_) (Nat.le_refl _)) (Nat.le_refl _) (by decide)
 have:=h.t0
 have:=h.d0
 have:=h.td
 unfold Shp.l at hn
 simp only [List.mem_cons,List.not_mem_nil,or_false] at hn
 have k:∀ n:Int,nb 45 n->nb 1900 n:=λn hn=>bb hn (by decide)
 have k1:nb 1900 s.top:=k _ (bL (by show -35184372088832 < _; omega) (by show _ < 35184372088832; omega))
 have k2:nb 1900 s.depth:=k _ (bL (by show -35184372088832 < _; omega) (by show _ < 35184372088832; omega))
 rcases hn with rfl | rfl | rfl | rfl | rfl | rfl | rfl | rfl | rfl
 ·exact k1
 ·exact k2
 ·exact k _ h.start
 ·exact k _ h.piece
 ·exact k _ h.keep
 ·exact k _ h.lack
 ·exact k _ h.lost
 ·exact k _ h.back
 ·exact k _ h.late
theorem ZjV {l:List Int} (h:DayB l):Rp (tI l) 1 40000:=ie (o7 (m:=16) (λn hn=>bb (h.nb n hn) (by decide)) h.len) (Nat.le_refl _) (by decide)
theorem ZaP (x:Str):(x == x)=true:=by simp
end Tw
set_option Elab.async false
set_option linter.all false
set_option maxRecDepth 100000
set_option exponentiation.threshold 9000
namespace Tw
open PySem L2
theorem euclid {p:List Sl->Tr Bool} {s:List Sl->Tr Ou} {E:Nat->Nat->List Sl} (hp:∀ a b:Nat,p (E a b)=.ret (decide (b≠0))) (hs:∀ a b:Nat,b≠0->s (E a b)=.ret (.next (E b (a % b)))) :
  ∀ n k a b:Nat,b < 2 ^ n->cw p s (2 * n+1+k) (E a b)=.ret (.next (E (Nat.gcd a b) 0)):=by
 have stop:∀ k a:Nat,cw p s (k+1) (E a 0)=.ret (.next (E a 0)):=λk a=>by
  rw [cw,hp,Tr.ret_bind]
  rfl
 have go:∀ k a b:Nat,b≠0->cw p s (k+1) (E a b)=cw p s k (E b (a % b)):=λk a b hb=>by
  rw [cw,hp,Tr.ret_bind,decide_eq_true hb,if_pos rfl,hs a b hb,Tr.ret_bind]
 intro n
 induction n with
 | zero =>
  intro k a b hb
  have e:b=0:=by simp at hb; exact hb
  subst e
  rw [Nat.gcd_zero_right,Nat.add_comm (2 * 0+1) k]
  exact stop k a
 | succ n ih =>
  intro k a b hb
  by_cases h0:b=0
  ·subst h0
   have e:2 * (n+1)+1+k=(2 * (n+1)+k)+1:=by omega
   rw [Nat.gcd_zero_right,e]
   exact stop _ a
  ·have e:2 * (n+1)+1+k=(2 * n+2+k)+1:=by omega
   rw [e,go _ a b h0]
   have hr:a % b < b:=Nat.mod_lt _ (Nat.pos_of_ne_zero h0)
   by_cases h1:a % b=0
   ·rw [h1]
    have e2:2 * n+2+k=(2 * n+1+k)+1:=by omega
    have eg:Nat.gcd a b=b:=by rw [Nat.gcd_comm,Nat.gcd_rec,h1,Nat.gcd_zero_left]
    rw [e2,eg]
    exact stop _ b
   ·have e2:2 * n+2+k=(2 * n+1+k)+1:=by omega
    rw [e2,go _ b (a % b) h1]
    have hlt:b % (a % b) < 2 ^ n:=by
     have h2:b % (a % b) < a % b:=Nat.mod_lt _ (Nat.pos_of_ne_zero h1)
     have h3:b % (a % b)+a % b<=b:=by
      have h4:=Nat.div_add_mod b (a % b)
      have h5:1<=b / (a % b):=(Nat.le_div_iff_mul_le (Nat.pos_of_ne_zero h1)).mpr (by omega)
      have h6:a % b<=(a % b) * (b / (a % b)):=Nat.le_mul_of_pos_right _ h5
      omega
     rw [Nat.pow_succ] at hb
     omega
    rw [ih k (a % b) (b % (a % b)) hlt]
    have eg:Nat.gcd a b=Nat.gcd (a % b) (b % (a % b)):=by
     rw [Nat.gcd_comm a b,Nat.gcd_rec b a,Nat.gcd_rec (a % b) b,Nat.gcd_comm]
    rw [eg]
theorem ZdV (a b:Nat):(a:Int).fmod (b:Int)=((a % b:Nat):Int):=by
 rw [Int.fmod_eq_emod_of_nonneg _ (Int.natCast_nonneg b)]
 rfl
theorem ZhZ (n:Int):nG n=(n.natAbs:Int):=by
 unfold nG
 split <;> omega
noncomputable def bC (t b:Int):PyData:=.tuple [.int (Gc.b8 t b),.int (Gc.bQ t b)]
theorem ZcZ {t b:Int} {k l:Nat} (ht:nb k t) (hb:nb l b) (h0:b≠0):nb k (Gc.b8 t b)/\nb l (Gc.bQ t b):=by
 obtain ⟨h1,h2⟩:=Gc.pT (t:=t) h0
 exact ⟨Nat.lt_of_le_of_lt h1 ht,Nat.lt_of_le_of_lt h2 hb⟩
theorem Zg5 {t b:Int} {l:Nat} (hb:nb l b) (h0:b≠0):nb l (Gc.den t b):=by
 unfold nb
 rw [Gc.qK]
 exact Nat.lt_of_le_of_lt (Nat.gcd_le_right _ (by omega)) hb
noncomputable def pr (p:Int×Int):List Int:=[p.1,p.2]
end Tw
set_option Elab.async false
set_option linter.all false
set_option maxRecDepth 100000
namespace L2
open PySem PySem.Spec PyProof.Rows
variable {PK:Pk} {X:Cx} {st:Stmt} {i n:List Sl->Tr PyData}
noncomputable def Zb6 (K:PySem.W.Frag):V->V->Hp->VK->Prop:=λx y H Q=>∃ p xs i v,x=.ref p/\y=.int i/\SqL K H p xs/\0<=i/\a9 xs i=some v/\Q v H
theorem ZdC:Zia X (Zb6 X.K):=by
 intro pins s σ H x y v u Q I rx ry h
 obtain ⟨p,xs,i,z,rfl,rfl,hq,h0,he,q⟩:=h
 cases rx
 obtain ⟨t,rfl⟩:=ry
 obtain ⟨its,r,pl,hz⟩:=I.list hq
 obtain ⟨j,h1,h2,h3,h4,h5⟩:=nA he
 obtain ⟨w,ew,rw'⟩:=r.get h2
 have hl:=r.length
 have hn:=gO
 have fin:EP X pins σ Q w s:=⟨z,H,I,rw',q⟩
 have hj:i.toNat=j:=by
  rw [seqIndex_of h0 h5] at h1
  exact Option.some.inj h1
 exact wpAny_getItem_list pl.isList h0 (by omega) (by rw [hj]; simpa using ew) fin
noncomputable def pL (xs:List PyData):PyData->Option (Nat×Int)
 | .int y=>if 0<=y then (match xs[y.toNat]? with | some (.int a)=>some (y.toNat,a) | _=>none) else none
 | _=>none
noncomputable def Zdw:PyData->Option Int
 | .int b=>some b
 | _=>none
noncomputable def iR (g:Int->Int->Int) (k:Nat) (n i:List Sl->Tr PyData):List Sl->Tr Ou:=λρ=>match ρ[k]? with
 | some (.own xs)=>(n ρ).bind λy=>(Tr.of (pL xs y)).bind λja=>(i ρ).bind λz=>(Tr.of (Zdw z)).bind λb=>.ret (.next (ρ.set k (.own (xs.set ja.1 (.int (g ja.2 b))))))
 | _=>.fail
theorem ZhP {k:Nat} {g:Int->Int->Int} (h:PS X st (ZaB (cU k) (TAe PK n) (TAe PK i) (Zb6 X.K) (qk g) jc)):PS X st (bg PK (iR g k n i)):=h.imp λD σ H hz0=>by
 obtain ⟨pa,G₀,H₀,m,ρ,G,R,z⟩:=hz0
 unfold iR at z
 split at z
 ·rename_i xs hx
  obtain ⟨o,h1,h2⟩:=R.sl k _ hx
  cases h2 with
  | @own p vs _ a1 a2 a3 a4 =>
   refine ⟨_,h1,?_⟩
   refine TAe.then R z λm1 y v G1 H1 s1 w1 R1 d1 q1=>?_
   rw [Tr.ok_bind] at q1
   obtain ⟨ja,hja,q1⟩:=Tr.ok_of q1
   cases d1 with
   | int y =>
    have hy:∃ a,0<=y/\xs[y.toNat]?=some (.int a)/\ja=(y.toNat,a):=by
     have hja:(if 0<=y then (match xs[y.toNat]? with | some (.int a)=>some (y.toNat,a) | _=>none) else none)=some ja:=hja
     by_cases h0:0<=y
     ·rw [if_pos h0] at hja
      cases e:xs[y.toNat]? with
      | none=>rw [e] at hja; cases hja
      | some u =>
       rw [e] at hja
       cases u with
       | int a=>cases hja; exact ⟨a,h0,rfl,rfl⟩
       | _=>cases hja
     ·rw [if_neg h0] at hja; cases hja
    obtain ⟨a,h0,hat,rfl⟩:=hy
    obtain ⟨o,h1',h2⟩:=R1.sl k _ hx
    rw [h1] at h1'
    cases h1'
    cases h2 with
    | @own _ vs1 _ b1 b2 b3 b4 =>
     obtain ⟨va,hva,da⟩:=DnAll.get y.toNat b4 hat
     cases da
     refine ⟨p,vs1,y,.int a,rfl,rfl,SqL.of b1,h0,dF h0 hva,?_⟩
     refine TAe.then R1 q1 λm2 z2 u G2 H2 s2 w2 R2 d2 q2=>?_
     rw [Tr.ok_bind] at q2
     obtain ⟨b,hb,q2⟩:=Tr.ok_of q2
     cases d2 with
     | int b' =>
      cases hb
      obtain ⟨o,h1',h2⟩:=R2.sl k _ hx
      rw [h1] at h1'
      cases h1'
      cases h2 with
      | @own _ vs2 _ c1 c2 c3 c4 =>
       have hlt:y.toNat < xs.length:=(List.getElem?_eq_some_iff.mp hat).1
       refine ⟨a,b,rfl,rfl,p,vs2,y,y.toNat,rfl,rfl,c1,?_,?_⟩
       ·unfold bG
        rw [if_pos h0,if_pos (by rw [c4.length]; omega)]
       ·exact q2 σ G2 _ (s1.gs.trans s2.gs) (R2.change hx h1 (c4.set y.toNat (.int _)))
     | _=>cases hb
   | _=>cases hja
 ·exact z.elim
variable {ρ:List Sl} {k:Nat} {g:Int->Int->Int} {xs:List PyData} {sl:Sl}
noncomputable def ag3 (g:Int->Int->Int) (k:Nat) (xs:List PyData) (ρ:List Sl) (ja:Nat×Int) (b:Int):Tr Ou:=.ret (.next (ρ.set k (.own (xs.set ja.1 (.int (g ja.2 b))))))
noncomputable def rz (g:Int->Int->Int) (k:Nat) (xs:List PyData) (ρ:List Sl) (ja:Nat×Int) (z:PyData):Tr Ou:=(Tr.of (Zdw z)).bind (ag3 g k xs ρ ja)
noncomputable def rA (g:Int->Int->Int) (k:Nat) (i:List Sl->Tr PyData) (xs:List PyData) (ρ:List Sl) (ja:Nat×Int):Tr Ou:=(i ρ).bind (rz g k xs ρ ja)
noncomputable def rB (g:Int->Int->Int) (k:Nat) (i:List Sl->Tr PyData) (xs:List PyData) (ρ:List Sl) (y:PyData):Tr Ou:=(Tr.of (pL xs y)).bind (rA g k i xs ρ)
theorem Zgl (h:ρ[k]?=some (.own xs)):iR g k n i ρ=(n ρ).bind (rB g k i xs ρ):=by
 unfold iR
 rw [h]
 rfl
theorem Zgw {y:Int} {a:Int} (h0:0<=y) (h:xs[y.toNat]?=some (.int a)):rB g k i xs ρ (.int y)=rA g k i xs ρ (y.toNat,a):=by
 have e:pL xs (.int y)=some (y.toNat,a):=by
  show (if 0<=y then (match xs[y.toNat]? with | some (.int a)=>some (y.toNat,a) | _=>none) else none)=_
  rw [if_pos h0,h]
 unfold rB
 rw [e]
 rfl
theorem Zgv {ja:Nat×Int}:rA g k i xs ρ ja=(i ρ).bind (rz g k xs ρ ja):=rfl
theorem Zgu {ja:Nat×Int} (b:Int):rz g k xs ρ ja (.int b)=.ret (.next (ρ.set k (.own (xs.set ja.1 (.int (g ja.2 b)))))):=rfl
end L2
set_option Elab.async false
set_option linter.all false
set_option maxRecDepth 100000
namespace L2
open PySem PySem.Spec PyProof.Rows
variable {PK:Pk} {X:Cx} {e:Expr} {pos:Pos} {is:List Sl->Tr (List PyData)} {st:Stmt} {s:List Sl->Tr Ou}
noncomputable def rem (H:Hp) (p:Addr):Hp:=λb=>if b=p then none else H b
theorem pd {H:Hp} {p b:Addr} (h:b≠p):rem H p b=H b:=if_neg h
theorem Zj6 {H:Hp} {p:Addr}:rem H p p=none:=if_pos rfl
theorem Zj5 {H:Hp} {p b:Addr} {o:HO} (h:rem H p b=some o):H b=some o:=by
 unfold rem at h
 split at h
 ·cases h
 ·exact h
noncomputable def ZoC (PK:Pk) (f:List Sl->Tr Re):Sp:=λvs H Q _=>∃ p us xs pa m G,vs=[.ref p]/\H p=some (.lst us)/\G p=none/\p≠pa/\Wd PK pa m G H/\DnAll G us xs/\(f [.own xs]).ok m λm' r=>Kr PK pa m' G (rem H p) r Q
noncomputable def sf (PK:Pk) (P:Program) (w:World) (K:PySem.W.Frag) (mg:Str->Option Value) (base:Heap) (x:Str) (k:Nat) (y:Str) (f:List Sl->Tr Re):Prop:=Callee P w K mg base x k [y] (ZoC PK f)
theorem ZoA {P:Program} {w:World} {K:PySem.W.Frag} {mg:Str->Option Value} {base:Heap} {x y:Str} {N:List Str} {kk k:Nat} (D:Def K mg x st [y]) (S:FnScope N [y] (aH st)) (hk:N.length - 1=k) (hN:1<=N.length)
  (hbody:∀ (f:Addr) (cdv:Value) (A:Around) (outer:List Env) (sh:Shared) (H:Hp) (E:XK),Room kk (A.deeper (envOfC x (aH st) sh.heap.objs.size f cdv)) ->
   PSs (fU gi P w K mg base N x (aH st) f cdv A outer sh H E).nox (fB st) (bg PK s)):sf PK P w K mg base x (kk+1) y (bv 1 k s):=by
 refine D.ok S (λvs H Q E h=>?_) λf cdv A outer sh H vs Q E hr hsp=>?_
 ·obtain ⟨p,us,xs,pa,m,G,rfl,_⟩:=h
  rfl
 ·obtain ⟨p,us,xs,pa,m,G,rfl,h1,h2,h3,wd,dn,z⟩:=hsp
  refine ⟨_,hbody f cdv A outer sh H E hr,?_⟩
  unfold bv at z
  obtain ⟨_,z⟩:=fv z
  have R:Rl PK pa G (rem H p) m (L2.start N [.ref p]) ([.own xs]++List.replicate k .un) G H:=by
   obtain ⟨o,ho,hpk⟩:=wd.pen
   have hs:∀ (q:Nat) (sl:Sl),([Sl.own xs]++List.replicate k .un)[q]?=some sl->(q=0/\sl=.own xs)\/(1<=q/\q < k+1/\sl=.un):=λq sl h=>by
    cases q with
    | zero=>simp at h; exact .inl ⟨rfl,h.symm⟩
    | succ q =>
     simp only [List.cons_append,List.nil_append,List.getElem?_cons_succ,List.getElem?_replicate] at h
     split at h
     ·cases h
      exact .inr ⟨by omega,by omega,rfl⟩
     ·cases h
   refine ⟨wd,⟨λ_ _ h=>h,λ_ _ h=>.inl h,λb o h _=>Zj5 h⟩,⟨o,by rw [pd (Ne.symm h3)]; exact ho⟩,λq sl h=>?_,?_,λq n xs ys hn q1 q2=>?_,λq n xs ys hn q1 q2=>?_⟩
   ·rcases hs q sl h with ⟨rfl,rfl⟩ | ⟨a,b,rfl⟩
    ·exact ⟨_,rfl,.own h1 h2 Zj6 dn⟩
    ·unfold L2.start
     refine ⟨none,?_,.un⟩
     rw [List.getElem?_append_right (by simpa using a),List.getElem?_replicate,if_pos (by simp; omega)]
   ·unfold L2.start
    simp
    omega
   ·rcases hs q _ q1 with ⟨rfl,_⟩ | ⟨_,_,z⟩
    ·rcases hs n _ q2 with ⟨rfl,_⟩ | ⟨_,_,z⟩
     ·exact absurd rfl hn
     ·cases z
    ·cases z
   ·rcases hs q _ q1 with ⟨_,z⟩ | ⟨_,_,z⟩ <;> cases z
  refine ⟨pa,G,rem H p,m,_,G,R,Tr.ok_mono (Tr.ok_bind.mp z) λm1 o ko=>?_⟩
  cases o with
  | next ρ=>exact λσ G1 H1 sb R1=>ko .non G1 H1 R1.st R1.wd .non
  | ret r=>exact ko
  | brk ρ=>exact ko.elim
  | cont ρ=>exact ko.elim
noncomputable def cO (f:List Sl->Tr Re) (xs:List PyData):Tr Re:=f [.own xs]
noncomputable def rL (f:List Sl->Tr Re) (is:List Sl->Tr (List PyData)):List Sl->Tr Re:=λρ=>(is ρ).bind (cO f)
theorem Zge {f:List Sl->Tr Re} {ρ:List Sl}:rL f is ρ=(is ρ).bind (cO f):=rfl
theorem Zgg {f:List Sl->Tr Re} {xs:List PyData}:cO f xs=f [.own xs]:=rfl
theorem Zoo {x y:Str} {k:Nat} {f:List Sl->Tr Re} {pp:Pos} (C:sf PK X.prog X.w X.K X.mg X.base x k y f) (hr:Room k X.A) (hg:Gl X x) (ha:PE X e (cT PK is))
  (hdb:(x == ("__debug__":Str))=false:=by decide)
  (hs:starEach [e] X.env=(false,eval e X.env)::starEach [] X.env:=by rfl) (hpl:(backTo pos (starEach [] X.env)).any (·.1)=false:=by rfl):PE X (.Call (.Name x pp) [e] [] pos) (nP PK (rL f is)) :=
 (l8 C hr hg (bU ha ci hs) hdb hs hpl).imp λσ H Q hz0=>by
  obtain ⟨pa,G₀,H₀,m,ρ,G,R,z⟩:=hz0
  refine ⟨pa,G₀,H₀,m,ρ,G,R,Tr.ok_mono (Tr.ok_bind.mp z) λm1 xs q1=>?_⟩
  intro p vs G' H' s1 w1 hp hgp hl dn
  obtain ⟨o,ho,_⟩:=R.wd.pen
  have hne:p≠pa:=λe=>by rw [e,ho] at hp; cases hp
  refine ⟨p,vs,xs,pa,m1,G',rfl,hl,hgp,hne,w1,dn,Tr.ok_mono q1 λm2 r k=>?_⟩
  refine Kr.later k ⟨s1.gs,s1.gn,λb o h n=>?_⟩ ?_
  ·have hb:b≠p:=λe=>by rw [e,hp] at h; cases h
   rw [pd hb]
   exact s1.hk b o h n
  ·obtain ⟨o',ho',_⟩:=w1.pen
   exact ⟨o',by rw [pd (Ne.symm hne)]; exact ho'⟩
end L2
set_option Elab.async false
set_option linter.all false
set_option maxRecDepth 100000
namespace L2
open PySem PySem.Spec PyProof.Rows
variable {PK:Pk} {X:Cx} {st:Stmt}
noncomputable def jQ (k:Nat) (i:List Sl->Tr (List PyData)):List Sl->Tr (List PyData):=λρ=>(i (fz k ρ)).bind λxs=>if xs.all gT=true then .ret xs else .fail
theorem DnAll.flat_any {G G':Hp}:∀ {vs:List V} {xs:List PyData},DnAll G vs xs->xs.all gT=true->DnAll G' vs xs
 | _,_,.nil,_=>.nil
 | _,_,.cons h t,e=>by
  rw [List.all_cons,Bool.and_eq_true] at e
  exact .cons (Dn.flat_any h e.1) (DnAll.flat_any t e.2)
theorem ZlN (L:PkLow PK) {k:Nat} {i:List Sl->Tr (List PyData)} (σ:St) (H:Hp) (Q:VK) (hz0:cT PK (jQ k i) σ H Q):cT PK i σ H Q:=by
 obtain ⟨pa,G₀,H₀,m,ρ,G,R,z⟩:=hz0
 obtain ⟨G',sb,R'⟩:=R.freeze k
 refine ⟨pa,G₀,H₀,m,fz k ρ,G',R',Tr.ok_mono (Tr.ok_bind.mp z) λm1 xs q1=>?_⟩
 obtain ⟨hf,kk⟩:=fv (c:=xs.all gT) q1
 intro p vs G3 H3 s3 w3 hp hg hH dn
 have s13:Stp pa G H G H3:=⟨λ_ _ h=>h,λ_ _ h=>.inl h,s3.hk⟩
 obtain ⟨o1,e1,p1⟩:=R.wd.pen
 obtain ⟨o3,e3,p3⟩:=w3.pen
 have w13:Wd PK pa m1 G H3:=⟨λb o h=>s3.hk b o (R.wd.sub b o h) (λz=>by subst z; rw [R.wd.gpa] at h; cases h),R.wd.gpa,o3,e3,L.low p1 (sb.trans s3.gs) p3⟩
 have hG:G p=none:=by
  cases e:G p with
  | none=>rfl
  | some u =>
   have:=s3.gs _ _ (sb _ _ e)
   rw [hg] at this
   cases this
 exact kk p vs G H3 s13 w13 hp hG hH (dn.flat_any hf)
theorem Zoi (L:PkLow PK) {j:Nat} {is:List Sl->Tr (List PyData)} {p:List Sl->Tr Bool} {i:List Sl->Tr PyData} {n k:Nat} {ix:List Nat} {g:PyData->List Sl->Option (List Sl)} (h:PS X st (dL (jX (dZ PK is) n ix (λ_=>fh PK g) (λ_=>TAt PK p) (λ_=>TAe PK i)) (eZ k))) (hn:gg n g):PS X st (bg PK (aX k (bX (jQ j (f9 is n ix g p i))))) :=
 bd (h.imp (ZaD λσ H Q z=>Zdb hn σ H Q (ZlN L σ H Q (ZcA σ H Q z))))
end L2
set_option Elab.async false
set_option linter.all false
set_option maxRecDepth 100000
namespace L2
open PySem PySem.Spec PyProof.Rows
variable {PK:Pk} {X:Cx} {pos:Pos} {st:Stmt}
noncomputable def ib (k:Nat) (n:List Sl->Tr PyData) (x:PyData):List Sl->Tr (List Sl):=λρ=>match ρ[k]? with
 | some (.own xs)=>(n ρ).bind λy=>match y with
  | .int y=>(Tr.of (bG xs.length y)).bind λj=>.ret (ρ.set k (.own (xs.set j x)))
  | _=>.fail
 | _=>.fail
theorem Zbg {pa:Addr} {G₀ H₀ G1 H1:Hp} {m:Nat} {σ:St} {ρ:List Sl} {k:Nat} {n:List Sl->Tr PyData} {x:PyData} {v:V} {Q:St->Hp->Prop} (R1:Rl PK pa G₀ H₀ m σ ρ G1 H1) (d1:Dn G1 v x)
  (q1:(ib k n x ρ).ok m λm' ρ'=>∀ G' H',Sub G1 G'->Rl PK pa G₀ H₀ m' σ ρ' G' H'->Q σ H'):kY (cU k) (TAe PK n) jc v σ H1 Q:=by
 unfold ib at q1
 split at q1
 ·rename_i xs hx
  obtain ⟨o,h1,h2⟩:=R1.sl k _ hx
  cases h2 with
  | @own p vs _ a1 a2 a3 a4 =>
   refine ⟨_,h1,?_⟩
   refine TAe.then R1 q1 λm2 y u G2 H2 s2 w2 R2 d2 q2=>?_
   obtain ⟨o,h1',h2⟩:=R2.sl k _ hx
   rw [h1] at h1'
   cases h1'
   cases h2 with
   | @own _ vs2 _ b1 b2 b3 b4 =>
    cases d2 with
    | int y =>
     rw [Tr.ok_bind] at q2
     obtain ⟨n',hn,q2⟩:=Tr.ok_of q2
     refine ⟨p,vs2,y,n',rfl,rfl,b1,by rw [b4.length]; exact hn,?_⟩
     exact q2 G2 _ s2.gs (R2.change hx h1 (b4.set n' (d1.mono s2.gs)))
    | _=>exact q2.elim
 ·exact q1.elim
noncomputable def swp (k:Nat) (n1 n2:List Sl->Tr PyData) (ρ:List Sl):PyData->Tr Ou
 | .tuple [x,y]=>(ib k n1 x ρ).bind λρ1=>(ib k n2 y ρ1).bind λρ2=>.ret (.next ρ2)
 | _=>.fail
noncomputable def nI (k:Nat) (n1 n2 i:List Sl->Tr PyData):List Sl->Tr Ou:=λρ=>(i ρ).bind (swp k n1 n2 ρ)
theorem Zoh {k:Nat} {n1 n2 i:List Sl->Tr PyData} (h:PS X st (dL (TAe PK i) (ZdJ X.K 2 (qv (kY (cU k) (TAe PK n1) jc) (qv (kY (cU k) (TAe PK n2) jc) ZdK))))):PS X st (bg PK (nI k n1 n2 i)):=h.imp λD σ H hz0=>by
 obtain ⟨pa,G₀,H₀,m,ρ,G,R,z⟩:=hz0
 refine TAe.then R z λm1 t v G1 H1 s1 w1 R1 d1 q1=>?_
 unfold swp at q1
 split at q1
 ·rename_i x y
  cases d1 with
  | tup a1 a2 =>
   cases a2 with
   | cons e1 a2 =>
    cases a2 with
    | cons e2 a2 =>
     cases a2
     refine ⟨_,_,rfl,SqT.of (w1.sub _ _ a1),rfl,_,_,rfl,Zbg R1 e1 (Tr.ok_mono (Tr.ok_bind.mp q1) λm2 ρ2 z2 G2 H2 sb R2=>?_)⟩
     refine ⟨_,_,rfl,Zbg R2 (e2.mono sb) (Tr.ok_mono (Tr.ok_bind.mp z2) λm3 ρ3 z3 G3 H3 sb2 R3=>?_)⟩
     exact ⟨rfl,z3 σ G3 H3 (s1.gs.trans (sb.trans sb2)) R3⟩
 ·exact q1.elim
end L2
set_option Elab.async false
set_option linter.all false
set_option maxRecDepth 100000
namespace Bar
noncomputable abbrev ag:=Nat->Int
noncomputable def lap (f:ag->Int):List ag->(List ag->Int)->Int
 | [],_=>0
 | c::cs,g=>f c * g cs - lap f cs λr=>g (c::r)
theorem mN (f:ag->Int) (m:Int):∀ (cs:List ag) (g h:List ag->Int),lap f cs (λr=>m * g r - h r)=m * lap f cs g - lap f cs h
 | [],g,h=>by simp [lap]
 | c::cs,g,h=>by
  rw [lap,lap,lap,mN f m cs (λr=>g (c::r)) λr=>h (c::r)]
  grind
theorem Zdf (f:ag->Int):∀ cs:List ag,lap f cs (λ_=>0)=0
 | []=>rfl
 | c::cs=>by rw [lap,Zdf f cs]; simp
theorem mK (f h:ag->Int):∀ (cs:List ag) (g:List ag->Int),lap f cs (λr=>lap h r g)=-lap h cs λr=>lap f r g
 | [],g=>by simp [lap]
 | c::cs,g=>by
  have ih:=mK f h cs λr=>g (c::r)
  have e1:(λr=>lap h (c::r) g)=λr=>h c * g r - lap h r λq=>g (c::q):=rfl
  have e2:(λr=>lap f (c::r) g)=λr=>f c * g r - lap f r λq=>g (c::q):=rfl
  rw [lap,lap,e1,e2,mN,mN,ih]
  grind
noncomputable def D:Nat->List ag->Int
 | 0,_=>1
 | k+1,cs=>lap (λc=>c k) cs (D k)
theorem Zii:∀ {k r:Nat},r < k->∀ cs:List ag,lap (λc=>c r) cs (D k)=0
 | 0,r,h,_=>by cases h
 | k+1,r,h,cs=>by
  have e:lap (λc=>c r) cs (D (k+1))=lap (λc=>c r) cs λq=>lap (λc=>c k) q (D k):=rfl
  rw [e]
  by_cases hr:r=k
  ·subst hr
   have:=mK (λc=>c r) (λc=>c r) cs (D r)
   omega
  ·rw [mK]
   have ez:(λq=>lap (λc=>c r) q (D k))=λ_=>(0:Int):=funext λq=>Zii (by omega) q
   rw [ez,Zdf]
   rfl
variable (A:Nat->Nat->Int)
noncomputable def col (l:Nat):ag:=λr=>A r l
noncomputable def R:Nat->List ag
 | 0=>[]
 | k+1=>col A k::R k
noncomputable def ad (f:Nat->Int):Nat->Int
 | 0=>0
 | n+1=>ad f n+f n
theorem eD {f g:Nat->Int}:∀ {n:Nat},(∀ l,l < n->f l=g l)->ad f n=ad g n
 | 0,_=>rfl
 | n+1,h=>by rw [ad,ad,eD λl hl=>h l (by omega),h n (by omega)]
theorem fr (f g h:Nat->Int) (a b:Int):∀ n:Nat,ad (λl=>f l * (a * g l - b * h l)) n=a * ad (λl=>f l * g l) n - b * ad (λl=>f l * h l) n
 | 0=>by simp [ad]
 | n+1=>by
  rw [ad,ad,ad,fr f g h a b n]
  grind
theorem ia {f:Nat->Int} {n:Nat} (h:∀ l,l < n->f l=0):ad f n=0:=by
 rw [eD (g:=λ_=>0) h]
 induction n with
 | zero=>rfl
 | succ n ih=>rw [ad,ih λl hl=>h l (by omega)]; rfl
noncomputable def cy:Nat->(List ag->Int)->Nat->Int
 | 0,_,_=>0
 | k+1,g,l=>if l=k then g (R A k) else -cy k (λcs=>g (col A k::cs)) l
theorem Zdk (f:ag->Int):∀ (k:Nat) (g:List ag->Int),lap f (R A k) g=ad (λl=>f (col A l) * cy A k g l) k
 | 0,g=>rfl
 | k+1,g=>by
  have e1:ad (λl=>f (col A l) * cy A (k+1) g l) k=-ad (λl=>f (col A l) * cy A k (λcs=>g (col A k::cs)) l) k:=by
   have:∀ n,n<=k->ad (λl=>f (col A l) * cy A (k+1) g l) n=-ad (λl=>f (col A l) * cy A k (λcs=>g (col A k::cs)) l) n:=by
    intro n
    induction n with
    | zero=>intro _; rfl
    | succ n ih =>
     intro hn
     rw [ad,ad,ih (by omega)]
     have e:cy A (k+1) g n=-cy A k (λcs=>g (col A k::cs)) n:=by rw [cy,if_neg (by omega)]
     rw [e]
     grind
   exact this k (Nat.le_refl _)
  have e2:cy A (k+1) g k=g (R A k):=by rw [cy,if_pos rfl]
  rw [R,lap,Zdk f k,ad,e1,e2]
  omega
noncomputable def d (k:Nat):Int:=D k (R A k)
noncomputable def sol (k:Nat) (a:ag):Nat->Int:=cy A k λcs=>D k (a::cs)
noncomputable def F (k:Nat) (i:Nat) (a:ag):Int:=d A k * a i - ad (λl=>A i l * sol A k a l) k
theorem qa (k i:Nat) (a:ag):lap (λc=>c i) (a::R A k) (D k)=F A k i a:=by
 rw [lap,Zdk]
 unfold F d sol col
 rw [Int.mul_comm]
theorem cramer {k r:Nat} (h:r < k) (a:ag):ad (λl=>A r l * sol A k a l) k=d A k * a r:=by
 have:=qa A k r a
 rw [Zii h] at this
 unfold F at this
 omega
theorem lc (k:Nat):d A (k+1)=F A k k (col A k):=by
 rw [<- qa]
 rfl
theorem iI:d A 0=1:=rfl
theorem sole:∀ {k:Nat},(∀ j,j<=k->d A j≠0)->∀ {z:Nat->Int},(∀ r,r < k->ad (λl=>A r l * z l) k=0)->∀ l,l < k->z l=0
 | 0,_,z,_,l,hl=>by cases hl
 | k+1,hd,z,hz,l,hl=>by
  have ih:∀ z:Nat->Int,(∀ r,r < k->ad (λl=>A r l * z l) k=0)->∀ l,l < k->z l=0:=λz=>sole (k:=k) (λj hj=>hd j (by omega)) (z:=z)
  have dk:=hd k (by omega)
  have dk1:=hd (k+1) (by omega)
  -- d k times z,beside what the last of z asks of the first k
  have key:∀ l,l < k->1 * (d A k * z l - (-z k) * sol A k (col A k) l)=0:=by
   intro l hl
   have:=ih (λl=>d A k * z l - (-z k) * sol A k (col A k) l) (λr hr=>by
    rw [fr,cramer A hr]
    have h1:=hz r (by omega)
    rw [ad] at h1
    have e:ad (λl=>A r l * z l) k=-(A r k * z k):=by omega
    rw [e]
    show d A k * -(A r k * z k) - -z k * (d A k * A r k)=0
    grind) l hl
   simpa using this
  have hk:z k=0:=by
   have h1:=hz k (by omega)
   rw [ad] at h1
   have e1:ad (λl=>A k l * (d A k * z l - (-z k) * sol A k (col A k) l)) k=0:=ia λl hl=>by
    have:=key l hl
    rw [Int.one_mul] at this
    rw [this,Int.mul_zero]
   rw [fr] at e1
   have e2:=lc A k
   unfold F at e2
   have e3:ad (λl=>A k l * z l) k=-(A k k * z k):=by omega
   rw [e3] at e1
   have e4:col A k k=A k k:=rfl
   rw [e4] at e2
   generalize ad (λl=>A k l * sol A k (col A k) l) k=S at *
   have e5:z k * d A (k+1)=0:=by
    rw [e2]
    grind
   rcases Int.mul_eq_zero.mp e5 with q | q
   ·exact q
   ·exact absurd q dk1
  by_cases hlk:l=k
  ·rw [hlk]; exact hk
  ·have:=key l (by omega)
   rw [hk] at this
   have e:d A k * z l=0:=by
    rw [Int.one_mul] at this
    simpa using this
   rcases Int.mul_eq_zero.mp e with q | q
   ·exact absurd q dk
   ·exact q
end Bar
set_option Elab.async false
set_option linter.all false
set_option maxRecDepth 100000
namespace Bar
variable (A:Nat->Nat->Int)
theorem step {k:Nat} (hd:∀ j,j<=k+1->d A j≠0) (a:ag):sol A (k+1) a k=F A k k a/\∀ l,l < k->d A k * sol A (k+1) a l=d A (k+1) * sol A k a l - F A k k a * sol A k (col A k) l:=by
 have dk:=hd k (by omega)
 have e0:=lc A k
 have eF:F A k k a=d A k * a k - ad (λl=>A k l * sol A k a l) k:=rfl
 have eC:F A k k (col A k)=d A k * A k k - ad (λl=>A k l * sol A k (col A k) l) k:=rfl
 rw [eC] at e0
 have low:∀ r,r < k+1->ad (λl=>A r l * (d A k * sol A (k+1) a l - 1 * (d A (k+1) * sol A k a l - F A k k a * sol A k (col A k) l))) k+A r k * (d A k * sol A (k+1) a k - d A k * F A k k a)=0:=by
  intro r hr
  rw [fr,fr]
  have c1:=cramer A hr a
  rw [ad] at c1
  have c1':ad (λl=>A r l * sol A (k+1) a l) k=d A (k+1) * a r - A r k * sol A (k+1) a k:=by omega
  rw [c1']
  by_cases hk:r=k
  ·subst hk
   have q1:ad (λl=>A r l * sol A r a l) r=d A r * a r - F A r r a:=by omega
   have q2:ad (λl=>A r l * sol A r (col A r) l) r=d A r * A r r - d A (r+1):=by omega
   rw [q1,q2]
   grind
  ·have q1:=cramer A (show r < k by omega) a
   have q2:=cramer A (show r < k by omega) (col A k)
   have q2':col A k r=A r k:=rfl
   rw [q2'] at q2
   rw [q1,q2]
   grind
 have z:=sole A hd (z:=λl=>if l=k then d A k * sol A (k+1) a k - d A k * F A k k a else d A k * sol A (k+1) a l - 1 * (d A (k+1) * sol A k a l - F A k k a * sol A k (col A k) l)) (λr hr=>by
  rw [ad,if_pos rfl]
  rw [eD (g:=λl=>A r l * (d A k * sol A (k+1) a l - 1 * (d A (k+1) * sol A k a l - F A k k a * sol A k (col A k) l))) λl hl=>by rw [if_neg (by omega)]]
  exact low r hr)
 constructor
 ·have:=z k (by omega)
  rw [if_pos rfl] at this
  have e:d A k * (sol A (k+1) a k - F A k k a)=0:=by rw [Int.mul_sub]; exact this
  rcases Int.mul_eq_zero.mp e with q | q
  ·exact absurd q dk
  ·omega
 ·intro l hl
  have:=z l (by omega)
  rw [if_neg (by omega)] at this
  omega
noncomputable def M (k i:Nat) (a:ag):Int:=if i < k then sol A k a i else F A k i a
theorem Zo6 (i:Nat) (a:ag):M A 0 i a=a i:=by
 unfold M F
 rw [if_neg (by omega),iI,ad]
 omega
theorem nY (k:Nat):M A k k (col A k)=d A (k+1):=by
 unfold M
 rw [if_neg (by omega),lc]
theorem Zo7 {k:Nat} (hd:∀ j,j<=k+1->d A j≠0) (a:ag):M A (k+1) k a=M A k k a:=by
 unfold M
 rw [if_pos (by omega),if_neg (by omega)]
 exact (step A hd a).1
theorem Zie {k:Nat} (hd:∀ j,j<=k+1->d A j≠0) (a:ag) {i:Nat} (hi:i≠k):d A k * M A (k+1) i a=M A k k (col A k) * M A k i a - M A k i (col A k) * M A k k a:=by
 obtain ⟨s1,s2⟩:=step A hd a
 rw [nY]
 unfold M
 by_cases h:i < k
 ·rw [if_pos (by omega),if_pos h,if_pos h,if_neg (by omega),s2 i h,Int.mul_comm (sol A k (col A k) i)]
 ·rw [if_neg (by omega),if_neg h,if_neg h,if_neg (by omega)]
  have e1:F A (k+1) i a=d A (k+1) * a i - (ad (λl=>A i l * sol A (k+1) a l) k+A i k * sol A (k+1) a k):=rfl
  have e2:F A k i a=d A k * a i - ad (λl=>A i l * sol A k a l) k:=rfl
  have e3:F A k i (col A k)=d A k * A i k - ad (λl=>A i l * sol A k (col A k) l) k:=rfl
  have e4:d A k * ad (λl=>A i l * sol A (k+1) a l) k=d A (k+1) * ad (λl=>A i l * sol A k a l) k - F A k k a * ad (λl=>A i l * sol A k (col A k) l) k:=by
   have q1:=fr (λl=>A i l) (sol A (k+1) a) (λ_=>0) (d A k) 0 k
   have q2:=fr (λl=>A i l) (sol A k a) (sol A k (col A k)) (d A (k+1)) (F A k k a) k
   rw [<- q2]
   have q3:d A k * ad (λl=>A i l * sol A (k+1) a l) k=ad (λl=>A i l * (d A k * sol A (k+1) a l - 0 * 0)) k:=by rw [q1]; omega
   rw [q3]
   refine eD λl hl=>?_
   rw [<- s2 l hl]
   simp
  rw [e1,e2,e3,s1]
  generalize ad (λl=>A i l * sol A (k+1) a l) k=S1 at *
  generalize ad (λl=>A i l * sol A k a l) k=S2 at *
  generalize ad (λl=>A i l * sol A k (col A k) l) k=S3 at *
  have e5:d A k * (d A (k+1) * a i - (S1+A i k * F A k k a))=d A k * d A (k+1) * a i - d A k * S1 - d A k * (A i k * F A k k a):=by grind
  rw [e5,e4]
  grind
theorem Zo8 {n r:Nat} (h:r < n) (a:ag):ad (λl=>A r l * M A n l a) n=d A n * a r:=by
 rw [<- cramer A h a]
 refine eD λl hl=>?_
 unfold M
 rw [if_pos hl]
end Bar
set_option Elab.async false
set_option linter.all false
set_option maxRecDepth 100000
namespace Bar
variable (A:Nat->Nat->Int)
noncomputable def unit (k:Nat):ag:=λr=>if r=k then 1 else 0
theorem Zpa {k:Nat} (hd:∀ j,j<=k->d A j≠0):F A k k (unit k)=d A k:=by
 have z:=sole A hd (z:=sol A k (unit k)) (λr hr=>by
  rw [cramer A hr]
  unfold unit
  rw [if_neg (by omega),Int.mul_zero])
 unfold F
 rw [ia λl hl=>by rw [z l hl,Int.mul_zero]]
 unfold unit
 rw [if_pos rfl]
 omega
theorem Zjj (k:Nat):sol A (k+1) (unit k) k=F A k k (unit k):=by
 unfold sol
 rw [cy,if_pos rfl]
 exact qa A k k (unit k)
theorem oE {p v:Nat->Int} {V:Int} (hV:0<=V) (v0:v 0=0):∀ {m:Nat},(∀ l,l < m+1->0<=p l)->(∀ l,l < m+1->v l<=V)->ad (λl=>p l * v l) (m+1)<=(ad p (m+1) - p 0) * V
 | 0,hp,hv=>by
  show 0+p 0 * v 0<=(0+p 0 - p 0) * V
  rw [v0]
  simp
 | m+1,hp,hv=>by
  have ih:=oE (p:=p) (v:=v) hV v0 (m:=m) (λl hl=>hp l (by omega)) λl hl=>hv l (by omega)
  have h1:=Int.mul_le_mul_of_nonneg_left (hv (m+1) (by omega)) (hp (m+1) (by omega))
  have e1:ad (λl=>p l * v l) (m+1+1)=ad (λl=>p l * v l) (m+1)+p (m+1) * v (m+1):=rfl
  have e2:ad p (m+1+1)=ad p (m+1)+p (m+1):=rfl
  have e3:(ad p (m+1)+p (m+1) - p 0) * V=(ad p (m+1) - p 0) * V+p (m+1) * V:=by grind
  rw [e1,e2,e3]
  omega
theorem ZaK (f:Nat->Int):∀ n:Nat,ad (λl=>-f l) n=-ad f n
 | 0=>rfl
 | n+1=>by rw [ad,ad,ZaK f n]; omega
theorem oF {p:Nat->Int}:∀ {m n:Nat},m<=n->(∀ l,l < n->0<=p l)->ad p m<=ad p n
 | m,0,h,_=>by
  have:m=0:=by omega
  subst this
  exact Int.le_refl _
 | m,n+1,h,hp=>by
  by_cases e:m=n+1
  ·subst e; exact Int.le_refl _
  ·have:=oF (p:=p) (m:=m) (n:=n) (by omega) λl hl=>hp l (by omega)
   have:=hp n (by omega)
   rw [ad]
   omega
theorem argmax (v:Nat->Int):∀ k:Nat,∃ i,i<=k/\∀ l,l<=k->v l<=v i
 | 0=>⟨0,Nat.le_refl _,λl hl=>by
  have e:l=0:=by omega
  rw [e]
  exact Int.le_refl _⟩
 | k+1=>by
  obtain ⟨i,hi,h⟩:=argmax v k
  by_cases hc:v i<=v (k+1)
  ·refine ⟨k+1,by omega,λl hl=>?_⟩
   by_cases e:l=k+1
   ·subst e; exact Int.le_refl _
   ·have:=h l (by omega)
    omega
  ·refine ⟨i,by omega,λl hl=>?_⟩
   by_cases e:l=k+1
   ·subst e; omega
   ·exact h l (by omega)
structure Pol (n:Nat) (A P:Nat->Nat->Int) (W:Int):Prop where
 W0:0 < W
 a0:∀ i,i < n->A i 0=W
 a:∀ i j,i < n->1<=j->j < n->A i j=(if i=j then W else 0) - P i j
 p:∀ i j,i < n->j < n->0<=P i j
 p0:∀ i,i < n->0 < P i 0
 s:∀ i,i < n->ad (P i) n=W
variable {A} {P:Nat->Nat->Int} {W:Int} {n:Nat}
theorem i9 (h:Pol n A P W) (z:Nat->Int) {i:Nat} (hi:i < n):∀ {m:Nat},m+1<=n->ad (λl=>A i l * z l) (m+1)=W * z 0+(if 1<=i/\i<=m then W * z i else 0) - ad (λl=>P i l * (if l=0 then 0 else z l)) (m+1)
 | 0,hm=>by
  show 0+A i 0 * z 0=_
  rw [if_neg (by omega),h.a0 i hi]
  show _=W * z 0+0 - (0+P i 0 * (if 0=0 then 0 else z 0))
  rw [if_pos rfl]
  omega
 | m+1,hm=>by
  have ih:=i9 h z hi (m:=m) (by omega)
  have e1:ad (λl=>A i l * z l) (m+1+1)=ad (λl=>A i l * z l) (m+1)+A i (m+1) * z (m+1):=rfl
  have e2:ad (λl=>P i l * (if l=0 then 0 else z l)) (m+1+1)=ad (λl=>P i l * (if l=0 then 0 else z l)) (m+1)+P i (m+1) * (if m+1=0 then 0 else z (m+1)):=rfl
  rw [e1,e2,ih,h.a i (m+1) hi (by omega) (by omega),if_neg (show ¬ m+1=0 by omega)]
  by_cases e:i=m+1
  ·subst e
   rw [if_pos rfl,if_neg (by omega),if_pos (by omega)]
   grind
  ·rw [if_neg e]
   by_cases e2:1<=i/\i<=m
   ·rw [if_pos e2,if_pos (by omega)]
    grind
   ·rw [if_neg e2,if_neg (by omega)]
    grind
theorem sign (h:Pol n A P W) {k:Nat} (hk:1<=k) (hn:k+1<=n) {z:Nat->Int} {c:Int} (hz:∀ r,r < k+1->ad (λl=>A r l * z l) (k+1)=if r=k then c else 0) (zk:0 < z k):0 < c:=by
 apply Int.not_le.mp
 intro hc
 have W0:=h.W0
 -- worths: nought at the lowest
 have hv:∀ r,r < k+1->W * z 0+W * (if r=0 then 0 else z r) - ad (λl=>P r l * (if l=0 then 0 else z l)) (k+1)=if r=k then c else 0:=λr hr=>by
  have:=hz r hr
  rw [i9 h z (by omega) (by omega)] at this
  rw [<- this]
  by_cases e:r=0
  ·rw [if_pos e,if_neg (by omega)]
   omega
  ·rw [if_neg e,if_pos (by omega)]
 generalize hvd:(λl=>if l=0 then 0 else z l)=v at *
 have v0:v 0=0:=by rw [<- hvd]; rfl
 have vk:v k=z k:=by rw [<- hvd]; show (if k=0 then 0 else z k)=z k; rw [if_neg (by omega)]
 have hv':∀ r,r < k+1->W * z 0+W * v r - ad (λl=>P r l * v l) (k+1)=if r=k then c else 0:=λr hr=>by
  have:=hv r hr
  rw [<- hvd]
  exact this
 clear hv
 have hs:∀ i,i < n->ad (P i) (k+1)<=W:=λi hi=>by
  rw [<- h.s i hi]
  exact oF (by omega) λl hl=>h.p i l hi hl
 have up:∀ (u:Nat->Int) (V:Int) (i:Nat),0 < V->u 0=0->i < n->(∀ l,l < k+1->u l<=V)->ad (λl=>P i l * u l) (k+1)<=(W - P i 0) * V:=λu V i hV u0 hi hu=>by
  have a1:=oE (p:=P i) (v:=u) (Int.le_of_lt hV) u0 (m:=k) (λl hl=>h.p i l hi (by omega)) hu
  have a2:=Int.mul_le_mul_of_nonneg_right (show ad (P i) (k+1) - P i 0<=W - P i 0 by have:=hs i hi; omega) (Int.le_of_lt hV)
  omega
 obtain ⟨i,hi,hmax⟩:=argmax v k
 have vpos:0 < v i:=by have:=hmax k (Nat.le_refl _); omega
 -- the greatest worth: the mean is below nought
 have m0:z 0 < 0:=by
  have r1:=hv' i (by omega)
  have r2:=up v (v i) i vpos v0 (by omega) (λl hl=>hmax l (by omega))
  have r3:=Int.mul_pos (h.p0 i (by omega)) vpos
  have e:(W - P i 0) * v i=W * v i - P i 0 * v i:=by grind
  have r4:W * z 0 < 0:=by
   have:(if i=k then c else 0)<=0:=by split <;> omega
   omega
  apply Int.not_le.mp
  intro q
  have:=Int.mul_nonneg (Int.le_of_lt W0) q
  omega
 -- the least worth: it is above nought
 obtain ⟨j,hj,hmin⟩:=argmax (λl=>-v l) k
 have r0:=hv' 0 (by omega)
 rw [v0,if_neg (by omega)] at r0
 have Wm:W * z 0 < 0:=by
  have:=Int.mul_le_mul_of_nonneg_left (show z 0<=-1 by omega) (Int.le_of_lt W0)
  omega
 have jneg:v j < 0:=by
  apply Int.not_le.mp
  intro q
  have all0:∀ l,l<=k->0<=v l:=λl hl=>by
   have:-v l<=-v j:=hmin l hl
   omega
  have:0<=ad (λl=>P 0 l * v l) (k+1):=by
   have:=oF (p:=λl=>P 0 l * v l) (m:=0) (n:=k+1) (by omega) λl hl=>Int.mul_nonneg (h.p 0 l (by omega) (by omega)) (all0 l (by omega))
   exact this
  omega
 have jk:j≠k:=λe=>by rw [e,vk] at jneg; omega
 have r1:=hv' j (by omega)
 rw [if_neg jk] at r1
 have r2:=up (λl=>-v l) (-v j) j (by omega) (by show -v 0=0; rw [v0]; rfl) (by omega) (λl hl=>hmin l (by omega))
 have e1:ad (λl=>P j l * -v l) (k+1)=-ad (λl=>P j l * v l) (k+1):=by
  rw [<- ZaK]
  refine eD λl _=>?_
  grind
 rw [e1] at r2
 have r3:=Int.mul_pos (h.p0 j (by omega)) (show 0 < -v j by omega)
 have e2:(W - P j 0) * -v j=-(W * v j) - P j 0 * -v j:=by grind
 omega
theorem leads (h:Pol n A P W):∀ k,k<=n->0 < d A k
 | 0,_=>by rw [iI]; decide
 | k+1,hk=>by
  have ih:∀ j,j<=k->0 < d A j:=λj hj=>leads h j (by omega)
  by_cases k0:k=0
  ·subst k0
   have:d A 1=A 0 0:=by
    rw [lc]
    unfold F
    rw [iI,ad]
    show 1 * A 0 0 - 0=A 0 0
    omega
   rw [this,h.a0 0 (by omega)]
   exact h.W0
  ·refine sign h (k:=k) (by omega) hk (z:=sol A (k+1) (unit k)) (c:=d A (k+1)) (λr hr=>?_) ?_
   ·rw [cramer A hr]
    unfold unit
    split
    ·omega
    ·omega
   ·rw [Zjj,Zpa A λj hj=>by have:=ih j hj; omega]
    exact ih k (Nat.le_refl _)
termination_by k=>k
end Bar
set_option Elab.async false
set_option linter.all false
set_option maxRecDepth 100000
namespace Bar
variable {A P:Nat->Nat->Int} {W:Int} {n:Nat}
theorem improve (h:Pol n A P W) (hn:1<=n) {y:Nat->Int} {s:Nat->Int} (hs:∀ r,r < n->0<=s r) (hy:∀ r,r < n->ad (λl=>A r l * y l) n=-s r) :
  y 0 < 0\/(y 0=0/\∀ r,1<=r->r < n->y r<=0):=by
 obtain ⟨k,rfl⟩:∃ k,n=k+1:=⟨n - 1,by omega⟩
 have W0:=h.W0
 have hv:∀ r,r < k+1->W * y 0+W * (if r=0 then 0 else y r) - ad (λl=>P r l * (if l=0 then 0 else y l)) (k+1)=-s r:=λr hr=>by
  have:=hy r hr
  rw [i9 h y hr (by omega)] at this
  rw [<- this]
  by_cases e:r=0
  ·rw [if_pos e,if_neg (by omega)]
   omega
  ·rw [if_neg e,if_pos (by omega)]
 generalize hvd:(λl=>if l=0 then 0 else y l)=v at *
 have v0:v 0=0:=by rw [<- hvd]; rfl
 have vr:∀ r,1<=r->v r=y r:=λr hr=>by rw [<- hvd]; show (if r=0 then 0 else y r)=y r; rw [if_neg (by omega)]
 have hv':∀ r,r < k+1->W * y 0+W * v r - ad (λl=>P r l * v l) (k+1)=-s r:=λr hr=>by
  have:=hv r hr
  rw [<- hvd]
  exact this
 clear hv
 have up:∀ (V:Int) (i:Nat),0<=V->i < k+1->(∀ l,l < k+1->v l<=V)->ad (λl=>P i l * v l) (k+1)<=(W - P i 0) * V:=λV i hV hi hu=>by
  have a1:=oE (p:=P i) (v:=v) hV v0 (m:=k) (λl hl=>h.p i l hi (by omega)) hu
  rw [h.s i hi] at a1
  exact a1
 obtain ⟨i,hi,hmax⟩:=argmax v k
 have vi:0<=v i:=by have:=hmax 0 (by omega); omega
 have r1:=hv' i (by omega)
 have r2:=up (v i) i vi (by omega) (λl hl=>hmax l (by omega))
 have e:(W - P i 0) * v i=W * v i - P i 0 * v i:=by grind
 have si:=hs i (by omega)
 by_cases hp:0 < v i
 ·left
  have r3:=Int.mul_pos (h.p0 i (by omega)) hp
  apply Int.not_le.mp
  intro q
  have:=Int.mul_nonneg (Int.le_of_lt W0) q
  omega
 ·have v00:v i=0:=by omega
  have all0:∀ r,r < k+1->v r<=0:=λr hr=>by have:=hmax r (by omega); omega
  have q1:=hv' 0 (by omega)
  have q2:=up 0 0 (Int.le_refl _) (by omega) all0
  have s0:=hs 0 (by omega)
  rw [v0] at q1
  have Wy:W * y 0<=0:=by omega
  by_cases hy0:y 0 < 0
  ·exact .inl hy0
  ·right
   have:y 0=0:=by
    apply Int.le_antisymm
    ·apply Int.not_lt.mp
     intro q
     have:=Int.mul_pos W0 q
     omega
    ·omega
   exact ⟨this,λr r1 r2=>by have:=all0 r r2; rw [vr r r1] at this; exact this⟩
noncomputable def Bet (n:Nat) (z:Nat->Int) (D:Int) (z':Nat->Int) (D':Int):Prop:=D * z' 0 < D' * z 0\/(D * z' 0=D' * z 0/\(∀ r,r < n->D * z' r<=D' * z r)/\∃ r,r < n/\D * z' r < D' * z r)
theorem ZcJ {a b c A B C:Int} (hA:0 < A) (hB:0 < B) (hC:0 < C) (h1:A * b<=B * a) (h2:B * c<=C * b):A * c<=C * a/\((A * b < B * a\/B * c < C * b)->A * c < C * a):=by
 -- B (A c)<=A C b<=C B a
 have e1:=Int.mul_le_mul_of_nonneg_left h2 (Int.le_of_lt hA)
 have e2:=Int.mul_le_mul_of_nonneg_left h1 (Int.le_of_lt hC)
 have q1:A * (B * c)=B * (A * c):=by grind
 have q2:A * (C * b)=C * (A * b):=by grind
 have q3:C * (B * a)=B * (C * a):=by grind
 refine ⟨Int.le_of_mul_le_mul_left (show B * (A * c)<=B * (C * a) by omega) hB,λh=>?_⟩
 have hlt:B * (A * c) < B * (C * a):=by
  rcases h with h | h
  ·have:=Int.mul_lt_mul_of_pos_left h hC
   omega
  ·have:=Int.mul_lt_mul_of_pos_left h hA
   omega
 exact Int.lt_of_mul_lt_mul_left hlt (Int.le_of_lt hB)
theorem Bet.trans {z z' z'':Nat->Int} {D D' D'':Int} (hD:0 < D) (hD':0 < D') (hD'':0 < D'') (h1:Bet n z D z' D') (h2:Bet n z' D' z'' D''):Bet n z D z'' D'':=by
 have t:=λr=>ZcJ (a:=z r) (b:=z' r) (c:=z'' r) hD hD' hD''
 rcases h1 with a | ⟨a1,a2,r,hr,a3⟩
 ·rcases h2 with b | ⟨b1,b2,_⟩
  ·exact .inl ((t 0 (Int.le_of_lt a) (Int.le_of_lt b)).2 (.inl a))
  ·exact .inl ((t 0 (Int.le_of_lt a) (Int.le_of_eq b1)).2 (.inl a))
 ·rcases h2 with b | ⟨b1,b2,_⟩
  ·exact .inl ((t 0 (Int.le_of_eq a1) (Int.le_of_lt b)).2 (.inr b))
  ·right
   refine ⟨?_,λq hq=>(t q (a2 q hq) (b2 q hq)).1,r,hr,(t r (a2 r hr) (b2 r hr)).2 (.inl a3)⟩
   have u1:=(t 0 (Int.le_of_eq a1) (Int.le_of_eq b1)).1
   have u2:=(ZcJ (a:=z'' 0) (b:=z' 0) (c:=z 0) hD'' hD' hD (Int.le_of_eq b1.symm) (Int.le_of_eq a1.symm)).1
   omega
theorem Bet.irrefl {z:Nat->Int} {D:Int} (h:Bet n z D z D):False:=by
 rcases h with a | ⟨_,_,r,_,a⟩ <;> omega
theorem better (h:Pol n A P W) (hn:1<=n) {z z':Nat->Int} {D D':Int} (hD:0 < D) (hD':0 < D') {b:Nat->Int} (hz':∀ r,r < n->ad (λl=>A r l * z' l) n=D' * b r) {s:Nat->Int} (hs:∀ r,r < n->0<=s r) (hz:∀ r,r < n->ad (λl=>A r l * z l) n=D * b r+s r) (hsome:∃ r,r < n/\0 < s r):Bet n z D z' D':=by
 have hy:∀ r,r < n->ad (λl=>A r l * (D * z' l - D' * z l)) n=-(D' * s r):=λr hr=>by
  rw [fr,hz' r hr,hz r hr]
  grind
 have key:=improve h hn (y:=λl=>D * z' l - D' * z l) (s:=λr=>D' * s r) (λr hr=>Int.mul_nonneg (Int.le_of_lt hD') (hs r hr)) hy
 rcases key with k | ⟨k0,k1⟩
 ·left
  have k':D * z' 0 - D' * z 0 < 0:=k
  omega
 ·have k0':D * z' 0 - D' * z 0=0:=k0
  have all0:∀ r,r < n->D * z' r<=D' * z r:=λr hr=>by
   by_cases e:r=0
   ·subst e; omega
   ·have k1':D * z' r - D' * z r<=0:=k1 r (by omega) hr
    omega
  refine .inr ⟨by omega,all0,?_⟩
  apply Classical.byContradiction
  intro hno
  have zero:∀ r,r < n->D * z' r - D' * z r=0:=λr hr=>by
   have a:=all0 r hr
   have:¬ D * z' r < D' * z r:=λq=>hno ⟨r,hr,q⟩
   omega
  obtain ⟨r,hr,sr⟩:=hsome
  have e:=hy r hr
  rw [ia λl hl=>by rw [zero l hl,Int.mul_zero]] at e
  have:=Int.mul_pos hD' sr
  omega
end Bar
set_option Elab.async false
set_option linter.all false
set_option maxRecDepth 100000
namespace Tw
open PySem L2
theorem oi {f:Int->Int} {m:Int}:∀ {l:List Int} {k:Nat},ws (λx=>m * f x) k l=m * ws f k l
 | [],k=>by unfold ws; simp
 | w::l,k=>by
  unfold ws
  rw [oi (l:=l)]
  grind
theorem Zhy {g:Int->Int} {top m:Int} (hm:0 < m):∀ n:Nat,bst (λy=>m * g y) top n=(m * (bst g top n).1,(bst g top n).2)
 | 0=>rfl
 | n+1=>by
  unfold bst
  rw [Zhy hm n]
  dsimp only
  by_cases h:(bst g top n).1 < g (top - ((n+1:Nat):Int))
  ·rw [if_pos h,if_pos (Int.mul_lt_mul_of_pos_left h hm)]
  ·rw [if_neg h,if_neg (λz=>h (Int.lt_of_mul_lt_mul_left z (Int.le_of_lt hm)))]
theorem Zcr {g:Int->Int} {top K m x:Int} (hm:0 < m) (hx:x<=top):pck (λy=>m * g y) top (m * K) x=(m * (pck g top K x).1,(pck g top K x).2):=by
 by_cases ht:x=top
 ·subst ht
  rw [ip,ip]
 ·obtain ⟨n,hn⟩:∃ n:Nat,x=top - ((n+1:Nat):Int):=⟨(top - x - 1).toNat,by omega⟩
  subst hn
  rw [iq,iq,Zhy hm]
  dsimp only
  rw [<- Int.mul_add]
  by_cases h:K+(bst g top n).1 < g (top - ((n+1:Nat):Int))
  ·rw [if_pos h,if_pos (Int.mul_lt_mul_of_pos_left h hm)]
  ·rw [if_neg h,if_neg (λz=>h (Int.lt_of_mul_lt_mul_left z (Int.le_of_lt hm)))]
inductive Wt:List (List Int)->List (List Int)->Int->Prop
 | nil:Wt [] [] 1
 | same {fs gs:List (List Int)} {m:Int} (d:List Int):Wt fs gs m->Wt (d::fs) (d::gs) m
 | big {fs gs:List (List Int)} {m:Int} (d:List Int) (k:Int) (n:Nat):0 < k->Wt fs gs m->Wt (d::fs) ((d.map (k * ·)++List.replicate n 0)::gs) (k * m)
end Tw
set_option Elab.async false
set_option linter.all false
set_option maxRecDepth 100000
namespace Tw
open PySem L2
theorem pD {s:Shp} (h:s.Ok) {x y:Int} (hx:nb 20 x) (hy:nb 20 y):nb 100 (s.ord x y):=by
 unfold Shp.ord
 exact mh (show (0:Int).natAbs < 2 ^ 100 from Nat.pos_of_ne_zero (by simp)) (bb (dP h.start (ce h.piece (eX hy hx))) (by decide))
theorem fH {s:Shp} (h:s.Ok) {x:Int} (x1:-s.depth<=x) (x2:x<=s.top):nb 20 x:=by
 have:=h.t0
 have:=h.d0
 have:=h.td
 exact bL (by show -1048576 < _; omega) (by show _ < 1048576; omega)
theorem Zad {f:Int->Int} {a b:Nat}:∀ {l:List Int} {k:Nat},(∀ w∈l,nb a w)->(∀ x:Int,(k:Int)<=x->x < k+l.length->nb b (f x))->nb (a+b+l.length) (ws f k l)
 | [],k,_,_=>by unfold ws nb; exact Nat.pos_of_ne_zero (by simp)
 | w::l,k,hw,hf=>by
  rw [List.length_cons] at hf ⊢
  have h1:=ce (hw w (by simp)) (hf k (by omega) (by omega))
  have h2:=Zad (f:=f) (a:=a) (b:=b) (l:=l) (k:=k+1) (λv hv=>hw v (List.mem_cons_of_mem _ hv)) λx x1 x2=>hf x (by omega) (by omega)
  unfold ws
  exact bb (dP h1 h2) (by omega)
end Tw
set_option Elab.async false
set_option linter.all false
set_option maxRecDepth 100000
namespace Bar
open Tw
theorem jn (k:Nat):nb k 0:=by show (0:Int).natAbs < 2 ^ k; exact Nat.pow_pos (by decide)
theorem Zdh {Q:ag->Prop} {f:ag->Int} {b B m:Nat} (hf:∀ c,Q c->nb b (f c)):∀ (cs:List ag) (g:List ag->Int),(∀ c∈cs,Q c)->(∀ q:List ag,(∀ c∈q,Q c)->q.length+1<=cs.length->nb B (g q))->nb (b+B+cs.length) (lap f cs g)
 | [],g,_,_=>jn _
 | c::cs,g,hq,hg=>by
  have h1:=ce (hf c (hq c (by simp))) (hg cs (λx hx=>hq x (List.mem_cons_of_mem _ hx)) (by simp))
  have h2:=Zdh (m:=m) hf cs (λr=>g (c::r)) (λx hx=>hq x (List.mem_cons_of_mem _ hx)) λq q1 q2=>hg (c::q) (λx hx=>by
   rcases List.mem_cons.mp hx with rfl | hx
   ·exact hq _ (by simp)
   ·exact q1 x hx) (by simp; omega)
  rw [lap,List.length_cons]
  exact bb (eX h1 h2) (by omega)
noncomputable def fV (b k:Nat):Nat:=1+k * (b+10)
theorem r8 {n b:Nat}:∀ (k:Nat),k<=n->∀ cs:List ag,(∀ c∈cs,∀ r,r < n->nb b (c r))->cs.length<=10->nb (fV b k) (D k cs)
 | 0,_,cs,_,_=>by show (1:Int).natAbs < 2 ^ (1+0 * _); rw [Nat.zero_mul]; decide
 | k+1,hk,cs,hc,hl=>by
  have h:=Zdh (Q:=λc=>∀ r,r < n->nb b (c r)) (f:=λc=>c k) (b:=b) (B:=fV b k) (m:=0) (λc hc=>hc k (by omega)) cs (D k) hc λq q1 q2=>r8 k (by omega) q q1 (by omega)
  refine bb h ?_
  unfold fV
  rw [Nat.succ_mul]
  omega
variable {A:Nat->Nat->Int}
theorem rP:∀ {k:Nat} {c:ag},c∈R A k->∃ l,l < k/\c=col A l
 | 0,c,h=>by cases h
 | k+1,c,h=>by
  rcases List.mem_cons.mp h with rfl | h
  ·exact ⟨k,by omega,rfl⟩
  ·obtain ⟨l,h1,h2⟩:=rP h
   exact ⟨l,by omega,h2⟩
theorem rQ (A:Nat->Nat->Int):∀ k:Nat,(R A k).length=k
 | 0=>rfl
 | k+1=>by rw [R,List.length_cons,rQ A k]
theorem Zhl {Q:ag->Prop} {B:Nat}:∀ (k:Nat) (g:List ag->Int) (l:Nat),(∀ j,j < k->Q (col A j))->(∀ q:List ag,(∀ c∈q,Q c)->q.length+1<=k->nb B (g q))->nb B (cy A k g l)
 | 0,g,l,_,_=>jn _
 | k+1,g,l,hq,hg=>by
  rw [cy]
  split
  ·exact hg _ (λc hc=>by obtain ⟨j,h1,rfl⟩:=rP hc; exact hq j (by omega)) (by rw [rQ]; exact Nat.le_refl _)
  ·refine jm (Zhl k _ l (λj hj=>hq j (by omega)) λq q1 q2=>hg _ (λc hc=>?_) (by rw [List.length_cons]; omega))
   rcases List.mem_cons.mp hc with rfl | hc
   ·exact hq k (by omega)
   ·exact q1 c hc
theorem ZaL {f:Nat->Int} {b:Nat}:∀ (n:Nat),(∀ l,l < n->nb b (f l))->nb (b+n) (ad f n)
 | 0,_=>jn _
 | n+1,h=>by
  rw [ad]
  exact bb (dP (ZaL n λl hl=>h l (by omega)) (h n (by omega))) (by omega)
theorem jH {n b:Nat} (hn:n<=9) (hA:∀ i j,i < n->j < n->nb b (A i j)) {k:Nat} (hk:k<=n):nb (fV b 9) (d A k):=by
 have h:=r8 (n:=n) (b:=b) k hk (R A k) (λc hc r hr=>by obtain ⟨j,h1,rfl⟩:=rP hc; exact hA r j hr (by omega)) (by rw [rQ]; omega)
 refine bb h ?_
 unfold fV
 have:=Nat.mul_le_mul_right (b+10) (show k<=9 by omega)
 omega
theorem rX {n b:Nat} (hn:n<=9) (hA:∀ i j,i < n->j < n->nb b (A i j)) {k i:Nat} (hk:k<=n) (hi:i < n) {a:ag} (ha:∀ r,r < n->nb b (a r)):nb (b+fV b 9+11) (M A k i a):=by
 have hs:∀ l,nb (fV b 9) (sol A k a l):=λl=>by
  unfold sol
  refine Zhl (Q:=λc=>∀ r,r < n->nb b (c r)) k _ l (λj hj r hr=>hA r j hr (by omega)) λq q1 q2=>?_
  refine bb (r8 (n:=n) (b:=b) k hk (a::q) (λc hc=>?_) (by rw [List.length_cons]; omega)) ?_
  ·rcases List.mem_cons.mp hc with rfl | hc
   ·exact ha
   ·exact q1 c hc
  ·unfold fV
   have:=Nat.mul_le_mul_right (b+10) (show k<=9 by omega)
   omega
 unfold M
 split
 ·exact bb (hs i) (by omega)
 ·unfold F
  have h1:=ce (jH hn hA hk) (ha i hi)
  have h2:=ZaL (f:=λl=>A i l * sol A k a l) (b:=b+fV b 9) k λl hl=>ce (hA i l hi (by omega)) (hs l)
  exact bb (eX h1 h2) (by omega)
end Bar
set_option Elab.async false
set_option linter.all false
set_option maxRecDepth 100000
namespace Tw
open PySem L2
end Tw
set_option Elab.async false
set_option linter.all false
set_option maxRecDepth 100000
namespace Tw
open PySem PySem.Spec PyProof.Rows L2
end Tw
set_option Elab.async false
set_option linter.all false
set_option maxRecDepth 100000
namespace Tw
open PySem PySem.Spec PyProof.Rows L2
end Tw
set_option Elab.async false
set_option linter.all false
set_option maxRecDepth 100000
namespace Tw
open PySem L2
theorem m7:∀ l:List Int,(l.map PyData.int).all gT=true
 | []=>rfl
 | y::l=>by
  rw [List.map_cons,List.all_cons,m7 l]
  rfl
end Tw
set_option Elab.async false
set_option linter.all false
set_option maxRecDepth 100000
namespace Tw
open PySem PySem.Spec PyProof.Rows L2
end Tw
set_option Elab.async false
set_option linter.all false
set_option maxRecDepth 100000
namespace Tw
open PySem PySem.Spec PyProof.Rows L2
noncomputable def gU (g:Int->Int) (K x y:Int):Int:=if x < y then K+g y else g y
end Tw
set_option Elab.async false
set_option linter.all false
set_option maxRecDepth 100000
namespace L2
open PySem PySem.Spec PyProof.Rows
end L2
set_option Elab.async false
set_option linter.all false
set_option maxRecDepth 100000
namespace Bar
theorem p9 {f:ag->Int}:∀ {cs:List ag} {g h:List ag->Int},(∀ r,r.length+1=cs.length->g r=h r)->lap f cs g=lap f cs h
 | [],_,_,_=>rfl
 | c::cs,g,h,e=>by
  rw [lap,lap,e cs rfl,p9 (cs:=cs) λr hr=>e (c::r) (by rw [List.length_cons,List.length_cons,hr])]
theorem mL (f:ag->Int):∀ (cs:List ag) (g:List ag->Int),lap f cs (λr=>-g r)=-lap f cs g
 | [],_=>rfl
 | c::cs,g=>by rw [lap,lap,mL f cs λr=>g (c::r)]; grind
theorem Zdi {f:ag->Int}:∀ {cs:List ag} {g:List ag->Int},(∀ c∈cs,f c=0)->lap f cs g=0
 | [],_,_=>rfl
 | c::cs,g,h=>by rw [lap,h c (by simp),Zdi λd hd=>h d (List.mem_cons_of_mem _ hd)]; simp
theorem mM (f:ag->Int) (h:ag->ag):∀ (cs:List ag) (g:List ag->Int),lap f (cs.map h) g=lap (λc=>f (h c)) cs λr=>g (r.map h)
 | [],_=>rfl
 | c::cs,g=>by
  rw [List.map_cons,lap,lap,mM f h cs λr=>g (h c::r)]
  rfl
theorem Zdg (f:ag->Int):∀ (pre:List ag) (k:Nat) (g:List ag->Int),(∀ pre post a b,pre.length+post.length+2=k->g (pre++a::b::post)=-g (pre++b::a::post))->∀ post a b,pre.length+post.length+2=k+1->lap f (pre++a::b::post) g=-lap f (pre++b::a::post) g
 | [],k,g,hg,post,a,b,hl=>by
  show f a * g (b::post) - (f b * g (a::post) - lap f post λr=>g (a::b::r))=-(f b * g (a::post) - (f a * g (b::post) - lap f post λr=>g (b::a::r)))
  have e:(lap f post λr=>g (a::b::r))=-lap f post λr=>g (b::a::r):=by
   rw [<- mL]
   refine p9 λr hr=>hg [] r a b ?_
   rw [List.length_nil] at hl ⊢
   omega
  rw [e]
  omega
 | c::pre,0,g,hg,post,a,b,hl=>by
  rw [List.length_cons] at hl
  omega
 | c::pre,k+1,g,hg,post,a,b,hl=>by
  rw [List.length_cons] at hl
  have ih:=Zdg f pre k (λr=>g (c::r)) (λp q x y hp=>hg (c::p) q x y (by rw [List.length_cons]; omega)) post a b (by omega)
  show f c * g (pre++a::b::post) - lap f (pre++a::b::post) (λr=>g (c::r))=-(f c * g (pre++b::a::post) - lap f (pre++b::a::post) λr=>g (c::r))
  rw [ih,hg pre post a b (by omega)]
  grind
theorem n5:∀ (k:Nat) (pre post:List ag) (a b:ag),pre.length+post.length+2=k->D k (pre++a::b::post)=-D k (pre++b::a::post)
 | 0,pre,post,a,b,h=>by omega
 | k+1,pre,post,a,b,h=>Zdg _ pre k (D k) (λp q x y hp=>n5 k p q x y hp) post a b h
theorem nZ {k:Nat}:∀ (mid pre post:List ag) (a:ag),pre.length+mid.length+post.length+2=k->D k (pre++a::(mid++a::post))=0
 | [],pre,post,a,h=>by
  have:=n5 k pre post a a (by rw [List.length_nil] at h; omega)
  rw [List.nil_append]
  omega
 | m::mid,pre,post,a,h=>by
  rw [List.length_cons] at h
  have e:=n5 k pre (mid++a::post) a m (by rw [List.length_append,List.length_cons]; omega)
  have ih:=nZ (k:=k) mid (pre++[m]) post a (by rw [List.length_append,List.length_singleton]; omega)
  rw [List.append_assoc] at ih
  have ih:D k (pre++m::a::(mid++a::post))=0:=ih
  rw [List.cons_append,e,ih]
  rfl
theorem Zik {k:Nat} {cs:List ag} {a:ag} (h:a∈cs) (hl:cs.length+1=k):D k (cs++[a])=0:=by
 obtain ⟨p,q,rfl⟩:=List.append_of_mem h
 rw [List.append_assoc]
 refine nZ q p [] a ?_
 rw [List.length_append,List.length_cons] at hl
 rw [List.length_nil]
 omega
theorem Zdj {f:ag->Int} (u v w:ag) (m:Int) (hf:f w=f u+m * f v):∀ (pre:List ag) (k:Nat) (g:List ag->Int),(∀ pre post,pre.length+post.length+1=k->g (pre++w::post)=g (pre++u::post)+m * g (pre++v::post))->∀ post,pre.length+post.length+1=k+1->lap f (pre++w::post) g=lap f (pre++u::post) g+m * lap f (pre++v::post) g
 | [],k,g,hg,post,hl=>by
  rw [List.length_nil] at hl
  show f w * g post - (lap f post λr=>g (w::r))=f u * g post - (lap f post λr=>g (u::r))+m * (f v * g post - lap f post λr=>g (v::r))
  have e:(lap f post λr=>g (w::r))=(lap f post λr=>g (u::r))+m * lap f post λr=>g (v::r):=by
   have e1:(lap f post λr=>g (w::r))=lap f post λr=>m * g (v::r) - -g (u::r):=p9 λr hr=>by
    have:=hg [] r (by rw [List.length_nil]; omega)
    rw [List.nil_append,List.nil_append,List.nil_append] at this
    rw [this]
    omega
   rw [e1,mN,mL]
   omega
  rw [e,hf]
  grind
 | c::pre,0,g,hg,post,hl=>by
  rw [List.length_cons] at hl
  omega
 | c::pre,k+1,g,hg,post,hl=>by
  rw [List.length_cons] at hl
  have ih:=Zdj u v w m hf pre k (λr=>g (c::r)) (λp q hp=>hg (c::p) q (by rw [List.length_cons]; omega)) post (by omega)
  show f c * g (pre++w::post) - lap f (pre++w::post) (λr=>g (c::r))=f c * g (pre++u::post) - lap f (pre++u::post) (λr=>g (c::r))+m * (f c * g (pre++v::post) - lap f (pre++v::post) λr=>g (c::r))
  rw [ih,hg pre post (by omega)]
  grind
theorem hW (u v:ag) (m:Int):∀ (k:Nat) (pre post:List ag),pre.length+post.length+1=k->D k (pre++(λr=>u r+m * v r)::post)=D k (pre++u::post)+m * D k (pre++v::post)
 | 0,pre,post,h=>by omega
 | k+1,pre,post,h=>Zdj (f:=λc=>c k) u v _ m rfl pre k (D k) (λp q hp=>hW u v m k p q hp) post h
theorem sa:∀ {k:Nat} {h:ag->ag},(∀ c r,r < k->h c r=c r)->∀ cs:List ag,D k (cs.map h)=D k cs
 | 0,_,_,_=>rfl
 | k+1,h,hh,cs=>by
  show lap (λc=>c k) (cs.map h) (D k)=lap (λc=>c k) cs (D k)
  rw [mM]
  have e1:(λc:ag=>h c k)=λc=>c k:=funext λc=>hh c k (by omega)
  have e2:(λr:List ag=>D k (r.map h))=D k:=funext λr=>sa (λc q hq=>hh c q (by omega)) r
  rw [e1,e2]
noncomputable def tr (k:Nat) (c:ag):ag:=λr=>if r < k then c r else 0
theorem Zig (k:Nat) (cs:List ag):D k (cs.map (tr k))=D k cs:=sa (λc r hr=>if_pos hr) cs
theorem hZ {k:Nat} {c c':ag} (h:∀ r,r < k->c r=c' r):tr k c=tr k c':=funext λr=>by
 unfold tr
 by_cases hr:r < k
 ·rw [if_pos hr,if_pos hr,h r hr]
 ·rw [if_neg hr,if_neg hr]
theorem jU {k:Nat} {cs cs':List ag} (h:cs.map (tr k)=cs'.map (tr k)):D k cs=D k cs':=by
 rw [<- Zig k cs,h,Zig]
theorem Zij {k:Nat} {cs:List ag} (u:ag) (hl:cs.length+1=k):∀ ds:List ag,(∀ c∈ds,c∈cs)->D k (cs++[λr=>u r+(ds.map λc=>c r).sum])=D k (cs++[u])
 | [],_=>by
  have e:(λr=>u r+(([]:List ag).map λc=>c r).sum)=u:=funext λr=>by show u r+0=u r; omega
  rw [e]
 | c::ds,h=>by
  have ih:=Zij u hl ds λd hd=>h d (List.mem_cons_of_mem _ hd)
  have e:(λr=>u r+((c::ds).map λc=>c r).sum)=λr=>(λr=>u r+(ds.map λc=>c r).sum) r+1 * c r:=funext λr=>by
   rw [List.map_cons,List.sum_cons]
   show u r+(c r+_)=u r+_+1 * c r
   omega
  rw [e,hW _ c 1 k cs [] (by rw [List.length_nil]; omega),ih,Zik (h c (by simp)) hl]
  omega
theorem r6 {k:Nat} (e:ag) (m:ag->Int):∀ (cs pre:List ag),pre.length+cs.length+1=k->D k (pre++(cs.map λc=>(λr=>c r+m c * e r:ag))++[e])=D k (pre++cs++[e])
 | [],pre,_=>rfl
 | c::cs,pre,h=>by
  rw [List.length_cons] at h
  have ih:=r6 (k:=k) e m cs (pre++[c]) (by rw [List.length_append,List.length_singleton]; omega)
  have a:=hW c e (m c) k pre ((cs.map λc=>(λr=>c r+m c * e r:ag))++[e]) (by rw [List.length_append,List.length_map,List.length_singleton]; omega)
  have z:=nZ (k:=k) (cs.map λc=>(λr=>c r+m c * e r:ag)) pre [] e (by rw [List.length_map,List.length_nil]; omega)
  rw [z,Int.mul_zero,Int.add_zero] at a
  rw [List.map_cons,List.append_assoc,List.cons_append,a]
  have e1:pre++c::((cs.map λc=>(λr=>c r+m c * e r:ag))++[e])=pre++[c]++(cs.map λc=>(λr=>c r+m c * e r:ag))++[e]:=by simp
  have e2:pre++c::cs++[e]=pre++[c]++cs++[e]:=by simp
  rw [e1,e2]
  exact ih
noncomputable def ei (i:Nat):ag:=λr=>if r=i then 1 else 0
theorem Zil {k:Nat} {cs:List ag} (hl:cs.length+1=k) (v:ag):∀ n:Nat,ad (λi=>v i * D k (cs++[ei i])) n=D k (cs++[λr=>if r < n then v r else 0])
 | 0=>by
  have e:(λr:Nat=>if r < 0 then v r else 0)=λr=>(λ_=>0:ag) r+(-1) * (λ_=>0:ag) r:=funext λr=>by simp
  have z:=hW (λ_=>0) (λ_=>0) (-1) k cs [] (by rw [List.length_nil]; omega)
  rw [ad,e,z]
  omega
 | n+1=>by
  have e:(λr:Nat=>if r < n+1 then v r else 0)=λr=>(λr=>if r < n then v r else 0:ag) r+v n * ei n r:=funext λr=>by
   unfold ei
   by_cases h1:r < n
   ·rw [if_pos (by omega),if_neg (by omega)]
    show v r=(if r < n then v r else 0)+v n * 0
    rw [if_pos h1]
    omega
   ·by_cases h2:r=n
    ·subst h2
     rw [if_pos (by omega),if_pos rfl]
     show v r=(if r < r then v r else 0)+v r * 1
     rw [if_neg h1]
     omega
    ·rw [if_neg (by omega),if_neg h2]
     show 0=(if r < n then v r else 0)+v n * 0
     rw [if_neg h1]
     omega
  rw [ad,Zil hl v n,e,hW _ (ei n) (v n) k cs [] (by rw [List.length_nil]; omega)]
end Bar
set_option Elab.async false
set_option linter.all false
set_option maxRecDepth 100000
namespace Bar
noncomputable def sw (j r:Nat):Nat:=if r=j then j+1 else if r=j+1 then j else r
theorem jZ (j:Nat):sw j j=j+1:=if_pos rfl
theorem lL (j:Nat):sw j (j+1)=j:=by unfold sw; rw [if_neg (by omega),if_pos rfl]
theorem fG {j r:Nat} (h1:r≠j) (h2:r≠j+1):sw j r=r:=by unfold sw; rw [if_neg h1,if_neg h2]
theorem Zih:∀ {k j:Nat},j+1 < k->∀ cs:List ag,D k (cs.map λc=>(λr=>c (sw j r):ag))=-D k cs
 | 0,j,h,_=>by omega
 | k+1,j,h,cs=>by
  show lap (λc=>c k) (cs.map λc=>(λr=>c (sw j r):ag)) (D k)=-lap (λc=>c k) cs (D k)
  rw [mM]
  by_cases hk:k=j+1
  ·subst hk
   have e:(λr:List ag=>D (j+1) (r.map λc=>(λr=>c (sw j r):ag)))=λr=>lap (λc=>c (j+1)) r (D j):=funext λr=>by
    show lap (λc=>c j) (r.map λc=>(λr=>c (sw j r):ag)) (D j)=_
    rw [mM]
    have e1:(λc:ag=>c (sw j j))=λc=>c (j+1):=by rw [jZ]
    have e2:(λq:List ag=>D j (q.map λc=>(λr=>c (sw j r):ag)))=D j:=funext λq=>sa (λc r hr=>by show c (sw j r)=c r; rw [fG (by omega) (by omega)]) q
    rw [e1,e2]
   rw [e]
   show lap (λc=>c (sw j (j+1))) cs _=_
   rw [lL,mK]
   rfl
  ·have e:(λr:List ag=>D k (r.map λc=>(λr=>c (sw j r):ag)))=λr=>-D k r:=funext λr=>Zih (by omega) r
   rw [e]
   show lap (λc=>c (sw j k)) cs _=_
   rw [fG (by omega) (by omega),mL]
theorem Zh7 (A:Nat->Nat->Int) (σ:Nat->Nat):∀ k:Nat,R (λr l=>A (σ r) l) k=(R A k).map λc=>(λr=>c (σ r):ag)
 | 0=>rfl
 | k+1=>by rw [R,R,List.map_cons,Zh7 A σ k]; rfl
theorem np {A:Nat->Nat->Int} {k j:Nat} (h:j+1 < k):d (λr l=>A (sw j r) l) k=-d A k:=by
 unfold d
 rw [Zh7,Zih h]
theorem Zh8 {A B:Nat->Nat->Int}:∀ {k:Nat},(∀ r l,l < k->A r l=B r l)->R A k=R B k
 | 0,_=>rfl
 | k+1,h=>by
  rw [R,R,Zh8 λr l hl=>h r l (by omega)]
  congr 1
  exact funext λr=>h r k (by omega)
theorem Zh3 {A B:Nat->Nat->Int} (n:Nat):∀ {k:Nat},(∀ r l,r < n->l < k->A r l=B r l)->(R A k).map (tr n)=(R B k).map (tr n)
 | 0,_=>rfl
 | k+1,h=>by
  rw [R,R,List.map_cons,List.map_cons,Zh3 n λr l hr hl=>h r l hr (by omega)]
  congr 1
  exact hZ λr hr=>h r k hr (by omega)
theorem qN {A B:Nat->Nat->Int} {k:Nat} (h:∀ r l,r < k->l < k->A r l=B r l):d A k=d B k:=jU (Zh3 k h)
theorem Zh5 (A:Nat->Nat->Int) (j:Nat):∀ m:Nat,∃ pre:List ag,R A (j+2+m)=pre++col A (j+1)::col A j::R A j/\R (λr l=>A r (sw j l)) (j+2+m)=pre++col A j::col A (j+1)::R A j/\pre.length=m
 | 0=>by
  refine ⟨[],rfl,?_,rfl⟩
  show col (λr l=>A r (sw j l)) (j+1)::col (λr l=>A r (sw j l)) j::R (λr l=>A r (sw j l)) j=_
  have e1:col (λr l=>A r (sw j l)) (j+1)=col A j:=funext λr=>by show A r (sw j (j+1))=A r j; rw [lL]
  have e2:col (λr l=>A r (sw j l)) j=col A (j+1):=funext λr=>by show A r (sw j j)=A r (j+1); rw [jZ]
  have e3:R (λr l=>A r (sw j l)) j=R A j:=Zh8 λr l hl=>by show A r (sw j l)=A r l; rw [fG (by omega) (by omega)]
  rw [e1,e2,e3]
  rfl
 | m+1=>by
  obtain ⟨pre,h1,h2,h3⟩:=Zh5 A j m
  refine ⟨col A (j+2+m)::pre,?_,?_,by rw [List.length_cons,h3]⟩
  ·show col A (j+2+m)::R A (j+2+m)=_
   rw [h1]
   rfl
  ·show col (λr l=>A r (sw j l)) (j+2+m)::R (λr l=>A r (sw j l)) (j+2+m)=_
   have e:col (λr l=>A r (sw j l)) (j+2+m)=col A (j+2+m):=funext λr=>by show A r (sw j (j+2+m))=A r (j+2+m); rw [fG (by omega) (by omega)]
   rw [e,h2]
   rfl
theorem gZ (A:Nat->Nat->Int):∀ k:Nat,(R A k).length=k
 | 0=>rfl
 | k+1=>by rw [R,List.length_cons,gZ A k]
theorem Znh {A:Nat->Nat->Int} {k j:Nat} (h:j+1 < k):d (λr l=>A r (sw j l)) k=-d A k:=by
 obtain ⟨m,rfl⟩:∃ m,k=j+2+m:=⟨k - (j+2),by omega⟩
 obtain ⟨pre,h1,h2,h3⟩:=Zh5 A j m
 unfold d
 rw [h1,h2]
 exact n5 _ _ _ _ _ (by rw [gZ,h3]; omega)
theorem Znl {A:Nat->Nat->Int} {k j:Nat} (h:j+1 < k):d (λr l=>A (sw j r) (sw j l)) k=d A k:=by
 have e1:=np (A:=λr l=>A r (sw j l)) h
 have e2:=Znh (A:=A) h
 have e1:d (λr l=>A (sw j r) (sw j l)) k=-d (λr l=>A r (sw j l)) k:=e1
 omega
noncomputable def sk (i r:Nat):Nat:=if r < i then r else r+1
noncomputable def mn (i:Nat) (A:Nat->Nat->Int):Nat->Nat->Int:=λr l=>A (sk i r) (sk i l)
noncomputable def uR (i:Nat) (A:Nat->Nat->Int):Nat->Nat->Int:=λr l=>if r=i then (if l=i then 1 else 0) else A r l
theorem Zha:∀ (m:Nat) {i n:Nat} (A:Nat->Nat->Int),i+m=n->d (mn i A) n=d (uR i A) (n+1)
 | 0,i,n,A,h=>by
  have h:i=n:=by omega
  subst h
  have e0:d (uR i A) (i+1)=lap (λc=>c i) (col (uR i A) i::R (uR i A) i) (D i):=rfl
  have e1:lap (λc:ag=>c i) (R (uR i A) i) (λr=>D i (col (uR i A) i::r))=0:=Zdi λc hc=>by
   have key:∀ k:Nat,k<=i->∀ c∈R (uR i A) k,c i=0:=by
    intro k
    induction k with
    | zero=>intro _ c hc; cases hc
    | succ k ih =>
     intro hk c hc
     rw [R] at hc
     rcases List.mem_cons.mp hc with e | e
     ·subst e
      show uR i A i k=0
      unfold uR
      rw [if_pos rfl,if_neg (by omega)]
     ·exact ih (by omega) c e
   exact key i (Nat.le_refl _) c hc
  have e2:uR i A i i=1:=by unfold uR; rw [if_pos rfl,if_pos rfl]
  rw [e0,lap,e1]
  show d (mn i A) i=uR i A i i * D i (R (uR i A) i) - 0
  rw [e2,Int.one_mul,Int.sub_zero]
  refine qN λr l hr hl=>?_
  unfold mn uR sk
  rw [if_pos hr,if_pos hl,if_neg (by omega)]
 | m+1,i,n,A,h=>by
  have ih:=Zha m (i:=i+1) (n:=n) (λr l=>A (sw i r) (sw i l)) (by omega)
  have e1:mn (i+1) (λr l=>A (sw i r) (sw i l))=mn i A:=funext λr=>funext λl=>by
   have key:∀ q:Nat,sw i (sk (i+1) q)=sk i q:=λq=>by
    unfold sk
    by_cases h1:q < i
    ·rw [if_pos (by omega),if_pos h1,fG (by omega) (by omega)]
    ·by_cases h2:q=i
     ·subst h2
      rw [if_pos (by omega),if_neg h1,jZ]
     ·rw [if_neg (by omega),if_neg h1,fG (by omega) (by omega)]
   show A (sw i (sk (i+1) r)) (sw i (sk (i+1) l))=A (sk i r) (sk i l)
   rw [key,key]
  have e2:uR (i+1) (λr l=>A (sw i r) (sw i l))=λr l=>uR i A (sw i r) (sw i l):=funext λr=>funext λl=>by
   have key:∀ q:Nat,(sw i q=i) ↔ (q=i+1):=λq=>by
    unfold sw
    by_cases h1:q=i
    ·rw [if_pos h1]; omega
    ·rw [if_neg h1]
     by_cases h2:q=i+1
     ·rw [if_pos h2]; omega
     ·rw [if_neg h2]; omega
   show (if r=i+1 then (if l=i+1 then (1:Int) else 0) else A (sw i r) (sw i l))=if sw i r=i then (if sw i l=i then 1 else 0) else A (sw i r) (sw i l)
   by_cases h1:r=i+1
   ·rw [if_pos h1,if_pos ((key r).mpr h1)]
    by_cases h2:l=i+1
    ·rw [if_pos h2,if_pos ((key l).mpr h2)]
    ·rw [if_neg h2,if_neg (λz=>h2 ((key l).mp z))]
   ·rw [if_neg h1,if_neg (λz=>h1 ((key r).mp z))]
  rw [e1,e2,Znl (by omega)] at ih
  exact ih
theorem rS (A:Nat->Nat->Int):∀ m:Nat,R A (m+1)=R (λr l=>A r (l+1)) m++[col A 0]
 | 0=>rfl
 | m+1=>by
  rw [R,rS A m]
  rfl
theorem Zh4 (A:Nat->Nat->Int) (r:Nat):∀ m:Nat,((R A m).map λc=>c r).sum=ad (λl=>A r l) m
 | 0=>rfl
 | m+1=>by
  rw [R,List.map_cons,List.sum_cons,Zh4 A r m,ad]
  show A r m+_=_
  omega
theorem oG (f:Nat->Int):∀ m:Nat,ad f (m+1)=f 0+ad (λl=>f (l+1)) m
 | 0=>by show 0+f 0=f 0+0; omega
 | m+1=>by
  rw [ad,oG f m,ad]
  omega
theorem Zm5 {A:Nat->Nat->Int} {m i:Nat} (hi:i < m+1) (h0:∀ r,r < m+1->ad (λl=>A r l) (m+1)=0):d (mn i A) m=D (m+1) (R (λr l=>A r (l+1)) m++[ei i]):=by
 rw [Zha (m - i) A (by omega)]
 unfold d
 rw [rS]
 have hl:(R (λr l=>uR i A r (l+1)) m).length+1=m+1:=by rw [gZ]
 have e1:=Zij (k:=m+1) (cs:=R (λr l=>uR i A r (l+1)) m) (col (uR i A) 0) hl (R (λr l=>uR i A r (l+1)) m) λc hc=>hc
 rw [<- e1]
 have e2:D (m+1) (R (λr l=>uR i A r (l+1)) m++[λr=>col (uR i A) 0 r+((R (λr l=>uR i A r (l+1)) m).map λc=>c r).sum])=D (m+1) (R (λr l=>uR i A r (l+1)) m++[ei i]):=by
  refine jU ?_
  rw [List.map_append,List.map_append]
  congr 1
  show [tr (m+1) _]=[tr (m+1) _]
  congr 1
  refine hZ λr hr=>?_
  show uR i A r 0+((R (λr l=>uR i A r (l+1)) m).map λc=>c r).sum=ei i r
  rw [Zh4,<- oG (λl=>uR i A r l) m]
  unfold ei
  by_cases hri:r=i
  ·rw [if_pos hri]
   have key:∀ n:Nat,ad (λl=>uR i A r l) n=if i < n then 1 else 0:=by
    intro n
    induction n with
    | zero=>rfl
    | succ n ih =>
     rw [ad,ih]
     unfold uR
     rw [if_pos hri]
     by_cases q:n=i
     ·rw [if_pos q,if_neg (by omega),if_pos (by omega)]; rfl
     ·rw [if_neg q]
      by_cases q2:i < n
      ·rw [if_pos q2,if_pos (by omega)]; rfl
      ·rw [if_neg q2,if_neg (by omega)]; rfl
   rw [key,if_pos hi]
  ·rw [if_neg hri]
   have:ad (λl=>uR i A r l) (m+1)=ad (λl=>A r l) (m+1):=eD λl _=>by
    unfold uR
    rw [if_neg hri]
   rw [this,h0 r hr]
 rw [e2]
 have e3:=r6 (k:=m+1) (ei i) (λc=>-(c i)) (R (λr l=>A r (l+1)) m) [] (by rw [gZ,List.length_nil]; omega)
 rw [List.nil_append,List.nil_append] at e3
 have e4:=r6 (k:=m+1) (ei i) (λc=>-(c i)) (R (λr l=>uR i A r (l+1)) m) [] (by rw [gZ,List.length_nil]; omega)
 rw [List.nil_append,List.nil_append] at e4
 rw [<- e3,<- e4]
 refine jU ?_
 rw [List.map_append,List.map_append]
 congr 1
 have key:∀ n:Nat,((R (λr l=>uR i A r (l+1)) n).map λc=>(λr=>c r+-(c i) * ei i r:ag))=(R (λr l=>A r (l+1)) n).map λc=>(λr=>c r+-(c i) * ei i r:ag):=by
  intro n
  induction n with
  | zero=>rfl
  | succ n ih =>
   rw [R,R,List.map_cons,List.map_cons,ih]
   congr 1
   refine funext λr=>?_
   show uR i A r (n+1)+-(uR i A i (n+1)) * ei i r=A r (n+1)+-(A i (n+1)) * ei i r
   unfold ei
   by_cases hri:r=i
   ·subst hri
    rw [if_pos rfl]
    omega
   ·rw [if_neg hri]
    unfold uR
    rw [if_neg hri]
    omega
 rw [key]
end Bar
set_option Elab.async false
set_option linter.all false
set_option maxRecDepth 100000
namespace Bar
theorem lM (f g:Nat->Int):∀ n:Nat,ad (λj=>f j+g j) n=ad f n+ad g n
 | 0=>rfl
 | n+1=>by rw [ad,ad,ad,lM f g n]; omega
theorem i5 (f:Nat->Int) (c:Int):∀ n:Nat,ad (λj=>c * f j) n=c * ad f n
 | 0=>by rw [ad,ad,Int.mul_zero]
 | n+1=>by rw [ad,ad,i5 f c n,Int.mul_add]
theorem ZaO (f:Nat->Nat->Int) (n:Nat):∀ m:Nat,ad (λi=>ad (λj=>f i j) m) n=ad (λj=>ad (λi=>f i j) n) m
 | 0=>by
  rw [ad]
  exact ia λl _=>rfl
 | m+1=>by
  have e:(λi=>ad (λj=>f i j) (m+1))=λi=>ad (λj=>f i j) m+f i m:=rfl
  rw [e,lM,ZaO f n m]
  rfl
theorem phi {A:Nat->Nat->Int} {m:Nat} (h0:∀ r,r < m+1->ad (λl=>A r l) (m+1)=0) (v:ag):ad (λi=>v i * d (mn i A) m) (m+1)=D (m+1) (R (λr l=>A r (l+1)) m++[v]):=by
 have e1:ad (λi=>v i * d (mn i A) m) (m+1)=ad (λi=>v i * D (m+1) (R (λr l=>A r (l+1)) m++[ei i])) (m+1):=eD λi hi=>by rw [Zm5 hi h0]
 rw [e1,Zil (by rw [gZ])]
 refine jU ?_
 rw [List.map_append,List.map_append]
 congr 1
 show [tr (m+1) _]=[tr (m+1) _]
 congr 1
 exact hZ λr hr=>if_pos hr
theorem rR (A:Nat->Nat->Int):∀ {k j:Nat},j < k->col A j∈R A k
 | 0,j,h=>by omega
 | k+1,j,h=>by
  rw [R]
  by_cases e:j=k
  ·subst e; exact List.mem_cons_self
  ·exact List.mem_cons_of_mem _ (rR A (by omega))
theorem ZkC {A:Nat->Nat->Int} {m:Nat} (h0:∀ r,r < m+1->ad (λl=>A r l) (m+1)=0) {j:Nat} (hj:j < m):ad (λi=>A i (j+1) * d (mn i A) m) (m+1)=0:=by
 rw [phi h0 λi=>A i (j+1)]
 exact Zik (rR (λr l=>A r (l+1)) hj) (by rw [gZ])
theorem ZkA {A:Nat->Nat->Int} {m:Nat} (h0:∀ r,r < m+1->ad (λl=>A r l) (m+1)=0) (S:Int):S * ad (λi=>d (mn i A) m) (m+1)=d (λr l=>if l=0 then S else A r l) (m+1):=by
 rw [<- i5]
 have e:=phi h0 (λ_=>S)
 rw [e]
 unfold d
 rw [rS]
 rfl
theorem ZkB {A:Nat->Nat->Int} {m:Nat} (h0:∀ r,r < m+1->ad (λl=>A r l) (m+1)=0) {S Dd:Int} {z c:Nat->Int} (hz:∀ r,r < m+1->S * z 0+ad (λl=>A r (l+1) * z (l+1)) m=Dd * c r):Dd * ad (λi=>d (mn i A) m * c i) (m+1)=z 0 * (S * ad (λi=>d (mn i A) m) (m+1)):=by
 rw [<- i5]
 have e1:ad (λi=>Dd * (d (mn i A) m * c i)) (m+1)=ad (λi=>S * z 0 * d (mn i A) m+ad (λl=>z (l+1) * (A i (l+1) * d (mn i A) m)) m) (m+1):=eD λi hi=>by
  have h:=hz i hi
  have e:Dd * (d (mn i A) m * c i)=(Dd * c i) * d (mn i A) m:=by grind
  rw [e,<- h,Int.add_mul]
  congr 1
  rw [Int.mul_comm,<- i5]
  exact eD λl _=>by grind
 rw [e1,lM,ZaO]
 have e2:ad (λl=>ad (λi=>z (l+1) * (A i (l+1) * d (mn i A) m)) (m+1)) m=0:=ia λl hl=>by
  rw [i5 (λi=>A i (l+1) * d (mn i A) m),ZkC h0 hl,Int.mul_zero]
 rw [e2,i5 (λi=>d (mn i A) m)]
 grind
noncomputable def tp (k p r:Nat):Nat:=if r=k then p else if r=p then k else r
theorem Zg9:∀ (q:Nat) {k n:Nat} (B:Nat->Nat->Int),k+q+1 < n->d (λr l=>B (tp k (k+q+1) r) l) n=-d B n
 | 0,k,n,B,h=>by
  have e:(λr l=>B (tp k (k+0+1) r) l)=λr l=>B (sw k r) l:=rfl
  rw [e,np (by omega)]
 | q+1,k,n,B,h=>by
  have e1:=np (A:=B) (k:=n) (j:=k+q+1) (by omega)
  have e2:=Zg9 q (k:=k) (n:=n) (λr l=>B (sw (k+q+1) r) l) (by omega)
  have e3:=np (A:=λr l=>B (sw (k+q+1) (tp k (k+q+1) r)) l) (k:=n) (j:=k+q+1) (by omega)
  have e4:(λr l=>B (tp k (k+(q+1)+1) r) l)=λr l=>B (sw (k+q+1) (tp k (k+q+1) (sw (k+q+1) r))) l:=funext λr=>funext λl=>by
   have key:tp k (k+(q+1)+1) r=sw (k+q+1) (tp k (k+q+1) (sw (k+q+1) r)):=by
    by_cases h1:r=k
    ·have a1:sw (k+q+1) r=k:=by rw [fG (by omega) (by omega)]; exact h1
     rw [a1]
     have a2:tp k (k+q+1) k=k+q+1:=if_pos rfl
     rw [a2,jZ]
     unfold tp
     rw [if_pos h1]
     omega
    ·by_cases h2:r=k+(q+1)+1
     ·have a1:sw (k+q+1) r=k+q+1:=by rw [h2]; exact lL (k+q+1)
      have a2:tp k (k+q+1) (k+q+1)=k:=by unfold tp; rw [if_neg (by omega),if_pos rfl]
      rw [a1,a2,fG (by omega) (by omega)]
      unfold tp
      rw [if_neg h1,if_pos h2]
     ·have a3:tp k (k+(q+1)+1) r=r:=by unfold tp; rw [if_neg h1,if_neg h2]
      rw [a3]
      by_cases h3:r=k+q+1
      ·have a1:sw (k+q+1) r=k+q+1+1:=by rw [h3]; exact jZ _
       have a2:tp k (k+q+1) (k+q+1+1)=k+q+1+1:=by unfold tp; rw [if_neg (by omega),if_neg (by omega)]
       rw [a1,a2,lL]
       exact h3
      ·have a1:sw (k+q+1) r=r:=fG h3 (by omega)
       have a2:tp k (k+q+1) r=r:=by unfold tp; rw [if_neg h1,if_neg h3]
       rw [a1,a2,a1]
   rw [key]
  rw [e4]
  have e2:d (λr l=>B (sw (k+q+1) (tp k (k+q+1) r)) l) n=-d (λr l=>B (sw (k+q+1) r) l) n:=e2
  omega
theorem D_0 {k:Nat} (pre post:List ag) (h:pre.length+post.length+1=k):D k (pre++(λ_=>0:ag)::post)=0:=by
 have e:=hW (λ_=>0) (λ_=>0) (-1) k pre post h
 have e0:(λr:Nat=>(λ_=>0:ag) r+-1 * (λ_=>0:ag) r)=(λ_=>0:ag):=funext λr=>by show (0:Int)+-1 * 0=0; omega
 rw [e0] at e
 omega
theorem Zpc {k:Nat} (pre:List ag) {post:List ag} {a:ag} (ha:a∈post) (h:pre.length+post.length+1=k):D k (pre++a::post)=0:=by
 obtain ⟨p,q,rfl⟩:=List.append_of_mem ha
 refine nZ p pre q a ?_
 rw [List.length_append,List.length_cons] at h
 omega
theorem Zim {n:Nat} (B:Nat->Nat->Int) (z:Nat->Int) (pre post:List ag) (hl:pre.length+post.length+1=n):∀ k:Nat,(∀ l,l < k->col B l∈post)->D n (pre++(λr=>ad (λl=>B r l * z l) k:ag)::post)=0
 | 0,_=>D_0 pre post hl
 | k+1,h=>by
  have ih:=Zim B z pre post hl k λl hl=>h l (by omega)
  have e:(λr=>ad (λl=>B r l * z l) (k+1):ag)=λr=>(λr=>ad (λl=>B r l * z l) k:ag) r+z k * col B k r:=funext λr=>by
   show ad (λl=>B r l * z l) k+B r k * z k=ad (λl=>B r l * z l) k+z k * B r k
   rw [Int.mul_comm (B r k)]
  rw [e,hW _ (col B k) (z k) n pre post hl,ih,Zpc pre (h k (by omega)) hl]
  omega
theorem Zh9 (B:Nat->Nat->Int) (k:Nat):∀ m:Nat,∃ pre:List ag,R B (k+1+m)=pre++col B k::R B k/\pre.length=m
 | 0=>⟨[],rfl,rfl⟩
 | m+1=>by
  obtain ⟨pre,h1,h2⟩:=Zh9 B k m
  refine ⟨col B (k+1+m)::pre,?_,by rw [List.length_cons,h2]⟩
  show col B (k+1+m)::R B (k+1+m)=_
  rw [h1]
  rfl
theorem Znc {B:Nat->Nat->Int} {k n:Nat} (hk:k < n) (hd:d B k≠0) (h:∀ r,k<=r->r < n->F B k r (col B k)=0):d B n=0:=by
 obtain ⟨m,rfl⟩:∃ m,n=k+1+m:=⟨n - (k+1),by omega⟩
 obtain ⟨pre,h1,h2⟩:=Zh9 B k m
 have hl:pre.length+(R B k).length+1=k+1+m:=by rw [gZ,h2]; omega
 have hz:∀ r,r < k+1+m->d B k * B r k=ad (λl=>B r l * sol B k (col B k) l) k:=λr hr=>by
  by_cases hrk:r < k
  ·exact (cramer B hrk (col B k)).symm
  ·have:=h r (by omega) hr
   unfold F at this
   have e:d B k * col B k r=d B k * B r k:=rfl
   omega
 have e1:=Zim B (sol B k (col B k)) pre (R B k) hl k λl hl=>rR B hl
 have e2:D (k+1+m) (pre++(λr=>ad (λl=>B r l * sol B k (col B k) l) k:ag)::R B k)=D (k+1+m) (pre++(λr=>(λ_=>0:ag) r+d B k * col B k r:ag)::R B k):=by
  refine jU ?_
  rw [List.map_append,List.map_append,List.map_cons,List.map_cons]
  congr 2
  refine hZ λr hr=>?_
  show _=0+d B k * B r k
  rw [hz r hr]
  omega
 rw [e1,hW _ (col B k) (d B k) _ pre (R B k) hl,D_0 pre (R B k) hl,Int.zero_add] at e2
 unfold d
 rw [h1]
 have e2:d B k * D (k+1+m) (pre++col B k::R B k)=0:=e2.symm
 rcases Int.mul_eq_zero.mp e2 with q | q
 ·exact absurd q hd
 ·exact q
theorem Zh6 {A B:Nat->Nat->Int} {k:Nat} (h:∀ r l,r < k->A r l=B r l):∀ j:Nat,(R A j).map (tr k)=(R B j).map (tr k)
 | 0=>rfl
 | j+1=>by
  rw [R,R,List.map_cons,List.map_cons,Zh6 h j]
  congr 1
  exact hZ λr hr=>h r j hr
theorem qM {A B:Nat->Nat->Int} {k:Nat} (h:∀ r l,r < k->A r l=B r l) {j:Nat} (hj:j<=k):d A j=d B j:=qN λr l hr _=>h r l (by omega)
theorem ZnE {A B:Nat->Nat->Int} {g g':List ag->Int} {k:Nat} (hg:∀ q q':List ag,q.map (tr k)=q'.map (tr k)->g q=g' q') (h:∀ r l,r < k->A r l=B r l):∀ (j:Nat) (l:Nat),cy A j g l=cy B j g' l:=by
 intro j
 induction j generalizing g g' with
 | zero=>intro l; rfl
 | succ j ih =>
  intro l
  have e1:=hg (R A j) (R B j) (Zh6 h j)
  have e2:=ih (g:=λr=>g (col A j::r)) (g':=λr=>g' (col B j::r)) (λq q' hq=>hg _ _ (by
   rw [List.map_cons,List.map_cons,hq]
   congr 1
   exact hZ λr hr=>h r j hr)) l
  unfold cy
  rw [e1,e2]
theorem Zjk {A B:Nat->Nat->Int} {k:Nat} (h:∀ r l,r < k->A r l=B r l) {a b:ag} (hab:∀ r,r < k->a r=b r) (l:Nat):sol A k a l=sol B k b l:=by
 unfold sol
 refine ZnE (k:=k) (λq q' hq=>?_) h k l
 refine jU ?_
 rw [List.map_cons,List.map_cons,hq]
 congr 1
 exact hZ hab
theorem Zpb {A B:Nat->Nat->Int} {k i i':Nat} (h:∀ r l,r < k->A r l=B r l) (hi:∀ l,A i l=B i' l) {a b:ag} (hab:∀ r,r < k->a r=b r) (hai:a i=b i'):F A k i a=F B k i' b:=by
 unfold F
 rw [qM h (Nat.le_refl _),hai]
 congr 1
 exact eD λl _=>by rw [hi,Zjk h hab]
end Bar
set_option Elab.async false
set_option linter.all false
set_option maxRecDepth 100000
namespace L2
open PySem PySem.Spec PyProof.Rows
noncomputable def bS (c:Addr) (at' left:Int):List (aA×V):=[(Sum.inr "cells",.ref c),(Sum.inr "at",.int at'),(Sum.inr "left",.int left)]
theorem nc1:¬ ((Sum.inr ("cells":Str):aA)=(Sum.inr ("at":Str):aA)):=by decide +kernel
theorem nc2:¬ ((Sum.inr ("cells":Str):aA)=(Sum.inr ("left":Str):aA)):=by decide +kernel
theorem pN:¬ ((Sum.inr ("at":Str):aA)=(Sum.inr ("left":Str):aA)):=by decide +kernel
theorem ZkF (c:Addr) (a l:Int):dl (bS c a l) (Sum.inr "cells":aA)=some (.ref c):=iY rfl
theorem Zco (c:Addr) (a l:Int):dl (bS c a l) (Sum.inr "at":aA)=some (.int a):=by
 unfold bS
 rw [iZ nc1,iY rfl]
theorem Zcn (c:Addr) (a l:Int):dl (bS c a l) (Sum.inr "left":aA)=some (.int l):=by
 unfold bS
 rw [iZ nc2,iZ pN,iY rfl]
theorem ZkE (c:Addr) (a l b:Int):cr (bS c a l) (Sum.inr "at":aA) (.int b)=bS c b l:=by
 have h:((bS c a l).any λkv=>decide (kv.1=(Sum.inr "at":aA)))=true:=by rw [lF,Zco]; rfl
 unfold cr
 rw [if_pos h]
 unfold bS
 simp only [List.map_cons,List.map_nil,if_neg nc1,if_neg (Ne.symm pN),if_true]
theorem ZkD (c:Addr) (a l b:Int):cr (bS c a l) (Sum.inr "left":aA) (.int b)=bS c a b:=by
 have h:((bS c a l).any λkv=>decide (kv.1=(Sum.inr "left":aA)))=true:=by rw [lF,Zcn]; rfl
 unfold cr
 rw [if_pos h]
 unfold bS
 simp only [List.map_cons,List.map_nil,if_neg nc2,if_neg pN,if_true]
section
variable {H:Hp} {p c:Addr} {a l b:Int}
theorem nk (h:H p=some (.dK (bS c a l))):DGet H p (.str "cells") (some (.ref c)):=by
 have q:=DGet.k (k:=(Sum.inr "cells":aA)) h
 rw [ZkF] at q
 exact q
theorem ZmV (h:H p=some (.dK (bS c a l))):DGet H p (.str "at") (some (.int a)):=by
 have q:=DGet.k (k:=(Sum.inr "at":aA)) h
 rw [Zco] at q
 exact q
theorem qJ (h:H p=some (.dK (bS c a l))):DGet H p (.str "left") (some (.int l)):=by
 have q:=DGet.k (k:=(Sum.inr "left":aA)) h
 rw [Zcn] at q
 exact q
theorem ZmS (h:H p=some (.dK (bS c a l))):DPut H p (.str "at") (.int b) (upd H p (.dK (bS c b l))):=by
 have q:=DPut.k (k:=(Sum.inr "at":aA)) (v:=V.int b) h (by show 3 < sizeLine; decide)
 rw [ZkE] at q
 exact q
theorem ZgY (h:H p=some (.dK (bS c a l))):DPut H p (.str "left") (.int b) (upd H p (.dK (bS c a b))):=by
 have q:=DPut.k (k:=(Sum.inr "left":aA)) (v:=V.int b) h (by show 3 < sizeLine; decide)
 rw [ZkD] at q
 exact q
end
structure Pen6 (K:PySem.W.Frag) (H:Hp) (p c:Addr) (ns:List Int) (m:Nat):Prop where
 ex:∃ (k:Nat) (left:Int),H p=some (.dK (bS c k left))/\k<=m/\0<=left
 cells:SqL K H c (ns.map V.int)
 len:ns.length<=63
noncomputable def ZaS (K:PySem.W.Frag):Sp:=λvs H Q _=>∃ (p c:Addr) (ns:List Int) (m:Nat) (most:Int),vs=[.ref p,.int most]/\Pen6 K H p c ns m/\m<=500000/\0 < most/\most < 1073741824 /\
 ∀ (r:Int) (H':Hp),0<=r->r < most->Pen6 K H' p c ns (m+1)->Kept p H H'->Q (.int r) H'
noncomputable def Zjh (K:PySem.W.Frag):Sp:=λvs H Q _=>∃ (a:Addr) (ns:List Int),vs=[.ref a]/\SqL K H a (ns.map V.int)/\ns.length<=63 /\
 ∀ (p:Addr) (H':Hp),H p=none->(∃ c,Pen6 K H' p c ns 0)->Same H H'->Q (.ref p) H'
noncomputable def bF (cn:PySem.W.Frag×Addr×List Int):Pk where
 is:=λo G m=>∃ (k:Nat) (left:Int),o=.dK (bS cn.2.1 k left)/\k<=m/\0<=left/\SqL cn.1 G cn.2.1 (cn.2.2.map V.int)/\cn.2.2.length<=63
 mono:=λs ⟨k,left,e,h1,h2,h3,h4⟩=>⟨k,left,e,h1,h2,Same.seq (λb o h=>s b o h) h3,h4⟩
theorem gy {cn:PySem.W.Frag×Addr×List Int}:PkLow (bF cn):=⟨λ⟨_,_,_,_,_,h3,_⟩ _ ⟨k,left,e,h1,h2,_,h4⟩=>⟨k,left,e,h1,h2,h3,h4⟩⟩
theorem Zkn {ι:Type} {X:Cx} {e:List Stmt} {t:ι->TS} (h:∀ i,PSs X e (t i)):PSs X e (λD σ H=>∃ i,t i D σ H):=λpins s σ H D I z=>by
 obtain ⟨i,z⟩:=z
 exact h i pins s σ H D I z
noncomputable def mF:List Sl->Tr Re:=λas=>match as with
 | [.pen,.d (.int most)]=>.draw most λr=>.ret (.d (.int r))
 | _=>.fail
theorem ZgW {as:List Sl} {m:Nat} {Z:Nat->Re->Prop} (h:(mF as).ok m Z):∃ most,as=[.pen,.d (.int most)]:=by
 unfold mF at h
 split at h
 ·exact ⟨_,rfl⟩
 ·exact h.elim
theorem ZmQ {P:Program} {w:World} {K:PySem.W.Frag} {c:Addr×List Int} {mg:Str->Option Value} {base:Heap} {x:Str} {k:Nat} {ps:List Str} (hp:ps.length=2) (C:Callee P w K mg base x k ps (ZaS K)):ACal (bF (K,c)) P w K mg base x k ps mF:=by
 refine ⟨?_,λas m Z h=>by obtain ⟨most,rfl⟩:=ZgW h; exact hp.symm⟩
 obtain ⟨f,fd,F,hm,hk,hb⟩:=C.ex
 refine ⟨f,fd,F.imp λvs H Q E h=>?_,hm,hk,hb⟩
 obtain ⟨hv,pa,m,G,as,wd,ar,z⟩:=h
 obtain ⟨most,rfl⟩:=ZgW z
 obtain ⟨h1,h2,h3,h4⟩:=z
 cases ar with
 | cons a1 ar =>
  cases ar with
  | cons a2 ar =>
   cases ar
   cases a1
   cases a2 with
   | d d2 =>
    cases d2
    obtain ⟨c,ns⟩:=c
    obtain ⟨o,ho,kk,left,rfl,q1,q2,q3,q4⟩:=wd.pen
    replace q3:SqL K G c (ns.map V.int):=q3
    refine ⟨pa,c,ns,m,most,rfl,⟨⟨kk,left,ho,q1,q2⟩,Same.seq (λb o h=>wd.sub b o h) q3,q4⟩,by omega,h2,h3,λr H' r0 r1 P' K'=>?_⟩
    refine h4 r r0 r1 (.int r) G H' ⟨λ_ _ q=>q,λ_ _ q=>.inl q,λb o e n=>K' b o e n⟩ ⟨λb o e=>K' b o (wd.sub b o e) (λz=>by subst z; rw [wd.gpa] at e; cases e),wd.gpa,?_⟩ (.int r)
    obtain ⟨⟨k2,l2,e2,g1,g2⟩,_,_⟩:=P'
    exact ⟨_,e2,k2,l2,rfl,g1,g2,q3,q4⟩
noncomputable def ZaR:PySem.W.Frag->Sp:=λK vs H Q _=>∃ (a:Addr) (ns:List Int),vs=[.ref a]/\SqL K H a (ns.map V.int)/\ns.length<=63/\∀ H',Q (.bl true) H'
theorem ZlS {K:PySem.W.Frag} {D:Ends} {p:Addr} {ns:List Int} {H:Hp} {σ:St} {s:List Sl->Tr Ou} {n:Nat} (P:∃ c,Pen6 K H p c ns 0) (hσ:σ.length=n+2) (h1:σ[1]?=some (some (.ref p))) (hrt:∀ H',D.rt (.bl true) H')
  (h:(s (.un::.pen::List.replicate n .un)).ok 0 λ_ o=>o=.ret (.d (.bool true))):∃ cn:Addr×List Int,bg (bF (K,cn)) s D σ H:=by
 obtain ⟨c,⟨k,l,e,hk,hl⟩,hc,hn⟩:=P
 obtain ⟨G,gs,gp,gc⟩:∃ G:Hp,(∀ b o,G b=some o->H b=some o)/\G p=none/\SqL K G c (ns.map V.int):=by
  rcases hc with (hc | ⟨o,hc⟩) | hc
  ·refine ⟨λb=>if b=c then H c else none,λb o hb=>?_,?_,.inl (.inl (by simp [hc]))⟩
   ·by_cases hbc:b=c
    ·subst hbc; simpa using hb
    ·simp [hbc] at hb
   ·have:p≠c:=kD e hc (by intro z; cases z)
    exact if_neg this
  ·refine ⟨λb=>if b=c then H c else none,λb o hb=>?_,?_,.inl (.inr ⟨o,by simp [hc]⟩)⟩
   ·by_cases hbc:b=c
    ·subst hbc; simpa using hb
    ·simp [hbc] at hb
   ·have:p≠c:=kD e hc (by intro z; cases z)
    exact if_neg this
  ·exact ⟨λ_=>none,λb o hb=>(by cases hb),rfl,.inr hc⟩
 have key:∀ (i:Nat) (sl:Sl),(Sl.un::.pen::List.replicate n .un)[i]?=some sl->sl=.un\/(i=1/\sl=.pen):=λi sl hi=>by
  match i with
  | 0=>simp at hi; exact .inl hi.symm
  | 1=>simp at hi; exact .inr ⟨rfl,hi.symm⟩
  | i+2 =>
   simp [List.getElem?_replicate] at hi
   exact .inl hi.2.symm
 refine ⟨(c,ns),p,G,H,0,_,G,⟨⟨gs,gp,?_⟩,.refl,⟨_,e⟩,λi sl hi=>?_,by simp [hσ],λi j xs ys _ hi _=>?_,λi j xs ys _ hi _=>by rcases key i _ hi with z | ⟨_,z⟩ <;> cases z⟩,Tr.ok_mono h λm o ho=>?_⟩
 ·exact ⟨_,e,k,l,rfl,hk,hl,gc,hn⟩
 ·have hlt:i < σ.length:=by
   have:=(List.getElem?_eq_some_iff.mp hi).1
   simp at this
   omega
  rcases key i sl hi with rfl | ⟨rfl,rfl⟩
  ·exact ⟨σ[i],by simp [hlt],.un⟩
  ·exact ⟨_,h1,.pen⟩
 ·rcases key i _ hi with z | ⟨_,z⟩ <;> cases z
 ·subst ho
  intro v G H' s' w' d
  cases (show Dn G v (.bool true) from d)
  exact hrt H'
end L2
set_option Elab.async false
set_option linter.all false
set_option maxRecDepth 100000
namespace My
open PySem PySem.Spec PyProof.Rows L2
noncomputable def top (i:Nat):Stmt:=PySem.Challenge.pw_twomarks_k39_means_of_rules.main.body.getD i (.Pass ⟨0,0,0,0⟩)
noncomputable abbrev Zbl:Stmt:=top 12
noncomputable abbrev ZoM:List Str:=["shop"]
theorem Zjv:FnScope ZoM ["shop"] (aH Zbl):=⟨rfl,rfl,rfl,by decide +kernel,rfl,by decide +kernel,by decide +kernel⟩
noncomputable abbrev oY:Stmt:=top 13
noncomputable abbrev ly:List Str:=["day"]
theorem Zjy:FnScope ly ["day"] (aH oY):=⟨rfl,rfl,rfl,by decide +kernel,rfl,by decide +kernel,by decide +kernel⟩
noncomputable abbrev Zbn:Stmt:=top 14
noncomputable abbrev ZoO:List Str:=["shop","stock","level"]
theorem Zjw:FnScope ZoO ["shop","stock","level"] (aH Zbn):=⟨rfl,rfl,rfl,by decide +kernel,rfl,by decide +kernel,by decide +kernel⟩
noncomputable abbrev Zbo:Stmt:=top 15
noncomputable abbrev ZoP:List Str:=["shop","level","fall"]
theorem Zjx:FnScope ZoP ["shop","level","fall"] (aH Zbo):=⟨rfl,rfl,rfl,by decide +kernel,rfl,by decide +kernel,by decide +kernel⟩
noncomputable abbrev Zbr:Stmt:=top 16
noncomputable abbrev ZoS:List Str:=["shop","level","fall","stock","sold_never","held"]
theorem lR:FnScope ZoS ["shop","level","fall"] (aH Zbr):=⟨rfl,rfl,rfl,by decide +kernel,rfl,by decide +kernel,by decide +kernel⟩
noncomputable abbrev Zbs:Stmt:=top 18
noncomputable abbrev ZoT:List Str:=["one","other"]
theorem oR:FnScope ZoT ["one","other"] (aH Zbs):=⟨rfl,rfl,rfl,by decide +kernel,rfl,by decide +kernel,by decide +kernel⟩
noncomputable abbrev Zbm:Stmt:=top 19
noncomputable abbrev ZoN:List Str:=["top","bottom","divisor"]
theorem oP:FnScope ZoN ["top","bottom"] (aH Zbm):=⟨rfl,rfl,rfl,by decide +kernel,rfl,by decide +kernel,by decide +kernel⟩
noncomputable abbrev Zbk:Stmt:=top 21
noncomputable abbrev ZoL:List Str:=["shop","day","level","ahead","scale","total","fall","weight","following"]
theorem i6:FnScope ZoL ["shop","day","level","ahead","scale"] (aH Zbk):=⟨rfl,rfl,rfl,by decide +kernel,rfl,by decide +kernel,by decide +kernel⟩
noncomputable abbrev oW:Stmt:=top 23
noncomputable abbrev nV:List Str:=["shop","day","ahead","scale","own_scale"]
theorem Zbi:FnScope nV ["shop","day","ahead","scale"] (aH oW):=⟨rfl,rfl,rfl,by decide +kernel,rfl,by decide +kernel,by decide +kernel⟩
noncomputable abbrev Zbt:Stmt:=top 24
noncomputable abbrev ZoU:List Str:=["shop","low","by_level","scale","picks","best","stock","own","cost","level"]
theorem gt:FnScope ZoU ["shop","low","by_level","scale"] (aH Zbt):=⟨rfl,rfl,rfl,by decide +kernel,rfl,by decide +kernel,by decide +kernel⟩
noncomputable abbrev Zbu:Stmt:=top 25
noncomputable abbrev ZoV:List Str:=["shop","by_level","scale"]
theorem Zjz:FnScope ZoV ["shop","by_level","scale"] (aH Zbu):=⟨rfl,rfl,rfl,by decide +kernel,rfl,by decide +kernel,by decide +kernel⟩
noncomputable abbrev Zbv:Stmt:=top 27
noncomputable abbrev ZoW:List Str:=["shop","one"]
theorem ZjA:FnScope ZoW ["shop","one"] (aH Zbv):=⟨rfl,rfl,rfl,by decide +kernel,rfl,by decide +kernel,by decide +kernel⟩
noncomputable abbrev Zbq:Stmt:=top 28
noncomputable abbrev ZoR:List Str:=["shop","one","stock","level","row","fall","weight","nothing_ahead","cost"]
theorem i8:FnScope ZoR ["shop","one","stock","level"] (aH Zbq):=⟨rfl,rfl,rfl,by decide +kernel,rfl,by decide +kernel,by decide +kernel⟩
noncomputable abbrev lT:Stmt:=top 29
noncomputable abbrev g0:List Str:=["rows","before","k","leading","lead","at","many"]
theorem gq:FnScope g0 ["rows"] (aH lT):=⟨rfl,rfl,rfl,by decide +kernel,rfl,by decide +kernel,by decide +kernel⟩
noncomputable abbrev oV:Stmt:=top 30
noncomputable abbrev lx:List Str:=["shop","one","levels","found","scale"]
theorem oQ:FnScope lx ["shop","one","levels"] (aH oV):=⟨rfl,rfl,rfl,by decide +kernel,rfl,by decide +kernel,by decide +kernel⟩
noncomputable abbrev oZ:Stmt:=top 31
noncomputable abbrev lz:List Str:=["shop","one","levels","mean","worths","scale","picks","better"]
theorem gu:FnScope lz ["shop","one"] (aH oZ):=⟨rfl,rfl,rfl,by decide +kernel,rfl,by decide +kernel,by decide +kernel⟩
noncomputable abbrev oX:Stmt:=top 32
noncomputable abbrev nW:List Str:=["shop","one","mean","worths","scale","levels"]
theorem j7:FnScope nW ["shop","one"] (aH oX):=⟨rfl,rfl,rfl,by decide +kernel,rfl,by decide +kernel,by decide +kernel⟩
noncomputable abbrev Zbp:Stmt:=top 33
noncomputable abbrev ZoQ:List Str:=["shop","one","levels","mean","worths","scale"]
theorem lQ:FnScope ZoQ ["shop","one","levels"] (aH Zbp):=⟨rfl,rfl,rfl,by decide +kernel,rfl,by decide +kernel,by decide +kernel⟩
noncomputable abbrev ZbA:Stmt:=top 35
noncomputable abbrev Zo1:List Str:=["_law_script"]
theorem ZjB:FnScope Zo1 ["_law_script"] (aH ZbA):=⟨rfl,rfl,rfl,by decide +kernel,rfl,by decide +kernel,by decide +kernel⟩
noncomputable abbrev ZbD:Stmt:=top 36
noncomputable abbrev Zo4:List Str:=["_law_cell","_law_k","_law_prime","_law_one","_law_two"]
theorem lS:FnScope Zo4 ["_law_cell","_law_k"] (aH ZbD):=⟨rfl,rfl,rfl,by decide +kernel,rfl,by decide +kernel,by decide +kernel⟩
noncomputable abbrev Zbx:Stmt:=top 37
noncomputable abbrev ZoY:List Str:=["_law_pen_here","_law_most","_law_found","_law_k","_law_cell"]
theorem j8:FnScope ZoY ["_law_pen_here","_law_most"] (aH Zbx):=⟨rfl,rfl,rfl,by decide +kernel,rfl,by decide +kernel,by decide +kernel⟩
noncomputable abbrev Zbz:Stmt:=top 38
noncomputable abbrev Zo0:List Str:=["_law_pen_here","_law_way"]
theorem Zbj:FnScope Zo0 ["_law_pen_here"] (aH Zbz):=⟨rfl,rfl,rfl,by decide +kernel,rfl,by decide +kernel,by decide +kernel⟩
noncomputable abbrev Zbw:Stmt:=top 39
noncomputable abbrev ZoX:List Str:=["_law_pen_here","_law_many","_law_at","_law_found","_law_k"]
theorem oS:FnScope ZoX ["_law_pen_here","_law_many","_law_at"] (aH Zbw):=⟨rfl,rfl,rfl,by decide +kernel,rfl,by decide +kernel,by decide +kernel⟩
noncomputable abbrev o0:Stmt:=top 40
noncomputable abbrev nX:List Str:=["_law_pen_here","_law_few","_law_pieces","_law_depth","_law_shop","_law_many"]
theorem j9:FnScope nX ["_law_pen_here","_law_few"] (aH o0):=⟨rfl,rfl,rfl,by decide +kernel,rfl,by decide +kernel,by decide +kernel⟩
noncomputable abbrev ZbB:Stmt:=top 41
noncomputable abbrev Zo2:List Str:=["_law_shop","_law_stock","_law_level"]
theorem ZjC:FnScope Zo2 ["_law_shop","_law_stock","_law_level"] (aH ZbB):=⟨rfl,rfl,rfl,by decide +kernel,rfl,by decide +kernel,by decide +kernel⟩
noncomputable abbrev ZbC:Stmt:=top 42
noncomputable abbrev Zo3:List Str:=["_law_shop","_law_level","_law_fall"]
theorem ZjD:FnScope Zo3 ["_law_shop","_law_level","_law_fall"] (aH ZbC):=⟨rfl,rfl,rfl,by decide +kernel,rfl,by decide +kernel,by decide +kernel⟩
noncomputable abbrev ZbE:Stmt:=top 43
noncomputable abbrev Zo5:List Str:=["_law_shop","_law_level","_law_fall","_law_rest","_law_lost"]
theorem oU:FnScope Zo5 ["_law_shop","_law_level","_law_fall"] (aH ZbE):=⟨rfl,rfl,rfl,by decide +kernel,rfl,by decide +kernel,by decide +kernel⟩
noncomputable abbrev Zby:Stmt:=top 44
noncomputable abbrev ZoZ:List Str:=["_law_top","_law_bottom","_law_one","_law_other"]
theorem oT:FnScope ZoZ ["_law_top","_law_bottom"] (aH Zby):=⟨rfl,rfl,rfl,by decide +kernel,rfl,by decide +kernel,by decide +kernel⟩
noncomputable abbrev kb:Stmt:=top 45
noncomputable abbrev fi:List Str:=["_law_rows","_law_some","_law_sign","_law_ahead","_law_k","_law_leads","_law_lead","_law_r","_law_row"]
theorem eU:FnScope fi ["_law_rows"] (aH kb):=⟨rfl,rfl,rfl,by decide +kernel,rfl,by decide +kernel,by decide +kernel⟩
noncomputable abbrev lU:Stmt:=top 46
noncomputable abbrev g9:List Str:=["_law_shop","_law_one","_law_levels","_law_many","_law_whole","_law_rows","_law_costs","_law_k","_law_row","_law_cost","_law_fall","_law_weight","_law_there","_law_often","_law_some"]
theorem cW:FnScope g9 ["_law_shop","_law_one","_law_levels"] (aH lU):=⟨rfl,rfl,rfl,by decide +kernel,rfl,by decide +kernel,by decide +kernel⟩
noncomputable abbrev ka:Stmt:=top 47
noncomputable abbrev iS:List Str:=["_law_script","_law_pen_here","_law_turn","_law_shop","_law_one","_law_least_mean","_law_worths","_law_best","_law_many","_law_rules","_law_k","_law_kept","_law_levels","_law_found"]
theorem dt:FnScope iS ["_law_script"] (aH ka):=⟨rfl,rfl,rfl,by decide +kernel,rfl,by decide +kernel,by decide +kernel⟩
structure Txt (K:PySem.W.Frag) (mg:Str->Option Value):Prop where
 fw:mg "len"=none
 pQ:mg "abs"=none
 kE:mg "max"=none
 ZcH:mg "min"=none
 gJ:mg "repr"=none
 pP:mg "int"=none
 pO:mg "list"=none
 iw:mg "tuple"=none
 c6:mg "range"=none
 mi:mg "zip"=none
 gI:mg "sum"=none
 mj:mg "enumerate"=none
 Zpf:mg "ValueError"=none
 Zlp:mg "reversed"=none
 kX:∃ t,mg "TOP"=some (.int 0 t)
 gS:∃ t,mg "DEPTH"=some (.int 1 t)
 ZdI:∃ t,mg "START"=some (.int 2 t)
 qu:∃ t,mg "PIECE"=some (.int 3 t)
 Zmj:∃ t,mg "KEEP"=some (.int 4 t)
 Zmi:∃ t,mg "LACK"=some (.int 5 t)
 Zmh:∃ t,mg "LOST"=some (.int 6 t)
 Zm0:Def K mg "stocks" Zbl ["shop"]
 Znd:Def K mg "greatest_seen" oY ["day"]
 Zm4:Def K mg "order_cost" Zbn ["shop","stock","level"]
 Zm6:Def K mg "next_stock" Zbo ["shop","level","fall"]
 Zng:Def K mg "day_cost" Zbr ["shop","level","fall"]
 Zni:Def K mg "common_divisor" Zbs ["one","other"]
 Zm2:Def K mg "share" Zbm ["top","bottom"]
 ZmY:Def K mg "weighed" Zbk ["shop","day","level","ahead","scale"]
 Zm9:Def K mg "level_sums" oW ["shop","day","ahead","scale"]
 Znj:Def K mg "cheapest_from" Zbt ["shop","low","by_level","scale"]
 Znk:Def K mg "cheapest" Zbu ["shop","by_level","scale"]
 Znn:Def K mg "ask_lasting" Zbv ["shop","one"]
 Znf:Def K mg "equation" Zbq ["shop","one","stock","level"]
 Zm1:Def K mg "solved" lT ["rows"]
 Zm8:Def K mg "mean_and_worths" oV ["shop","one","levels"]
 Znm:Def K mg "best_of_all" oZ ["shop","one"]
 Znb:Def K mg "lasting" oX ["shop","one"]
 Zm7:Def K mg "mean_of" Zbp ["shop","one","levels"]
 Zns:Def K mg "_law_pen" ZbA ["_law_script"]
 Znv:Def K mg "_law_mixed" ZbD ["_law_cell","_law_k"]
 Znp:Def K mg "_law_take" Zbx ["_law_pen_here","_law_most"]
 Znr:Def K mg "_law_price" Zbz ["_law_pen_here"]
 Zno:Def K mg "_law_weights" Zbw ["_law_pen_here","_law_many","_law_at"]
 Znz:Def K mg "_law_case" o0 ["_law_pen_here","_law_few"]
 Znt:Def K mg "_law_order" ZbB ["_law_shop","_law_stock","_law_level"]
 Znu:Def K mg "_law_next" ZbC ["_law_shop","_law_level","_law_fall"]
 Zny:Def K mg "_law_day" ZbE ["_law_shop","_law_level","_law_fall"]
 Znq:Def K mg "_law_share" Zby ["_law_top","_law_bottom"]
 Znx:Def K mg "_law_det" kb ["_law_rows"]
 Znw:Def K mg "_law_mean" lU ["_law_shop","_law_one","_law_levels"]
 Zna:Def K mg "law" ka ["_law_script"]
theorem ZnF (ns:List Int) (a:Nat) (h:ns≠[]):∃ z:Int,a9 (ns.map V.int) ((a:Int) % ((ns.map V.int).length:Nat))=some (.int z):=by
 have hl:0 < ns.length:=List.length_pos_iff.mpr h
 have hl':(ns.map V.int).length=ns.length:=List.length_map ..
 have e:(a:Int) % ((ns.map V.int).length:Nat)=((a % ns.length:Nat):Int):=by rw [hl']; omega
 have hlt:a % ns.length < ns.length:=Nat.mod_lt _ hl
 rw [e]
 exact ⟨ns[a % ns.length],fb (by rw [List.getElem?_map,List.getElem?_eq_getElem hlt]; rfl)⟩
theorem oK {K:PySem.W.Frag} {H:Hp} {p c:Addr} {xs:List V} {d:List (aA×V)} {o:HO} (hd:H p=some (.dK d)) (hc:SqL K H c xs):SqL K (upd H p o) c xs:=by
 rcases hc with (hc | ⟨u,hc⟩) | hc
 ·exact .inl (.inl (by rw [aL (kD hc hd (by intro z; cases z))]; exact hc))
 ·exact .inl (.inr ⟨u,by rw [aL (kD hc hd (by intro z; cases z))]; exact hc⟩)
 ·exact .inr hc
noncomputable def Zji:Sp:=λvs H Q _=>∃ z a:Int,vs=[.int z,.int a]/\0<=a/\a<=500000/\∀ (r:Int) (H':Hp),Same H H'->Q (.int r) H'
theorem Zkt (a:Int):∃ q:Int,a9 [V.int 2147483629,.int 2147483587,.int 2147483579,.int 2147483563,.int 2147483549] (a % 5)=some (.int q)/\0 < q/\q < 2147483648:=by
 have h0:=Int.emod_nonneg a (show (5:Int)≠0 by decide)
 have h1:=Int.emod_lt_of_pos a (show (0:Int) < 5 by decide)
 have:a % 5=0\/a % 5=1\/a % 5=2\/a % 5=3\/a % 5=4:=by omega
 rcases this with e | e | e | e | e <;> rw [e]
 ·exact ⟨_,jK,by decide,by decide⟩
 ·exact ⟨_,lf,by decide,by decide⟩
 ·exact ⟨_,ny,by decide,by decide⟩
 ·exact ⟨_,nw,by decide,by decide⟩
 ·exact ⟨_,nv,by decide,by decide⟩
theorem ZiO {z:Int} (h:z ≥ (10:Int) ^ (18:Int).toNat):0<=z:=by
 have e:(10:Int) ^ (18:Int).toNat=1000000000000000000:=by decide
 omega
section
variable {P:Program} {w:World} {K:PySem.W.Frag} {mg:Str->Option Value} {base:Heap}
theorem Zk6 (T:Txt K mg):Callee P w K mg base "_law_pen" 1 ["_law_script"] (Zjh K):=by
 refine T.Zns.ok ZjB (λvs H Q E h=>?_) (λf cdv A outer s H vs Q E hr h=>?_)
 ·obtain ⟨a,ns,rfl,_⟩:=h
  rfl
 ·obtain ⟨a,ns,rfl,hS,hlen,k⟩:=h
  have hu:=mX hr
  refine ⟨_,(io (fK (ZkN (pw dC (cZ (qP) rfl T.pO boot_list (bU (Zcq ZaY (pv 0) Zcj (Zci b7)) ci)) (pw dC b7 (pw dC b7 Zkv))) rfl rfl (by simp) (by decide)))),?_⟩
  intro p hp
  have s0:Same H (upd H p (.dK [])):=(Same.refl _).new hp
  refine ⟨_,rfl,63,rfl,a,_,rfl,s0.seq hS,λq hq=>⟨q,_,rfl,Or.inl (SqL.of bZ),λc hc=>?_⟩⟩
  have hcut:eO (ns.map V.int) none (some 63)=ns.map V.int:=by
   unfold eO
   have e:HT.aD (ns.map V.int).length (ns.map V.int).length (some 63)=(ns.map V.int).length:=by
    have q:=HT.lV (ns.map V.int).length (ns.map V.int).length 63
    rw [List.length_map] at q ⊢
    exact q.trans (Nat.min_eq_right hlen)
   rw [e]
   show ((ns.map V.int).drop 0).take ((ns.map V.int).length - 0)=_
   rw [List.drop_zero,Nat.sub_zero,List.take_length]
  have nqp:q≠p:=λz=>by
   rw [z,bZ] at hq
   cases hq
  have ncp:c≠p:=λz=>by
   rw [z,aL (Ne.symm nqp),bZ] at hc
   cases hc
  have s1:=s0.new (o:=.lst (eO (ns.map V.int) none (some 63))) hq
  have s2:=s1.new (o:=.lst (eO (ns.map V.int) none (some 63))) hc
  refine ⟨by rw [aL (Ne.symm ncp),aL (Ne.symm nqp),bZ],bS c 0 0,rfl,(by show 3<=15; decide),k p _ hp ⟨c,⟨0,0,by rw [bZ]; rfl,Nat.le_refl _,Int.le_refl _⟩,SqL.of ?_,hlen⟩ λb o e=>?_⟩
  ·rw [aL ncp,bZ,hcut]
  ·rw [aL (cm e hp)]
   exact s2 b o e
theorem Zk7 (T:Txt K mg):Callee P w K mg base "_law_mixed" 1 ["_law_cell","_law_k"] Zji:=by
 refine T.Znv.ok lS (λvs H Q E h=>?_) (λf cdv A outer s H vs Q E hr h=>?_)
 ·obtain ⟨z,a,rfl,_⟩:=h
  rfl
 ·obtain ⟨z,a,rfl,a0,a1,k⟩:=h
  have hu:=mX hr
  refine ⟨_,(dw (aM (i:=2) lS.nd rfl (Or.inl rfl) (l7 Zdo (Zcp (bU b7 (bU b7 (bU b7 (bU b7 (bU b7 ci)))))) (bT fu (pv 1) b7) (λ_ _=>rfl)))
 (dw (aM (i:=3) lS.nd rfl (Or.inl rfl) (bT fu (bT pG (bT gE (bT gE (bT md (bT fu (pv 0) (pv 2)) (bT gE (bT md b7 (pv 1)) b7)) (bT md b7 (pv 1))) b7) b7) (pv 2)))
 (dw (aM (i:=4) lS.nd rfl (Or.inl rfl) (bT fu (bT gE (bT md (pv 3) (bT gE (bT gE (bT fu (pv 3) b7) (pv 1)) b7)) (bT fu (pv 0) b7)) b7))
 (io (fK (bT pH (pv 4) b7)))))),?_⟩
  obtain ⟨q,hq,q0,q1⟩:=Zkt a
  refine ⟨by show 5<=sizeLine; decide,λt ht=>?_⟩
  have s1:Same H (upd H t (.tup [.int 2147483629,.int 2147483587,.int 2147483579,.int 2147483563,.int 2147483549])):=(Same.refl _).new ht
  refine ⟨_,rfl,_,_,rfl,rfl,(by show (0:Int) < 5; decide),t,_,_,_,rfl,rfl,SqT.of bZ,hq,?_⟩
  generalize upd H t (.tup [.int 2147483629,.int 2147483587,.int 2147483579,.int 2147483563,.int 2147483549])=H1 at s1
  have b0:=Int.emod_nonneg z (show q≠0 by omega)
  have b1:=Int.emod_lt_of_pos z q0
  have c0:0<=z % q * (2 * a+3):=Int.mul_nonneg b0 (by omega)
  have c1:z % q * (2 * a+3)<=2147483648 * 1000003:=Int.mul_le_mul (by omega) (by omega) (by omega) (by omega)
  refine ⟨_,rfl,_,rfl,_,_,rfl,rfl,q0,_,rfl,_,_,rfl,rfl,.inl ⟨by decide,by decide⟩,_,_,rfl,rfl,_,_,rfl,rfl,.inl ⟨by omega,by omega⟩,_,rfl,_,_,rfl,rfl,.inl ⟨by decide,by decide⟩,_,_,rfl,rfl,_,_,rfl,rfl,_,_,rfl,rfl,⟨by decide,by decide,by omega⟩,_,rfl,_,_,rfl,rfl,q0,?_⟩
  have m0:0<=((z % q * (2 * a+3)+31607 * a+5) ^ (3:Int).toNat) % q:=Int.emod_nonneg _ (by omega)
  have m1:((z % q * (2 * a+3)+31607 * a+5) ^ (3:Int).toNat) % q < q:=Int.emod_lt_of_pos _ q0
  generalize hN:((z % q * (2 * a+3)+31607 * a+5) ^ (3:Int).toNat) % q=N at m0 m1
  have d0:=Int.emod_nonneg N (show (40487:Int)≠0 by decide)
  have d1:=Int.emod_lt_of_pos N (show (0:Int) < 40487 by decide)
  refine ⟨_,rfl,_,rfl,_,_,rfl,rfl,(by show (0:Int) < 40487; decide),_,rfl,_,_,rfl,rfl,_,_,rfl,rfl,_,_,rfl,rfl,.inl ⟨by omega,by omega⟩,_,rfl,_,_,rfl,rfl,(by show (0:Int) < 65537; decide),_,_,rfl,rfl,_,_,rfl,rfl,(by show (0:Int) < 1073741789; decide),?_⟩
  exact ⟨_,rfl,_,_,rfl,rfl,⟨by decide,by decide⟩,k _ _ s1⟩
theorem Zk9 (T:Txt K mg):Callee P w K mg base "_law_take" 2 ["_law_pen_here","_law_most"] (ZaS K):=by
 refine T.Znp.ok j8 (λvs H Q E h=>?_) (λf cdv A outer s H vs Q E hr h=>?_)
 ·obtain ⟨p,c,ns,m,most,rfl,_⟩:=h
  rfl
 ·obtain ⟨p,c,ns,m,most,rfl,hP,hm,h0,h1,k⟩:=h
  have hu:=mX hr
  have f_law_mixed:=Zk7 (P:=P) (w:=w) (K:=K) (mg:=mg) (base:=base) T
  refine ⟨_,(dw (l3 (ky fN (gA hu (pv 0) dC (λ_ _=>rfl)) b7 (nomark _)) (dw (aM (i:=2) j8.nd rfl (Or.inl rfl) (bT fu (gA hu (pv 0) dC (λ_ _=>rfl)) (pv 1)))
 (dw (pq hu (pv 0) dC (bT pH (gA hu (pv 0) dC (λ_ _=>rfl)) (pv 1)) rfl)
 (io (fK (pv 2))))) lZ)
 (dw (aM (i:=3) j8.nd rfl (Or.inl rfl) (gA hu (pv 0) dC (λ_ _=>rfl)))
 (dw (pq hu (pv 0) dC (bT gE (pv 3) b7) rfl)
 (dw (aM (i:=4) j8.nd rfl (Or.inl rfl) b7)
 (dw (PS.join (l3 (ky fN (bq (fD) rfl T.fw boot_len (bU (gA hu (pv 0) dC (λ_ _=>rfl)) ci)) b7 (nomark _)) (io (aM (i:=4) j8.nd rfl (Or.inl rfl) (l7 qi (gA hu (pv 0) dC (λ_ _=>rfl)) (bT fu (pv 3) (bq (fD) rfl T.fw boot_len (bU (gA hu (pv 0) dC (λ_ _=>rfl)) ci))) (λ_ _=>rfl)))) lZ))
 (dw (l3 (PT.join (PW.pt (Zkk (ky kC (pv 3) (bq (fD) rfl T.fw boot_len (bU (gA hu (pv 0) dC (λ_ _=>rfl)) ci)) (nomark _)) (Zkj (ky Zk0 (pv 4) (bT pG b7 b7) (nomark _)))))) (dw (pq hu (pv 0) dC (bT pH (pv 4) (pv 1)) rfl)
 (io (fK (bT fu (pv 4) (pv 1))))) lZ)
 (io (fK (bT fu (l8 f_law_mixed (hr.mono (by decide)) rfl (bU (pv 4) (bU (pv 3) ci))) (pv 1)))))))))),?_⟩
  obtain ⟨⟨a,l,hd,ha,hl⟩,hc,hn⟩:=hP
  refine ⟨_,rfl,p,_,rfl,qJ hd,_,_,rfl,rfl,_,rfl,?_⟩
  refine mV (λhz=>?_) (λhz=>?_)
  ·refine ⟨_,rfl,p,_,rfl,qJ hd,_,rfl,_,_,rfl,rfl,h0,?_⟩
   refine ⟨_,rfl,p,_,rfl,qJ hd,_,rfl,_,_,rfl,rfl,⟨h0,h1⟩,_,rfl,p,_,rfl,ZgY hd,?_⟩
   exact ⟨_,rfl,k _ _ (Int.emod_nonneg _ (by omega)) (Int.emod_lt_of_pos _ h0) ⟨⟨a,_,bZ,by omega,Int.ediv_nonneg hl (by omega)⟩,oK hd hc,hn⟩ Kept.refl.pen⟩
  ·refine ⟨_,rfl,p,_,rfl,ZmV hd,?_⟩
   refine ⟨_,rfl,_,_,rfl,rfl,_,rfl,p,_,rfl,ZmS hd,?_⟩
   have hd1:(upd H p (.dK (bS c ((a:Int)+1) l))) p=some (.dK (bS c ((a+1:Nat):Int) l)):=by
    rw [bZ]
    rfl
   have hc1:SqL K (upd H p (.dK (bS c ((a:Int)+1) l))) c (ns.map V.int):=oK hd hc
   have k1:Kept p H (upd H p (.dK (bS c ((a:Int)+1) l))):=Kept.refl.pen
   generalize upd H p (.dK (bS c ((a:Int)+1) l))=H1 at hd1 hc1 k1
   refine ⟨λσ' H'=>∃ (z:Int),σ'=[some (.ref p),some (.int most),none,some (.int a),some (.int z)]/\H'=H1,?_,?_⟩
   ·refine ⟨_,rfl,p,_,rfl,nk hd1,c,_,rfl,.inl hc1,_,_,rfl,rfl,_,rfl,?_⟩
    refine mV (λhlen=>?_) (λ_=>⟨_,rfl,rfl⟩)
    have hlen':(0:Int) < ((ns.map V.int).length:Nat):=of_decide_eq_true hlen
    have hne':ns≠[]:=by
     rintro rfl
     simp at hlen'
    obtain ⟨z,hz2⟩:=ZnF ns a hne'
    refine ⟨_,rfl,p,_,rfl,nk hd1,_,rfl,_,rfl,p,_,rfl,nk hd1,c,_,rfl,.inl hc1,_,_,rfl,rfl,hlen',c,_,_,_,rfl,rfl,hc1,hz2,?_⟩
    exact ⟨z,rfl,rfl⟩
   ·rintro σ2 H2 ⟨z,rfl,rfl⟩
    refine ⟨λb H'=>(b=true->0<=z)/\H'=H2,?_,?_⟩
    ·refine ⟨_,rfl,_,rfl,p,_,rfl,nk hd1,c,_,rfl,.inl hc1,_,_,rfl,rfl,_,rfl,?_⟩
     refine mV (λ_=>?_) (λ_=>⟨λh=>(by cases h),rfl⟩)
     exact ⟨_,rfl,_,_,rfl,rfl,⟨by decide,by decide,by decide⟩,_,_,rfl,rfl,_,rfl,λh=>ZiO (of_decide_eq_true h),rfl⟩
    ·rintro b H3 ⟨hb0,rfl⟩
     refine mV (λhb=>?_) (λ_=>?_)
     ·refine ⟨_,rfl,_,rfl,_,_,rfl,rfl,⟨h0,h1⟩,_,rfl,p,_,rfl,ZgY hd1,?_⟩
      refine ⟨_,rfl,_,rfl,_,_,rfl,rfl,h0,?_⟩
      exact k _ _ (Int.emod_nonneg _ (by omega)) (Int.emod_lt_of_pos _ h0) ⟨⟨a+1,_,bZ,by omega,Int.ediv_nonneg (hb0 hb) (by omega)⟩,oK hd1 hc1,hn⟩ k1.pen
     ·refine ⟨_,rfl,_,rfl,z,a,rfl,by omega,by omega,λr H' s'=>?_⟩
      refine ⟨_,rfl,_,_,rfl,rfl,h0,?_⟩
      exact k _ _ (Int.emod_nonneg _ (by omega)) (Int.emod_lt_of_pos _ h0) ⟨⟨a+1,l,s' _ _ hd1,by omega,hl⟩,s'.seq hc1,hn⟩ λb o e n=>s' b o (k1 b o e n)
end
end My
set_option Elab.async false
set_option linter.all false
set_option maxRecDepth 100000
namespace My
open PySem PySem.Spec PyProof.Rows L2
section
variable {cn:Addr×List Int} {P:Program} {w:World} {K:PySem.W.Frag} {mg:Str->Option Value} {base:Heap}
noncomputable def jt:List Sl->Tr Re:=bv 1 0
 (bP (rE (af (fF (ac am (aa 0) (aC (.int 1)))) (af (ac aW (ac am (aa 0) (aC (.int 0))) (aC (.int 1))) ap))))
theorem qS (T:Txt K mg):ACal (bF (K,cn)) P w K mg base "stocks" 1 ["shop"] jt:=b9 T.Zm0 Zjv rfl λf cdv A outer sh H E hr=>by
 exact (aN (bW (Zox (cZ (ZnK hr.hd) rfl T.iw boot_tuple (bU (cZ Zhr rfl T.c6 boot_range (ai (iL (aK aJ aI (ab (pv 0)) (ck rfl T.gS) (λ_ _=>rfl))) (ai (al bx bw (aK aJ aI (ab (pv 0)) (ck rfl T.kX) (λ_ _=>rfl)) az) aw))) ci)))))
noncomputable def kw:List Sl->Tr PyData :=
 (aa 0)
noncomputable def kz:List Sl->Tr Bool :=
 (cb (ac (df λi j=>decide (i > j)) (aa 1) (aC (.int 0))))
noncomputable def mD:List Sl->Tr Re:=bv 1 0
 (bP (bf iz (af (bX (f9 (jR (aa 0)) 2 [] (bo (aB (ah 0) (aB (ah 1) bi))) kz kw)) ap)))
theorem Zn1 (T:Txt K mg):ACal (bF (K,cn)) P w K mg base "greatest_seen" 1 ["day"] mD:=b9 T.Znd Zjy rfl λf cdv A outer sh H E hr=>by
 exact (aN (bW (bu (t:=aZ) (bq (ZnN rfl) rfl T.kE boot_max (ai (cj (Zop (ZkJ ly ["fall","weight"] [] rfl (nF (l6 rfl rfl T.mj (ab (pv 0)))) (λb=>(cN rfl (bp (aP (aO (i:=0) (show ((bN ly ["fall","weight"] [])).Nodup by decide +kernel) rfl (Or.inl rfl))) (bp (aP (aO (i:=1) (show ((bN ly ["fall","weight"] [])).Nodup by decide +kernel) rfl (Or.inl rfl))) cM)) (bn (bn cK)))) (λb=>(cq fN eu (ab (pv 1)) az (nomark _))) (λb=>(ab (pv 0))) rfl (show BlkOk ly (aH oY) _ [] from ⟨rfl,by decide +kernel,by decide +kernel,by decide +kernel,by decide +kernel⟩)) (jd (eI (cg (by decide)) (eI (cg (by decide)) je))))) aw)) Ziy)))
noncomputable def kH:List Sl->Tr Re:=bv 3 0
 (ao (cR (cb (ac (df λi j=>decide (i<=j)) (aa 2) (aa 1)))
  (bP (aC (.int 0)))
  cQ)
 (bP (ac aW (ac am (aa 0) (aC (.int 2))) (ac bh (ac am (aa 0) (aC (.int 3))) (ac bJ (aa 2) (aa 1))))))
theorem ZnQ (T:Txt K mg):ACal (bF (K,cn)) P w K mg base "order_cost" 1 ["shop","stock","level"] kH:=b9 T.Zm4 Zjw rfl λf cdv A outer sh H E hr=>by
 exact (aq (dH (cq ZkZ eu (ab (pv 2)) (ab (pv 1)) (nomark _))
 (aN (bW az))
 dG)
 (aN (bW (al bx bw (aK aJ aI (ab (pv 0)) (ck rfl T.ZdI) (λ_ _=>rfl)) (al bE bB (aK aJ aI (ab (pv 0)) (ck rfl T.qu) (λ_ _=>rfl)) (al b6 bY (ab (pv 2)) (ab (pv 1))))))))
noncomputable def iB:List Sl->Tr Re:=bv 3 0
 (bP (bf iy (af (ac bJ (aa 1) (aa 2)) (af (fF (ac am (aa 0) (aC (.int 1)))) ap))))
theorem qU (T:Txt K mg):ACal (bF (K,cn)) P w K mg base "next_stock" 1 ["shop","level","fall"] iB:=b9 T.Zm6 Zjx rfl λf cdv A outer sh H E hr=>by
 exact (aN (bW (bu (t:=aZ) (bq (nr rfl) rfl T.kE boot_max (ai (al b6 bY (ab (pv 1)) (ab (pv 2))) (ai (iL (aK aJ aI (ab (pv 0)) (ck rfl T.gS) (λ_ _=>rfl))) aw))) lE)))
noncomputable def oo:List Sl->Tr Bool :=
 (rF (aa 1))
noncomputable def qg:List Sl->Tr Ou :=
 (iQ 0 1 (af (aa 1) (af (ac jr (aa 0) (aa 1)) ap)))
noncomputable def mG:List Sl->Tr Re:=bv 2 0
 (ao (iQ 0 1 (af (bf jO (af (aa 0) ap)) (af (bf jO (af (aa 1) ap)) ap)))
 (ao (cw oo qg 100000)
 (f7 0)))
theorem Zn4 (T:Txt K mg):ACal (bF (K,cn)) P w K mg base "common_divisor" 1 ["one","other"] mG:=b9 T.Zni oR rfl λf cdv A outer sh H E hr=>by
 exact (aq (nC (l0 (i:=0) (j:=1) rfl oR.nd rfl rfl (by decide) rfl rfl (ai (bu (t:=aZ) (bq qR rfl T.pQ boot_abs (ai (ab (pv 0)) aw)) ow) (ai (bu (t:=aZ) (bq qR rfl T.pQ boot_abs (ai (ab (pv 1)) aw)) ow) aw)) rfl))
 (aq (rh 100000 PassesOwn.never (Zod (ab (pv 1)))
  (aN (nC (l0 (i:=0) (j:=1) rfl oR.nd rfl rfl (by decide) rfl rfl (ai (ab (pv 1)) (ai (al Zcw Zal (ab (pv 0)) (ab (pv 1))) aw)) rfl))))
 (aN (rj (pv 0)))))
noncomputable def Zdm:List Sl->Tr Ou :=
 (ao (aX 7 (cv (af (ac am (aa 2) (ac bJ (aa 6) (aa 1))) (af (aa 6) ap))))
 (ao (gb (bo (aB (ah 8) (aB (ah 9) bi))) (bf gK (af (aa 7) (af (cv (af (ac aW (ac bh (aa 3) (ac am (aa 0) (aC (.int 2)))) (ac am (aa 5) (aC (.int 0)))) (af (ac am (aa 5) (aC (.int 1))) ap))) ap))))
 (ao (ge 4 (cv (af (ac bJ (aa 8) (ac bh (ac bh (aa 3) (ac am (aa 0) (aC (.int 3)))) (aa 6))) (af (aa 9) ap))))
 (aX 5 (bf gK (af (aa 7) (af (aa 5) ap)))))))
noncomputable def mH:List Sl->Tr Re:=bv 4 6
 (ao (ff 4 (cF ap))
 (ao (aX 5 (cv (af (ac am (aa 2) (fF (aC (.int 1)))) (af (ac am (aa 0) (aC (.int 0))) ap))))
 (ao (cS (rG (af (aa 1) (af (ac aW (ac am (aa 0) (aC (.int 0))) (aC (.int 1))) ap))) (ah 6) Zdm)
 (ao (nJ 4)
 (f7 4)))))
theorem Zn5 (T:Txt K mg):ACal (bF (K,cn)) P w K mg base "cheapest_from" 1 ["shop","low","by_level","scale"] mH:=b9 T.Znj gt rfl λf cdv A outer sh H E hr=>by
 exact (aq (fW (aM (i:=4) gt.nd rfl (Or.inl rfl) (dg aw)))
 (aq (bd (aM (i:=5) gt.nd rfl (Or.inl rfl) (dh (ai (aK aJ aI (ab (pv 2)) (iL az) (λ_ _=>rfl)) (ai (aK aJ aI (ab (pv 0)) (ck rfl T.kX) (λ_ _=>rfl)) aw)))))
 (aq (dI PassesOwn.never rfl (Zov (Zkz rfl T.Zlp (cZ Zhr rfl T.c6 boot_range (ai (ab (pv 1)) (ai (al bx bw (aK aJ aI (ab (pv 0)) (ck rfl T.kX) (λ_ _=>rfl)) az) aw))))) (aP (aO (i:=6) gt.nd rfl (Or.inl rfl)))
  (aq (bd (aM (i:=7) gt.nd rfl (Or.inl rfl) (dh (ai (aK aJ aI (ab (pv 2)) (al b6 bY (ab (pv 6)) (ab (pv 1))) (λ_ _=>rfl)) (ai (ab (pv 6)) aw)))))
 (aq (iJ (dA (bu (t:=aZ) (bq (Zhs hr rfl) rfl T.ZcH boot_min (ai (ab (pv 7)) (ai (dh (ai (al bx bw (al bE bB (ab (pv 3)) (aK aJ aI (ab (pv 0)) (ck rfl T.ZdI) (λ_ _=>rfl))) (aK aJ aI (ab (pv 5)) az (λ_ _=>rfl))) (ai (aK aJ aI (ab (pv 5)) az (λ_ _=>rfl)) aw))) aw))) Zan) (cN rfl (bp (aP (aO (i:=8) gt.nd rfl (Or.inl rfl))) (bp (aP (aO (i:=9) gt.nd rfl (Or.inl rfl))) cM)) (bn (bn cK)))))
 (aq (jM (gx (ji PySem.F.plainAttrs_list PySem.F.slot_list_append PySem.F.type_list_append jq (pv 4) (bU (dh (ai (al b6 bY (ab (pv 8)) (al bE bB (al bE bB (ab (pv 3)) (aK aJ aI (ab (pv 0)) (ck rfl T.qu) (λ_ _=>rfl))) (ab (pv 6)))) (ai (ab (pv 9)) aw))) ci))))
 (aN (bd (aM (i:=5) gt.nd rfl (Or.inl rfl) (bu (t:=aZ) (bq (Zhs hr rfl) rfl T.ZcH boot_min (ai (ab (pv 7)) (ai (ab (pv 5)) aw))) Zan))))))))
 (aq (Zok (gx (ZkQ PySem.F.plainAttrs_list PySem.F.slot_list_reverse PySem.F.type_list_reverse Zlr (pv 4))))
 (aN (rj (pv 4)))))))
noncomputable def kl:List Sl->Tr PyData :=
 (ac e9 (ac bJ (ac bh (aa 3) (aa 0)) (ac bh (aa 4) (aa 1))) (aa 2))
noncomputable def kR:List Sl->Tr Ou :=
 (cR (cb (ac c5 (aa 5) (aa 2)))
  (ao (aX 6 (ac am (cH 0 (aa 5)) (aa 2)))
 (fZ 0 (aa 5) (bX (cG (jP (cH 0 (aa 5)) (aa 3)) 2 [1,4,6] (bo (aB (ah 0) (aB (ah 1) bi))) kl))))
  cQ)
noncomputable def mO:List Sl->Tr Ou :=
 (ao (aX 3 (cH 0 (aa 2)))
 (ao (aX 4 (ac am (aa 3) (aa 2)))
 (ao (cS (dY (af (eR cx (cE 0 aE)) ap)) (ah 5) kR)
 (aX 1 (aa 4)))))
noncomputable def kj:List Sl->Tr PyData :=
 (ac am (aa 0) (fF (aC (.int 1))))
noncomputable def mr:List Sl->Tr Re:=bv 1 6
 (ao (aX 1 (aC (.int 1)))
 (ao (cS (dY (af (eR cx (cE 0 aE)) ap)) (ah 2) mO)
 (di 0 (bP (cv (af (bX (cG (ga (aa 0)) 1 [] (ah 0) kj)) (af (aa 1) ap)))))))
theorem ZnP (T:Txt K mg):sf (bF (K,cn)) P w K mg base "solved" 1 "rows" mr:=ZoA T.Zm1 gq rfl (by decide) λf cdv A outer sh H E hr=>by
 exact (aq (bd (aM (i:=1) gq.nd rfl (Or.inr rfl) az))
 (aq (dI PassesOwn.never rfl (fe (eW rfl T.c6 (ai (iM gy (bq fD rfl T.fw boot_len (iO (pv 0) iN)) hX) aw))) (aP (aO (i:=2) gq.nd rfl (Or.inl rfl)))
  (aq (bd (aM (i:=3) gq.nd rfl (Or.inl rfl) (fX (ab (pv 2)) (pv 0) (λ_ _=>rfl))))
 (aq (bd (aM (i:=4) gq.nd rfl (Or.inr rfl) (aK aJ aI (ab (pv 3)) (ab (pv 2)) (λ_ _=>rfl))))
 (aq (dI PassesOwn.never rfl (fe (eW rfl T.c6 (ai (iM gy (bq fD rfl T.fw boot_len (iO (pv 0) iN)) hX) aw))) (aP (aO (i:=5) gq.nd rfl (Or.inl rfl)))
  (aN (dH (cq (gD hr) gj (ab (pv 5)) (ab (pv 2)) (nomark _))
  (aq (bd (aM (i:=6) gq.nd rfl (Or.inr rfl) (aK aJ aI (fX (ab (pv 5)) (pv 0) (λ_ _=>rfl)) (ab (pv 2)) (λ_ _=>rfl))))
 (aN (jL (dA (cj (eQ (eJ g0 ["x","y"] [1,4,6] rfl (nE (l5 rfl rfl T.mi (fX (ab (pv 5)) (pv 0) (λ_ _=>rfl)) (ab (pv 3)))) (λb=>(cN rfl (bp (aP (aO (i:=0) (show ((bN g0 ["x","y"] [1,4,6])).Nodup by decide +kernel) rfl (Or.inl rfl))) (bp (aP (aO (i:=1) (show ((bN g0 ["x","y"] [1,4,6])).Nodup by decide +kernel) rfl (Or.inl rfl))) cM)) (bn (bn cK)))) (λb=>(al jj iW (al b6 bY (al bE bB (ab (pv 3)) (ab (pv 0))) (al bE bB (ab (pv 4)) (ab (pv 1)))) (ab (pv 2)))) rfl (show BlkOk g0 (aH lT) _ [1,4,6] from ⟨rfl,by decide +kernel,by decide +kernel,by decide +kernel,by decide +kernel⟩)) (jd (eI (cg (by decide)) (eI (cg (by decide)) je))))) (gz (pv 0) (ab (pv 5)) ft)))))
  dG)))
 (aN (bd (aM (i:=1) gq.nd rfl (Or.inr rfl) (ab (pv 4)))))))))
 (aN (fc (k:=0) (bW (dh (ai (cj (eQ (eJ g0 ["row"] [] rfl (iK (ab (pv 0))) (λb=>(aP (aO (i:=0) (show ((bN g0 ["row"] [])).Nodup by decide +kernel) rfl (Or.inl rfl)))) (λb=>(aK aJ aI (ab (pv 0)) (iL az) (λ_ _=>rfl))) rfl (show BlkOk g0 (aH lT) _ [] from ⟨rfl,by decide +kernel,by decide +kernel,by decide +kernel,by decide +kernel⟩)) (cg (by decide)))) (ai (ab (pv 1)) aw))))))))
noncomputable def kJ:List Sl->Tr Re:=bv 3 0
 (bP (ac bh (ac aW (ac am (aa 0) (aC (.int 2))) (ac bh (ac am (aa 0) (aC (.int 3))) (ac bJ (aa 2) (aa 1)))) (bf iH (af (ac (df λi j=>decide (i > j)) (aa 2) (aa 1)) ap))))
theorem ZnU (T:Txt K mg):ACal (bF (K,cn)) P w K mg base "_law_order" 1 ["_law_shop","_law_stock","_law_level"] kJ:=b9 T.Znt ZjC rfl λf cdv A outer sh H E hr=>by
 exact (aN (bW (al bE bB (al bx bw (aK aJ aI (ab (pv 0)) az (λ_ _=>rfl)) (al bE bB (aK aJ aI (ab (pv 0)) az (λ_ _=>rfl)) (al b6 bY (ab (pv 2)) (ab (pv 1))))) (bu (t:=aZ) (cZ qQ rfl T.pP boot_int (ai (rC fN eu (ab (pv 2)) (ab (pv 1)) (nomark _)) aw)) ou))))
noncomputable def my:List Sl->Tr Re:=bv 3 0
 (bP (bf iy (af (ac bJ (aa 1) (aa 2)) (af (ac bJ (aC (.int 0)) (ac am (aa 0) (aC (.int 1)))) ap))))
theorem ZnV (T:Txt K mg):ACal (bF (K,cn)) P w K mg base "_law_next" 1 ["_law_shop","_law_level","_law_fall"] my:=b9 T.Znu ZjD rfl λf cdv A outer sh H E hr=>by
 exact (aN (bW (bu (t:=aZ) (bq (nr rfl) rfl T.kE boot_max (ai (al b6 bY (ab (pv 1)) (ab (pv 2))) (ai (al b6 bY az (aK aJ aI (ab (pv 0)) az (λ_ _=>rfl))) aw))) lE)))
noncomputable def kL:List Sl->Tr Re:=bv 3 2
 (ao (aX 3 (ac bJ (aa 1) (aa 2)))
 (ao (aX 4 (bf iy (af (aC (.int 0)) (af (ac bJ (ac bJ (aC (.int 0)) (ac am (aa 0) (aC (.int 1)))) (aa 3)) ap))))
 (ao (cR (cb (ac (df λi j=>decide (i > j)) (aa 3) (aC (.int 0))))
  (bP (ac bh (ac am (aa 0) (aC (.int 4))) (aa 3)))
  cQ)
 (bP (ac aW (ac bh (ac am (aa 0) (aC (.int 5))) (ac bJ (ac bJ (aC (.int 0)) (aa 3)) (aa 4))) (ac bh (ac am (aa 0) (aC (.int 6))) (aa 4)))))))
theorem ZnY (T:Txt K mg):ACal (bF (K,cn)) P w K mg base "_law_day" 1 ["_law_shop","_law_level","_law_fall"] kL:=b9 T.Zny oU rfl λf cdv A outer sh H E hr=>by
 exact (aq (bd (aM (i:=3) oU.nd rfl (Or.inl rfl) (al b6 bY (ab (pv 1)) (ab (pv 2)))))
 (aq (bd (aM (i:=4) oU.nd rfl (Or.inl rfl) (bu (t:=aZ) (bq (nr rfl) rfl T.kE boot_max (ai az (ai (al b6 bY (al b6 bY az (aK aJ aI (ab (pv 0)) az (λ_ _=>rfl))) (ab (pv 3))) aw))) lE)))
 (aq (dH (cq fN eu (ab (pv 3)) az (nomark _))
  (aN (bW (al bE bB (aK aJ aI (ab (pv 0)) az (λ_ _=>rfl)) (ab (pv 3)))))
  dG)
 (aN (bW (al bx bw (al bE bB (aK aJ aI (ab (pv 0)) az (λ_ _=>rfl)) (al b6 bY (al b6 bY az (ab (pv 3))) (ab (pv 4)))) (al bE bB (aK aJ aI (ab (pv 0)) az (λ_ _=>rfl)) (ab (pv 4)))))))))
noncomputable def on:List Sl->Tr Bool :=
 (cb (ac (df λi j=>decide (i > j)) (aa 3) (aC (.int 0))))
noncomputable def qc:List Sl->Tr Ou :=
 (iQ 2 3 (af (aa 3) (af (ac jr (aa 2) (aa 3)) ap)))
noncomputable def kI:List Sl->Tr Re:=bv 2 2
 (ao (iQ 2 3 (af (bf jO (af (aa 0) ap)) (af (aa 1) ap)))
 (ao (cw on qc 100000)
 (bP (cv (af (ac e9 (aa 0) (aa 2)) (af (ac e9 (aa 1) (aa 2)) ap))))))
theorem Zhv (T:Txt K mg):ACal (bF (K,cn)) P w K mg base "_law_share" 1 ["_law_top","_law_bottom"] kI:=b9 T.Znq oT rfl λf cdv A outer sh H E hr=>by
 exact (aq (nC (l0 (i:=2) (j:=3) rfl oT.nd rfl rfl (by decide) rfl rfl (ai (bu (t:=aZ) (bq qR rfl T.pQ boot_abs (ai (ab (pv 0)) aw)) ow) (ai (ab (pv 1)) aw)) rfl))
 (aq (rh 100000 PassesOwn.never (cq fN eu (ab (pv 3)) az (nomark _))
  (aN (nC (l0 (i:=2) (j:=3) rfl oT.nd rfl rfl (by decide) rfl rfl (ai (ab (pv 3)) (ai (al Zcw Zal (ab (pv 2)) (ab (pv 3))) aw)) rfl))))
 (aN (bW (dh (ai (al jj iW (ab (pv 0)) (ab (pv 2))) (ai (al jj iW (ab (pv 1)) (ab (pv 2))) aw)))))))
noncomputable def kr:List Sl->Tr PyData :=
 (bX (lq gN (af (aa 0) ap)))
noncomputable def il:List Sl->Tr PyData :=
 (aa 0)
noncomputable def gC:List Sl->Tr Bool :=
 (cb (ac c5 (ac am (ac am (aa 2) (aa 0)) (aa 1)) (aC (.int 0))))
noncomputable def lX:List Sl->Tr PyData :=
 (ac e9 (ac bJ (ac bh (aa 0) (ac am (aa 3) (aa 4))) (ac bh (ac am (aa 5) (aa 4)) (aa 1))) (aa 2))
noncomputable def mS:List Sl->Tr Ou :=
 (ao (aX 8 (cH 1 (aa 7)))
 (fZ 1 (aa 7) (bX (cG (jP (aa 8) (aa 6)) 2 [3,6,4,8] (bo (aB (ah 0) (aB (ah 1) bi))) lX))))
noncomputable def gQ:List Sl->Tr Ou :=
 (ao (aX 5 (bX (jQ 1 (f9 (iP (af (aa 4) (af (eR cx (cE 1 aE)) ap))) 1 [4,1] (ah 0) gC il))))
 (ao (cR (cb (ac de (aa 5) (bX (cF ap))))
  (bP (aC (.int 0)))
  cQ)
 (ao (cR (cb (ac c5 (ac am (aa 5) (aC (.int 0))) (aa 4)))
  (ao (aX 2 (ac bJ (aC (.int 0)) (aa 2)))
 (nI 1 (aa 4) (ac am (aa 5) (aC (.int 0))) (cv (af (cH 1 (ac am (aa 5) (aC (.int 0)))) (af (cH 1 (aa 4)) ap)))))
  cQ)
 (ao (aX 6 (cH 1 (aa 4)))
 (ao (cS (iP (af (ac aW (aa 4) (aC (.int 1))) (af (eR cx (cE 1 aE)) ap))) (ah 7) mS)
 (aX 3 (ac am (aa 6) (aa 4))))))))
noncomputable def kK:List Sl->Tr Re:=bv 1 8
 (ao (ff 1 (cG (ga (aa 0)) 1 [] (ah 0) kr))
 (ao (aX 2 (aC (.int 1)))
 (ao (aX 3 (aC (.int 1)))
 (ao (cS (dY (af (eR cx (cE 1 aE)) ap)) (ah 4) gQ)
 (bP (ac bh (aa 2) (aa 3)))))))
theorem ZnX (T:Txt K mg):ACal (bF (K,cn)) P w K mg base "_law_det" 1 ["_law_rows"] kK:=b9 T.Znx eU rfl λf cdv A outer sh H E hr=>by
 exact (aq (fW (aM (i:=1) eU.nd rfl (Or.inr rfl) (eQ (eJ fi ["_law_row"] [] rfl (iK (ab (pv 0))) (λb=>(aP (aO (i:=0) (show ((bN fi ["_law_row"] [])).Nodup by decide +kernel) rfl (Or.inl rfl)))) (λb=>(cj (ZhU (t:=aZ) (cZ qP rfl T.pO boot_list (ai (ab (pv 0)) aw)) Zao))) rfl (show BlkOk fi (aH kb) _ [] from ⟨rfl,by decide +kernel,by decide +kernel,by decide +kernel,by decide +kernel⟩)) (cg (by decide)))))
 (aq (bd (aM (i:=2) eU.nd rfl (Or.inl rfl) az))
 (aq (bd (aM (i:=3) eU.nd rfl (Or.inr rfl) az))
 (aq (dI PassesOwn.never rfl (fe (eW rfl T.c6 (ai (iM gy (bq fD rfl T.fw boot_len (iO (pv 1) iN)) hX) aw))) (aP (aO (i:=4) eU.nd rfl (Or.inr rfl)))
  (aq (Zoi (L:=gy) (j:=1) (Zkp (i:=5) fi ["_law_r"] [4,1] rfl eU.nd rfl rfl (ZhW (Zck rfl T.c6 (ai (ab (pv 4)) (ai (iM gy (bq fD rfl T.fw boot_len (iO (pv 1) iN)) hX) aw)))) (λb=>(aP (aO (i:=0) (show ((bN fi ["_law_r"] [4,1])).Nodup by decide +kernel) rfl (Or.inl rfl)))) (λb=>(cq (gD hr) gj (aK aJ aI (aK aJ aI (ab (pv 2)) (ab (pv 0)) (λ_ _=>rfl)) (ab (pv 1)) (λ_ _=>rfl)) az (nomark _))) (λb=>(ab (pv 0))) rfl (show BlkOk fi (aH kb) _ [4,1] from ⟨rfl,by decide +kernel,by decide +kernel,by decide +kernel,by decide +kernel⟩) rfl) (cg (by decide)))
 (aq (dH (cq (pI hr) ot (ab (pv 5)) (cj (dg aw)) (nomark _))
  (aN (bW az))
  dG)
 (aq (dH (cq (gD hr) gj (aK aJ aI (ab (pv 5)) az (λ_ _=>rfl)) (ab (pv 4)) (nomark _))
  (aq (bd (aM (i:=2) eU.nd rfl (Or.inl rfl) (al b6 bY az (ab (pv 2)))))
 (aN (Zoh (dA (dh (ai (fX (aK aJ aI (ab (pv 5)) az (λ_ _=>rfl)) (pv 1) (λ_ _=>rfl)) (ai (fX (ab (pv 4)) (pv 1) (λ_ _=>rfl)) aw))) (Zcm rfl (pB (gz (pv 1) (ab (pv 4)) ft) (pB (gz (pv 1) (aK aJ aI (ab (pv 5)) az (λ_ _=>rfl)) ft) Zcl)))))))
  dG)
 (aq (bd (aM (i:=6) eU.nd rfl (Or.inr rfl) (fX (ab (pv 4)) (pv 1) (λ_ _=>rfl))))
 (aq (dI PassesOwn.never rfl (ZhW (Zck rfl T.c6 (ai (al bx bw (ab (pv 4)) az) (ai (iM gy (bq fD rfl T.fw boot_len (iO (pv 1) iN)) hX) aw)))) (aP (aO (i:=7) eU.nd rfl (Or.inl rfl)))
  (aq (bd (aM (i:=8) eU.nd rfl (Or.inr rfl) (fX (ab (pv 7)) (pv 1) (λ_ _=>rfl))))
 (aN (jL (dA (cj (eQ (eJ fi ["_law_one","_law_other"] [3,6,4,8] rfl (nE (l5 rfl rfl T.mi (ab (pv 8)) (ab (pv 6)))) (λb=>(cN rfl (bp (aP (aO (i:=0) (show ((bN fi ["_law_one","_law_other"] [3,6,4,8])).Nodup by decide +kernel) rfl (Or.inl rfl))) (bp (aP (aO (i:=1) (show ((bN fi ["_law_one","_law_other"] [3,6,4,8])).Nodup by decide +kernel) rfl (Or.inl rfl))) cM)) (bn (bn cK)))) (λb=>(al jj iW (al b6 bY (al bE bB (ab (pv 0)) (aK aJ aI (ab (pv 3)) (ab (pv 4)) (λ_ _=>rfl))) (al bE bB (aK aJ aI (ab (pv 5)) (ab (pv 4)) (λ_ _=>rfl)) (ab (pv 1)))) (ab (pv 2)))) rfl (show BlkOk fi (aH kb) _ [3,6,4,8] from ⟨rfl,by decide +kernel,by decide +kernel,by decide +kernel,by decide +kernel⟩)) (jd (eI (cg (by decide)) (eI (cg (by decide)) je))))) (gz (pv 1) (ab (pv 7)) ft))))))
 (aN (bd (aM (i:=3) eU.nd rfl (Or.inr rfl) (aK aJ aI (ab (pv 6)) (ab (pv 4)) (λ_ _=>rfl)))))))))))
 (aN (bW (al bE bB (ab (pv 2)) (ab (pv 3)))))))))
noncomputable def kN:List Sl->Tr Re:=bv 3 3
 (ao (aX 3 (aS (aQ iB (aj (aa 0) (aj (aa 1) (aj (aa 2) aE))))))
 (ao (aX 4 (ac bJ (aa 3) (ac bJ (aa 1) (aa 2))))
 (ao (aX 5 (rK (cb (ac (df λi j=>decide (i > j)) (aa 3) (aC (.int 0)))) (ac bh (ac am (aa 0) (aC (.int 4))) (aa 3)) (ac bh (ac am (aa 0) (aC (.int 5))) (fF (aa 3)))))
 (bP (ac aW (aa 5) (ac bh (ac am (aa 0) (aC (.int 6))) (aa 4)))))))
theorem Zn3 (T:Txt K mg):ACal (bF (K,cn)) P w K mg base "day_cost" 2 ["shop","level","fall"] kN:=b9 T.Zng lR rfl λf cdv A outer sh H E hr=>by
 exact (aq (bd (aM (i:=3) lR.nd rfl (Or.inl rfl) (aY (aT (qU T) (hr.mono (by decide)) rfl (ak (ab (pv 0)) (ak (ab (pv 1)) (ak (ab (pv 2)) aU)))))))
 (aq (bd (aM (i:=4) lR.nd rfl (Or.inl rfl) (al b6 bY (ab (pv 3)) (al b6 bY (ab (pv 1)) (ab (pv 2))))))
 (aq (bd (aM (i:=5) lR.nd rfl (Or.inl rfl) (Zoy (cq fN eu (ab (pv 3)) az (nomark _)) (al bE bB (aK aJ aI (ab (pv 0)) (ck rfl T.Zmj) (λ_ _=>rfl)) (ab (pv 3))) (al bE bB (aK aJ aI (ab (pv 0)) (ck rfl T.Zmi) (λ_ _=>rfl)) (iL (ab (pv 3)))))))
 (aN (bW (al bx bw (ab (pv 5)) (al bE bB (aK aJ aI (ab (pv 0)) (ck rfl T.Zmh) (λ_ _=>rfl)) (ab (pv 4)))))))))
noncomputable def iA:List Sl->Tr Re:=bv 2 1
 (ao (cR (cb (ac de (aa 1) (aC (.int 0))))
  rJ
  cQ)
 (ao (aX 2 (aS (aQ mG (aj (aa 0) (aj (aa 1) aE)))))
 (ao (cR (cb (ac (df λi j=>decide (i < j)) (aa 1) (aC (.int 0))))
  (aX 2 (fF (aa 2)))
  cQ)
 (bP (cv (af (ac e9 (aa 0) (aa 2)) (af (ac e9 (aa 1) (aa 2)) ap)))))))
theorem qT (T:Txt K mg):ACal (bF (K,cn)) P w K mg base "share" 2 ["top","bottom"] iA:=b9 T.Zm2 oP rfl λf cdv A outer sh H E hr=>by
 exact (aq (dH (cq (pI hr) ot (ab (pv 1)) az (nomark _))
 (aN ZhN)
 dG)
 (aq (bd (aM (i:=2) oP.nd rfl (Or.inl rfl) (aY (aT (Zn4 T) (hr.mono (by decide)) rfl (ak (ab (pv 0)) (ak (ab (pv 1)) aU))))))
 (aq (dH (cq kC eu (ab (pv 1)) az (nomark _))
  (aN (bd (aM (i:=2) oP.nd rfl (Or.inl rfl) (iL (ab (pv 2))))))
  dG)
 (aN (bW (dh (ai (al jj iW (ab (pv 0)) (ab (pv 2))) (ai (al jj iW (ab (pv 1)) (ab (pv 2))) aw))))))))
noncomputable def kO:List Sl->Tr Re:=bv 3 0
 (lp (aQ mH (aj (aa 0) (aj (fF (ac am (aa 0) (aC (.int 1)))) (aj (aa 1) (aj (aa 2) aE))))))
theorem Zn6 (T:Txt K mg):ACal (bF (K,cn)) P w K mg base "cheapest" 2 ["shop","by_level","scale"] kO:=b9 T.Znk Zjz rfl λf cdv A outer sh H E hr=>by
 exact (aN (rl (aT (Zn5 T) (hr.mono (by decide)) rfl (ak (ab (pv 0)) (ak (iL (aK aJ aI (ab (pv 0)) (ck rfl T.gS) (λ_ _=>rfl))) (ak (ab (pv 1)) (ak (ab (pv 2)) aU)))))))
noncomputable def iC:List Sl->Tr Re:=bv 2 0
 (cR (cb (ac (df λi j=>decide (i < j)) (aS (aQ mD (aj (aa 1) aE))) (ac aW (ac am (aa 0) (aC (.int 0))) (ac am (aa 0) (aC (.int 1))))))
  rJ
  cQ)
theorem Zhw (T:Txt K mg):ACal (bF (K,cn)) P w K mg base "ask_lasting" 2 ["shop","one"] iC:=b9 T.Znn ZjA rfl λf cdv A outer sh H E hr=>by
 exact (aN (dH (cq kC eu (aY (aT (Zn1 T) (hr.mono (by decide)) rfl (ak (ab (pv 1)) aU))) (al bx bw (aK aJ aI (ab (pv 0)) (ck rfl T.kX) (λ_ _=>rfl)) (aK aJ aI (ab (pv 0)) (ck rfl T.gS) (λ_ _=>rfl))) (nomark _))
 (aN ZhN)
 dG))
noncomputable abbrev c7:=mF
theorem dU (T:Txt K mg):ACal (bF (K,cn)) P w K mg base "_law_take" 2 ["_law_pen_here","_law_most"] c7:=ZmQ rfl (Zk9 T)
noncomputable def mR:List Sl->Tr Ou :=
 (ao (aX 12 (ac aW (aS (aQ my (aj (aa 0) (aj (ac am (aa 2) (aa 7)) (aj (aa 10) aE))))) (ac am (aa 0) (aC (.int 1)))))
 (ao (fZ 8 (aa 12) (ac bJ (cH 8 (aa 12)) (aa 11)))
 (aX 9 (ac aW (aa 9) (ac bh (aa 11) (aS (aQ kL (aj (aa 0) (aj (ac am (aa 2) (aa 7)) (aj (aa 10) aE))))))))))
noncomputable def mQ:List Sl->Tr Ou :=
 (ao (ff 8 (lr gv (bX (cF (af (aC (.int 0)) ap))) (aa 3)))
 (ao (fZ 8 (aa 7) (aa 4))
 (ao (aX 9 (ac bh (aa 4) (aS (aQ kJ (aj (aa 0) (aj (ac bJ (aa 7) (ac am (aa 0) (aC (.int 1)))) (aj (ac am (aa 2) (aa 7)) aE)))))))
 (ao (cS (jR (aa 1)) (bo (aB (ah 10) (aB (ah 11) bi))) mR)
 (ao (di 8 (ge 5 (aa 8)))
 (ge 6 (aa 9)))))))
noncomputable def kn:List Sl->Tr PyData :=
 (ac gY (fY (aa 0) f8 (fE (aa 1))) (fY (aa 0) (fE (ac aW (aa 1) (aC (.int 1)))) f8))
noncomputable def mP:List Sl->Tr Ou :=
 (ao (di 5 (aX 14 (ac gY (fY (aa 5) f8 (fE (aa 7))) (fY (aa 5) (fE (ac aW (aa 7) (aC (.int 1)))) f8))))
 (di 8 (ge 13 (aS (aQ kK (aj (bX (cG (ga (aa 14)) 1 [7] (ah 0) kn)) aE))))))
noncomputable def lW:List Sl->Tr PyData :=
 (ac bh (aa 0) (aa 1))
noncomputable def mz:List Sl->Tr Re:=bv 3 12
 (ao (aX 3 (bf cx (af (aa 2) ap)))
 (ao (aX 4 (bf cA (af (aa 1) ap)))
 (ao (ff 5 (cF ap))
 (ao (ff 6 (cF ap))
 (ao (cS (dY (af (aa 3) ap)) (ah 7) mQ)
 (ao (ff 13 (cF ap))
 (ao (cS (dY (af (aa 3) ap)) (ah 7) mP)
 (di 6 (di 13 (lp (aQ kI (aj (bf cA (af (bX (cG (jP (aa 13) (aa 6)) 2 [] (bo (aB (ah 0) (aB (ah 1) bi))) lW)) ap)) (aj (ac bh (aa 4) (eR cA (cE 13 aE))) aE)))))))))))))
theorem ZnW (T:Txt K mg):ACal (bF (K,cn)) P w K mg base "_law_mean" 2 ["_law_shop","_law_one","_law_levels"] mz:=b9 T.Znw cW rfl λf cdv A outer sh H E hr=>by
 exact (aq (bd (aM (i:=3) cW.nd rfl (Or.inl rfl) (bu (t:=aZ) (bq fD rfl T.fw boot_len (ai (ab (pv 2)) aw)) hX)))
 (aq (bd (aM (i:=4) cW.nd rfl (Or.inl rfl) (bu (t:=aZ) (bq (gW rfl) rfl T.gI boot_sum (ai (ab (pv 1)) aw)) gk)))
 (aq (fW (aM (i:=5) cW.nd rfl (Or.inl rfl) (dg aw)))
 (aq (fW (aM (i:=6) cW.nd rfl (Or.inl rfl) (dg aw)))
 (aq (dI PassesOwn.never rfl (fe (eW rfl T.c6 (ai (ab (pv 3)) aw))) (aP (aO (i:=7) cW.nd rfl (Or.inr rfl)))
  (aq (fW (aM (i:=8) cW.nd rfl (Or.inl rfl) (ZhT pF Zak (cj (dg (ai az aw))) (ab (pv 3)))))
 (aq (jL (dA (ab (pv 4)) (gz (pv 8) (ab (pv 7)) ft)))
 (aq (bd (aM (i:=9) cW.nd rfl (Or.inl rfl) (al bE bB (ab (pv 4)) (aY (aT (ZnU T) (hr.mono (by decide)) rfl (ak (ab (pv 0)) (ak (al b6 bY (ab (pv 7)) (aK aJ aI (ab (pv 0)) az (λ_ _=>rfl))) (ak (aK aJ aI (ab (pv 2)) (ab (pv 7)) (λ_ _=>rfl)) aU))))))))
 (aq (dI PassesOwn.never rfl (nF (l6 rfl rfl T.mj (ab (pv 1)))) (cN rfl (bp (aP (aO (i:=10) cW.nd rfl (Or.inl rfl))) (bp (aP (aO (i:=11) cW.nd rfl (Or.inl rfl))) cM)) (bn (bn cK)))
  (aq (bd (aM (i:=12) cW.nd rfl (Or.inl rfl) (al bx bw (aY (aT (ZnV T) (hr.mono (by decide)) rfl (ak (ab (pv 0)) (ak (aK aJ aI (ab (pv 2)) (ab (pv 7)) (λ_ _=>rfl)) (ak (ab (pv 10)) aU))))) (aK aJ aI (ab (pv 0)) az (λ_ _=>rfl)))))
 (aq (jL (dA (al b6 bY (fX (ab (pv 12)) (pv 8) (λ_ _=>rfl)) (ab (pv 11))) (gz (pv 8) (ab (pv 12)) ft)))
 (aN (bd (aM (i:=9) cW.nd rfl (Or.inl rfl) (al bx bw (ab (pv 9)) (al bE bB (ab (pv 11)) (aY (aT (ZnY T) (hr.mono (by decide)) rfl (ak (ab (pv 0)) (ak (aK aJ aI (ab (pv 2)) (ab (pv 7)) (λ_ _=>rfl)) (ak (ab (pv 10)) aU)))))))))))))
 (aq (fc (k:=8) (jM (gx (ji PySem.F.plainAttrs_list PySem.F.slot_list_append PySem.F.type_list_append jq (pv 5) (bU (ab (pv 8)) ci)))))
 (aN (jM (gx (ji PySem.F.plainAttrs_list PySem.F.slot_list_append PySem.F.type_list_append jq (pv 6) (bU (ab (pv 9)) ci)))))))))))
 (aq (fW (aM (i:=13) cW.nd rfl (Or.inl rfl) (dg aw)))
 (aq (dI PassesOwn.never rfl (fe (eW rfl T.c6 (ai (ab (pv 3)) aw))) (aP (aO (i:=7) cW.nd rfl (Or.inr rfl)))
  (aq (fc (k:=5) (bd (aM (i:=14) cW.nd rfl (Or.inl rfl) (al Zcx Zam (li (ab (pv 5)) lh (lg (ab (pv 7)))) (li (ab (pv 5)) (lg (al bx bw (ab (pv 7)) az)) lh)))))
 (aN (fc (k:=8) (jM (gx (ji PySem.F.plainAttrs_list PySem.F.slot_list_append PySem.F.type_list_append jq (pv 13) (bU (aY (aT (ZnX T) (hr.mono (by decide)) rfl (ak (cj (eQ (eJ g9 ["_law_row"] [7] rfl (iK (ab (pv 14))) (λb=>(aP (aO (i:=0) (show ((bN g9 ["_law_row"] [7])).Nodup by decide +kernel) rfl (Or.inl rfl)))) (λb=>(al Zcx Zam (li (ab (pv 0)) lh (lg (ab (pv 1)))) (li (ab (pv 0)) (lg (al bx bw (ab (pv 1)) az)) lh))) rfl (show BlkOk g9 (aH lU) _ [7] from ⟨rfl,by decide +kernel,by decide +kernel,by decide +kernel,by decide +kernel⟩)) (cg (by decide)))) aU))) ci))))))))
 (aN (fc (k:=6) (fc (k:=13) (rl (aT (Zhv T) (hr.mono (by decide)) rfl (ak (bu (t:=aZ) (bq (gW rfl) rfl T.gI boot_sum (ai (cj (eQ (eJ g9 ["_law_part","_law_cost"] [] rfl (nE (l5 rfl rfl T.mi (ab (pv 13)) (ab (pv 6)))) (λb=>(cN rfl (bp (aP (aO (i:=0) (show ((bN g9 ["_law_part","_law_cost"] [])).Nodup by decide +kernel) rfl (Or.inl rfl))) (bp (aP (aO (i:=1) (show ((bN g9 ["_law_part","_law_cost"] [])).Nodup by decide +kernel) rfl (Or.inl rfl))) cM)) (bn (bn cK)))) (λb=>(al bE bB (ab (pv 0)) (ab (pv 1)))) rfl (show BlkOk g9 (aH lU) _ [] from ⟨rfl,by decide +kernel,by decide +kernel,by decide +kernel,by decide +kernel⟩)) (jd (eI (cg (by decide)) (eI (cg (by decide)) je))))) aw)) gk) (ak (al bE bB (ab (pv 4)) (iM gy (bq (gW rfl) rfl T.gI boot_sum (iO (pv 13) iN)) gk)) aU))))))))))))))
noncomputable def Zdl:List Sl->Tr Ou :=
 (ao (aX 8 (ac am (aa 3) (ac aW (aS (aQ iB (aj (aa 0) (aj (aa 2) (aj (aa 6) aE))))) (ac am (aa 0) (aC (.int 1))))))
 (nN mW 5 (ac bh (aa 7) (ac aW (ac bh (aa 4) (aS (aQ kN (aj (aa 0) (aj (aa 2) (aj (aa 6) aE)))))) (aa 8)))))
noncomputable def kG:List Sl->Tr Re:=bv 5 4
 (ao (aX 5 (aC (.int 0)))
 (ao (cS (jR (aa 1)) (bo (aB (ah 6) (aB (ah 7) bi))) Zdl)
 (f7 5)))
theorem Zht (T:Txt K mg):ACal (bF (K,cn)) P w K mg base "weighed" 3 ["shop","day","level","ahead","scale"] kG:=b9 T.ZmY i6 rfl λf cdv A outer sh H E hr=>by
 exact (aq (bd (aM (i:=5) i6.nd rfl (Or.inl rfl) az))
 (aq (dI PassesOwn.never rfl (nF (l6 rfl rfl T.mj (ab (pv 1)))) (cN rfl (bp (aP (aO (i:=6) i6.nd rfl (Or.inl rfl))) (bp (aP (aO (i:=7) i6.nd rfl (Or.inl rfl))) cM)) (bn (bn cK)))
  (aq (bd (aM (i:=8) i6.nd rfl (Or.inl rfl) (aK aJ aI (ab (pv 3)) (al bx bw (aY (aT (qU T) (hr.mono (by decide)) rfl (ak (ab (pv 0)) (ak (ab (pv 2)) (ak (ab (pv 6)) aU))))) (aK aJ aI (ab (pv 0)) (ck rfl T.gS) (λ_ _=>rfl))) (λ_ _=>rfl))))
 (aN (Zom Zix (Zks (i:=5) i6.nd rfl (Or.inl rfl) (al bE bB (ab (pv 7)) (al bx bw (al bE bB (ab (pv 4)) (aY (aT (Zn3 T) (hr.mono (by decide)) rfl (ak (ab (pv 0)) (ak (ab (pv 2)) (ak (ab (pv 6)) aU)))))) (ab (pv 8)))) (pip Zma))))))
 (aN (rj (pv 5)))))
noncomputable def mx:List Sl->Tr Re:=bv 1 1
 (ao (aX 1 (aS (aQ c7 (cu 0 (aj (aC (.int 6)) aE)))))
 (ao (cR (cb (ac (df λi j=>decide (i < j)) (aa 1) (aC (.int 4))))
  (bP (ac bh (aS (aQ c7 (cu 0 (aj (aC (.int 10)) aE)))) (bf iH (af (ac (df λi j=>decide (i > j)) (aa 1) (aC (.int 0))) ap))))
  cQ)
 (bP (ac am (bX (cF (af (aS (aQ c7 (cu 0 (aj (aC (.int 1000)) aE)))) (af (ac bJ (ac pz (aC (.int 10)) (aC (.int 6))) (aS (aQ c7 (cu 0 (aj (aC (.int 3)) aE))))) ap)))) (ac bJ (aa 1) (aC (.int 4)))))))
theorem ZnT (T:Txt K mg):ACal (bF (K,cn)) P w K mg base "_law_price" 3 ["_law_pen_here"] mx:=b9 T.Znr Zbj rfl λf cdv A outer sh H E hr=>by
 exact (aq (bd (aM (i:=1) Zbj.nd rfl (Or.inl rfl) (aY (aT (dU T) (hr.mono (by decide)) rfl (cP (pv 0) (ak az aU))))))
 (aq (dH (cq kC eu (ab (pv 1)) az (nomark _))
  (aN (bW (al bE bB (aY (aT (dU T) (hr.mono (by decide)) rfl (cP (pv 0) (ak az aU)))) (bu (t:=aZ) (cZ qQ rfl T.pP boot_int (ai (rC fN eu (ab (pv 1)) az (nomark _)) aw)) ou))))
  dG)
 (aN (bW (aK aJ aI (cj (dg (ai (aY (aT (dU T) (hr.mono (by decide)) rfl (cP (pv 0) (ak az aU)))) (ai (al b6 bY (al pG Ziw az az) (aY (aT (dU T) (hr.mono (by decide)) rfl (cP (pv 0) (ak az aU))))) aw)))) (al b6 bY (ab (pv 1)) az) (λ_ _=>rfl))))))
noncomputable def qb:List Sl->Tr Ou :=
 (ge 3 (ac am (bX (cF (af (aC (.int 0)) (af (aC (.int 1)) (af (aS (aQ c7 (cu 0 (aj (aC (.int 10)) aE)))) (af (aS (aQ c7 (cu 0 (aj (aC (.int 1001)) aE)))) ap)))))) (aS (aQ c7 (cu 0 (aj (aC (.int 4)) aE))))))
noncomputable def mw:List Sl->Tr Re:=bv 3 2
 (ao (ff 3 (cF ap))
 (ao (cS (dY (af (aa 1) ap)) (ah 4) qb)
 (ao (fZ 3 (aa 2) (bf iy (af (aC (.int 1)) (af (cH 3 (aa 2)) ap))))
 (di 3 (bP (bf fm (af (aa 3) ap)))))))
theorem ZnS (T:Txt K mg):ACal (bF (K,cn)) P w K mg base "_law_weights" 3 ["_law_pen_here","_law_many","_law_at"] mw:=b9 T.Zno oS rfl λf cdv A outer sh H E hr=>by
 exact (aq (fW (aM (i:=3) oS.nd rfl (Or.inl rfl) (dg aw)))
 (aq (dI PassesOwn.never rfl (fe (eW rfl T.c6 (ai (ab (pv 1)) aw))) (aP (aO (i:=4) oS.nd rfl (Or.inl rfl)))
  (aN (jM (gx (ji PySem.F.plainAttrs_list PySem.F.slot_list_append PySem.F.type_list_append jq (pv 3) (bU (aK aJ aI (cj (dg (ai az (ai az (ai (aY (aT (dU T) (hr.mono (by decide)) rfl (cP (pv 0) (ak az aU)))) (ai (aY (aT (dU T) (hr.mono (by decide)) rfl (cP (pv 0) (ak az aU)))) aw)))))) (aY (aT (dU T) (hr.mono (by decide)) rfl (cP (pv 0) (ak az aU)))) (λ_ _=>rfl)) ci))))))
 (aq (jL (dA (bu (t:=aZ) (bq (nr rfl) rfl T.kE boot_max (ai az (ai (fX (ab (pv 2)) (pv 3) (λ_ _=>rfl)) aw))) lE) (gz (pv 3) (ab (pv 2)) ft)))
 (aN (fc (k:=3) (bW (bu (t:=aZ) (cZ jI rfl T.iw boot_tuple (ai (ab (pv 3)) aw)) iX)))))))
noncomputable def pj:List Sl->Tr PyData :=
 (ac aW (ac bh (ac bh (aa 5) (ac am (aa 1) (aC (.int 3)))) (aa 0)) (aS (aQ kG (aj (aa 1) (aj (aa 2) (aj (aa 0) (aj (aa 3) (aj (aa 4) aE))))))))
noncomputable def mv:List Sl->Tr Re:=bv 4 1
 (ao (aX 4 (ac bh (aa 3) (bf cA (af (aa 1) ap))))
 (rH (cG (ga (aS (aQ jt (aj (aa 0) aE)))) 1 [0,1,2,3,4] (ah 0) pj)))
theorem ZnR (T:Txt K mg):ACal (bF (K,cn)) P w K mg base "level_sums" 4 ["shop","day","ahead","scale"] mv:=b9 T.Zm9 Zbi rfl λf cdv A outer sh H E hr=>by
 exact (aq (bd (aM (i:=4) Zbi.nd rfl (Or.inr rfl) (al bE bB (ab (pv 3)) (bu (t:=aZ) (bq (gW rfl) rfl T.gI boot_sum (ai (ab (pv 1)) aw)) gk))))
 (aN (Zol (eQ (eJ nV ["level"] [0,1,2,3,4] rfl (iK (aY (aT (qS T) (hr.mono (by decide)) rfl (ak (ab (pv 0)) aU)))) (λb=>(aP (aO (i:=0) (show ((bN nV ["level"] [0,1,2,3,4])).Nodup by decide +kernel) rfl (Or.inl rfl)))) (λb=>(al bx bw (al bE bB (al bE bB (ab (pv 5)) (aK aJ aI (ab (pv 1)) (ck rfl T.qu) (λ_ _=>rfl))) (ab (pv 0))) (aY (aT (Zht T) (hr.mono (by decide)) rfl (ak (ab (pv 1)) (ak (ab (pv 2)) (ak (ab (pv 0)) (ak (ab (pv 3)) (ak (ab (pv 4)) aU))))))))) rfl (show BlkOk nV (aH oW) _ [0,1,2,3,4] from ⟨rfl,by decide +kernel,by decide +kernel,by decide +kernel,by decide +kernel⟩)) (cg (by decide))))))
noncomputable def mT:List Sl->Tr Ou :=
 (iR (λi j=>i - j) 4 (ac aW (aS (aQ iB (aj (aa 0) (aj (aa 3) (aj (aa 5) aE))))) (ac am (aa 0) (aC (.int 1)))) (aa 6))
noncomputable def mE:List Sl->Tr Re:=bv 4 5
 (ao (ff 4 (lr gv (bX (cF (af (aC (.int 0)) ap))) (ac aW (ac aW (ac am (aa 0) (aC (.int 0))) (ac am (aa 0) (aC (.int 1)))) (aC (.int 1)))))
 (ao (iR (λi j=>i+j) 4 (ac aW (aa 2) (ac am (aa 0) (aC (.int 1)))) (bf cA (af (aa 1) ap)))
 (ao (cS (jR (aa 1)) (bo (aB (ah 5) (aB (ah 6) bi))) mT)
 (ao (fZ 4 (aC (.int 0)) (bf cA (af (aa 1) ap)))
 (ao (aX 7 (ac bh (bX (cF (af (aC (.int 0)) ap))) (eR cx (cE 4 aE))))
 (ao (aX 8 (ac aW (ac bh (bf cA (af (aa 1) ap)) (aS (aQ kH (aj (aa 0) (aj (aa 2) (aj (aa 3) aE)))))) (aS (aQ kG (aj (aa 0) (aj (aa 1) (aj (aa 3) (aj (aa 7) (aj (aC (.int 1)) aE)))))))))
 (di 4 (bP (ac aW (aa 4) (bX (cF (af (aa 8) ap))))))))))))
theorem Zn2 (T:Txt K mg):ACal (bF (K,cn)) P w K mg base "equation" 4 ["shop","one","stock","level"] mE:=b9 T.Znf i8 rfl λf cdv A outer sh H E hr=>by
 exact (aq (fW (aM (i:=4) i8.nd rfl (Or.inl rfl) (ZhT pF Zak (cj (dg (ai az aw))) (al bx bw (al bx bw (aK aJ aI (ab (pv 0)) (ck rfl T.kX) (λ_ _=>rfl)) (aK aJ aI (ab (pv 0)) (ck rfl T.gS) (λ_ _=>rfl))) az))))
 (aq (ZhP (Zch (pv 4) (al bx bw (ab (pv 2)) (aK aJ aI (ab (pv 0)) (ck rfl T.gS) (λ_ _=>rfl))) ZdC (bu (t:=aZ) (bq (gW rfl) rfl T.gI boot_sum (ai (ab (pv 1)) aw)) gk) Zl9 ft))
 (aq (dI PassesOwn.never rfl (nF (l6 rfl rfl T.mj (ab (pv 1)))) (cN rfl (bp (aP (aO (i:=5) i8.nd rfl (Or.inl rfl))) (bp (aP (aO (i:=6) i8.nd rfl (Or.inl rfl))) cM)) (bn (bn cK)))
  (aN (ZhP (Zch (pv 4) (al bx bw (aY (aT (qU T) (hr.mono (by decide)) rfl (ak (ab (pv 0)) (ak (ab (pv 3)) (ak (ab (pv 5)) aU))))) (aK aJ aI (ab (pv 0)) (ck rfl T.gS) (λ_ _=>rfl))) ZdC (ab (pv 6)) Zl8 ft))))
 (aq (jL (dA (bu (t:=aZ) (bq (gW rfl) rfl T.gI boot_sum (ai (ab (pv 1)) aw)) gk) (gz (pv 4) az ft)))
 (aq (bd (aM (i:=7) i8.nd rfl (Or.inl rfl) (al bE bB (cj (dg (ai az aw))) (iM gy (bq fD rfl T.fw boot_len (iO (pv 4) iN)) hX))))
 (aq (bd (aM (i:=8) i8.nd rfl (Or.inl rfl) (al bx bw (al bE bB (bu (t:=aZ) (bq (gW rfl) rfl T.gI boot_sum (ai (ab (pv 1)) aw)) gk) (aY (aT (ZnQ T) (hr.mono (by decide)) rfl (ak (ab (pv 0)) (ak (ab (pv 2)) (ak (ab (pv 3)) aU)))))) (aY (aT (Zht T) (hr.mono (by decide)) rfl (ak (ab (pv 0)) (ak (ab (pv 1)) (ak (ab (pv 3)) (ak (ab (pv 7)) (ak az aU))))))))))
 (aN (fc (k:=4) (bW (al bx bw (ab (pv 4)) (cj (dg (ai (ab (pv 8)) aw)))))))))))))
noncomputable def Zce:List Sl->Tr PyData :=
 (aS (aQ mx (cu 1 aE)))
noncomputable def mB:List Sl->Tr Re:=bv 2 4
 (ao (aX 2 (aS (aQ c7 (cu 0 (aj (ac am (bX (cF (af (aC (.int 8)) (af (ac aW (aa 1) (aC (.int 1))) ap)))) (bf iH (af (ac (df λi j=>decide (i > j)) (aS (aQ c7 (cu 0 (aj (aC (.int 8)) aE)))) (aC (.int 0))) ap))) aE)))))
 (ao (aX 3 (aS (aQ c7 (cu 0 (aj (ac aW (aa 2) (aC (.int 1))) aE)))))
 (ao (aX 4 (ac aW (cv (af (ac bJ (aa 2) (aa 3)) (af (aa 3) ap))) (bf fm (af (bX (cG (dY (af (aC (.int 7)) ap)) 1 [0] (ah 0) Zce)) ap))))
 (ao (aX 5 (ac aW (ac aW (aa 2) (aC (.int 1))) (aS (aQ c7 (cu 0 (aj (ac bJ (aC (.int 8)) (aa 2)) aE))))))
 (bP (cv (af (aa 4) (af (aS (aQ mw (cu 0 (aj (aa 5) (aj (ac aW (aa 2) (aS (aQ c7 (cu 0 (aj (ac bJ (aa 5) (aa 2)) aE))))) aE))))) ap))))))))
theorem ZnZ (T:Txt K mg):ACal (bF (K,cn)) P w K mg base "_law_case" 4 ["_law_pen_here","_law_few"] mB:=b9 T.Znz j9 rfl λf cdv A outer sh H E hr=>by
 exact (aq (bd (aM (i:=2) j9.nd rfl (Or.inl rfl) (aY (aT (dU T) (hr.mono (by decide)) rfl (cP (pv 0) (ak (aK aJ aI (cj (dg (ai az (ai (al bx bw (ab (pv 1)) az) aw)))) (bu (t:=aZ) (cZ qQ rfl T.pP boot_int (ai (rC fN eu (aY (aT (dU T) (hr.mono (by decide)) rfl (cP (pv 0) (ak az aU)))) az (nomark _)) aw)) ou) (λ_ _=>rfl)) aU))))))
 (aq (bd (aM (i:=3) j9.nd rfl (Or.inl rfl) (aY (aT (dU T) (hr.mono (by decide)) rfl (cP (pv 0) (ak (al bx bw (ab (pv 2)) az) aU))))))
 (aq (bd (aM (i:=4) j9.nd rfl (Or.inl rfl) (al bx bw (dh (ai (al b6 bY (ab (pv 2)) (ab (pv 3))) (ai (ab (pv 3)) aw))) (bu (t:=aZ) (cZ jI rfl T.iw boot_tuple (ai (cj (eQ (eJ nX ["_law_k"] [0] rfl (fe (eW rfl T.c6 (ai az aw))) (λb=>(aP (aO (i:=0) (show ((bN nX ["_law_k"] [0])).Nodup by decide +kernel) rfl (Or.inl rfl)))) (λb=>(aY (aT (ZnT T) (hr.mono (by decide)) rfl (cP (pv 1) aU)))) rfl (show BlkOk nX (aH o0) _ [0] from ⟨rfl,by decide +kernel,by decide +kernel,by decide +kernel,by decide +kernel⟩)) (cg (by decide)))) aw)) iX))))
 (aq (bd (aM (i:=5) j9.nd rfl (Or.inl rfl) (al bx bw (al bx bw (ab (pv 2)) az) (aY (aT (dU T) (hr.mono (by decide)) rfl (cP (pv 0) (ak (al b6 bY az (ab (pv 2))) aU)))))))
 (aN (bW (dh (ai (ab (pv 4)) (ai (aY (aT (ZnS T) (hr.mono (by decide)) rfl (cP (pv 0) (ak (ab (pv 5)) (ak (al bx bw (ab (pv 2)) (aY (aT (dU T) (hr.mono (by decide)) rfl (cP (pv 0) (ak (al b6 bY (ab (pv 5)) (ab (pv 2))) aU))))) aU))))) aw)))))))))
noncomputable def km:List Sl->Tr PyData :=
 (aS (aQ mE (aj (aa 2) (aj (aa 3) (aj (aa 0) (aj (aa 1) aE))))))
noncomputable def gM:List Sl->Tr Re:=bv 3 2
 (ao (gb (bo (aB (ah 3) (aB (ah 4) bi))) (aS (rL mr (cG (jP (aS (aQ jt (aj (aa 0) aE))) (aa 2)) 2 [0,1] (bo (aB (ah 0) (aB (ah 1) bi))) km))))
 (bP (cv (af (ac am (aa 3) (aC (.int 0))) (af (ac aW (bX (cF (af (aC (.int 0)) ap))) (fY (aa 3) (fE (aC (.int 1))) f8)) (af (aa 4) ap))))))
theorem Zhu (T:Txt K mg):ACal (bF (K,cn)) P w K mg base "mean_and_worths" 5 ["shop","one","levels"] gM:=b9 T.Zm8 oQ rfl λf cdv A outer sh H E hr=>by
 exact (aq (iJ (dA (aY (Zoo (ZnP T) (hr.mono (by decide)) rfl (eQ (eJ lx ["stock","level"] [0,1] rfl (nE (l5 rfl rfl T.mi (aY (aT (qS T) (hr.mono (by decide)) rfl (ak (ab (pv 0)) aU))) (ab (pv 2)))) (λb=>(cN rfl (bp (aP (aO (i:=0) (show ((bN lx ["stock","level"] [0,1])).Nodup by decide +kernel) rfl (Or.inl rfl))) (bp (aP (aO (i:=1) (show ((bN lx ["stock","level"] [0,1])).Nodup by decide +kernel) rfl (Or.inl rfl))) cM)) (bn (bn cK)))) (λb=>(aY (aT (Zn2 T) (hr.mono (by decide)) rfl (ak (ab (pv 2)) (ak (ab (pv 3)) (ak (ab (pv 0)) (ak (ab (pv 1)) aU))))))) rfl (show BlkOk lx (aH oV) _ [0,1] from ⟨rfl,by decide +kernel,by decide +kernel,by decide +kernel,by decide +kernel⟩)) (jd (eI (cg (by decide)) (eI (cg (by decide)) je)))))) (cN rfl (bp (aP (aO (i:=3) oQ.nd rfl (Or.inl rfl))) (bp (aP (aO (i:=4) oQ.nd rfl (Or.inl rfl))) cM)) (bn (bn cK)))))
 (aN (bW (dh (ai (aK aJ aI (ab (pv 3)) az (λ_ _=>rfl)) (ai (al bx bw (cj (dg (ai az aw))) (li (ab (pv 3)) (lg az) lh)) (ai (ab (pv 4)) aw)))))))
noncomputable def po:List Sl->Tr PyData :=
 (aa 1)
noncomputable def oq:List Sl->Tr Bool :=
 (cb (aC (.bool true)))
noncomputable def kS:List Sl->Tr Ou :=
 (ao (gb (bo (aB (ah 3) (aB (ah 4) (aB (ah 5) bi)))) (aS (aQ gM (aj (aa 0) (aj (aa 1) (aj (aa 2) aE))))))
 (ao (aX 6 (aS (aQ kO (aj (aa 0) (aj (aS (aQ mv (aj (aa 0) (aj (aa 1) (aj (aa 4) (aj (aa 5) aE)))))) (aj (ac bh (aa 5) (bf cA (af (aa 1) ap))) aE))))))
 (ao (aX 7 (bX (cG (ga (aa 6)) 2 [] (bo (aB (ah 0) (aB (ah 1) bi))) po)))
 (ao (cR (cb (ac de (aa 7) (aa 2)))
  (bP (cv (af (aa 3) (af (aa 4) (af (aa 5) (af (aa 2) ap))))))
  cQ)
 (aX 2 (aa 7))))))
noncomputable def mI:List Sl->Tr Re:=bv 2 6
 (ao (aX 2 (bX (lq gN (af (aS (aQ jt (aj (aa 0) aE))) ap))))
 (cw oq kS 100000))
theorem Zn7 (T:Txt K mg):ACal (bF (K,cn)) P w K mg base "best_of_all" 6 ["shop","one"] mI:=b9 T.Znm gu rfl λf cdv A outer sh H E hr=>by
 exact (aq (bd (aM (i:=2) gu.nd rfl (Or.inl rfl) (cj (ZhU (t:=aZ) (cZ qP rfl T.pO boot_list (ai (aY (aT (qS T) (hr.mono (by decide)) rfl (ak (ab (pv 0)) aU))) aw)) Zao))))
 (aN (rh 100000 PassesOwn.never (Zoc jN)
  (aq (iJ (dA (aY (aT (Zhu T) (hr.mono (by decide)) rfl (ak (ab (pv 0)) (ak (ab (pv 1)) (ak (ab (pv 2)) aU))))) (cN rfl (bp (aP (aO (i:=3) gu.nd rfl (Or.inl rfl))) (bp (aP (aO (i:=4) gu.nd rfl (Or.inl rfl))) (bp (aP (aO (i:=5) gu.nd rfl (Or.inl rfl))) cM))) (bn (bn (bn cK))))))
 (aq (bd (aM (i:=6) gu.nd rfl (Or.inl rfl) (aY (aT (Zn6 T) (hr.mono (by decide)) rfl (ak (ab (pv 0)) (ak (aY (aT (ZnR T) (hr.mono (by decide)) rfl (ak (ab (pv 0)) (ak (ab (pv 1)) (ak (ab (pv 4)) (ak (ab (pv 5)) aU)))))) (ak (al bE bB (ab (pv 5)) (bu (t:=aZ) (bq (gW rfl) rfl T.gI boot_sum (ai (ab (pv 1)) aw)) gk)) aU)))))))
 (aq (Zoj (Zkq (i:=7) lz ["cost","level"] [] rfl gu.nd rfl rfl (iK (ab (pv 6))) (λb=>(cN rfl (bp (aP (aO (i:=0) (show ((bN lz ["cost","level"] [])).Nodup by decide +kernel) rfl (Or.inl rfl))) (bp (aP (aO (i:=1) (show ((bN lz ["cost","level"] [])).Nodup by decide +kernel) rfl (Or.inl rfl))) cM)) (bn (bn cK)))) (λb=>(ab (pv 1))) rfl (show BlkOk lz (aH oZ) _ [] from ⟨rfl,by decide +kernel,by decide +kernel,by decide +kernel,by decide +kernel⟩) rfl) (jd (eI (cg (by decide)) (eI (cg (by decide)) je))))
 (aq (dH (cq (pI hr) ot (ab (pv 7)) (ab (pv 2)) (nomark _))
  (aN (bW (dh (ai (ab (pv 3)) (ai (ab (pv 4)) (ai (ab (pv 5)) (ai (ab (pv 2)) aw)))))))
  dG)
 (aN (bd (aM (i:=2) gu.nd rfl (Or.inl rfl) (ab (pv 7))))))))))))
noncomputable def ju:List Sl->Tr Re:=bv 3 3
 (ao (nL (aS (aQ iC (aj (aa 0) (aj (aa 1) aE)))))
 (ao (gb (bo (aB (ah 3) (aB (ah 4) (aB (ah 5) bi)))) (aS (aQ gM (aj (aa 0) (aj (aa 1) (aj (aa 2) aE))))))
 (lp (aQ iA (aj (aa 3) (aj (aa 5) aE))))))
theorem qV (T:Txt K mg):ACal (bF (K,cn)) P w K mg base "mean_of" 6 ["shop","one","levels"] ju:=b9 T.Zm7 lQ rfl λf cdv A outer sh H E hr=>by
 exact (aq (ZhO (aY (aT (Zhw T) (hr.mono (by decide)) rfl (ak (ab (pv 0)) (ak (ab (pv 1)) aU)))))
 (aq (iJ (dA (aY (aT (Zhu T) (hr.mono (by decide)) rfl (ak (ab (pv 0)) (ak (ab (pv 1)) (ak (ab (pv 2)) aU))))) (cN rfl (bp (aP (aO (i:=3) lQ.nd rfl (Or.inl rfl))) (bp (aP (aO (i:=4) lQ.nd rfl (Or.inl rfl))) (bp (aP (aO (i:=5) lQ.nd rfl (Or.inl rfl))) cM))) (bn (bn (bn cK))))))
 (aN (rl (aT (qT T) (hr.mono (by decide)) rfl (ak (ab (pv 3)) (ak (ab (pv 5)) aU)))))))
noncomputable def lY:List Sl->Tr PyData :=
 (aS (aQ iA (aj (aa 0) (aj (aa 1) aE))))
noncomputable def kM:List Sl->Tr Re:=bv 2 4
 (ao (nL (aS (aQ iC (aj (aa 0) (aj (aa 1) aE)))))
 (ao (gb (bo (aB (ah 2) (aB (ah 3) (aB (ah 4) (aB (ah 5) bi))))) (aS (aQ mI (aj (aa 0) (aj (aa 1) aE)))))
 (bP (cv (af (aS (aQ iA (aj (aa 2) (aj (aa 4) aE)))) (af (bf fm (af (bX (cG (ga (aa 3)) 1 [4] (ah 0) lY)) ap)) (af (bf fm (af (aa 5) ap)) ap)))))))
theorem Zn0 (T:Txt K mg):ACal (bF (K,cn)) P w K mg base "lasting" 7 ["shop","one"] kM:=b9 T.Znb j7 rfl λf cdv A outer sh H E hr=>by
 exact (aq (ZhO (aY (aT (Zhw T) (hr.mono (by decide)) rfl (ak (ab (pv 0)) (ak (ab (pv 1)) aU)))))
 (aq (iJ (dA (aY (aT (Zn7 T) (hr.mono (by decide)) rfl (ak (ab (pv 0)) (ak (ab (pv 1)) aU)))) (cN rfl (bp (aP (aO (i:=2) j7.nd rfl (Or.inl rfl))) (bp (aP (aO (i:=3) j7.nd rfl (Or.inl rfl))) (bp (aP (aO (i:=4) j7.nd rfl (Or.inr rfl))) (bp (aP (aO (i:=5) j7.nd rfl (Or.inl rfl))) cM)))) (bn (bn (bn (bn cK)))))))
 (aN (bW (dh (ai (aY (aT (qT T) (hr.mono (by decide)) rfl (ak (ab (pv 2)) (ak (ab (pv 4)) aU)))) (ai (bu (t:=aZ) (cZ jI rfl T.iw boot_tuple (ai (cj (eQ (eJ nW ["worth"] [4] rfl (iK (ab (pv 3))) (λb=>(aP (aO (i:=0) (show ((bN nW ["worth"] [4])).Nodup by decide +kernel) rfl (Or.inl rfl)))) (λb=>(aY (aT (qT T) (hr.mono (by decide)) rfl (ak (ab (pv 0)) (ak (ab (pv 1)) aU))))) rfl (show BlkOk nW (aH oX) _ [4] from ⟨rfl,by decide +kernel,by decide +kernel,by decide +kernel,by decide +kernel⟩)) (cg (by decide)))) aw)) iX) (ai (bu (t:=aZ) (cZ jI rfl T.iw boot_tuple (ai (ab (pv 5)) aw)) iX) aw))))))))
noncomputable def ku:List Sl->Tr PyData :=
 (ac bJ (aa 0) (ac am (aa 1) (aC (.int 1))))
noncomputable def Zcf:List Sl->Tr PyData :=
 (ac aW (ac bJ (aa 0) (ac am (aa 2) (aC (.int 1)))) (aS (aQ c7 (cu 1 (aj (ac bJ (aa 3) (aa 0)) aE)))))
noncomputable def qf:List Sl->Tr Ou :=
 (ge 9 (bf fm (af (bX (cG (dY (af (aa 8) ap)) 1 [1,3,8] (ah 0) Zcf)) ap)))
noncomputable def qe:List Sl->Tr Ou :=
 (ao (aX 13 (aS (aQ ju (aj (aa 3) (aj (aa 4) (aj (aa 12) aE))))))
 (ao (cR (cb (ac c5 (bf eG (af (aa 13) ap)) (bf eG (af (aS (aQ mz (aj (aa 3) (aj (aa 4) (aj (aa 12) aE))))) ap))))
  (bP (aC (.bool false)))
  cQ)
 (ao (cR (nK (cb (ac c5 (bf eG (af (aa 13) ap)) (bf eG (af (aS (aQ kI (aj (ac am (aa 13) (aC (.int 0))) (aj (ac am (aa 13) (aC (.int 1))) aE)))) ap)))) (cb (ac c5 (bf eG (af (aS (aQ ju (aj (aa 3) (aj (aa 4) (aj (aa 12) aE))))) ap)) (bf eG (af (aa 13) ap)))))
  (bP (aC (.bool false)))
  cQ)
 (cR (cb (ac (df λi j=>decide (i < j)) (ac bh (ac am (aa 13) (aC (.int 0))) (ac am (aa 5) (aC (.int 1)))) (ac bh (ac am (aa 5) (aC (.int 0))) (ac am (aa 13) (aC (.int 1))))))
  (bP (aC (.bool false)))
  cQ))))
noncomputable def qd:List Sl->Tr Ou :=
 (ao (gb (bo (aB (ah 3) (aB (ah 4) bi))) (aS (aQ mB (cu 1 (aj (aC (.int 4)) aE)))))
 (ao (gb (bo (aB (ah 5) (aB (ah 6) (aB (ah 7) bi)))) (aS (aQ kM (aj (aa 3) (aj (aa 4) aE)))))
 (ao (aX 8 (ac aW (ac aW (ac am (aa 3) (aC (.int 0))) (ac am (aa 3) (aC (.int 1)))) (aC (.int 1))))
 (ao (ff 9 (cF (af (bf fm (af (bX (cG (dY (af (aa 8) ap)) 1 [3] (ah 0) ku)) ap)) (af (aa 7) ap))))
 (ao (cS (dY (af (aC (.int 2)) ap)) (ah 10) qf)
 (ao (di 9 (aX 11 (bf eG (af (cv (af (aa 3) (af (aa 4) (af (aa 9) ap)))) ap))))
 (ao (di 9 (cS (ga (aa 9)) (ah 12) qe))
 (di 9 (cR (nK (cb (ac c5 (aS (aQ ju (aj (aa 3) (aj (aa 4) (aj (aa 7) aE))))) (aa 5))) (cb (ac c5 (bf eG (af (cv (af (aa 3) (af (aa 4) (af (aa 9) ap)))) ap)) (aa 11))))
  (bP (aC (.bool false)))
  cQ)))))))))
noncomputable def mC:List Sl->Tr Ou :=
 (ao (cS (dY (af (aC (.int 4)) ap)) (ah 2) qd)
 (bP (aC (.bool true))))
noncomputable abbrev p8:List Sl:=.un::.pen::List.replicate 12 .un
theorem Zk8 (T:Txt K mg) {f:Addr} {fd:FuncData} (F:Fun K "law" "law" ka f fd) (hl:(mC p8).ok 0 λ_ o=>o=.ret (.d (.bool true))):FnOk P w K mg base gi 8 f fd ["_law_script"] (ZaR K):=by
 refine F.ok dt (λvs H Q E h=>?_) (λcdv A outer s H vs Q E hr h=>?_)
 ·obtain ⟨a,ns,rfl,_⟩:=h
  rfl
 ·obtain ⟨a,ns,rfl,hS,hlen,k⟩:=h
  have hu:=mX hr
  refine ⟨_,(dw (aM (i:=1) dt.nd rfl (Or.inr rfl) (l8 (Zk6 T) (hr.mono (by decide)) rfl (bU (pv 0) ci)))
 (Zkn (t:=λcn=>bg (bF (K,cn)) mC) λcn=>(aq (dI PassesOwn.never rfl (fe (eW rfl T.c6 (ai az aw))) (aP (aO (i:=2) dt.nd rfl (Or.inl rfl)))
  (aq (iJ (dA (aY (aT (ZnZ T) (hr.mono (by decide)) rfl (cP (pv 1) (ak az aU)))) (cN rfl (bp (aP (aO (i:=3) dt.nd rfl (Or.inr rfl))) (bp (aP (aO (i:=4) dt.nd rfl (Or.inl rfl))) cM)) (bn (bn cK)))))
 (aq (iJ (dA (aY (aT (Zn0 T) (hr.mono (by decide)) rfl (ak (ab (pv 3)) (ak (ab (pv 4)) aU)))) (cN rfl (bp (aP (aO (i:=5) dt.nd rfl (Or.inl rfl))) (bp (aP (aO (i:=6) dt.nd rfl (Or.inl rfl))) (bp (aP (aO (i:=7) dt.nd rfl (Or.inl rfl))) cM))) (bn (bn (bn cK))))))
 (aq (bd (aM (i:=8) dt.nd rfl (Or.inr rfl) (al bx bw (al bx bw (aK aJ aI (ab (pv 3)) az (λ_ _=>rfl)) (aK aJ aI (ab (pv 3)) az (λ_ _=>rfl))) az)))
 (aq (fW (aM (i:=9) dt.nd rfl (Or.inl rfl) (dg (ai (bu (t:=aZ) (cZ jI rfl T.iw boot_tuple (ai (cj (eQ (eJ iS ["_law_k"] [3] rfl (fe (eW rfl T.c6 (ai (ab (pv 8)) aw))) (λb=>(aP (aO (i:=0) (show ((bN iS ["_law_k"] [3])).Nodup by decide +kernel) rfl (Or.inl rfl)))) (λb=>(al b6 bY (ab (pv 0)) (aK aJ aI (ab (pv 1)) az (λ_ _=>rfl)))) rfl (show BlkOk iS (aH ka) _ [3] from ⟨rfl,by decide +kernel,by decide +kernel,by decide +kernel,by decide +kernel⟩)) (cg (by decide)))) aw)) iX) (ai (ab (pv 7)) aw)))))
 (aq (dI PassesOwn.never rfl (fe (eW rfl T.c6 (ai az aw))) (aP (aO (i:=10) dt.nd rfl (Or.inl rfl)))
  (aN (jM (gx (ji PySem.F.plainAttrs_list PySem.F.slot_list_append PySem.F.type_list_append jq (pv 9) (bU (bu (t:=aZ) (cZ jI rfl T.iw boot_tuple (ai (cj (eQ (eJ iS ["_law_at"] [1,3,8] rfl (fe (eW rfl T.c6 (ai (ab (pv 8)) aw))) (λb=>(aP (aO (i:=0) (show ((bN iS ["_law_at"] [1,3,8])).Nodup by decide +kernel) rfl (Or.inl rfl)))) (λb=>(al bx bw (al b6 bY (ab (pv 0)) (aK aJ aI (ab (pv 2)) az (λ_ _=>rfl))) (aY (aT (dU T) (hr.mono (by decide)) rfl (cP (pv 1) (ak (al b6 bY (ab (pv 3)) (ab (pv 0))) aU)))))) rfl (show BlkOk iS (aH ka) _ [1,3,8] from ⟨rfl,by decide +kernel,by decide +kernel,by decide +kernel,by decide +kernel⟩)) (cg (by decide)))) aw)) iX) ci))))))
 (aq (fc (k:=9) (bd (aM (i:=11) dt.nd rfl (Or.inl rfl) (bu (t:=aZ) (bq (gX hr) rfl T.gJ boot_repr (ai (dh (ai (ab (pv 3)) (ai (ab (pv 4)) (ai (ab (pv 9)) aw)))) aw)) gl))))
 (aq (fc (k:=9) (dI PassesOwn.never rfl (iK (ab (pv 9))) (aP (aO (i:=12) dt.nd rfl (Or.inl rfl)))
  (aq (bd (aM (i:=13) dt.nd rfl (Or.inl rfl) (aY (aT (qV T) (hr.mono (by decide)) rfl (ak (ab (pv 3)) (ak (ab (pv 4)) (ak (ab (pv 12)) aU)))))))
 (aq (dH (cq (gD hr) gj (bu (t:=aZ) (bq (gX hr) rfl T.gJ boot_repr (ai (ab (pv 13)) aw)) gl) (bu (t:=aZ) (bq (gX hr) rfl T.gJ boot_repr (ai (aY (aT (ZnW T) (hr.mono (by decide)) rfl (ak (ab (pv 3)) (ak (ab (pv 4)) (ak (ab (pv 12)) aU))))) aw)) gl) (nomark _))
  (aN (bW jN))
  dG)
 (aq (dH (ZhL (ZhJ (cq (gD hr) gj (bu (t:=aZ) (bq (gX hr) rfl T.gJ boot_repr (ai (ab (pv 13)) aw)) gl) (bu (t:=aZ) (bq (gX hr) rfl T.gJ boot_repr (ai (aY (aT (Zhv T) (hr.mono (by decide)) rfl (ak (aK aJ aI (ab (pv 13)) az (λ_ _=>rfl)) (ak (aK aJ aI (ab (pv 13)) az (λ_ _=>rfl)) aU)))) aw)) gl) (nomark _)) (ZhI (cq (gD hr) gj (bu (t:=aZ) (bq (gX hr) rfl T.gJ boot_repr (ai (aY (aT (qV T) (hr.mono (by decide)) rfl (ak (ab (pv 3)) (ak (ab (pv 4)) (ak (ab (pv 12)) aU))))) aw)) gl) (bu (t:=aZ) (bq (gX hr) rfl T.gJ boot_repr (ai (ab (pv 13)) aw)) gl) (nomark _)))))
  (aN (bW jN))
  dG)
 (aN (dH (cq kC eu (al bE bB (aK aJ aI (ab (pv 13)) az (λ_ _=>rfl)) (aK aJ aI (ab (pv 5)) az (λ_ _=>rfl))) (al bE bB (aK aJ aI (ab (pv 5)) az (λ_ _=>rfl)) (aK aJ aI (ab (pv 13)) az (λ_ _=>rfl))) (nomark _))
  (aN (bW jN))
  dG)))))))
 (aN (fc (k:=9) (dH (ZhL (ZhJ (cq (gD hr) gj (aY (aT (qV T) (hr.mono (by decide)) rfl (ak (ab (pv 3)) (ak (ab (pv 4)) (ak (ab (pv 7)) aU))))) (ab (pv 5)) (nomark _)) (ZhI (cq (gD hr) gj (bu (t:=aZ) (bq (gX hr) rfl T.gJ boot_repr (ai (dh (ai (ab (pv 3)) (ai (ab (pv 4)) (ai (ab (pv 9)) aw)))) aw)) gl) (ab (pv 11)) (nomark _)))))
  (aN (bW jN))
  dG)))))))))))
 (aN (bW jN))))),?_⟩
  refine ⟨_,rfl,a,ns,rfl,hS,hlen,λp H' hp hP hs=>?_⟩
  exact ZlS (n:=12) hP rfl rfl (λH'=>k H') hl
end
end My
set_option Elab.async false
set_option linter.all false
set_option maxRecDepth 100000
local macro_rules | `(tactic| simp_arith [$ls,*] $[$loc]?) => do let b : Lean.TSyntaxArray ``Lean.Parser.Tactic.simpLemma ← (("L2.Zd2 L2.Zd1 L2.ZgI L2.Zgk L2.Zgj L2.ZgA L2.Zgx L2.jE L2.Zeg L2.Zf9 L2.ZfY L2.Ze9 L2.ZfZ L2.ZfX L2.Ze8 L2.fS L2.dE L2.jK L2.lf L2.ny L2.nw L2.nv L2.rg L2.rc L2.q9 L2.qZ L2.Ze7 L2.Ze6 L2.Zef L2.Zd8 L2.Zee L2.Zed L2.Zec L2.Zeb L2.Zd9 L2.Zea L2.Ze1 L2.Ze4 L2.ZeZ L2.Ze0 L2.Ze3 L2.ZfM L2.ZfK L2.ZfL L2.Ze5 L2.Zf8 L2.Zf7 L2.Zf6 L2.Zd7 L2.Zd6 L2.Zfh L2.Zfg L2.Zfj L2.Zfi L2.bK L2.Zgd L2.Zga L2.k8 L2.qA L2.ZgB L2.Zfd L2.ZfB L2.ZfC L2.Zd5 L2.Zd3 L2.Zff L2.Zfe L2.nh L2.ng L2.Zfc L2.Zek L2.Zej L2.Zei L2.jC L2.Zeh L2.ZeW L2.ZeV L2.ZeU L2.Zd4 L2.qx L2.ZgE L2.ZgF L2.ZgH L2.ZgG L2.ZeR L2.ZeQ L2.ZgD L2.ZgC L2.Zgf L2.ZeP L2.ZeO L2.Zf5 L2.ZfW L2.ZfV L2.qy L2.Zeu L2.Zet L2.Zew L2.Zev L2.Zel L2.ZfF L2.ZfD L2.ZfE L2.ZeM L2.ZeL L2.ZeK L2.ZeJ L2.ZeI L2.ZeH L2.ZeG L2.ZeF L2.ZeE L2.Zes L2.Zer L2.Zeq L2.Zep L2.ZcX L2.ZcW L2.Zgo L2.Zgn L2.Zgm L2.ZfN L2.ZeY L2.ZeX L2.Zgt L2.Zgs L2.Zgr L2.ZeD L2.ZeC L2.ZfO L2.ZdN L2.ZdO L2.ZdM L2.ZdL L2.ZdP L2.Zgq L2.Zgp L2.Ze2 L2.ZdF L2.ZdD L2.ZdG L2.ZdH L2.ZdE L2.ZeT L2.ZeS L2.ZfA L2.Zfz L2.Zfy L2.ZeA L2.Zez L2.Zd0 L2.ZdZ L2.ZdY L2.ZdX L2.ZdW L2.Zf0 L2.Zf2 L2.Zf1 L2.ZfT L2.ZfS L2.ZdQ L2.eN L2.dS L2.ZfQ L2.ZfR L2.ZfP L2.Zft L2.Zfs L2.Zfr L2.ZcL L2.ZcM L2.ZcO L2.ZcN L2.Zfm L2.Zfn L2.Zfl L2.Zfk L2.Zfo L2.Zfq L2.Zfp L2.ZfG L2.ZfI L2.ZfJ L2.ZfH L2.Zgc L2.Zgb L2.ZfU L2.Zeo L2.Zen L2.Zem L2.Zgz L2.Zgy L2.Zey L2.ZeB L2.Zex L2.ni L2.Zfx L2.Zfw L2.Zfv L2.Zfu Tw.Za8 Tw.Za7 Tw.Za6 Tw.Za5 Tw.Za4 Tw.Za3 Tw.Za2 Tw.Za1 Tw.Za0 L2.Zfa L2.rb2 L2.Tr.of_some L2.Tr.bind_assoc L2.Tr.draw_bind List.cons_append List.nil_append List.replicate_succ List.replicate_zero List.length_cons List.length_nil L2.Re.val_d L2.Re.val_own L2.blk L2.nu List.map_cons List.map_nil List.getElem?_cons_zero List.getElem?_cons_succ Option.getD_some Nat.reduceAdd Nat.reduceLeDiff List.isEmpty_cons".splitOn " ").toArray.map fun s => Lean.mkIdent s.toName).mapM fun i => `(Lean.Parser.Tactic.simpLemma| $i:ident); `(tactic| simp only [$b,*, $ls,*] $[$loc]?)
local macro_rules | `(tactic| simp_arith only [$ls,*] $[$loc]?) => do let b : Lean.TSyntaxArray ``Lean.Parser.Tactic.simpLemma ← (("L2.Zd2 L2.Zd1 L2.ZgI L2.Zgk L2.Zgj L2.ZgA L2.Zgx L2.jE L2.Zeg L2.Zf9 L2.ZfY L2.Ze9 L2.ZfZ L2.ZfX L2.Ze8 L2.fS L2.dE L2.jK L2.lf L2.ny L2.nw L2.nv L2.rg L2.rc L2.q9 L2.qZ L2.Ze7 L2.Ze6 L2.Zef L2.Zd8 L2.Zee L2.Zed L2.Zec L2.Zeb L2.Zd9 L2.Zea L2.Ze1 L2.Ze4 L2.ZeZ L2.Ze0 L2.Ze3 L2.ZfM L2.ZfK L2.ZfL L2.Ze5 L2.Zf8 L2.Zf7 L2.Zf6 L2.Zd7 L2.Zd6 L2.Zfh L2.Zfg L2.Zfj L2.Zfi L2.bK L2.Zgd L2.Zga L2.k8 L2.qA L2.ZgB L2.Zfd L2.ZfB L2.ZfC L2.Zd5 L2.Zd3 L2.Zff L2.Zfe L2.nh L2.ng L2.Zfc L2.Zek L2.Zej L2.Zei L2.jC L2.Zeh L2.ZeW L2.ZeV L2.ZeU L2.Zd4 L2.qx L2.ZgE L2.ZgF L2.ZgH L2.ZgG L2.ZeR L2.ZeQ L2.ZgD L2.ZgC L2.Zgf L2.ZeP L2.ZeO L2.Zf5 L2.ZfW L2.ZfV L2.qy L2.Zeu L2.Zet L2.Zew L2.Zev L2.Zel L2.ZfF L2.ZfD L2.ZfE L2.ZeM L2.ZeL L2.ZeK L2.ZeJ L2.ZeI L2.ZeH L2.ZeG L2.ZeF L2.ZeE L2.Zes L2.Zer L2.Zeq L2.Zep L2.ZcX L2.ZcW L2.Zgo L2.Zgn L2.Zgm L2.ZfN L2.ZeY L2.ZeX L2.Zgt L2.Zgs L2.Zgr L2.ZeD L2.ZeC L2.ZfO L2.ZdN L2.ZdO L2.ZdM L2.ZdL L2.ZdP L2.Zgq L2.Zgp L2.Ze2 L2.ZdF L2.ZdD L2.ZdG L2.ZdH L2.ZdE L2.ZeT L2.ZeS L2.ZfA L2.Zfz L2.Zfy L2.ZeA L2.Zez L2.Zd0 L2.ZdZ L2.ZdY L2.ZdX L2.ZdW L2.Zf0 L2.Zf2 L2.Zf1 L2.ZfT L2.ZfS L2.ZdQ L2.eN L2.dS L2.ZfQ L2.ZfR L2.ZfP L2.Zft L2.Zfs L2.Zfr L2.ZcL L2.ZcM L2.ZcO L2.ZcN L2.Zfm L2.Zfn L2.Zfl L2.Zfk L2.Zfo L2.Zfq L2.Zfp L2.ZfG L2.ZfI L2.ZfJ L2.ZfH L2.Zgc L2.Zgb L2.ZfU L2.Zeo L2.Zen L2.Zem L2.Zgz L2.Zgy L2.Zey L2.ZeB L2.Zex L2.ni L2.Zfx L2.Zfw L2.Zfv L2.Zfu Tw.Za8 Tw.Za7 Tw.Za6 Tw.Za5 Tw.Za4 Tw.Za3 Tw.Za2 Tw.Za1 Tw.Za0 L2.Zfa L2.rb2 L2.Tr.of_some L2.Tr.bind_assoc L2.Tr.draw_bind List.cons_append List.nil_append List.replicate_succ List.replicate_zero List.length_cons List.length_nil L2.Re.val_d L2.Re.val_own L2.blk L2.nu List.map_cons List.map_nil List.getElem?_cons_zero List.getElem?_cons_succ Option.getD_some Nat.reduceAdd Nat.reduceLeDiff List.isEmpty_cons".splitOn " ").toArray.map fun s => Lean.mkIdent s.toName).mapM fun i => `(Lean.Parser.Tactic.simpLemma| $i:ident); `(tactic| simp -implicitDefEqProofs only [$b,*, $ls,*] $[$loc]?)
namespace My
open PySem PySem.Spec PyProof.Rows L2 Tw
theorem nj {s:Shp} (h:s.Ok):jt [.d s.d]=.ret (.d (.tuple (aR (-s.depth) (s.top+1)))):=by
 have:=h.t0
 have:=h.d0
 have:=h.td
 have hr:kg (-s.depth) (s.top+1)=true:=by
  unfold kg
  rw [c8 (by omega) (by omega),c8 (by omega) (by omega)]
  simp
  omega
 simp_arith [jt,qx hr]
theorem qF (s:Shp) (y f:Int):iB [.d s.d,.d (.int y),.d (.int f)]=.ret (.d (.int (s.nx y f))):=by
 simp_arith [iB,Shp.nx]
theorem Zmu {s:Shp} (h:s.Ok) {x y:Int} (hx:nb 20 x) (hy:nb 20 y):kH [.d s.d,.d (.int x),.d (.int y)]=.ret (.d (.int (s.ord x y))):=by
 have f1:=aF h.piece (by decide)
 have f2:=aF (eX hy hx) (by decide)
 by_cases hp:y<=x
 ·simp_arith [kH,decide_eq_true hp,Shp.ord,if_pos hp]
 ·simp_arith [kH,decide_eq_false hp,f1,f2,Shp.ord,if_neg hp]
theorem ZmI {s:Shp} (h:s.Ok) {y f:Int} (hy:nb 20 y) (hf:nb 40 f):kN [.d s.d,.d (.int y),.d (.int f)]=.ret (.d (.int (s.day y f))):=by
 have hd:nb 7 s.depth:=by have:=h.t0; have:=h.d0; have:=h.td; exact bL (by show -128 < _; omega) (by show _ < 128; omega)
 have hn:nb 50 (s.nx y f):=by
  unfold Shp.nx bz
  exact mh (bb (jm hd) (by decide)) (bb (eX hy hf) (by decide))
 have f1:=aF h.keep (by decide)
 have f2:=aF hn (by decide)
 have f3:=aF (jm hn) (by decide)
 have f4:=aF h.lack (by decide)
 have f5:=aF h.lost (by decide)
 have f6:=aF (eX hn (eX hy hf)) (by decide)
 have e:=qF s y f
 by_cases hp:s.nx y f > 0
 ·simp_arith [kN,e,decide_eq_true hp,f1,f2,f5,f6,Shp.day,if_pos hp]
 ·simp_arith [kN,e,decide_eq_false hp,f3,f4,f5,f6,Shp.day,if_neg hp]
end My
set_option Elab.async false
set_option linter.all false
set_option maxRecDepth 100000
namespace My
open PySem PySem.Spec PyProof.Rows L2 Tw
theorem ZlQ (l:List Int):(l.map PyData.int).length=l.length:=List.length_map ..
theorem ZgP {s:Shp} (h:s.Ok) {day:List Int} (hd:DayB day) {y:Int} (y1:-s.depth<=y) (y2:y<=s.top) {A:Int->Int} {b:Nat} (hA:Bd s b A) {sc:Int} (hs:nb b sc) (hb:b<=5000) :
  kG [.d s.d,.d (tI day),.d (.int y),.d (lI (s.row A)),.d (.int sc)]=.ret (.d (.int (s.wg day y A sc))):=by
 have:=h.t0
 have:=h.d0
 have:=h.td
 have hy:nb 20 y:=bL (by show -1048576 < _; omega) (by show _ < 1048576; omega)
 apply ZhV
 simp_arith [kG,tI,lI]
 refine dX (n:=0) (n':=0) (P:=λo=>∃ J1 J2 J3:Sl,o=.next [.d s.d,.d (.tuple (day.map PyData.int)),.d (.int y),.d (.list ((s.row A).map PyData.int)),.d (.int sc),.d (.int (s.wg day y A sc)),J1,J2,J3]) ?_ (by decide) ?_
 ·refine rq (n:=0) (λpre ρ=>∃ J1 J2 J3:Sl,ρ=[.d s.d,.d (.tuple (day.map PyData.int)),.d (.int y),.d (.list ((s.row A).map PyData.int)),.d (.int sc),.d (.int (s.wg day y A sc - ws (λf=>sc * s.day y f+A (s.nx y f)) pre.length (day.drop pre.length))),J1,J2,J3]) ⟨.un,.un,.un,?_⟩ (by simp) ?_ ?_
  ·have:s.wg day y A sc - ws (λf=>sc * s.day y f+A (s.nx y f)) 0 day=0:=by unfold Shp.wg; omega
   simp only [List.length_nil,List.drop_zero,this]
  ·rintro pre x post ρ e ⟨J1,J2,J3,rfl⟩
   obtain ⟨w,hw,rfl⟩:=Zmq e
   rw [List.getElem?_map] at hw
   obtain ⟨v,hv,rfl⟩:=Option.map_eq_some_iff.mp hw
   refine ⟨_,rfl,?_⟩
   have hl:pre.length < day.length:=(List.getElem?_eq_some_iff.mp hv).1
   have hlen:=hd.len
   have hf:nb 40 (pre.length:Int):=bL (by show -1099511627776 < _; omega) (by show _ < 1099511627776; omega)
   have e1:=qF s y pre.length
   have e2:=ZmI h hy hf
   have n1:=fP s y pre.length
   have n2:=fO h y2 (show (0:Int)<=pre.length by omega)
   have e3:=ZjX (f:=A) n1 n2
   have v1:nb 30 v:=hd.nb v (List.mem_of_getElem? hv)
   have b1:=ce hs (lb h hy hf)
   have f1:=aF hs (by omega)
   have f2:=aF (lb h hy hf) (by decide)
   have f3:=aF v1 (by decide)
   have f4:=aF (dP b1 (hA _ n1 n2)) (by omega)
   simp_arith [Zdl,e1,e2,e3,f1,f2,f3,f4]
   have ed:day.drop pre.length=v::day.drop (pre.length+1):=by
    rw [List.drop_eq_getElem_cons hl]
    congr 1
    exact (List.getElem?_eq_some_iff.mp hv).2
   have el:(pre++[PyData.tuple [PyData.int pre.length,PyData.int v]]).length=pre.length+1:=by simp
   have ee:s.wg day y A sc - ws (λf=>sc * s.day y f+A (s.nx y f)) pre.length (day.drop pre.length)+v * (sc * s.day y pre.length+A (s.nx y pre.length)) =
     s.wg day y A sc - ws (λf=>sc * s.day y f+A (s.nx y f)) (pre++[PyData.tuple [PyData.int pre.length,PyData.int v]]).length (day.drop (pre++[PyData.tuple [PyData.int pre.length,PyData.int v]]).length):=by
    rw [el,ed,ws]
    omega
   rw [ee]
   exact cD ⟨_,rfl,_,_,_,rfl⟩
  ·rintro ρ ⟨J1,J2,J3,rfl⟩
   refine ⟨J1,J2,J3,?_⟩
   rw [Zmr,ZlQ,List.drop_length,ws,Int.sub_zero]
 ·rintro _ ⟨J1,J2,J3,rfl⟩
  simp_arith [List.isEmpty_cons]
  exact cD rfl
theorem ZmB {s:Shp} (h:s.Ok) {day:List Int} (hd:DayB day) {A:Int->Int} {b:Nat} (hA:Bd s b A) {sc:Int} (hs:nb b sc) (hb:b<=5000) :
  mv [.d s.d,.d (tI day),.d (lI (s.row A)),.d (.int sc)]=.ret (.own ((s.row (s.sm day A sc)).map PyData.int)):=by
 have:=h.t0
 have:=h.d0
 have:=h.td
 have f1:=aF hs (by omega)
 have f2:=aF (eB hd) (by decide)
 have f3:=aF (ce hs (eB hd)) (by omega)
 have f4:=aF h.piece (by decide)
 have f5:=aF (ce (ce hs (eB hd)) h.piece) (by omega)
 have es:bH cA [tI day]=.ret (.int day.sum):=ng day
 have hsm:small (aR (-s.depth) (s.top+1)).length=true:=bK (by rw [cI]; omega)
 have e:aV (bM (ah 0) pj (blk 1 [0,1,2,3,4] [.d s.d,.d (tI day),.d (lI (s.row A)),.d (.int sc),.d (.int (sc * day.sum))])) (aR (-s.depth) (s.top+1))=.ret ((s.row (s.sm day A sc)).map PyData.int):=by
  refine Eq.trans (ZlF (f:=λx=>.int (s.sm day A sc x)) λz h1 h2=>?_) ?_
  ·have e1:=ZgP h hd (y:=z) (by omega) (by omega) hA hs hb
   have hz:nb 20 z:=bL (by show -1048576 < _; omega) (by show _ < 1048576; omega)
   have f6:=aF hz (by decide)
   simp_arith [pj,e1,f3,f4,f5,f6]
   rfl
  ·unfold Shp.row Shp.n
   rw [List.map_map]
   rfl
 simp_arith [mv,nj h,hsm,es,f1,f2] at e ⊢
 simp_arith [e]
end My
set_option Elab.async false
set_option linter.all false
set_option maxRecDepth 100000
namespace My
open PySem PySem.Spec PyProof.Rows L2 Tw
theorem Zof {xs:List PyData} {v:PyData} (h:xs[xs.length - 1]?=some v):a9 xs (-1)=some v:=by
 have hl:xs≠[]:=λe=>by subst e; cases h
 have hp:0 < xs.length:=List.length_pos_iff.mpr hl
 obtain ⟨k,hk⟩:=Nat.exists_eq_succ_of_ne_zero (Nat.ne_of_gt hp)
 unfold a9 bG
 have e0:(-1:Int)+(xs.length:Int)=(k:Int):=by rw [hk]; show (-1:Int)+((k:Int)+1)=k; rw [Int.add_comm,Int.add_assoc]; exact Int.add_zero _
 have e:((-1:Int)+(xs.length:Int)).toNat=xs.length - 1:=by rw [e0,hk]; exact Int.toNat_natCast k
 rw [if_neg (by decide),if_pos (by omega)]
 show xs[((-1:Int)+(xs.length:Int)).toNat]?=some v
 rw [e]
 exact h
noncomputable def fL (g:Int->Int) (top K P x:Int):PyData:=.tuple [.int (cst g top K P x),.int (lvl g top K x)]
theorem Zj3 {lo hi:Int} {F:Int->PyData}:((List.range (hi - lo).toNat).map λ(i:Nat)=>F (hi - 1 - i)).reverse=(au lo (hi - lo).toNat).map F:=by
 unfold au
 rw [List.map_map]
 apply List.ext_getElem?
 intro i
 by_cases hi':i < (hi - lo).toNat
 ·rw [List.getElem?_reverse (by simpa using hi'),List.length_map,List.length_range,List.getElem?_map,List.getElem?_map,List.getElem?_range (by omega),List.getElem?_range hi']
  show some (F (hi - 1 - (((hi - lo).toNat - 1 - i:Nat):Int)))=some (F (lo+(i:Int)))
  congr 2
  omega
 ·rw [List.getElem?_eq_none (by simpa using hi'),List.getElem?_eq_none (by simpa using hi')]
theorem ZmJ {s:Shp} (h:s.Ok) {low:Int} (hl:low<=s.top) (hl0:-1000<=low) {g:Int->Int} {b:Nat} (hg:∀ x,low<=x->x<=s.top->nb b (g x)) {sc:Int} (hs:nb b sc) (hK:0<=sc * s.start) (hb:b<=3000) :
  mH [.d s.d,.d (.int low),.d (lI ((au low (s.top+1 - low).toNat).map g)),.d (.int sc)]=.ret (.own ((au low (s.top+1 - low).toNat).map (fL g s.top (sc * s.start) (sc * s.piece)))):=by
 have:=h.t0
 have:=h.d0
 have:=h.td
 have hn:0 < (s.top+1 - low).toNat:=by omega
 have hlen:(((au low (s.top+1 - low).toNat).map g).map PyData.int).length=(s.top+1 - low).toNat:=by rw [List.length_map,List.length_map,gw]
 have hat:∀ x,low<=x->x<=s.top->(((au low (s.top+1 - low).toNat).map g).map PyData.int)[(x - low).toNat]?=some (.int (g x)):=λx h1 h2=>by
  unfold au
  rw [List.map_map,List.map_map,List.getElem?_map,List.getElem?_range (by omega)]
  show some (PyData.int (g (low+((x - low).toNat:Int))))=_
  congr 3
  omega
 have hlast:a9 (((au low (s.top+1 - low).toNat).map g).map PyData.int) (-1)=some (.int (g s.top)):=Zof (by
  rw [hlen]
  have:=hat s.top hl (Int.le_refl _)
  have e:(s.top - low).toNat=(s.top+1 - low).toNat - 1:=by
   obtain ⟨k,hk⟩:=Int.eq_ofNat_of_zero_le (Int.sub_nonneg_of_le hl)
   have hk2:s.top+1 - low=((k+1:Nat):Int):=by omega
   rw [hk,hk2]
   rfl
  rw [e] at this
  exact this)
 have r1:eY low=true:=c8 (by omega) (by omega)
 have r2:eY (s.top+1)=true:=c8 (by omega) (by omega)
 have f1:=aF hs (by omega)
 have f2:=aF h.start (by decide)
 have f3:=aF h.piece (by decide)
 have f4:=aF (ce hs h.piece) (by omega)
 apply ZhV
 simp_arith [mH,lI,hlast,qz r1 r2]
 refine dX (n:=0) (n':=0) (P:=λo=>∃ J5 J6 J7 J8 J9:Sl,o=.next [.d s.d,.d (.int low),.d (.list (((au low (s.top+1 - low).toNat).map g).map PyData.int)),.d (.int sc),.own ((List.range (s.top+1 - low).toNat).map λ(i:Nat)=>fL g s.top (sc * s.start) (sc * s.piece) (s.top+1 - 1 - i)),J5,J6,J7,J8,J9]) ?_ (by decide) ?_
 ·refine rq (n:=0) (λpre ρ=>∃ J6 J7 J8 J9:Sl,ρ=[.d s.d,.d (.int low),.d (.list (((au low (s.top+1 - low).toNat).map g).map PyData.int)),.d (.int sc),.own ((List.range pre.length).map λ(i:Nat)=>fL g s.top (sc * s.start) (sc * s.piece) (s.top+1 - 1 - i)),.d (.tuple [.int (bst g s.top (pre.length - 1)).1,.int (bst g s.top (pre.length - 1)).2]),J6,J7,J8,J9]) ⟨.un,.un,.un,.un,rfl⟩ (by simp) ?_ ?_
  ·rintro pre x post ρ e ⟨J6,J7,J8,J9,rfl⟩
   obtain ⟨rfl,hpre⟩:=ZjZ e
   refine ⟨_,rfl,?_⟩
   generalize hk:pre.length=k at hpre ⊢
   have hx1:low<=s.top+1 - 1 - (k:Int):=by omega
   have hx2:s.top+1 - 1 - (k:Int)<=s.top:=by omega
   have ha:a9 (((au low (s.top+1 - low).toNat).map g).map PyData.int) (s.top+1 - 1 - (k:Int) - low)=some (.int (g (s.top+1 - 1 - (k:Int)))):=dF (by omega) (hat _ hx1 hx2)
   have hxn:nb 20 (s.top+1 - 1 - (k:Int)):=bL (by show -1048576 < _; omega) (by show _ < 1048576; omega)
   have f5:=aF hxn (by decide)
   have hsm:small (((List.range k).map λ(i:Nat)=>fL g s.top (sc * s.start) (sc * s.piece) (s.top+1 - 1 - i)).length+1)=true:=bK (by rw [List.length_map,List.length_range]; omega)
   have el:(pre++[PyData.int (s.top+1 - 1 - (k:Int))]).length=k+1:=by rw [List.length_append,hk]; rfl
   have m1:bH gK [.tuple [.int (g (s.top+1 - 1 - (k:Int))),.int (s.top+1 - 1 - (k:Int))],.tuple [.int (sc * s.start+(bst g s.top (k - 1)).1),.int (bst g s.top (k - 1)).2]]=.ret (.tuple [.int (pck g s.top (sc * s.start) (s.top+1 - 1 - (k:Int))).1,.int (pck g s.top (sc * s.start) (s.top+1 - 1 - (k:Int))).2]):=by
    rw [ni]
    cases k with
    | zero =>
     have ex:s.top+1 - 1 - ((0:Nat):Int)=s.top:=by simp
     rw [ex,ip,if_neg]
     show ¬ (sc * s.start+g s.top < g s.top\/sc * s.start+g s.top=g s.top/\s.top < s.top)
     omega
    | succ n =>
     have ex:s.top+1 - 1 - ((n+1:Nat):Int)=s.top - ((n+1:Nat):Int):=by omega
     rw [ex,iq,Nat.add_sub_cancel]
     have hb:=(nt g s.top n).1
     by_cases hc:sc * s.start+(bst g s.top n).1 < g (s.top - ((n+1:Nat):Int))
     ·rw [if_pos (.inl hc),if_pos hc]
     ·rw [if_neg (by omega),if_neg hc]
   have m2:bH gK [.tuple [.int (g (s.top+1 - 1 - (k:Int))),.int (s.top+1 - 1 - (k:Int))],.tuple [.int (bst g s.top (k - 1)).1,.int (bst g s.top (k - 1)).2]]=.ret (.tuple [.int (bst g s.top k).1,.int (bst g s.top k).2]):=by
    rw [ni]
    cases k with
    | zero =>
     have ex:s.top+1 - 1 - ((0:Nat):Int)=s.top:=by simp
     rw [ex,if_neg]
     ·rfl
     ·show ¬ (g s.top < g s.top\/g s.top=g s.top/\s.top < s.top)
      omega
    | succ n =>
     have ex:s.top+1 - 1 - ((n+1:Nat):Int)=s.top - ((n+1:Nat):Int):=by omega
     rw [ex,Nat.add_sub_cancel]
     have hb:=(nt g s.top n).1
     rw [bst]
     by_cases hc:(bst g s.top n).1 < g (s.top - ((n+1:Nat):Int))
     ·rw [if_pos (.inl hc),if_pos hc]
     ·rw [if_neg (by omega),if_neg hc]
   simp_arith [Zdm,ha,m1,m2,f1,f2,f3,f4,f5,hsm]
   rw [el,List.range_succ,List.map_append]
   exact cD ⟨_,rfl,_,_,_,_,rfl⟩
  ·rintro ρ ⟨J6,J7,J8,J9,rfl⟩
   rw [List.length_reverse,cI]
   exact ⟨_,J6,J7,J8,J9,rfl⟩
 ·rintro _ ⟨J5,J6,J7,J8,J9,rfl⟩
  simp_arith [List.isEmpty_cons]
  rw [Zj3]
  exact cD rfl
theorem ZmK {s:Shp} (h:s.Ok) {g:Int->Int} {b:Nat} (hg:Bd s b g) {sc:Int} (hs:nb b sc) (h0:0<=sc) (hb:b<=3000) :
  kO [.d s.d,.d (lI (s.row g)),.d (.int sc)]=.ret (.own ((au (-s.depth) s.n).map (fL g s.top (sc * s.start) (sc * s.piece)))):=by
 have:=h.t0
 have:=h.d0
 have:=h.td
 have e:=ZmJ h (low:=-s.depth) (by omega) (by omega) (λx h1 h2=>hg x h1 h2) hs (Int.mul_nonneg h0 h.start0) hb
 simp_arith [kO]
 unfold Shp.row Shp.n
 rw [e]
 simp_arith [List.isEmpty_cons]
end My
set_option Elab.async false
set_option linter.all false
set_option maxRecDepth 100000
set_option exponentiation.threshold 9000
namespace My
open PySem PySem.Spec PyProof.Rows L2 Tw Bar
noncomputable def bR (A:Nat->Nat->Int) (n k i:Nat):PyData:=.list (((List.range (n+1)).map λj=>M A k i (col A j)).map PyData.int)
noncomputable def bD (A:Nat->Nat->Int) (n k at':Nat):List PyData:=(List.range n).map λi=>if i < at' then bR A n (k+1) i else bR A n k i
structure SvOk (A:Nat->Nat->Int) (n:Nat):Prop where
 n9:n<=9
 d0:∀ j,j<=n->0 < d A j
 nb:∀ k i j,k<=n->i < n->j<=n->Tw.nb 3000 (M A k i (col A j))
 nd:∀ j,j<=n->Tw.nb 3000 (d A j)
theorem fJ (A:Nat->Nat->Int) (n k at':Nat):(bD A n k at').length=n:=by unfold bD; rw [List.length_map,List.length_range]
theorem ic (A:Nat->Nat->Int) {n k at' i:Nat} (h:i < n):(bD A n k at')[i]?=some (if i < at' then bR A n (k+1) i else bR A n k i):=by
 unfold bD
 rw [List.getElem?_map,List.getElem?_range h]
 rfl
theorem ZjO {A:Nat->Nat->Int} {n k:Nat} (h:SvOk A n) (hk:k < n):bR A n (k+1) k=bR A n k k:=by
 unfold bR
 congr 2
 refine List.map_congr_left λj _=>?_
 exact Zo7 A (λj hj=>Int.ne_of_gt (h.d0 j (by omega))) _
theorem ZjM {A:Nat->Nat->Int} {n k i:Nat} (hi:i < n):(bD A n k i).set i (bR A n (k+1) i)=bD A n k (i+1):=by
 refine List.ext_getElem? λq=>?_
 rw [List.getElem?_set,fJ]
 by_cases e:i=q
 ·subst e
  rw [if_pos rfl,if_pos hi,ic A hi,if_pos (by omega)]
 ·rw [if_neg e]
  by_cases hq:q < n
  ·rw [ic A hq,ic A hq]
   by_cases h2:q < i
   ·rw [if_pos h2,if_pos (by omega)]
   ·rw [if_neg h2,if_neg (by omega)]
  ·rw [List.getElem?_eq_none (by rw [fJ]; omega),List.getElem?_eq_none (by rw [fJ]; omega)]
theorem ZjL {A:Nat->Nat->Int} {n k:Nat} (h:SvOk A n) (hk:k < n):bD A n k k=bD A n k (k+1):=by
 refine List.ext_getElem? λq=>?_
 by_cases hq:q < n
 ·rw [ic A hq,ic A hq]
  by_cases h2:q < k
  ·rw [if_pos h2,if_pos (by omega)]
  ·rw [if_neg h2]
   by_cases h3:q=k
   ·subst h3
    rw [if_pos (by omega),ZjO h hk]
   ·rw [if_neg (by omega)]
 ·rw [List.getElem?_eq_none (by rw [fJ]; omega),List.getElem?_eq_none (by rw [fJ]; omega)]
theorem ZjN (A:Nat->Nat->Int) (n k:Nat):bD A n k n=bD A n (k+1) 0:=by
 unfold bD
 refine List.map_congr_left λi hi=>?_
 have:=List.mem_range.mp hi
 rw [if_pos this,if_neg (by omega)]
theorem Zmm {a m:Int} (ha:0 < a):(a * m).fdiv a=m:=by
 rw [Int.fdiv_eq_ediv_of_nonneg _ (by omega)]
 exact Int.mul_ediv_cancel_left m (by omega)
theorem ZbF {A:Nat->Nat->Int} {n k i j:Nat} (hj:j<=n):aG am (bR A n k i) (.int j)=.ret (.int (M A k i (col A j))):=by
 unfold bR
 rw [fS,dF (v:=.int (M A k i (col A j))) (by omega) (by rw [Int.toNat_natCast,List.getElem?_map,List.getElem?_map,List.getElem?_range (by omega)]; rfl)]
 rfl
theorem Zja {A:Nat->Nat->Int} {n k i:Nat} (h:SvOk A n) (hk:k < n) (hi:i < n) (hik:i≠k):aV (bM (bo (aB (ah 0) (aB (ah 1) bi))) kl [.un,.un,.d (.int (d A k)),.d (.int (d A (k+1))),.d (.int (M A k i (col A k)))]) (bI (((List.range (n+1)).map λj=>M A k i (col A j)).map PyData.int) (((List.range (n+1)).map λj=>M A k k (col A j)).map PyData.int))=.ret (((List.range (n+1)).map λj=>M A (k+1) i (col A j)).map PyData.int):=by
 have key:∀ l:List Nat,(∀ j∈l,j<=n)->aV (bM (bo (aB (ah 0) (aB (ah 1) bi))) kl [.un,.un,.d (.int (d A k)),.d (.int (d A (k+1))),.d (.int (M A k i (col A k)))]) (bI ((l.map λj=>M A k i (col A j)).map PyData.int) ((l.map λj=>M A k k (col A j)).map PyData.int))=.ret ((l.map λj=>M A (k+1) i (col A j)).map PyData.int):=by
  intro l
  induction l with
  | nil=>intro _; rfl
  | cons j l ih =>
   intro hl
   have hj:=hl j (by simp)
   have ih':=ih λq hq=>hl q (List.mem_cons_of_mem _ hq)
   have st:=Zie A (k:=k) (λq hq=>Int.ne_of_gt (h.d0 q (by omega))) (col A j) hik
   rw [nY] at st
   have dk:=h.d0 k (by omega)
   have f1:=aF (h.nd k (by omega)) (by decide)
   have f2:=aF (h.nd (k+1) (by omega)) (by decide)
   have f3:=aF (h.nb k i j (by omega) hi hj) (by decide)
   have f4:=aF (h.nb k i k (by omega) hi (by omega)) (by decide)
   have f5:=aF (h.nb k k j (by omega) hk hj) (by decide)
   have ed:aG e9 (.int (d A (k+1) * M A k i (col A j) - M A k i (col A k) * M A k k (col A j))) (.int (d A k))=.ret (.int (M A (k+1) i (col A j))):=by
    rw [k9 (by omega) f1,<- st,Zmm dk]
   have e0:bM (bo (aB (ah 0) (aB (ah 1) bi))) kl [.un,.un,.d (.int (d A k)),.d (.int (d A (k+1))),.d (.int (M A k i (col A k)))] (.tuple [.int (M A k i (col A j)),.int (M A k k (col A j))])=.ret (.int (M A (k+1) i (col A j))):=by
    simp_arith [kl,f2,f3,f4,f5,ed]
   have ez:bI (((j::l).map λj=>M A k i (col A j)).map PyData.int) (((j::l).map λj=>M A k k (col A j)).map PyData.int)=.tuple [.int (M A k i (col A j)),.int (M A k k (col A j))]::bI ((l.map λj=>M A k i (col A j)).map PyData.int) ((l.map λj=>M A k k (col A j)).map PyData.int):=rfl
   rw [ez,aV,e0,Tr.ret_bind,ih']
   rfl
 exact key _ λj hj=>by have:=List.mem_range.mp hj; omega
theorem sv1 {A:Nat->Nat->Int} {n k i:Nat} (h:SvOk A n) (hk:k < n) (hi:i < n) (J6:Sl):∃ K6:Sl,kR [.own (bD A n k i),.d (.int (d A k)),.d (.int k),.d (bR A n k k),.d (.int (d A (k+1))),.d (.int i),J6]=.ret (.next [.own (bD A n k (i+1)),.d (.int (d A k)),.d (.int k),.d (bR A n k k),.d (.int (d A (k+1))),.d (.int i),K6]):=by
 by_cases e:i=k
 ·subst e
  have c:(!((i:Int) == (i:Int)))=false:=by simp
  refine ⟨J6,?_⟩
  rw [<- ZjL h hk]
  simp_arith [kR,c]
 ·have c:(!((i:Int) == (k:Int)))=true:=by simp; omega
  have hat:a9 (bD A n k i) (i:Int)=some (bR A n k i):=dF (by omega) (by rw [Int.toNat_natCast,ic A hi,if_neg (by omega)])
  have hix:=ZbF (A:=A) (n:=n) (k:=k) (i:=i) (j:=k) (by omega)
  have er:=Zja h hk hi e
  have i1:cf (bR A n k i)=.ret (((List.range (n+1)).map λj=>M A k i (col A j)).map PyData.int):=rfl
  have i2:cf (bR A n k k)=.ret (((List.range (n+1)).map λj=>M A k k (col A j)).map PyData.int):=rfl
  have hs:small (bI (((List.range (n+1)).map λj=>M A k i (col A j)).map PyData.int) (((List.range (n+1)).map λj=>M A k k (col A j)).map PyData.int)).length=true:=bK (by
   unfold bI
   have:=h.n9
   simp
   omega)
  have hx:bG (bD A n k i).length (i:Int)=some i:=by
   unfold bG
   rw [fJ,if_pos (by omega),if_pos (by omega)]
   simp
  have e2:PyData.list (((List.range (n+1)).map λj=>M A (k+1) i (col A j)).map PyData.int)=bR A n (k+1) i:=rfl
  refine ⟨.d (.int (M A k i (col A k))),?_⟩
  simp_arith [kR,c,hat,hix,i1,i2,hs,er,jD hx,e2,ZjM hi]
theorem sv2 {A:Nat->Nat->Int} {n k:Nat} (h:SvOk A n) (hk:k < n):∀ (m i:Nat) (J5 J6:Sl),i+m=n->∃ K5 K6:Sl,bV (ah 5) kR ((au i m).map PyData.int) [.own (bD A n k i),.d (.int (d A k)),.d (.int k),.d (bR A n k k),.d (.int (d A (k+1))),J5,J6]=.ret (.next [.own (bD A n k n),.d (.int (d A k)),.d (.int k),.d (bR A n k k),.d (.int (d A (k+1))),K5,K6])
 | 0,i,J5,J6,e=>⟨J5,J6,by
  have e0:i=n:=by omega
  rw [e0]; rfl⟩
 | m+1,i,J5,J6,e=>by
  obtain ⟨K6,e1⟩:=sv1 h hk (show i < n by omega) J6
  obtain ⟨L5,L6,e2⟩:=sv2 h hk m (i+1) (.d (.int i)) K6 (by omega)
  refine ⟨L5,L6,?_⟩
  have er:(au (i:Int) (m+1)).map PyData.int=.int (i:Int)::(au ((i+1:Nat):Int) m).map PyData.int:=by
   have e1:au (i:Int) (m+1)=au (i:Int) 1++au ((i:Int)+(1:Nat)) m:=by rw [<- pe,Nat.add_comm]
   have e2:au (i:Int) 1=[(i:Int)]:=by unfold au; simp
   have e3:((i+1:Nat):Int)=(i:Int)+(1:Nat):=by omega
   rw [e1,e2,e3]
   rfl
  have eg:ah 5 (.int (i:Int)) [.own (bD A n k i),.d (.int (d A k)),.d (.int k),.d (bR A n k k),.d (.int (d A (k+1))),J5,J6]=some [.own (bD A n k i),.d (.int (d A k)),.d (.int k),.d (bR A n k k),.d (.int (d A (k+1))),.d (.int i),J6]:=rfl
  rw [er,c9,eg,Tr.of_some,Tr.ret_bind,eN,e1,Tr.ret_bind,dS,e2]
theorem sv3 {A:Nat->Nat->Int} {n k:Nat} (h:SvOk A n) (hk:k < n) (J3 J4 J5 J6:Sl):∃ K3 K4 K5 K6:Sl,mO [.own (bD A n k 0),.d (.int (d A k)),.d (.int k),J3,J4,J5,J6]=.ret (.next [.own (bD A n (k+1) 0),.d (.int (d A (k+1))),.d (.int k),K3,K4,K5,K6]):=by
 have n9:=h.n9
 obtain ⟨K5,K6,e⟩:=sv2 h hk n 0 J5 J6 (by omega)
 have hat:a9 (bD A n k 0) (k:Int)=some (bR A n k k):=dF (by omega) (by rw [Int.toNat_natCast,ic A hk,if_neg (by omega)])
 have hix:=ZbF (A:=A) (n:=n) (k:=k) (i:=k) (j:=k) (by omega)
 rw [nY] at hix
 have hl:(bD A n k 0).length=n:=fJ A n k 0
 have r1:dN [.int (n:Int)]=.ret ((au ((0:Nat):Int) n).map PyData.int):=by
  rw [fA (c8 (by omega) (by omega))]
  unfold aR
  have:((n:Int) - 0).toNat=n:=by omega
  rw [this]
  rfl
 refine ⟨.d (bR A n k k),.d (.int (d A (k+1))),K5,K6,?_⟩
 rw [<- ZjN]
 simp_arith only [mO,hat,hix,hl,r1,e]
theorem sv4 {A:Nat->Nat->Int} {n:Nat} (h:SvOk A n):∀ (m k:Nat) (J2 J3 J4 J5 J6:Sl),k+m=n->∃ K2 K3 K4 K5 K6:Sl,bV (ah 2) mO ((au k m).map PyData.int) [.own (bD A n k 0),.d (.int (d A k)),J2,J3,J4,J5,J6]=.ret (.next [.own (bD A n n 0),.d (.int (d A n)),K2,K3,K4,K5,K6])
 | 0,k,J2,J3,J4,J5,J6,e=>⟨J2,J3,J4,J5,J6,by
  have e0:k=n:=by omega
  rw [e0]; rfl⟩
 | m+1,k,J2,J3,J4,J5,J6,e=>by
  obtain ⟨K3,K4,K5,K6,e1⟩:=sv3 h (show k < n by omega) J3 J4 J5 J6
  obtain ⟨L2,L3,L4,L5,L6,e2⟩:=sv4 h m (k+1) (.d (.int k)) K3 K4 K5 K6 (by omega)
  refine ⟨L2,L3,L4,L5,L6,?_⟩
  have er:(au (k:Int) (m+1)).map PyData.int=.int (k:Int)::(au ((k+1:Nat):Int) m).map PyData.int:=by
   have e1:au (k:Int) (m+1)=au (k:Int) 1++au ((k:Int)+(1:Nat)) m:=by rw [<- pe,Nat.add_comm]
   have e2:au (k:Int) 1=[(k:Int)]:=by unfold au; simp
   have e3:((k+1:Nat):Int)=(k:Int)+(1:Nat):=by omega
   rw [e1,e2,e3]
   rfl
  have eg:ah 2 (.int (k:Int)) [.own (bD A n k 0),.d (.int (d A k)),J2,J3,J4,J5,J6]=some [.own (bD A n k 0),.d (.int (d A k)),.d (.int k),J3,J4,J5,J6]:=rfl
  rw [er,c9,eg,Tr.of_some,Tr.ret_bind,eN,e1,Tr.ret_bind,dS,e2]
theorem ZgQ {A:Nat->Nat->Int} {n:Nat} (h:SvOk A n):mr [.own ((List.range n).map λi=>.list (((List.range (n+1)).map λj=>A i j).map PyData.int))]=.ret (.d (.tuple [.list (((List.range n).map λi=>M A n i (col A n)).map PyData.int),.int (d A n)])):=by
 have n9:=h.n9
 have e0:((List.range n).map λi=>PyData.list (((List.range (n+1)).map λj=>A i j).map PyData.int))=bD A n 0 0:=by
  unfold bD
  refine List.map_congr_left λi _=>?_
  rw [if_neg (by omega)]
  unfold bR
  congr 2
  refine List.map_congr_left λj _=>?_
  rw [Zo6]
  rfl
 obtain ⟨K2,K3,K4,K5,K6,e⟩:=sv4 h n 0 .un .un .un .un .un (by omega)
 rw [iI] at e
 have hl:(bD A n 0 0).length=n:=fJ A n 0 0
 have r1:dN [.int (n:Int)]=.ret ((au ((0:Nat):Int) n).map PyData.int):=by
  rw [fA (c8 (by omega) (by omega))]
  unfold aR
  have:((n:Int) - 0).toNat=n:=by omega
  rw [this]
  rfl
 have hs:small (bD A n n 0).length=true:=bK (by rw [fJ]; omega)
 have em:aV (bM (ah 0) kj [.un]) (bD A n n 0)=.ret (((List.range n).map λi=>M A n i (col A n)).map PyData.int):=by
  have key:∀ l:List Nat,(∀ i∈l,i < n)->aV (bM (ah 0) kj [.un]) (l.map λi=>if i < 0 then bR A n (n+1) i else bR A n n i)=.ret ((l.map λi=>M A n i (col A n)).map PyData.int):=by
   intro l
   induction l with
   | nil=>intro _; rfl
   | cons i l ih =>
    intro hi
    have ih':=ih λq hq=>hi q (List.mem_cons_of_mem _ hq)
    have hix:aG am (bR A n n i) (.int (-1))=.ret (.int (M A n i (col A n))):=by
     unfold bR
     have hl:(((List.range (n+1)).map λj=>M A n i (col A j)).map PyData.int).length=n+1:=by rw [List.length_map,List.length_map,List.length_range]
     have ha:a9 (((List.range (n+1)).map λj=>M A n i (col A j)).map PyData.int) (-1)=some (.int (M A n i (col A n))):=by
      unfold a9 bG
      rw [hl,if_neg (by omega),if_pos (by omega)]
      have:(-1+((n+1:Nat):Int)).toNat=n:=by omega
      simp only [Option.bind_some,this]
      rw [List.getElem?_map,List.getElem?_map,List.getElem?_range (by omega)]
      rfl
     rw [fS,ha]
     rfl
    have e1:bM (ah 0) kj [.un] (bR A n n i)=.ret (.int (M A n i (col A n))):=by
     simp_arith only [kj,hix]
    rw [List.map_cons,if_neg (by omega),aV,e1,Tr.ret_bind,ih']
    rfl
  exact key _ λi hi=>List.mem_range.mp hi
 rw [e0]
 simp_arith only [mr,hl,r1,e,hs,em]
end My
set_option Elab.async false
set_option linter.all false
set_option maxRecDepth 100000
set_option exponentiation.threshold 9000
namespace My
open PySem PySem.Spec PyProof.Rows L2 Tw Bar
noncomputable def cY (s:Shp) (one:List Int) (y:Int) (j:Nat):Int:=ws (λf=>if (s.nx y f+s.depth).toNat=j then 1 else 0) 0 one
noncomputable def cB (s:Shp) (one:List Int) (x y:Int):Int:=one.sum * s.ord x y+s.wg one y (λ_=>0) 1
noncomputable def bj (s:Shp) (one:List Int) (lv:Nat->Int) (n i j:Nat):Int:=if j=n then cB s one ((i:Int) - s.depth) (lv i) else if j=0 then one.sum else (if i=j then one.sum else 0) - cY s one (lv i) j
noncomputable def ae (n:Nat) (r:Nat->Int):List PyData:=((List.range n).map r).map PyData.int
theorem cX (n:Nat) (r:Nat->Int):(ae n r).length=n:=by unfold ae; rw [List.length_map,List.length_map,List.length_range]
theorem ii {n:Nat} {r:Nat->Int} {j:Nat} (h:j < n):(ae n r)[j]?=some (.int (r j)):=by
 unfold ae
 rw [List.getElem?_map,List.getElem?_map,List.getElem?_range h]
 rfl
theorem ke {n:Nat} {r:Nat->Int} {j:Nat} (h:j < n) (v:Int):(ae n r).set j (.int v)=ae n λq=>if q=j then v else r q:=by
 refine List.ext_getElem? λq=>?_
 rw [List.getElem?_set,cX]
 by_cases e:j=q
 ·subst e
  rw [if_pos rfl,if_pos h,ii h,if_pos rfl]
 ·rw [if_neg e]
  by_cases hq:q < n
  ·rw [ii hq,ii hq,if_neg (by omega)]
  ·rw [List.getElem?_eq_none (by rw [cX]; omega),List.getElem?_eq_none (by rw [cX]; omega)]
theorem ig {n:Nat} {r r':Nat->Int} (h:∀ j,j < n->r j=r' j):ae n r=ae n r':=by
 unfold ae
 congr 1
 exact List.map_congr_left λj hj=>h j (List.mem_range.mp hj)
theorem ZgK {s:Shp} (h:s.Ok) {y:Int} (y1:-s.depth<=y) (y2:y<=s.top) (O X7 X8:Sl) (x:Sl):∀ (l:List Int) (k:Nat) (r:Nat->Int) (J5 J6:Sl),∃ K5 K6:Sl,bV (bo (aB (ah 5) (aB (ah 6) bi))) mT (enu k l) [.d s.d,O,x,.d (.int y),.own (ae s.n r),J5,J6,X7,X8]=.ret (.next [.d s.d,O,x,.d (.int y),.own (ae s.n λj=>r j - ws (λf=>if (s.nx y f+s.depth).toNat=j then 1 else 0) k l),K5,K6,X7,X8])
 | [],k,r,J5,J6=>⟨J5,J6,by
  have e:ae s.n (λj=>r j - ws (λf=>if (s.nx y f+s.depth).toNat=j then 1 else 0) k [])=ae s.n r:=ig λj _=>by rw [ws,Int.sub_zero]
  rw [e]
  rfl⟩
 | w::l,k,r,J5,J6=>by
  have n1:=fP s y k
  have n2:=fO h y2 (show (0:Int)<=k by omega)
  have hn:=h.n_eq
  have hj:(s.nx y k+s.depth).toNat < s.n:=by omega
  obtain ⟨K5,K6,e⟩:=ZgK h y1 y2 O X7 X8 x l (k+1) (λj=>if j=(s.nx y k+s.depth).toNat then r (s.nx y k+s.depth).toNat - w else r j) (.d (.int k)) (.d (.int w))
  refine ⟨K5,K6,?_⟩
  have e1:=qF s y k
  have ha:=Zgw (g:=λi j=>i - j) (k:=4) (i:=aa 6) (ρ:=[.d s.d,O,x,.d (.int y),.own (ae s.n r),.d (.int k),.d (.int w),X7,X8]) (xs:=ae s.n r) (y:=s.nx y k+s.depth) (a:=r (s.nx y k+s.depth).toNat) (by omega) (ii hj)
  have et:mT [.d s.d,O,x,.d (.int y),.own (ae s.n r),.d (.int k),.d (.int w),X7,X8]=.ret (.next [.d s.d,O,x,.d (.int y),.own (ae s.n λj=>if j=(s.nx y k+s.depth).toNat then r (s.nx y k+s.depth).toNat - w else r j),.d (.int k),.d (.int w),X7,X8]):=by
   unfold mT
   rw [Zgl (xs:=ae s.n r) rfl]
   have en:(ac aW (aS (aQ iB (aj (aa 0) (aj (aa 3) (aj (aa 5) aE))))) (ac am (aa 0) (aC (.int 1)))) [.d s.d,O,x,.d (.int y),.own (ae s.n r),.d (.int k),.d (.int w),X7,X8]=.ret (.int (s.nx y k+s.depth)):=by
    simp_arith [e1]
   rw [en,Tr.ret_bind,ha,Zgv]
   have ew:aa 6 [.d s.d,O,x,.d (.int y),.own (ae s.n r),.d (.int k),.d (.int w),X7,X8]=.ret (.int w):=rfl
   rw [ew,Tr.ret_bind,Zgu,ke hj]
   rfl
  have eg:(bo (aB (ah 5) (aB (ah 6) bi))) (.tuple [.int (k:Int),.int w]) [.d s.d,O,x,.d (.int y),.own (ae s.n r),J5,J6,X7,X8]=some [.d s.d,O,x,.d (.int y),.own (ae s.n r),.d (.int k),.d (.int w),X7,X8]:=rfl
  have er:(ae s.n λj=>(if j=(s.nx y k+s.depth).toNat then r (s.nx y k+s.depth).toNat - w else r j) - ws (λf=>if (s.nx y f+s.depth).toNat=j then 1 else 0) (k+1) l)=ae s.n λj=>r j - ws (λf=>if (s.nx y f+s.depth).toNat=j then 1 else 0) k (w::l):=ig λj hj=>by
   rw [ws]
   by_cases q:j=(s.nx y k+s.depth).toNat
   ·subst q
    rw [if_pos rfl,if_pos rfl]
    omega
   ·rw [if_neg q,if_neg (λe=>q e.symm)]
    omega
  rw [enu,c9,eg,Tr.of_some,Tr.ret_bind,eN,et,Tr.ret_bind,dS,e,er]
theorem ZmG {s:Shp} (h:s.Ok) {one:List Int} (hd:DayB one) {i:Nat} (hi:i < s.n) {lv:Nat->Int} (y0:(i:Int) - s.depth<=lv i) (y2:lv i<=s.top) :
  mE [.d s.d,.d (tI one),.d (.int ((i:Int) - s.depth)),.d (.int (lv i))]=.ret (.d (.list (((List.range (s.n+1)).map λj=>bj s one lv s.n i j).map PyData.int))):=by
 have hn:=h.n_eq
 have t0:=h.t0
 have d0:=h.d0
 have td:=h.td
 have y1:-s.depth<=lv i:=by omega
 have hrep:jJ gv (.list [.int 0]) (.int (s.top+s.depth+1))=.ret (ae s.n λ_=>0):=by
  rw [ZbP (by simp; omega)]
  have e1:(s.top+s.depth+1).toNat=s.n:=by omega
  rw [e1]
  unfold ae
  congr 1
  generalize s.n=m
  induction m with
  | zero=>rfl
  | succ m ih=>rw [List.replicate_succ',List.flatten_append,ih,List.range_succ,List.map_append,List.map_append]; rfl
 have ei:(i:Int) - s.depth+s.depth=(i:Int):=by omega
 have ea:iR (λi j=>i+j) 4 (ac aW (aa 2) (ac am (aa 0) (aC (.int 1)))) (bf cA (af (aa 1) ap)) [.d s.d,.d (tI one),.d (.int ((i:Int) - s.depth)),.d (.int (lv i)),.own (ae s.n λ_=>0),.un,.un,.un,.un]=.ret (.next [.d s.d,.d (tI one),.d (.int ((i:Int) - s.depth)),.d (.int (lv i)),.own (ae s.n λj=>if j=i then one.sum else 0),.un,.un,.un,.un]):=by
  rw [Zgl (xs:=ae s.n λ_=>0) rfl]
  have en:(ac aW (aa 2) (ac am (aa 0) (aC (.int 1)))) [.d s.d,.d (tI one),.d (.int ((i:Int) - s.depth)),.d (.int (lv i)),.own (ae s.n λ_=>0),.un,.un,.un,.un]=.ret (.int (i:Int)):=by
   simp_arith only [ei]
  rw [en,Tr.ret_bind,Zgw (a:=0) (by omega) (by rw [Int.toNat_natCast]; exact ii hi),Zgv]
  have ew:(bf cA (af (aa 1) ap)) [.d s.d,.d (tI one),.d (.int ((i:Int) - s.depth)),.d (.int (lv i)),.own (ae s.n λ_=>0),.un,.un,.un,.un]=.ret (.int one.sum):=by
   simp_arith only [j0]
  rw [ew,Tr.ret_bind,Zgu,Int.toNat_natCast,ke hi,Int.zero_add]
  rfl
 obtain ⟨K5,K6,eL⟩:=ZgK h y1 y2 (.d (tI one)) .un .un (.d (.int ((i:Int) - s.depth))) one 0 (λj=>if j=i then one.sum else 0) .un .un
 have ee:cL (one.map PyData.int)=enu 0 one:=qC one
 generalize hr:(λj=>(if j=i then one.sum else 0) - ws (λf=>if (s.nx (lv i) f+s.depth).toNat=j then 1 else 0) 0 one)=r at *
 have hx:bG (ae s.n r).length 0=some 0:=by
  unfold bG
  rw [cX,if_pos (by omega),if_pos (by omega)]
  rfl
 have hmul:aG bh (.list [.int 0]) (.int (s.n:Int))=.ret (lI (s.row λ_=>0)):=by
  have hsm:small ([PyData.int 0].length * (s.n:Int).toNat)=true:=bK (by rw [Int.toNat_natCast]; show 1 * _<=_; omega)
  have hc:(decide (-(2 ^ 63)<=(s.n:Int)) && decide ((s.n:Int) < 2 ^ 63) && small ([PyData.int 0].length * (s.n:Int).toNat))=true:=by
   rw [hsm,decide_eq_true (show -(2 ^ 63)<=(s.n:Int) by omega),decide_eq_true (show (s.n:Int) < 2 ^ 63 by omega)]
   rfl
  have ef:(List.replicate s.n [PyData.int 0]).flatten=(s.row λ_=>0).map PyData.int:=by
   unfold Shp.row au
   rw [List.map_map,List.map_map]
   generalize s.n=m
   induction m with
   | zero=>rfl
   | succ m ih=>rw [List.replicate_succ',List.flatten_append,ih,List.range_succ,List.map_append]; rfl
  have em:bh (.list [.int 0]) (.int (s.n:Int))=some (lI (s.row λ_=>0)):=by
   rw [bh,if_pos hc,Int.toNat_natCast,ef]
   rfl
  unfold aG
  rw [em]
  rfl
 have hz:Bd s 1 λ_=>0:=λx _ _=>by show (0:Int).natAbs < 2 ^ 1; decide
 have ew:=ZgP h hd y1 y2 (hz) (sc:=1) (b:=1) (by show (1:Int).natAbs < 2 ^ 1; decide) (by decide)
 have eo:=Zmu h (fH h (show -s.depth<=(i:Int) - s.depth by omega) (by omega)) (fH h y1 y2)
 have g1:=aF (eB hd) (by decide)
 have g2:=aF (pD h (fH h (show -s.depth<=(i:Int) - s.depth by omega) (by omega)) (fH h y1 y2)) (by decide)
 have hl4:∀ q:Nat->Int,(ae s.n q).length=s.n:=cX s.n
 have hset:(ae s.n r).set 0 (.int one.sum)=ae s.n λq=>if q=0 then one.sum else r q:=ke (by omega) _
 have hs:small ((ae s.n λq=>if q=0 then one.sum else r q).length+[PyData.int (cB s one ((i:Int) - s.depth) (lv i))].length)=true:=bK (by rw [cX]; show _+1<=_; omega)
 have hfin:(ae s.n λq=>if q=0 then one.sum else r q)++[PyData.int (cB s one ((i:Int) - s.depth) (lv i))]=((List.range (s.n+1)).map λj=>bj s one lv s.n i j).map PyData.int:=by
  rw [List.range_succ,List.map_append,List.map_append]
  have e1:(ae s.n λq=>if q=0 then one.sum else r q)=((List.range s.n).map λj=>bj s one lv s.n i j).map PyData.int:=ig λj hj=>by
   unfold bj
   rw [if_neg (show ¬ j=s.n by omega)]
   by_cases e:j=0
   ·rw [if_pos e,if_pos e]
   ·rw [if_neg e,if_neg e,<- hr]
    unfold cY
    dsimp only
    by_cases e2:j=i
    ·rw [if_pos e2,if_pos e2.symm]
    ·rw [if_neg e2,if_neg (λq=>e2 q.symm)]
  have e2:([s.n].map λj=>bj s one lv s.n i j).map PyData.int=[PyData.int (cB s one ((i:Int) - s.depth) (lv i))]:=by
   unfold bj
   simp
  rw [e1,e2]
 have hadd:aG aW (.list (ae s.n λq=>if q=0 then one.sum else r q)) (.list [PyData.int (cB s one ((i:Int) - s.depth) (lv i))])=.ret (.list (((List.range (s.n+1)).map λj=>bj s one lv s.n i j).map PyData.int)):=by rw [jE hs,hfin]
 unfold cB at hadd
 simp_arith only [mE,Zgi,Zgh,hrep,ea,qj,ee,eL,j0,jD hx,hset,hl4,hmul,eo,ew,g1,g2,hadd]
end My
set_option Elab.async false
set_option linter.all false
set_option maxRecDepth 100000
set_option exponentiation.threshold 9000
namespace My
open PySem PySem.Spec PyProof.Rows L2 Tw Bar
theorem jV {f:Int->Int}:∀ {l:List Int} {k:Nat},(∀ w∈l,0<=w)->(∀ x:Int,0<=f x)->0<=ws f k l
 | [],k,_,_=>by rw [ws]; exact Int.le_refl _
 | w::l,k,h0,hf=>by
  have a:=jV (f:=f) (l:=l) (k:=k+1) (λv hv=>h0 v (List.mem_cons_of_mem _ hv)) hf
  have b:=Int.mul_nonneg (h0 w (by simp)) (hf k)
  rw [ws]
  omega
theorem om {f:Int->Int}:∀ {l:List Int} {k:Nat},(∀ w∈l,0<=w)->(∀ x:Int,0<=f x)->∀ {x:Int},x∈dM k l->0 < f x->0 < ws f k l
 | [],k,_,_,x,hx,_=>by cases hx
 | w::l,k,h0,hf,x,hx,hp=>by
  have h0':∀ v∈l,0<=v:=λv hv=>h0 v (List.mem_cons_of_mem _ hv)
  have a:=jV (f:=f) (l:=l) (k:=k+1) h0' hf
  have b:=Int.mul_nonneg (h0 w (by simp)) (hf k)
  rw [ws]
  rw [dM] at hx
  by_cases hw:w > 0
  ·rw [if_pos hw] at hx
   rcases List.mem_cons.mp hx with rfl | hx
   ·have:=Int.mul_pos hw hp
    omega
   ·have:=om h0' hf hx hp
    omega
  ·rw [if_neg hw] at hx
   have:=om h0' hf hx hp
   omega
theorem ZaJ {g:Nat} {n:Nat} (h:g < n) (w:Int):Bar.ad (λj=>w * (if g=j then 1 else 0)) n=w:=by
 have key:∀ m:Nat,Bar.ad (λj=>w * (if g=j then 1 else 0)) m=if g < m then w else 0:=by
  intro m
  induction m with
  | zero=>rfl
  | succ m ih =>
   rw [Bar.ad,ih]
   by_cases e:g=m
   ·subst e
    rw [if_neg (by omega),if_pos rfl,if_pos (by omega)]
    omega
   ·rw [if_neg e]
    by_cases e2:g < m
    ·rw [if_pos e2,if_pos (by omega)]
     omega
    ·rw [if_neg e2,if_neg (by omega)]
     omega
 rw [key,if_pos h]
theorem oI (f g:Nat->Int):∀ n:Nat,Bar.ad (λj=>f j+g j) n=Bar.ad f n+Bar.ad g n
 | 0=>rfl
 | n+1=>by rw [Bar.ad,Bar.ad,Bar.ad,oI f g n]; omega
theorem oH {n:Nat} {ix:Int->Nat} (h:∀ x:Int,0<=x->ix x < n):∀ (l:List Int) (k:Nat),Bar.ad (λj=>ws (λf=>if ix f=j then 1 else 0) k l) n=l.sum
 | [],k=>by
  rw [ia λj _=>by rw [ws]]
  rfl
 | w::l,k=>by
  have ih:=oH h l (k+1)
  have e:(λj=>ws (λf=>if ix f=j then 1 else 0) k (w::l))=λj=>w * (if ix (k:Int)=j then 1 else 0)+ws (λf=>if ix f=j then 1 else 0) (k+1) l:=funext λj=>by rw [ws]
  rw [e,oI,ZaJ (h k (by omega)),ih,List.sum_cons]
structure RuOk (s:Shp) (one:List Int) (lv:Nat->Int):Prop where
 h:s.Ok
 n9:s.n<=9
 hd:DayB one
 gr:s.top+s.depth<=great one
 ps:∃ w∈one,w > 0
 lo:∀ i,i < s.n->(i:Int) - s.depth<=lv i
 hi:∀ i,i < s.n->lv i<=s.top
theorem jf {s:Shp} {one:List Int} {lv:Nat->Int} (r:RuOk s one lv):Pol s.n (bj s one lv s.n) (λi j=>cY s one (lv i) j) one.sum:=by
 have h:=r.h
 have hn:=h.n_eq
 have t0:=h.t0
 have d0:=h.d0
 refine ⟨r.hd.pos,λi hi=>?_,λi j hi j1 j2=>?_,λi j _ _=>?_,λi hi=>?_,λi hi=>?_⟩
 ·unfold bj
  rw [if_neg (by omega),if_pos rfl]
 ·unfold bj
  rw [if_neg (by omega),if_neg (by omega)]
 ·exact jV r.hd.w0 λx=>by split <;> omega
 ·have y2:=r.hi i hi
  have y1:=r.lo i hi
  have hg:=(mq (oM (k:=0) r.ps)).1
  refine om r.hd.w0 (λx=>by split <;> omega) (x:=great one) hg ?_
  have gr:=r.gr
  have en:s.nx (lv i) (great one)=-s.depth:=by unfold Shp.nx bz; split <;> omega
  rw [en,if_pos (by omega)]
  decide
 ·exact oH (ix:=λf=>(s.nx (lv i) f+s.depth).toNat) (λx hx=>by
   have n1:=fP s (lv i) x
   have n2:=fO h (r.hi i hi) hx
   omega) one 0
theorem Zhx {s:Shp} {one:List Int} {lv:Nat->Int} (r:RuOk s one lv) {i:Nat} (hi:i < s.n):nb 160 (cB s one ((i:Int) - s.depth) (lv i)):=by
 have h:=r.h
 have hn:=h.n_eq
 have t0:=h.t0
 have d0:=h.d0
 have y2:=r.hi i hi
 have y1:=r.lo i hi
 have a1:=ce (eB r.hd) (pD h (fH h (show -s.depth<=(i:Int) - s.depth by omega) (show (i:Int) - s.depth<=s.top by omega)) (fH h (show -s.depth<=lv i by omega) y2))
 have a2:nb (30+110+one.length) (s.wg one (lv i) (λ_=>0) 1):=by
  unfold Shp.wg
  refine Zad (a:=30) (b:=110) r.hd.nb λx x1 x2=>?_
  have hl:=r.hd.len
  have:=lb h (fH h (show -s.depth<=lv i by omega) y2) (show nb 40 x from bL (by show -1099511627776 < _; omega) (by show _ < 1099511627776; omega))
  rw [Int.one_mul,Int.add_zero]
  exact bb this (by decide)
 unfold cB
 exact bb (dP a1 a2) (by have:=r.hd.len; omega)
theorem jF {s:Shp} {one:List Int} {lv:Nat->Int} (r:RuOk s one lv) {i j:Nat} (hi:i < s.n):nb 160 (bj s one lv s.n i j):=by
 unfold bj
 split
 ·exact Zhx r hi
 ·split
  ·exact bb (eB r.hd) (by decide)
  ·have h1:nb 46 (if i=j then one.sum else 0):=by
    split
    ·exact eB r.hd
    ·exact jn _
   have h2:nb (30+1+one.length) (cY s one (lv i) j):=Zae (a:=30) (b:=1) (λx _=>by
    split
    ·show (1:Int).natAbs < 2 ^ 1; decide
    ·exact jn _) r.hd.nb
   exact bb (eX h1 h2) (by have:=r.hd.len; omega)
theorem ZaE {s:Shp} {one:List Int} {lv:Nat->Int} (r:RuOk s one lv):SvOk (bj s one lv s.n) s.n:=by
 have p:=jf r
 refine ⟨r.n9,λj hj=>leads p j hj,λk i j hk hi hj=>?_,λj hj=>?_⟩
 ·exact bb (rX (b:=160) r.n9 (λi j hi _=>jF r hi) hk hi λq hq=>jF r hq) (by decide)
 ·exact bb (jH (b:=160) r.n9 (λi j hi _=>jF r hi) hj) (by decide)
end My
set_option Elab.async false
set_option linter.all false
set_option maxRecDepth 100000
set_option exponentiation.threshold 9000
namespace My
open PySem PySem.Spec PyProof.Rows L2 Tw Bar
noncomputable def zB (s:Shp) (one:List Int) (lv:Nat->Int) (i:Nat):Int:=M (bj s one lv s.n) s.n i (col (bj s one lv s.n) s.n)
noncomputable def av (s:Shp) (one:List Int) (lv:Nat->Int):Int:=d (bj s one lv s.n) s.n
noncomputable def wB (s:Shp) (one:List Int) (lv:Nat->Int) (x:Int):Int:=if x=-s.depth then 0 else zB s one lv (x+s.depth).toNat
theorem Zhi (xs:List PyData):L2.eP xs (some 1) none=xs.drop 1:=by
 unfold L2.eP
 have e1:(1:Int)=((1:Nat):Int):=rfl
 rw [e1,HT.lV,HT.o4]
 cases xs with
 | nil=>rfl
 | cons x xs =>
  rw [Nat.min_eq_left (by simp),List.take_of_length_le (by rw [List.length_drop]; exact Nat.le_refl _)]
theorem Zah {s:Shp} (h:s.Ok) (one:List Int) (lv:Nat->Int):PyData.int 0::(((List.range s.n).map (zB s one lv)).map PyData.int).drop 1=(s.row (wB s one lv)).map PyData.int:=by
 have hn:=h.n_eq
 have t0:=h.t0
 have d0:=h.d0
 unfold Shp.row au
 rw [List.map_map,List.map_map,List.map_map]
 refine List.ext_getElem? λq=>?_
 rw [List.getElem?_map]
 cases q with
 | zero =>
  rw [List.getElem?_range (by omega)]
  show some (PyData.int 0)=some (PyData.int (wB s one lv (-s.depth+((0:Nat):Int))))
  unfold wB
  rw [if_pos (by omega)]
 | succ q =>
  rw [List.getElem?_cons_succ,List.getElem?_drop,List.getElem?_map,Nat.add_comm 1 q]
  by_cases hq:q+1 < s.n
  ·rw [List.getElem?_range hq]
   show some (PyData.int (zB s one lv (q+1)))=some (PyData.int (wB s one lv (-s.depth+((q+1:Nat):Int))))
   unfold wB
   have e:(-s.depth+((q+1:Nat):Int)+s.depth).toNat=q+1:=by omega
   rw [if_neg (by omega),e]
  ·rw [List.getElem?_eq_none (by rw [List.length_range]; omega)]
   rfl
theorem ZcI {s:Shp} {one:List Int} {lv:Nat->Int} (r:RuOk s one lv):aV (bM (bo (aB (ah 0) (aB (ah 1) bi))) km [.un,.un,.d s.d,.d (tI one)]) (bI (aR (-s.depth) (s.top+1)) (((List.range s.n).map lv).map PyData.int))=.ret ((List.range s.n).map λi=>.list (((List.range (s.n+1)).map λj=>bj s one lv s.n i j).map PyData.int)):=by
 have h:=r.h
 have hn:=h.n_eq
 have e1:bI (aR (-s.depth) (s.top+1)) (((List.range s.n).map lv).map PyData.int)=(List.range s.n).map λi:Nat=>PyData.tuple [.int ((i:Int) - s.depth),.int (lv i)]:=by
  unfold aR au bI
  have e:(s.top+1 - -s.depth).toNat=s.n:=rfl
  rw [e,List.map_map,List.map_map]
  have key:∀ l:List Nat,((l.map (PyData.int ∘ λk:Nat=>-s.depth+(k:Int))).zip (l.map (PyData.int ∘ lv))).map (λp=>PyData.tuple [p.1,p.2])=l.map λi:Nat=>PyData.tuple [.int ((i:Int) - s.depth),.int (lv i)]:=by
   intro l
   induction l with
   | nil=>rfl
   | cons i l ih =>
    rw [List.map_cons,List.map_cons,List.zip_cons_cons,List.map_cons,List.map_cons,ih]
    have:-s.depth+(i:Int)=(i:Int) - s.depth:=by omega
    simp only [Function.comp_apply,this]
  exact key _
 rw [e1]
 have key:∀ l:List Nat,(∀ i∈l,i < s.n)->aV (bM (bo (aB (ah 0) (aB (ah 1) bi))) km [.un,.un,.d s.d,.d (tI one)]) (l.map λi:Nat=>PyData.tuple [.int ((i:Int) - s.depth),.int (lv i)])=.ret (l.map λi=>.list (((List.range (s.n+1)).map λj=>bj s one lv s.n i j).map PyData.int)):=by
  intro l
  induction l with
  | nil=>intro _; rfl
  | cons i l ih =>
   intro hl
   have hi:=hl i (by simp)
   have e:=ZmG h r.hd hi (r.lo i hi) (r.hi i hi)
   have e0:bM (bo (aB (ah 0) (aB (ah 1) bi))) km [.un,.un,.d s.d,.d (tI one)] (.tuple [.int ((i:Int) - s.depth),.int (lv i)])=.ret (.list (((List.range (s.n+1)).map λj=>bj s one lv s.n i j).map PyData.int)):=by
    simp_arith [km,e]
   rw [List.map_cons,aV,e0,Tr.ret_bind,ih λq hq=>hl q (List.mem_cons_of_mem _ hq)]
   rfl
 exact key _ λi hi=>List.mem_range.mp hi
theorem Zmx {s:Shp} {one:List Int} {lv:Nat->Int} (r:RuOk s one lv):gM [.d s.d,.d (tI one),.d (lI ((List.range s.n).map lv))]=.ret (.d (.tuple [.int (zB s one lv 0),lI (s.row (wB s one lv)),.int (av s one lv)])):=by
 have h:=r.h
 have hn:=h.n_eq
 have t0:=h.t0
 have d0:=h.d0
 have n9:=r.n9
 have e1:=nj h
 have em:=ZcI r
 have es:=ZgQ (ZaE r)
 have it:∀ xs,cf (.tuple xs)=.ret xs:=λ_=>rfl
 have hs:small (bI (aR (-s.depth) (s.top+1)) (((List.range s.n).map lv).map PyData.int)).length=true:=bK (by
  unfold bI
  rw [List.length_map,List.length_zip,cI]
  omega)
 have ew:=Zah h one lv
 have ez:((List.range s.n).map λi=>M (bj s one lv s.n) s.n i (col (bj s one lv s.n) s.n)).map PyData.int=((List.range s.n).map (zB s one lv)).map PyData.int:=rfl
 rw [ez] at es
 have a0:aG am (.list (((List.range s.n).map (zB s one lv)).map PyData.int)) (.int 0)=.ret (.int (zB s one lv 0)):=by
  rw [fS,dF (v:=.int (zB s one lv 0)) (by decide) (by rw [List.getElem?_map,List.getElem?_map]; show Option.map _ (Option.map _ ((List.range s.n)[0]?))=_; rw [List.getElem?_range (by omega)]; rfl)]
  rfl
 have a1:gm (.list (((List.range s.n).map (zB s one lv)).map PyData.int)) (some 1) none=.ret (.list ((((List.range s.n).map (zB s one lv)).map PyData.int).drop 1)):=by
  rw [jC,Zhi]
 have a2:aG aW (.list [.int 0]) (.list ((((List.range s.n).map (zB s one lv)).map PyData.int).drop 1))=.ret (lI (s.row (wB s one lv))):=by
  rw [jE (bK (by rw [List.length_drop,List.length_map,List.length_map,List.length_range]; show 1+_<=_; omega))]
  show Tr.ret (PyData.list (PyData.int 0::(((List.range s.n).map (zB s one lv)).map PyData.int).drop 1))=_
  rw [ew]
  rfl
 have ed:d (bj s one lv s.n) s.n=av s one lv:=rfl
 rw [ed] at es
 generalize ((List.range s.n).map (zB s one lv)).map PyData.int=zs at *
 simp_arith only [gM,Zge,Zgg,e1,it,Zdr,hs,em,es,a0,a1,a2]
end My
set_option Elab.async false
set_option linter.all false
set_option maxRecDepth 100000
set_option exponentiation.threshold 9000
namespace My
open PySem PySem.Spec PyProof.Rows L2 Tw Bar
theorem Zjd {g n:Nat} (h:g < n) (w:Int) (v:Nat->Int):Bar.ad (λj=>w * (if g=j then 1 else 0) * v j) n=w * v g:=by
 have key:∀ m:Nat,Bar.ad (λj=>w * (if g=j then 1 else 0) * v j) m=if g < m then w * v g else 0:=by
  intro m
  induction m with
  | zero=>rfl
  | succ m ih =>
   rw [Bar.ad,ih]
   by_cases e:g=m
   ·subst e
    rw [if_neg (by omega),if_pos rfl,if_pos (by omega),Int.mul_one]
    omega
   ·rw [if_neg e]
    by_cases e2:g < m
    ·rw [if_pos e2,if_pos (by omega)]
     simp
    ·rw [if_neg e2,if_neg (by omega)]
     simp
 rw [key,if_pos h]
theorem ZaH {n:Nat} {ix:Int->Nat} (h:∀ x:Int,0<=x->ix x < n) (v:Nat->Int):∀ (l:List Int) (k:Nat),Bar.ad (λj=>ws (λf=>if ix f=j then 1 else 0) k l * v j) n=ws (λf=>v (ix f)) k l
 | [],k=>by
  rw [ia λj _=>by rw [ws,Int.zero_mul]]
  rfl
 | w::l,k=>by
  have ih:=ZaH h v l (k+1)
  have e:(λj=>ws (λf=>if ix f=j then 1 else 0) k (w::l) * v j)=λj=>w * (if ix (k:Int)=j then 1 else 0) * v j+ws (λf=>if ix f=j then 1 else 0) (k+1) l * v j:=funext λj=>by rw [ws,Int.add_mul]
  rw [e,oI,Zjd (h k (by omega)),ih]
  rfl
noncomputable def vB (s:Shp) (one:List Int) (A:Int->Int) (D x y:Int):Int:=D * one.sum * s.ord x y+s.wg one y A D
theorem Zac (f g:Int->Int) (D:Int):∀ (l:List Int) (k:Nat),ws (λx=>D * f x+g x) k l=D * ws (λx=>1 * f x+0) k l+ws g k l
 | [],k=>by simp [ws]
 | w::l,k=>by
  rw [ws,ws,ws,Zac f g D l (k+1)]
  grind
theorem kc {s:Shp} {one:List Int} {lv:Nat->Int} (r:RuOk s one lv) (z:Nat->Int) (A:Int->Int) (hA:∀ x,-s.depth<=x->x<=s.top->A x=if (x+s.depth).toNat=0 then 0 else z (x+s.depth).toNat) (D:Int) {i:Nat} (hi:i < s.n) :
  Bar.ad (λl=>bj s one lv s.n i l * z l) s.n=one.sum * z 0+one.sum * A ((i:Int) - s.depth) - (vB s one A D ((i:Int) - s.depth) (lv i) - D * cB s one ((i:Int) - s.depth) (lv i)):=by
 have h:=r.h
 have hn:=h.n_eq
 have t0:=h.t0
 have d0:=h.d0
 obtain ⟨m,hm⟩:∃ m,s.n=m+1:=⟨s.n - 1,by omega⟩
 have e1:=i9 (jf r) z hi (m:=m) (by omega)
 rw [<- hm] at e1
 rw [e1]
 have e2:(λl=>cY s one (lv i) l * (if l=0 then 0 else z l))=λl=>ws (λf=>if (s.nx (lv i) f+s.depth).toNat=l then 1 else 0) 0 one * (λl=>if l=0 then 0 else z l) l:=rfl
 rw [e2,ZaH (ix:=λf=>(s.nx (lv i) f+s.depth).toNat) (λx hx=>by
   have n1:=fP s (lv i) x
   have n2:=fO h (r.hi i hi) hx
   omega)]
 have e3:ws (λf=>(λl=>if l=0 then 0 else z l) (s.nx (lv i) f+s.depth).toNat) 0 one=ws (λf=>A (s.nx (lv i) f)) 0 one:=lD λf hf=>by
  have n1:=fP s (lv i) f
  have n2:=fO h (r.hi i hi) hf
  rw [hA _ n1 n2]
 rw [e3]
 have e4:A ((i:Int) - s.depth)=if i=0 then 0 else z i:=by
  rw [hA _ (by omega) (by omega)]
  have:((i:Int) - s.depth+s.depth).toNat=i:=by omega
  rw [this]
 have e5:(if 1<=i/\i<=m then one.sum * z i else 0)=one.sum * A ((i:Int) - s.depth):=by
  rw [e4]
  by_cases e:i=0
  ·rw [if_neg (by omega),if_pos e,Int.mul_zero]
  ·rw [if_pos (by omega),if_neg e]
 rw [e5]
 have e6:s.wg one (lv i) A D=D * s.wg one (lv i) (λ_=>0) 1+ws (λf=>A (s.nx (lv i) f)) 0 one:=Zac (λf=>s.day (lv i) f) (λf=>A (s.nx (lv i) f)) D one 0
 unfold vB cB
 rw [e6]
 grind
theorem lG {s:Shp} {one:List Int} {A:Int->Int} {D x y:Int} (h:x<=y):vB s one A D x y=gU (s.sm one A D) (D * one.sum * s.start) x y - D * one.sum * s.piece * x:=by
 unfold vB gU Shp.sm Shp.ord
 by_cases e:x < y
 ·rw [if_pos e,if_neg (by omega)]
  grind
 ·have:y=x:=by omega
  subst this
  rw [if_neg e,if_pos (by omega)]
  grind
end My
set_option Elab.async false
set_option linter.all false
set_option maxRecDepth 100000
set_option exponentiation.threshold 9000
namespace My
open PySem PySem.Spec PyProof.Rows L2 Tw Bar
noncomputable def gB (s:Shp) (one:List Int) (lv:Nat->Int):Int->Int:=s.sm one (wB s one lv) (av s one lv)
noncomputable def kB (s:Shp) (one:List Int) (lv:Nat->Int):Int:=av s one lv * one.sum * s.start
noncomputable def ba (s:Shp) (one:List Int) (lv:Nat->Int) (i:Nat):Int:=if i < s.n then lvl (gB s one lv) s.top (kB s one lv) ((i:Int) - s.depth) else 0
theorem jl {s:Shp} {one:List Int} {lv:Nat->Int} {i:Nat} (hi:i < s.n):ba s one lv i=(pck (gB s one lv) s.top (kB s one lv) ((i:Int) - s.depth)).2:=if_pos hi
theorem dm {s:Shp} {one:List Int} {lv:Nat->Int} (r:RuOk s one lv):0 < av s one lv:=leads (jf r) s.n (Nat.le_refl _)
theorem iu {s:Shp} {one:List Int} {lv:Nat->Int} (r:RuOk s one lv):RuOk s one (ba s one lv):=by
 have hn:=r.h.n_eq
 refine ⟨r.h,r.n9,r.hd,r.gr,r.ps,λi hi=>?_,λi hi=>?_⟩
 ·rw [jl hi]
  exact (pC (g:=gB s one lv) (top:=s.top) (K:=kB s one lv) (x:=(i:Int) - s.depth) (by omega)).1
 ·rw [jl hi]
  exact (pC (g:=gB s one lv) (top:=s.top) (K:=kB s one lv) (x:=(i:Int) - s.depth) (by omega)).2.1
theorem kA {s:Shp} {one:List Int} {lv:Nat->Int} (r:RuOk s one lv) {i:Nat} (hi:i < s.n):Bar.ad (λl=>bj s one lv s.n i l * zB s one lv l) s.n=av s one lv * cB s one ((i:Int) - s.depth) (lv i):=by
 have:=Zo8 (bj s one lv s.n) hi (col (bj s one lv s.n) s.n)
 have e:col (bj s one lv s.n) s.n i=cB s one ((i:Int) - s.depth) (lv i):=by
  unfold col bj
  rw [if_pos rfl]
 rw [e] at this
 exact this
theorem jW {s:Shp} (one:List Int) (lv:Nat->Int) (x:Int) (x1:-s.depth<=x) (x2:x<=s.top):wB s one lv x=if (x+s.depth).toNat=0 then 0 else zB s one lv (x+s.depth).toNat:=by
 unfold wB
 by_cases e:x=-s.depth
 ·rw [if_pos e,if_pos (by omega)]
 ·rw [if_neg e,if_neg (by omega)]
noncomputable def fI (s:Shp) (one:List Int) (lv:Nat->Int) (i:Nat):Int:=gU (gB s one lv) (kB s one lv) ((i:Int) - s.depth) (lv i) - (pck (gB s one lv) s.top (kB s one lv) ((i:Int) - s.depth)).1
theorem ZaQ {s:Shp} {one:List Int} {lv:Nat->Int} (r:RuOk s one lv) {i:Nat} (hi:i < s.n):0<=fI s one lv i:=by
 have hn:=r.h.n_eq
 obtain ⟨p1,p2⟩:=Zcs (g:=gB s one lv) (top:=s.top) (K:=kB s one lv) (x:=(i:Int) - s.depth) (by omega)
 have y1:=r.lo i hi
 have y2:=r.hi i hi
 unfold fI gU
 split
 ·have:=p2 (lv i) (by omega) y2
  omega
 ·have:lv i=(i:Int) - s.depth:=by omega
  rw [this]
  omega
theorem Zhj {s:Shp} {one:List Int} {lv:Nat->Int} (r:RuOk s one lv) {i:Nat} (hi:i < s.n):gU (gB s one lv) (kB s one lv) ((i:Int) - s.depth) (ba s one lv i)=(pck (gB s one lv) s.top (kB s one lv) ((i:Int) - s.depth)).1:=by
 have hn:=r.h.n_eq
 obtain ⟨q1,q2,q3⟩:=pC (g:=gB s one lv) (top:=s.top) (K:=kB s one lv) (x:=(i:Int) - s.depth) (by omega)
 rw [jl hi]
 unfold gU
 rcases q3 with ⟨e1,e2⟩ | ⟨e1,e2,e3⟩
 ·rw [e1,if_neg (by omega),e2]
 ·rw [if_pos e1,e2]
theorem ZcB {s:Shp} {one:List Int} {lv:Nat->Int} (r:RuOk s one lv) {i:Nat} (hi:i < s.n):Bar.ad (λl=>bj s one (ba s one lv) s.n i l * zB s one lv l) s.n=av s one lv * cB s one ((i:Int) - s.depth) (ba s one lv i)+fI s one lv i:=by
 have hn:=r.h.n_eq
 have r':=iu r
 have a1:=kc r (zB s one lv) (wB s one lv) (jW one lv) (av s one lv) hi
 have a2:=kc r' (zB s one lv) (wB s one lv) (jW one lv) (av s one lv) hi
 rw [kA r hi] at a1
 rw [a2]
 have v1:=lG (s:=s) (one:=one) (A:=wB s one lv) (D:=av s one lv) (r.lo i hi)
 have v2:=lG (s:=s) (one:=one) (A:=wB s one lv) (D:=av s one lv) (r'.lo i hi)
 have c2:=Zhj r hi
 unfold fI
 unfold gB kB at *
 omega
theorem Zn9 {s:Shp} {one:List Int} {lv:Nat->Int} (r:RuOk s one lv) (hs:∃ i,i < s.n/\0 < fI s one lv i):Bet s.n (zB s one lv) (av s one lv) (zB s one (ba s one lv)) (av s one (ba s one lv)):=by
 have hn:=r.h.n_eq
 have t0:=r.h.t0
 have d0:=r.h.d0
 exact better (jf (iu r)) (by omega) (dm r) (dm (iu r)) (b:=λi=>cB s one ((i:Int) - s.depth) (ba s one lv i)) (λi hi=>kA (iu r) hi) (λi hi=>ZaQ r hi) (λi hi=>ZcB r hi) hs
theorem ZiM {s:Shp} {one:List Int} {lv:Nat->Int} (r:RuOk s one lv) (hs:∀ i,i < s.n->fI s one lv i=0):∀ l,l < s.n->av s one lv * zB s one (ba s one lv) l=av s one (ba s one lv) * zB s one lv l:=by
 intro l hl
 have r':=iu r
 have:=sole (bj s one (ba s one lv) s.n) (k:=s.n) (λj hj=>Int.ne_of_gt (leads (jf r') j hj)) (z:=λl=>av s one lv * zB s one (ba s one lv) l - av s one (ba s one lv) * zB s one lv l) (λi hi=>by
  rw [fr,kA r' hi,ZcB r hi,hs i hi]
  grind) l hl
 have e:av s one lv * zB s one (ba s one lv) l - av s one (ba s one lv) * zB s one lv l=0:=this
 omega
theorem ZiN {s:Shp} {one:List Int} {lv:Nat->Int} (r:RuOk s one lv) (hs:∀ i,i < s.n->fI s one lv i=0):∀ i,i < s.n->ba s one (ba s one lv) i=ba s one lv i:=by
 intro i hi
 have h:=r.h
 have hn:=h.n_eq
 have t:=ZiM r hs
 have p1:=dm r
 have p2:=dm (iu r)
 generalize hD:av s one lv=D at *
 generalize hD':av s one (ba s one lv)=D' at *
 have hw:∀ x,-s.depth<=x->x<=s.top->D * wB s one (ba s one lv) x=D' * wB s one lv x:=λx x1 x2=>by
  rw [jW one _ x x1 x2,jW one _ x x1 x2]
  split
  ·omega
  ·exact t _ (by omega)
 have hg:∀ y,-s.depth<=y->y<=s.top->D * gB s one (ba s one lv) y=D' * gB s one lv y:=λy y1 y2=>by
  unfold gB Shp.sm
  rw [hD,hD']
  have e1:D * s.wg one y (wB s one (ba s one lv)) D'=D' * s.wg one y (wB s one lv) D:=by
   unfold Shp.wg
   rw [<- oi,<- oi]
   refine lD λf hf=>?_
   have n1:=fP s y f
   have n2:=fO h y2 hf
   have:=hw _ n1 n2
   grind
  have e2:D * (D' * one.sum * s.piece * y+s.wg one y (wB s one (ba s one lv)) D')=D * (D' * one.sum * s.piece * y)+D * s.wg one y (wB s one (ba s one lv)) D':=by rw [Int.mul_add]
  have e3:D' * (D * one.sum * s.piece * y+s.wg one y (wB s one lv) D)=D' * (D * one.sum * s.piece * y)+D' * s.wg one y (wB s one lv) D:=by rw [Int.mul_add]
  rw [e2,e3,e1]
  grind
 have hk:D * kB s one (ba s one lv)=D' * kB s one lv:=by
  unfold kB
  rw [hD,hD']
  grind
 have m1:=Zcr (g:=gB s one (ba s one lv)) (top:=s.top) (K:=kB s one (ba s one lv)) (m:=D) (x:=(i:Int) - s.depth) p1 (by omega)
 have m2:=Zcr (g:=gB s one lv) (top:=s.top) (K:=kB s one lv) (m:=D') (x:=(i:Int) - s.depth) p2 (by omega)
 have m3:pck (λy=>D * gB s one (ba s one lv) y) s.top (D * kB s one (ba s one lv)) ((i:Int) - s.depth)=pck (λy=>D' * gB s one lv y) s.top (D' * kB s one lv) ((i:Int) - s.depth):=by
  rw [hk]
  exact ZkS (λy y1 y2=>hg y (by omega) y2) (by omega)
 rw [m1,m2] at m3
 have:=congrArg Prod.snd m3
 rw [jl hi,jl hi]
 exact this
end My
set_option Elab.async false
set_option linter.all false
set_option maxRecDepth 100000
set_option exponentiation.threshold 9000
namespace My
open PySem PySem.Spec PyProof.Rows L2 Tw Bar
noncomputable def offs:Nat->List (List Nat)
 | 0=>[[]]
 | m+1=>(List.range (m+1)).flatMap λc=>(offs m).map (c::·)
theorem Zla {m:Nat} {f:Nat->Nat}:∀ {k:Nat},(∀ j,j < m->f (k+j) < m - j)->(List.range m).map (λj=>f (k+j))∈offs m:=by
 induction m with
 | zero=>intro k _; simp [offs]
 | succ m ih =>
  intro k h
  have h1:=ih (k:=k+1) λj hj=>by
   have:=h (j+1) (by omega)
   have e:k+(j+1)=k+1+j:=by omega
   rw [e] at this
   omega
  have e:(List.range (m+1)).map (λj=>f (k+j))=f k::(List.range m).map λj=>f (k+1+j):=by
   rw [List.range_succ_eq_map,List.map_cons,List.map_map]
   refine congrArg _ (List.map_congr_left λj _=>?_)
   show f (k+(j+1))=f (k+1+j)
   congr 1
   omega
  rw [e,offs]
  exact List.mem_flatMap.mpr ⟨f k,List.mem_range.mpr (by have:=h 0 (by omega); simpa using this),List.mem_map.mpr ⟨_,h1,rfl⟩⟩
theorem gG:∀ m:Nat,(offs (m+1)).length=(m+1) * (offs m).length:=λm=>by
 rw [offs,List.length_flatMap]
 have e:(List.range (m+1)).map (λa=>((offs m).map (a::·)).length)=List.replicate (m+1) (offs m).length:=by
  rw [List.eq_replicate_iff]
  refine ⟨by rw [List.length_map,List.length_range],λb hb=>?_⟩
  obtain ⟨c,_,rfl⟩:=List.mem_map.mp hb
  exact List.length_map ..
 rw [e]
 simp
theorem Zlb {m:Nat} (h:m<=8):(offs m).length<=40320:=by
 have e0:(offs 0).length=1:=rfl
 have e1:(offs 1).length=1 * (offs 0).length:=gG 0
 have e2:(offs 2).length=2 * (offs 1).length:=gG 1
 have e3:(offs 3).length=3 * (offs 2).length:=gG 2
 have e4:(offs 4).length=4 * (offs 3).length:=gG 3
 have e5:(offs 5).length=5 * (offs 4).length:=gG 4
 have e6:(offs 6).length=6 * (offs 5).length:=gG 5
 have e7:(offs 7).length=7 * (offs 6).length:=gG 6
 have e8:(offs 8).length=8 * (offs 7).length:=gG 7
 have:m=0\/m=1\/m=2\/m=3\/m=4\/m=5\/m=6\/m=7\/m=8:=by omega
 rcases this with rfl | rfl | rfl | rfl | rfl | rfl | rfl | rfl | rfl <;> omega
noncomputable def bm (s:Shp) (one:List Int) (lv:Nat->Int):Nat->Nat->Int
 | 0=>lv
 | t+1=>ba s one (bm s one lv t)
theorem eM {s:Shp} {one:List Int} {lv:Nat->Int} (r:RuOk s one lv):∀ t,RuOk s one (bm s one lv t)
 | 0=>r
 | t+1=>iu (eM r t)
noncomputable def gh (n:Nat) (lv:Nat->Int):Prop:=∀ i,n<=i->lv i=0
theorem jw {s:Shp} {one:List Int} {lv:Nat->Int} (h:gh s.n lv):∀ t,gh s.n (bm s one lv t)
 | 0=>h
 | t+1=>λi hi=>by
  show ba s one (bm s one lv t) i=0
  unfold ba
  rw [if_neg (by omega)]
noncomputable def gH (s:Shp) (lv:Nat->Int):List Nat:=(List.range s.n).map λj=>(lv (0+j) - (((0+j:Nat):Int) - s.depth)).toNat
theorem Zld {s:Shp} {one:List Int} {lv:Nat->Int} (r:RuOk s one lv):gH s lv∈offs s.n:=by
 have hn:=r.h.n_eq
 have t0:=r.h.t0
 have d0:=r.h.d0
 refine Zla (f:=λq=>(lv q - ((q:Int) - s.depth)).toNat) (k:=0) λj hj=>?_
 have a:=r.hi (0+j) (by omega)
 have b:=r.lo (0+j) (by omega)
 show (lv (0+j) - (((0+j:Nat):Int) - s.depth)).toNat < s.n - j
 omega
theorem Zle {s:Shp} {one:List Int} {lv lv':Nat->Int} (r:RuOk s one lv) (r':RuOk s one lv') (n1:gh s.n lv) (n2:gh s.n lv') (h:gH s lv=gH s lv'):lv=lv':=by
 funext i
 by_cases hi:i < s.n
 ·have e:=congrArg (λl=>l[i]?) h
  unfold gH at e
  simp only [List.getElem?_map,List.getElem?_range hi,Option.map_some,Option.some.injEq,Nat.zero_add] at e
  have a:=r.lo i hi
  have b:=r'.lo i hi
  omega
 ·rw [n1 i (by omega),n2 i (by omega)]
theorem ends {s:Shp} {one:List Int} {lv:Nat->Int} (r:RuOk s one lv) (n0:gh s.n lv) (n8:s.n<=8):∃ t,t<=40321/\bm s one lv (t+1)=bm s one lv t:=by
 apply Classical.byContradiction
 intro hno
 have hne:∀ t,t<=40321->bm s one lv (t+1)≠bm s one lv t:=λt ht e=>hno ⟨t,ht,e⟩
 have strict:∀ t,t < 40321->Bet s.n (zB s one (bm s one lv t)) (av s one (bm s one lv t)) (zB s one (bm s one lv (t+1))) (av s one (bm s one lv (t+1))):=λt ht=>by
  apply Zn9 (eM r t)
  apply Classical.byContradiction
  intro hn
  have all0:∀ i,i < s.n->fI s one (bm s one lv t) i=0:=λi hi=>by
   have a:=ZaQ (eM r t) hi
   have:¬ 0 < fI s one (bm s one lv t) i:=λq=>hn ⟨i,hi,q⟩
   omega
  have tn:=ZiN (eM r t) all0
  apply hne (t+1) (by omega)
  funext i
  by_cases hi:i < s.n
  ·exact tn i hi
  ·rw [jw n0 (t+1+1) i (by omega),jw n0 (t+1) i (by omega)]
 have far:∀ (k t:Nat),t+k+1<=40321->Bet s.n (zB s one (bm s one lv t)) (av s one (bm s one lv t)) (zB s one (bm s one lv (t+k+1))) (av s one (bm s one lv (t+k+1))):=by
  intro k
  induction k with
  | zero=>intro t ht; exact strict t (by omega)
  | succ k ih =>
   intro t ht
   have a:=ih t (by omega)
   have b:=strict (t+k+1) (by omega)
   exact Bet.trans (dm (eM r _)) (dm (eM r _)) (dm (eM r _)) a b
 have inj:∀ i j,i < j->j<=40321->gH s (bm s one lv i)≠gH s (bm s one lv j):=λi j hij hj e=>by
  have e2:=Zle (eM r i) (eM r j) (jw n0 i) (jw n0 j) e
  have b:=far (j - i - 1) i (by omega)
  have ej:i+(j - i - 1)+1=j:=by omega
  rw [ej,<- e2] at b
  exact Bet.irrefl b
 have hnd:((List.range 40322).map λt=>gH s (bm s one lv t)).Nodup:=by
  rw [List.nodup_iff_pairwise_ne,List.pairwise_map]
  refine List.Pairwise.imp_of_mem (R:=λa b=>a < b) ?_ List.pairwise_lt_range
  intro a b ha hb hab
  have:=List.mem_range.mp hb
  exact inj a b hab (by omega)
 have hsub:∀ x∈(List.range 40322).map λt=>gH s (bm s one lv t),x∈offs s.n:=λx hx=>by
  obtain ⟨t,_,rfl⟩:=List.mem_map.mp hx
  exact Zld (eM r t)
 have h1:=List.Nodup.length_le_of_subset hnd hsub
 rw [List.length_map,List.length_range] at h1
 have h2:=Zlb n8
 omega
end My
set_option Elab.async false
set_option linter.all false
set_option maxRecDepth 100000
set_option exponentiation.threshold 9000
namespace My
open PySem PySem.Spec PyProof.Rows L2 Tw Bar
theorem ZgJ:∀ a b:List Int,PyData.eqvAll (a.map PyData.int) (b.map PyData.int)=decide (a=b)
 | [],[]=>rfl
 | [],_::_=>rfl
 | _::_,[]=>rfl
 | x::a,y::b=>by
  have ih:=ZgJ a b
  rw [List.map_cons,List.map_cons,PyData.eqvAll,ih]
  by_cases e:x=y
  ·subst e
   by_cases e2:a=b
   ·subst e2; simp [PyData.eqv]
   ·simp [PyData.eqv,e2]
  ·simp [PyData.eqv,e]
theorem qB (a b:List Int):aG de (lI a) (lI b)=.ret (.bool (decide (a=b))):=by
 unfold lI
 rw [Zmn (Zbb a) (Zbb b),ZgJ]
noncomputable def ay (s:Shp) (lv:Nat->Int):List Int:=(List.range s.n).map lv
theorem oh {s:Shp} {one:List Int} {lv:Nat->Int} (r:RuOk s one lv) {i:Nat} (hi:i < s.n):nb 1702 (zB s one lv i):=by
 refine bb (rX (b:=160) r.n9 (λi j hi _=>jF r hi) (Nat.le_refl _) hi λq hq=>jF r hq) (by decide)
theorem Zai {s:Shp} {one:List Int} {lv:Nat->Int} (r:RuOk s one lv):Bd s 1702 (wB s one lv):=λx x1 x2=>by
 have hn:=r.h.n_eq
 unfold wB
 split
 ·exact jn _
 ·exact oh r (by omega)
theorem i7 {s:Shp} {one:List Int} {lv:Nat->Int} (r:RuOk s one lv):nb 1531 (av s one lv):=bb (jH (b:=160) r.n9 (λi j hi _=>jF r hi) (Nat.le_refl _)) (by decide)
noncomputable def lH (s:Shp) (one:List Int) (lv:Nat->Int):PyData:=.tuple [.int (zB s one lv 0),lI (s.row (wB s one lv)),.int (av s one lv),lI (ay s lv)]
theorem Zc3 {g:Int->Int} {top K P:Int}:∀ l:List Int,aV (bM (bo (aB (ah 0) (aB (ah 1) bi))) po [.un,.un]) (l.map (fL g top K P))=.ret ((l.map (lvl g top K)).map PyData.int)
 | []=>rfl
 | x::l=>by
  have e0:bM (bo (aB (ah 0) (aB (ah 1) bi))) po [.un,.un] (fL g top K P x)=.ret (.int (lvl g top K x)):=rfl
  rw [List.map_cons,aV,e0,Tr.ret_bind,Zc3 l]
  rfl
theorem Zn8 {s:Shp} {one:List Int} {lv:Nat->Int} (r:RuOk s one lv) (J3 J4 J5 J6 J7:Sl):∃ K3 K4 K5 K6 K7:Sl,kS [.d s.d,.d (tI one),.d (lI (ay s lv)),J3,J4,J5,J6,J7]=if ay s (ba s one lv)=ay s lv then .ret (.ret (.d (lH s one lv))) else .ret (.next [.d s.d,.d (tI one),.d (lI (ay s (ba s one lv))),K3,K4,K5,K6,K7]):=by
 have h:=r.h
 have hn:=h.n_eq
 have td:=h.td
 have em:gM [.d s.d,.d (tI one),.d (lI (ay s lv))]=_:=Zmx r
 have el:=ZmB h r.hd (Zai r) (sc:=av s one lv) (bb (i7 r) (by decide)) (by decide)
 have g1:=aF (i7 r) (by decide)
 have g2:=aF (eB r.hd) (by decide)
 have hsc:nb 1853 (av s one lv * one.sum):=bb (ce (i7 r) (eB r.hd)) (by decide)
 have hg:Bd s 1853 (gB s one lv):=λx x1 x2=>bb (Zjm h r.hd (Zai r) (bb (i7 r) (by decide)) x x1 x2) (by decide)
 have ec:kO [.d s.d,.d (.list ((s.row (s.sm one (wB s one lv) (av s one lv))).map PyData.int)),.d (.int (av s one lv * one.sum))]=_:=ZmK h hg hsc (Int.le_of_lt (Int.mul_pos (dm r) r.hd.pos)) (by decide)
 have hs:small ((au (-s.depth) s.n).map (fL (gB s one lv) s.top (av s one lv * one.sum * s.start) (av s one lv * one.sum * s.piece))).length=true:=bK (by rw [List.length_map,gw]; omega)
 have lm:=Zc3 (g:=gB s one lv) (top:=s.top) (K:=av s one lv * one.sum * s.start) (P:=av s one lv * one.sum * s.piece) (au (-s.depth) s.n)
 have e7:((au (-s.depth) s.n).map (lvl (gB s one lv) s.top (av s one lv * one.sum * s.start)))=ay s (ba s one lv):=by
  unfold ay au
  rw [List.map_map]
  refine List.map_congr_left λi hi=>?_
  have hi':=List.mem_range.mp hi
  rw [jl hi']
  have:-s.depth+(i:Int)=(i:Int) - s.depth:=by omega
  simp only [Function.comp_apply,this]
  rfl
 rw [e7] at lm
 have eq:aG de (.list ((ay s (ba s one lv)).map PyData.int)) (lI (ay s lv))=.ret (.bool (decide (ay s (ba s one lv)=ay s lv))):=qB _ _
 by_cases e:ay s (ba s one lv)=ay s lv
 ·rw [decide_eq_true e] at eq
  refine ⟨.un,.un,.un,.un,.un,?_⟩
  rw [if_pos e]
  simp_arith [kS,em,el,j0,g1,g2,ec,hs,lm,eq]
  rfl
 ·rw [decide_eq_false e] at eq
  refine ⟨.d (.int (zB s one lv 0)),.d (lI (s.row (wB s one lv))),.d (.int (av s one lv)),.d (.list ((au (-s.depth) s.n).map (fL (gB s one lv) s.top (av s one lv * one.sum * s.start) (av s one lv * one.sum * s.piece)))),.d (.list ((ay s (ba s one lv)).map PyData.int)),?_⟩
  rw [if_neg e]
  simp_arith [kS,em,el,j0,g1,g2,ec,hs,lm,eq]
  rfl
end My
set_option Elab.async false
set_option linter.all false
set_option maxRecDepth 100000
set_option exponentiation.threshold 9000
namespace My
open PySem PySem.Spec PyProof.Rows L2 Tw Bar
theorem ZlI {s:Shp} {lv lv':Nat->Int} (n1:gh s.n lv) (n2:gh s.n lv'):ay s lv=ay s lv' ↔ lv=lv':=by
 constructor
 ·intro h
  funext i
  by_cases hi:i < s.n
  ·have e:=congrArg (λl=>l[i]?) h
   unfold ay at e
   simpa only [List.getElem?_map,List.getElem?_range hi,Option.map_some,Option.some.injEq] using e
  ·rw [n1 i (by omega),n2 i (by omega)]
 ·intro h
  rw [h]
theorem Zhz {s:Shp} {one:List Int} {lv:Nat->Int} (r:RuOk s one lv) (n0:gh s.n lv):∀ (m t fuel:Nat),bm s one lv (t+m+1)=bm s one lv (t+m)->m < fuel->∀ J3 J4 J5 J6 J7:Sl,∃ T,bm s one lv (T+1)=bm s one lv T/\cw oq kS fuel [.d s.d,.d (tI one),.d (lI (ay s (bm s one lv t))),J3,J4,J5,J6,J7]=.ret (.ret (.d (lH s one (bm s one lv T))))
 | m,t,0,_,hf,_,_,_,_,_=>by omega
 | m,t,fuel+1,he,hf,J3,J4,J5,J6,J7=>by
  obtain ⟨K3,K4,K5,K6,K7,e⟩:=Zn8 (eM r t) J3 J4 J5 J6 J7
  have hp:oq [.d s.d,.d (tI one),.d (lI (ay s (bm s one lv t))),J3,J4,J5,J6,J7]=.ret true:=rfl
  by_cases hc:ay s (ba s one (bm s one lv t))=ay s (bm s one lv t)
  ·rw [if_pos hc] at e
   refine ⟨t,(ZlI (jw n0 (t+1)) (jw n0 t)).mp hc,?_⟩
   rw [cw,hp,Tr.ret_bind,if_pos rfl,e,Tr.ret_bind]
  ·rw [if_neg hc] at e
   cases m with
   | zero =>
    exfalso
    apply hc
    have:ba s one (bm s one lv t)=bm s one lv t:=he
    rw [this]
   | succ m =>
    have he':bm s one lv (t+1+m+1)=bm s one lv (t+1+m):=by
     have e1:t+(m+1)=t+1+m:=by omega
     rw [e1] at he
     exact he
    obtain ⟨T,h1,h2⟩:=Zhz r n0 m (t+1) fuel he' (by omega) K3 K4 K5 K6 K7
    refine ⟨T,h1,?_⟩
    rw [cw,hp,Tr.ret_bind,if_pos rfl,e,Tr.ret_bind]
    exact h2
noncomputable def fx (s:Shp) (i:Nat):Int:=if i < s.n then (i:Int) - s.depth else 0
theorem ZmL {s:Shp} {one:List Int} (h:s.Ok) (n8:s.n<=8) (hd:DayB one) (gr:s.top+s.depth<=great one) (ps:∃ w∈one,w > 0) :
  ∃ lv:Nat->Int,RuOk s one lv/\ba s one lv=lv/\mI [.d s.d,.d (tI one)]=.ret (.d (lH s one lv)):=by
 have hn:=h.n_eq
 have t0:=h.t0
 have d0:=h.d0
 have r:RuOk s one (fx s):=⟨h,by omega,hd,gr,ps,λi hi=>by unfold fx; rw [if_pos hi]; exact Int.le_refl _,λi hi=>by unfold fx; rw [if_pos hi]; omega⟩
 have n0:gh s.n (fx s):=λi hi=>by unfold fx; rw [if_neg (by omega)]
 obtain ⟨t,ht,he⟩:=ends r n0 n8
 obtain ⟨T,h1,h2⟩:=Zhz r n0 t 0 100000 (by rw [Nat.zero_add]; exact he) (by omega) .un .un .un .un .un
 refine ⟨bm s one (fx s) T,eM r T,h1,?_⟩
 have e1:=nj h
 have el:aR (-s.depth) (s.top+1)=(ay s (fx s)).map PyData.int:=by
  unfold aR ay au
  have e:(s.top+1 - -s.depth).toNat=s.n:=rfl
  rw [e,List.map_map,List.map_map]
  refine List.map_congr_left λi hi=>?_
  have hi':=List.mem_range.mp hi
  simp only [Function.comp_apply]
  unfold fx
  rw [if_pos hi']
  have:-s.depth+(i:Int)=(i:Int) - s.depth:=by omega
  rw [this]
 have elst:ld gN [.tuple (aR (-s.depth) (s.top+1))]=.ret (aR (-s.depth) (s.top+1)):=rfl
 have e2:bm s one (fx s) 0=fx s:=rfl
 rw [e2] at h2
 unfold lI at h2
 simp_arith [mI,e1,elst,el,h2]
end My
set_option Elab.async false
set_option linter.all false
set_option maxRecDepth 100000
set_option exponentiation.threshold 9000
namespace My
open PySem PySem.Spec PyProof.Rows L2 Tw
theorem ZmF {a b:Int} (hb:nb 8000 b):mG [.d (.int a),.d (.int b)]=.ret (.d (.int (Nat.gcd a.natAbs b.natAbs:Nat))):=by
 have key:=euclid (p:=oo) (s:=qg) (E:=λa b=>[.d (.int a),.d (.int b)]) (λa b=>by
  simp_arith [oo]
  by_cases h:b=0
  ·subst h; rfl
  ·rw [decide_eq_true h]
   congr 1
   simp [h]) (λa b h=>by
  have h':(b:Int)≠0:=by omega
  simp_arith [qg,Zfb h',ZdV]) 8000 83999 a.natAbs b.natAbs hb
 have e:2 * 8000+1+83999=100000:=rfl
 rw [e] at key
 simp_arith [mG,ZhZ,key]
theorem qE {t b:Int} (h0:b≠0) (hb:nb 7000 b):iA [.d (.int t),.d (.int b)]=.ret (.d (bC t b)):=by
 have e:=ZmF (a:=t) (b:=b) (bb hb (by decide))
 have e0:(b == 0)=false:=beq_eq_false_iff_ne.mpr h0
 have hd:=Gc.la (t:=t) h0
 have hf:=aF (Zg5 (t:=t) hb h0) (by decide)
 unfold bC Gc.b8 Gc.bQ
 by_cases hn:b < 0
 ·have ed:Gc.den t b=-((Nat.gcd t.natAbs b.natAbs:Nat):Int):=by unfold Gc.den Gc.gR; rw [if_pos hn]
  rw [ed] at hd hf ⊢
  simp_arith [iA,e0,e,decide_eq_true hn,k9 hd hf]
 ·have ed:Gc.den t b=((Nat.gcd t.natAbs b.natAbs:Nat):Int):=by unfold Gc.den Gc.gR; rw [if_neg hn]
  rw [ed] at hd hf ⊢
  simp_arith [iA,e0,e,decide_eq_false hn,k9 hd hf]
end My
set_option Elab.async false
set_option linter.all false
set_option maxRecDepth 100000
set_option exponentiation.threshold 9000
namespace My
open PySem PySem.Spec PyProof.Rows L2 Tw Bar
theorem ZlD {ls:List Int} (h:∃ n∈ls,n > 0):bH iz [.list ((dM 0 ls).map PyData.int)]=.ret (.int (great ls)):=ZlE _ (oM (k:=0) h)
theorem Zbh:∀ (ns:List Int) (k:Nat),dR (gP (bo (aB (ah 0) (aB (ah 1) bi))) kz kw [.un,.un]) (enu k ns)=.ret ((dM k ns).map PyData.int)
 | [],k=>rfl
 | n::ns,k=>by
  have ih:=Zbh ns (k+1)
  have e0:gP (bo (aB (ah 0) (aB (ah 1) bi))) kz kw [.un,.un] (.tuple [.int k,.int n])=.ret (if n > 0 then some (.int k) else none):=by
   by_cases h:n > 0
   ·simp_arith [kz,kw,decide_eq_true h,if_pos h]
   ·simp_arith [kz,kw,decide_eq_false h,if_neg h]
  rw [enu,dR,e0,Tr.ret_bind,ih,Tr.ret_bind,dM]
  unfold js
  by_cases h:n > 0
  ·rw [if_pos h,if_pos h]; rfl
  ·rw [if_neg h,if_neg h]
theorem ZgT {ls:List Int} (h:∃ n∈ls,n > 0) (hl:ls.length<=100):mD [.d (tI ls)]=.ret (.d (.int (great ls))):=by
 have hs:small (enu 0 ls).length=true:=bK (by rw [ZgL]; omega)
 simp_arith [mD,qj,qC,hs,Zbh,ZlD h]
noncomputable def drB (ρ:List Sl) (_:PyData):Tr Ou:=.ret (.next ρ)
theorem Zf3 {i:List Sl->Tr PyData} {ρ:List Sl}:nL i ρ=(i ρ).bind (drB ρ):=rfl
theorem Zf4 {ρ:List Sl} {x:PyData}:drB ρ x=.ret (.next ρ):=rfl
noncomputable def mJ (s:Shp) (one:List Int) (lv:Nat->Int):PyData:=.tuple [bC (zB s one lv 0) (av s one lv),.tuple ((au (-s.depth) s.n).map λx=>bC (wB s one lv x) (av s one lv)),tI (ay s lv)]
theorem ZmE {s:Shp} {one:List Int} (h:s.Ok) (n8:s.n<=8) (hd:DayB one) (gr:s.top+s.depth<=great one) (ps:∃ w∈one,w > 0) :
  ∃ lv:Nat->Int,RuOk s one lv/\ba s one lv=lv/\kM [.d s.d,.d (tI one)]=.ret (.d (mJ s one lv)):=by
 obtain ⟨lv,r,hf,e⟩:=ZmL h n8 hd gr ps
 refine ⟨lv,r,hf,?_⟩
 have eg:=ZgT ps (by have:=hd.len; omega)
 have ca:decide (great one < s.top+s.depth)=false:=decide_eq_false (by omega)
 have ea:iC [.d s.d,.d (tI one)]=.ret (.d .none):=by
  simp_arith [iC,eg,ca]
 have sp:=dm r
 have sn:nb 7000 (av s one lv):=bb (i7 r) (by decide)
 have e1:=qE (t:=zB s one lv 0) (b:=av s one lv) (by omega) sn
 have hs:small ((s.row (wB s one lv)).map PyData.int).length=true:=bK (by rw [List.length_map,ZjW]; omega)
 have em:∀ l:List Int,aV (bM (ah 0) lY [.un,.d (.int (av s one lv))]) (l.map PyData.int)=.ret (l.map λx=>bC x (av s one lv)):=by
  intro l
  induction l with
  | nil=>rfl
  | cons x l ih =>
   have e0:bM (ah 0) lY [.un,.d (.int (av s one lv))] (.int x)=.ret (bC x (av s one lv)):=by
    have e2:=qE (t:=x) (b:=av s one lv) (by omega) sn
    simp_arith [lY,e2]
   rw [List.map_cons,aV,e0,Tr.ret_bind,ih]
   rfl
 unfold lH at e
 simp_arith [kM,Zf3,Zf4,ea,e,e1,Zdr,hs,em]
 unfold mJ Shp.row tI
 rw [List.map_map]
 rfl
end My
set_option Elab.async false
set_option linter.all false
set_option maxRecDepth 100000
set_option exponentiation.threshold 9000
namespace My
open PySem PySem.Spec PyProof.Rows L2 Tw Bar
theorem ZgU {s:Shp} {one:List Int} {lv:Nat->Int} (r:RuOk s one lv) {i:Nat} (hi:i < s.n):one.sum * (zB s one lv 0+wB s one lv ((i:Int) - s.depth))=vB s one (wB s one lv) (av s one lv) ((i:Int) - s.depth) (lv i):=by
 have a1:=kc r (zB s one lv) (wB s one lv) (jW one lv) (av s one lv) hi
 rw [kA r hi] at a1
 rw [Int.mul_add]
 omega
theorem ZmN {s:Shp} {one:List Int} {lv:Nat->Int} (r:RuOk s one lv) (hf:ba s one lv=lv) {i:Nat} (hi:i < s.n) {y:Int} (y1:(i:Int) - s.depth<=y) (y2:y<=s.top):vB s one (wB s one lv) (av s one lv) ((i:Int) - s.depth) (lv i)<=vB s one (wB s one lv) (av s one lv) ((i:Int) - s.depth) y:=by
 have hn:=r.h.n_eq
 rw [lG (r.lo i hi),lG y1]
 have c2:=Zhj r hi
 rw [hf] at c2
 obtain ⟨p1,p2⟩:=Zcs (g:=gB s one lv) (top:=s.top) (K:=kB s one lv) (x:=(i:Int) - s.depth) (by omega)
 have key:(pck (gB s one lv) s.top (kB s one lv) ((i:Int) - s.depth)).1<=gU (gB s one lv) (kB s one lv) ((i:Int) - s.depth) y:=by
  unfold gU
  split
  ·exact p2 y (by omega) y2
  ·have:y=(i:Int) - s.depth:=by omega
   rw [this]
   exact p1
 unfold gB kB at *
 omega
end My
set_option Elab.async false
set_option linter.all false
set_option maxRecDepth 100000
set_option exponentiation.threshold 9000
namespace My
open PySem PySem.Spec PyProof.Rows L2 Tw
theorem Zlh (s:Shp) (y f:Int):bz (y - f) (0 - s.depth)=s.nx y f:=by
 unfold Shp.nx
 have e:0 - s.depth=-s.depth:=by omega
 rw [e]
theorem Zmy {s:Shp} (h:s.Ok) {x y:Int} (x1:-s.depth<=x) (xy:x<=y) (y2:y<=s.top):kJ [.d s.d,.d (.int x),.d (.int y)]=.ret (.d (.int (s.ord x y))):=by
 have:=h.t0
 have:=h.d0
 have:=h.td
 have g1:=aF h.start (by decide)
 have g2:=aF (show nb 20 (1:Int) from bL (by decide) (by decide)) (by decide)
 have g3:=aF (show nb 20 (0:Int) from bL (by decide) (by decide)) (by decide)
 have g4:=aF h.piece (by decide)
 have g5:=aF (show nb 20 (y - x) from bL (by show -1048576 < _; omega) (by show _ < 1048576; omega)) (by decide)
 have g6:=aF (dP h.start (ce h.piece (show nb 20 (y - x) from bL (by show -1048576 < _; omega) (by show _ < 1048576; omega)))) (by decide)
 unfold Shp.ord
 by_cases hp:y > x
 ·rw [if_neg (by omega)]
  simp_arith [kJ,decide_eq_true hp,if_true,g1,g2,g4,g5,g6,Int.mul_one]
 ·rw [if_pos (by omega)]
  have e:y - x=0:=by omega
  simp_arith [kJ,decide_eq_false hp,g1,g3,g4,e,Int.mul_zero,Bool.false_eq_true,if_false,Int.add_zero]
theorem ZgS {t b:Int} (hb:0 < b) (nB:nb 7000 b):kI [.d (.int t),.d (.int b)]=.ret (.d (bC t b)):=by
 obtain ⟨z,rfl⟩:∃ z:Nat,b=(z:Int):=⟨b.toNat,by omega⟩
 have key:=euclid (p:=on) (s:=qc) (E:=λa b'=>[.d (.int t),.d (.int z),.d (.int a),.d (.int b')]) (λa b=>by
  simp_arith [on]
  by_cases h:b=0
  ·subst h; rfl
  ·rw [decide_eq_true h]
   congr 1
   simp
   omega) (λa b h=>by
  have h':(b:Int)≠0:=by omega
  simp_arith [qc,Zfb h',ZdV]) 8000 83999 t.natAbs z (Nat.lt_of_lt_of_le (show z < 2 ^ 7000 from by unfold nb at nB; rwa [Int.natAbs_natCast] at nB) (Nat.pow_le_pow_right (by decide) (by decide)))
 have e:2 * 8000+1+83999=100000:=rfl
 rw [e] at key
 have hd:=Gc.la (t:=t) (b:=(z:Int)) (by omega)
 have hf:=aF (Zg5 (t:=t) nB (by omega)) (by decide)
 have ed:Gc.den t (z:Int)=((Nat.gcd t.natAbs z:Nat):Int):=by unfold Gc.den Gc.gR; rw [if_neg (by omega),Int.natAbs_natCast]
 unfold bC Gc.b8 Gc.bQ
 rw [ed] at hd hf ⊢
 simp_arith [kI,ZhZ,key,k9 hd hf]
end My
set_option Elab.async false
set_option linter.all false
set_option maxRecDepth 100000
set_option exponentiation.threshold 9000
namespace My
open PySem PySem.Spec PyProof.Rows L2 Tw
theorem ZmX {s:Shp} (d0:0<=s.depth) (y f:Int):(if y - f > 0 then s.keep * (y - f) else s.lack * (0 - (y - f) - bz 0 (0 - s.depth - (y - f)))+s.lost * bz 0 (0 - s.depth - (y - f)))=s.day y f:=by
 unfold Shp.day Shp.nx
 generalize y - f=r
 by_cases h:r > 0
 ·have e:bz r (-s.depth)=r:=by unfold bz; split <;> omega
  rw [e,if_pos h,if_pos h,Int.sub_self,Int.mul_zero,Int.add_zero]
 ·have e:bz r (-s.depth)=r+bz 0 (0 - s.depth - r):=by unfold bz; split <;> split <;> omega
  have h2:¬ bz r (-s.depth) > 0:=by unfold bz; split <;> omega
  rw [if_neg h,if_neg h2,e]
  generalize bz 0 (0 - s.depth - r)=z
  have e1:0 - r - z=-(r+z):=by omega
  have e2:r+z - r=z:=by omega
  rw [e1,e2]
theorem Zmz (s:Shp) (y f:Int):my [.d s.d,.d (.int y),.d (.int f)]=.ret (.d (.int (s.nx y f))):=by
 simp_arith [my,Zlh]
theorem ZmD {s:Shp} (h:s.Ok) {y f:Int} (y1:-s.depth<=y) (y2:y<=s.top) (f0:0<=f) (f1:f<=16):kL [.d s.d,.d (.int y),.d (.int f)]=.ret (.d (.int (s.day y f))):=by
 have:=h.t0
 have d0:=h.d0
 have:=h.td
 have z1:0<=bz 0 (0 - s.depth - (y - f))/\bz 0 (0 - s.depth - (y - f))<=1000:=by unfold bz; split <;> omega
 have n1:nb 20 (y - f):=bL (by show -1048576 < _; omega) (by show _ < 1048576; omega)
 have n2:nb 20 (bz 0 (0 - s.depth - (y - f))):=bL (by show -1048576 < _; omega) (by show _ < 1048576; omega)
 have n3:nb 20 (0 - (y - f) - bz 0 (0 - s.depth - (y - f))):=bL (by show -1048576 < _; omega) (by show _ < 1048576; omega)
 have g1:=aF h.keep (by decide)
 have g2:=aF h.lack (by decide)
 have g3:=aF h.lost (by decide)
 have g4:=aF n1 (by decide)
 have g5:=aF n2 (by decide)
 have g6:=aF n3 (by decide)
 rw [<- ZmX d0]
 by_cases hr:y - f > 0
 ·rw [if_pos hr]
  simp_arith [kL,decide_eq_true hr,g1,g4]
 ·rw [if_neg hr]
  simp_arith [kL,decide_eq_false hr,g2,g3,g5,g6]
structure IsSh (p:Int×Int):Prop where
 pos:0 < p.2
 one:Nat.gcd p.1.natAbs p.2.natAbs=1
end My
set_option Elab.async false
set_option linter.all false
set_option maxRecDepth 100000
set_option exponentiation.threshold 9000
namespace My
open PySem PySem.Spec PyProof.Rows L2 Tw Bar
end My
set_option Elab.async false
set_option linter.all false
set_option maxRecDepth 100000
set_option exponentiation.threshold 9000
namespace My
open PySem PySem.Spec PyProof.Rows L2 Tw Bar
end My
set_option Elab.async false
set_option linter.all false
set_option maxRecDepth 100000
set_option exponentiation.threshold 9000
namespace My
open PySem PySem.Spec PyProof.Rows L2 Tw Bar
theorem Zjl {s:Shp} {one:List Int} {lv:Nat->Int} (r:RuOk s one lv) {A A':Int->Int} {D D' M M':Int} (z0:A (-s.depth)=0) (z0':A' (-s.depth)=0) (D0':0 < D')
  (hle:∀ i,i < s.n->one.sum * (M+A ((i:Int) - s.depth))<=vB s one A D ((i:Int) - s.depth) (lv i)) (hown:∀ i,i < s.n->one.sum * (M'+A' ((i:Int) - s.depth))=vB s one A' D' ((i:Int) - s.depth) (lv i)) :
  D' * M < D * M'\/(D' * M=D * M'/\∀ i,i < s.n->D' * A ((i:Int) - s.depth)<=D * A' ((i:Int) - s.depth)):=by
 have h:=r.h
 have hn:=h.n_eq
 have t0:=h.t0
 have d0:=h.d0
 have ez:∀ (A:Int->Int) (M:Int),A (-s.depth)=0->∀ x,-s.depth<=x->x<=s.top->A x=if (x+s.depth).toNat=0 then 0 else (λl:Nat=>if l=0 then M else A ((l:Int) - s.depth)) (x+s.depth).toNat:=λA M z x x1 x2=>by
  by_cases c:(x+s.depth).toNat=0
  ·rw [if_pos c]
   have:x=-s.depth:=by omega
   rw [this,z]
  ·rw [if_neg c]
   show A x=if (x+s.depth).toNat=0 then M else A (((x+s.depth).toNat:Int) - s.depth)
   rw [if_neg c]
   congr 1
   omega
 have key:=improve (jf r) (by omega) (y:=λl=>D' * (λl:Nat=>if l=0 then M else A ((l:Int) - s.depth)) l - D * (λl:Nat=>if l=0 then M' else A' ((l:Int) - s.depth)) l) (s:=λi=>D' * (vB s one A D ((i:Int) - s.depth) (lv i) - one.sum * (M+A ((i:Int) - s.depth))))
  (λi hi=>Int.mul_nonneg (Int.le_of_lt D0') (by have:=hle i hi; omega))
  (λi hi=>by
   have a1:=kc r (λl:Nat=>if l=0 then M else A ((l:Int) - s.depth)) A (ez A M z0) D hi
   have a2:=kc r (λl:Nat=>if l=0 then M' else A' ((l:Int) - s.depth)) A' (ez A' M' z0') D' hi
   have a3:=hown i hi
   rw [Int.mul_add] at a3
   rw [fr,a1,a2,<- a3,if_pos rfl,if_pos rfl]
   grind)
 rcases key with k | ⟨k,k2⟩
 ·have k':D' * M - D * M' < 0:=k
  exact .inl (by omega)
 ·have k':D' * M - D * M'=0:=k
  refine .inr ⟨by omega,λi hi=>?_⟩
  by_cases c:i=0
  ·subst c
   have e:((0:Nat):Int) - s.depth=-s.depth:=by omega
   rw [e,z0,z0',Int.mul_zero,Int.mul_zero]
   exact Int.le_refl _
  ·have k3:D' * (if i=0 then M else A ((i:Int) - s.depth)) - D * (if i=0 then M' else A' ((i:Int) - s.depth))<=0:=k2 i (by omega) hi
   rw [if_neg c,if_neg c] at k3
   omega
theorem w_0 (s:Shp) (one:List Int) (lv:Nat->Int):wB s one lv (-s.depth)=0:=if_pos rfl
theorem oj {f:Int->Int}:∀ {l:List Int} {k:Nat},(∀ w∈l,0<=w)->(∀ x:Int,f x<=1)->ws f k l<=l.sum
 | [],k,_,_=>by rw [ws]; exact Int.le_refl _
 | w::l,k,h0,hf=>by
  have ih:=oj (l:=l) (k:=k+1) (λv hv=>h0 v (List.mem_cons_of_mem _ hv)) hf
  have h1:=Int.mul_le_mul_of_nonneg_left (hf k) (h0 w (by simp))
  rw [ws,List.sum_cons]
  omega
theorem lP {s:Shp} {one:List Int} {lv:Nat->Int} (r:RuOk s one lv) (s13:nb 13 one.sum):nb 208 (av s one lv):=by
 refine jH (b:=13) r.n9 (λi j hi hj=>?_) (Nat.le_refl _)
 have p0:0<=cY s one (lv i) j:=jV r.hd.w0 λx=>by split <;> decide
 have p1:cY s one (lv i) j<=one.sum:=oj r.hd.w0 λx=>by split <;> decide
 have sp:=r.hd.pos
 unfold bj
 rw [if_neg (by omega)]
 split
 ·exact s13
 ·unfold nb at *
  split <;> omega
noncomputable def pW (t b:Int):Int×Int:=(Gc.b8 t b,Gc.bQ t b)
theorem pU {t b:Int} (h:0 < b):IsSh (pW t b):=by
 obtain ⟨_,_,a,b⟩:=Gc.kP (t:=t) (b:=b) (by omega)
 exact ⟨a,b⟩
theorem pV {t b:Int} (h:0 < b):(pW t b).1 * b=t * (pW t b).2:=by
 obtain ⟨e1,e2,_,_⟩:=Gc.kP (t:=t) (b:=b) (by omega)
 show Gc.b8 t b * b=t * Gc.bQ t b
 generalize Gc.b8 t b=p at *
 generalize Gc.bQ t b=q at *
 generalize Gc.den t b=g at *
 rw [e1,e2]
 grind
theorem Zbc {t b u c:Int} (hb:0 < b) (hc:0 < c) (h:t * c=u * b):bC t b=bC u c:=by
 obtain ⟨a1,a2,a3,a4⟩:=Gc.kP (t:=t) (b:=b) (by omega)
 obtain ⟨b1,b2,b3,b4⟩:=Gc.kP (t:=u) (b:=c) (by omega)
 have hd:Gc.den t b≠0:=Gc.la (by omega)
 have he:Gc.den u c≠0:=Gc.la (by omega)
 obtain ⟨e1,e2⟩:=Gc.ZlJ a3 b3 a4 b4 (by
  refine Int.eq_of_mul_eq_mul_left (Int.mul_ne_zero hd he) ?_
  have q1:Gc.den t b * Gc.den u c * (Gc.b8 t b * Gc.bQ u c)=(Gc.den t b * Gc.b8 t b) * (Gc.den u c * Gc.bQ u c):=by grind
  have q2:Gc.den t b * Gc.den u c * (Gc.b8 u c * Gc.bQ t b)=(Gc.den u c * Gc.b8 u c) * (Gc.den t b * Gc.bQ t b):=by grind
  rw [q1,q2,<- a1,<- a2,<- b1,<- b2,h])
 unfold bC
 rw [e1,e2]
theorem ZcY (s:Shp) (lv:Nat->Int):(ay s lv).length=s.n:=by unfold ay; rw [List.length_map,List.length_range]
end My
set_option Elab.async false
set_option linter.all false
set_option maxRecDepth 100000
set_option exponentiation.threshold 9000
namespace My
open PySem PySem.Spec PyProof.Rows L2 Tw
theorem bA (n:Int):c7 [.pen,.d (.int n)]=.draw n λr=>.ret (.d (.int r)):=rfl
theorem ZjG:Al (mx [.pen]) 3 λr=>∃ p:Int,r=.d (.int p)/\0<=p/\p<=1000000:=by
 simp_arith [mx,bA]
 refine dW (n:=2) (by decide) (by decide) (by decide) λw w0 w1=>?_
 by_cases c:w < 4
 ·simp_arith [bA,decide_eq_true c]
  refine dW (n:=1) (by decide) (by decide) (by decide) λf f0 f1=>?_
  have g1:fit f=true:=aF (show nb 20 f from bL (by show -1048576 < _; omega) (by show _ < 1048576; omega)) (by decide)
  have g2:fit (1:Int)=true:=aF (show nb 20 (1:Int) from bL (by decide) (by decide)) (by decide)
  have g3:fit (0:Int)=true:=aF (show nb 20 (0:Int) from bL (by decide) (by decide)) (by decide)
  by_cases c2:w > 0
  ·simp_arith [bA,decide_eq_true c2,if_true,g1,g2,Int.mul_one]
   refine cD ?_
   exact ⟨f,rfl,by omega,by omega⟩
  ·simp_arith [bA,decide_eq_false c2,Bool.false_eq_true,if_false,g1,g3,Int.mul_zero]
   refine cD ?_
   exact ⟨0,rfl,by decide,by decide⟩
 ·simp_arith [bA,decide_eq_false c]
  refine dW (n:=1) (by decide) (by decide) (by decide) λa a0 a1=>?_
  try simp_arith [bA]
  refine dW (n:=0) (by decide) (by decide) (by decide) λb b0 b1=>?_
  obtain ⟨y,hy,y0,y1⟩:=pA (xs:=[PyData.int a,.int (1000000 - b)]) (lo:=0) (hi:=1000000) (r:=w - 4) (by simp [jx]; omega) (by omega) (by simp; omega)
  have e6:(10:Int) ^ Int.toNat 6=1000000:=rfl
  simp_arith [bA,e6,hy]
  exact cD ⟨y,rfl,y0,y1⟩
theorem ZjF {ns:List Int} (hl:ns.length<=100) (A B C:Sl):Al (qb [.pen,A,B,.own (ns.map PyData.int),C]) 3 λo=>∃ y:Int,o=.next [.pen,A,B,.own ((ns++[y]).map PyData.int),C]/\0<=y/\y<=1000:=by
 have hs:small ((ns.map PyData.int).length+1)=true:=bK (by rw [List.length_map]; omega)
 simp_arith [qb,bA]
 refine dW (n:=2) (by decide) (by decide) (by decide) λa a0 a1=>?_
 try simp_arith [bA]
 refine dW (n:=1) (by decide) (by decide) (by decide) λb b0 b1=>?_
 try simp_arith [bA]
 refine dW (n:=0) (by decide) (by decide) (by decide) λw w0 w1=>?_
 obtain ⟨y,hy,y0,y1⟩:=pA (xs:=[PyData.int 0,.int 1,.int a,.int b]) (lo:=0) (hi:=1000) (by simp [jx]; omega) w0 w1
 simp_arith [bA,hy,hs]
 have em:ns.map PyData.int++[PyData.int y]=(ns++[y]).map PyData.int:=by rw [List.map_append]; rfl
 rw [em]
 exact cD ⟨y,rfl,y0,y1⟩
structure WtAt (many k:Nat) (ls:List Int):Prop where
 len:ls.length=many
 le:∀ n∈ls,0<=n/\n<=1000
 at':∃ v,ls[k]?=some v/\1<=v
theorem ZjE {many k:Nat} (m1:many<=20) (hk:k < many):Al (mw [.pen,.d (.int many),.d (.int k)]) (3 * many) λr=>∃ ls:List Int,r=.d (tI ls)/\WtAt many k ls:=by
 have r1:dN [.int (many:Int)]=.ret (aR 0 many):=fA (c8 (by omega) (by omega))
 simp_arith only [mw,bA,r1]
 refine dX (n:=3 * many) (n':=0) (P:=λo=>∃ (ns:List Int) (C:Sl),o=.next [.pen,.d (.int many),.d (.int k),.own (ns.map PyData.int),C]/\ns.length=many/\∀ n∈ns,0<=n/\n<=1000) ?_ (by omega) ?_
 ·refine rq (n:=3) (λpre ρ=>∃ (ns:List Int) (C:Sl),ρ=[.pen,.d (.int many),.d (.int k),.own (ns.map PyData.int),C]/\ns.length=pre.length/\∀ n∈ns,0<=n/\n<=1000) ⟨[],_,rfl,rfl,λ_ q=>by cases q⟩ (by rw [cI]; omega) ?_ ?_
  ·rintro pre x post ρ e ⟨ns,C,rfl,hl,hn⟩
   obtain ⟨rfl,hpre⟩:=Zj0 e
   refine ⟨_,rfl,rn (ZjF (by omega) _ _ _) (Nat.le_refl _) ?_⟩
   rintro _ ⟨y,rfl,y0,y1⟩
   refine ⟨_,rfl,ns++[y],_,rfl,by simp [hl],λn hn'=>?_⟩
   rcases List.mem_append.mp hn' with hq | hq
   ·exact hn n hq
   ·simp at hq
    subst hq
    exact ⟨y0,y1⟩
  ·rintro ρ ⟨ns,C,rfl,hl,hn⟩
   rw [cI] at hl
   exact ⟨ns,C,rfl,by omega,hn⟩
 ·rintro _ ⟨ns,C,rfl,hl,hn⟩
  have hkl:k < ns.length:=by omega
  have hi:bG (ns.map PyData.int).length (k:Int)=some k:=by
   rw [List.length_map]
   unfold bG
   rw [if_pos (by omega),if_pos (by omega)]
   congr 1
  have hat:a9 (ns.map PyData.int) (k:Int)=some (.int ns[k]):=dF (by omega) (by rw [List.getElem?_map,show ((k:Int)).toNat=k by omega,List.getElem?_eq_getElem hkl]; rfl)
  have hv:=hn ns[k] (List.getElem_mem hkl)
  have es:(ns.map PyData.int).set k (.int (bz 1 ns[k]))=(ns.set k (bz 1 ns[k])).map PyData.int:=List.map_set.symm
  have hm:1<=bz 1 ns[k]/\bz 1 ns[k]<=1000:=by unfold bz; split <;> omega
  simp_arith only [bA,hat,jD hi,es]
  refine cD ⟨ns.set k (bz 1 ns[k]),rfl,by rw [List.length_set,hl],λn hn'=>?_,bz 1 ns[k],by rw [List.getElem?_set_self hkl],hm.1⟩
  rcases List.mem_or_eq_of_mem_set hn' with q | q
  ·exact hn n q
  ·subst q; omega
structure Cs (s:Shp) (one:List Int):Prop where
 dr:s.Dr
 td:s.top+s.depth<=7
 len:one.length<=8
 le:∀ n∈one,0<=n/\n<=1000
 big:∃ (k:Nat) (v:Int),s.top+s.depth<=k/\one[k]?=some v/\1<=v
theorem ZaT:∀ {ns:List Int} {k i:Nat} {v:Int},ns[i]?=some v->0 < v->((k+i:Nat):Int)∈dM k ns
 | [],k,i,v,h,_=>by simp at h
 | n::ns,k,0,v,h,hv=>by
  simp at h
  subst h
  rw [dM,if_pos hv]
  exact List.mem_cons_self ..
 | n::ns,k,i+1,v,h,hv=>by
  have ih:=ZaT (ns:=ns) (k:=k+1) (i:=i) (by simpa using h) hv
  have e:k+1+i=k+(i+1):=by omega
  rw [e] at ih
  rw [dM]
  split
  ·exact List.mem_cons_of_mem _ ih
  ·exact ih
theorem Zme {one:List Int} {k:Nat} {v:Int} (h:one[k]?=some v) (hv:1<=v):(k:Int)<=great one:=by
 have hm:=ZaT (k:=0) h (by omega)
 rw [Nat.zero_add] at hm
 exact (mq (List.ne_nil_of_mem hm)).2 _ hm
theorem ZaN {c:Int}:∀ {l:List Int},(∀ n∈l,0<=n/\n<=c)->0<=l.sum/\l.sum<=c * l.length
 | [],_=>by simp
 | n::l,h=>by
  have ih:=ZaN (l:=l) λv hv=>h v (List.mem_cons_of_mem _ hv)
  have h1:=h n (by simp)
  rw [List.sum_cons,List.length_cons,Int.natCast_add,Int.mul_add]
  simp only [Int.natCast_one,Int.mul_one]
  omega
theorem Cs.gr {s:Shp} {one:List Int} (h:Cs s one):s.top+s.depth<=great one:=by
 obtain ⟨k,v,h1,h2,h3⟩:=h.big
 exact Int.le_trans h1 (Zme h2 h3)
theorem Cs.ps {s:Shp} {one:List Int} (h:Cs s one):∃ w∈one,w > 0:=by
 obtain ⟨k,v,h1,h2,h3⟩:=h.big
 exact ⟨v,List.mem_of_getElem? h2,by omega⟩
theorem Cs.ok {s:Shp} {one:List Int} (h:Cs s one):DayOk 8 one:=⟨h.len,h.ps,λn hn=>by have:=h.le n hn; omega⟩
theorem Cs.B {s:Shp} {one:List Int} (h:Cs s one):DayB one:=h.ok.B (by decide)
theorem Cs.n8 {s:Shp} {one:List Int} (h:Cs s one):s.n<=8:=by have:=h.td; have:=h.dr.ok.n_eq; omega
theorem Cs.s13 {s:Shp} {one:List Int} (h:Cs s one):nb 13 one.sum:=by
 obtain ⟨a,b⟩:=ZaN h.le
 have:=h.len
 exact bL (by show -8192 < _; omega) (by show _ < 8192; omega)
theorem WtAt.cs {s:Shp} {many k:Nat} {ls:List Int} (h:WtAt many k ls) (hs:s.Dr) (t7:s.top+s.depth<=7) (hk:s.top+s.depth<=k) (m8:many<=8):Cs s ls:=by
 obtain ⟨v,h1,h2⟩:=h.at'
 exact ⟨hs,t7,by rw [h.len]; exact m8,h.le,k,v,hk,h1,h2⟩
theorem ZjI {few:Int} (f0:0<=few) (f1:few<=7):Al (mB [.pen,.d (.int few)]) 60 λr=>∃ (s:Shp) (one:List Int),r=.d (.tuple [s.d,tI one])/\Cs s one:=by
 have r1:dN [.int 7]=.ret (aR 0 7):=fA rfl
 have hs:small (aR 0 7).length=true:=bK (by rw [cI]; decide)
 simp_arith [mB,bA]
 refine dW (n:=59) (by decide) (by decide) (by decide) λt t0 t1=>?_
 obtain ⟨y,hy,y0,y1⟩:=pA (xs:=[PyData.int 8,.int (few+1)]) (lo:=1) (hi:=8) (r:=if decide (t > 0)=true then 1 else 0) (by simp [jx]; omega) (by split <;> omega) (by simp; split <;> omega)
 simp_arith [bA,hy]
 refine dW (n:=58) (by omega) (by omega) (by decide) λpc p0 p1=>?_
 try simp_arith [bA]
 refine dW (n:=57) (by omega) (by omega) (by decide) λd d0 d1=>?_
 simp_arith [bA,r1,hs]
 refine dX (n:=21) (n':=36) (Zos (n:=3) (P:=jx 0 1000000) (Q:=λys=>∃ ps:List Int,ys=ps.map PyData.int/\ps.length=7/\∀ p∈ps,0<=p/\p<=1000000) (by rw [cI]; decide) (λx hx=>?_) λys hl hys=>?_) (by decide) ?_
 ·simp_arith [Zce,bA]
  refine dX (n:=3) (n':=0) ZjG (by decide) ?_
  rintro _ ⟨p,rfl,p0,p1⟩
  simp_arith [bA]
  exact cD ⟨p,rfl,p0,p1⟩
 ·obtain ⟨ps,rfl,hp⟩:=Zdu hys
  rw [List.length_map,cI] at hl
  exact ⟨ps,rfl,hl,hp⟩
 ·rintro _ ⟨ps,rfl,hpl,hp⟩
  obtain ⟨a1,a2,a3,a4,a5,a6,a7,rfl⟩:=ZlK hpl
  simp_arith [bA]
  refine dW (n:=35) (by omega) (by omega) (by decide) λq q0 q1=>?_
  try simp_arith [bA]
  refine dW (n:=34) (by omega) (by omega) (by decide) λu u0 u1=>?_
  obtain ⟨many,em⟩:∃ many:Nat,pc+1+q=(many:Int):=⟨(pc+1+q).toNat,by omega⟩
  obtain ⟨k,ek⟩:∃ k:Nat,pc+u=(k:Int):=⟨(pc+u).toNat,by omega⟩
  rw [em] at u1
  simp_arith [bA,em,ek]
  refine dX (n:=3 * many) (n':=0) (ZjE (by omega) (by omega)) (by omega) ?_
  rintro _ ⟨ls,rfl,hls⟩
  simp_arith [bA]
  have hd:(Shp.mk (pc - d) d a1 a2 a3 a4 a5 a6 a7).Dr:=⟨by show 0<=pc - d; omega,d0,by show pc - d+d<=39; omega,hp⟩
  exact cD ⟨⟨pc - d,d,a1,a2,a3,a4,a5,a6,a7⟩,ls,by rw [<- Zjt],hls.cs hd (by show pc - d+d<=7; omega) (by show pc - d+d<=_; omega) (by omega)⟩
end My
set_option Elab.async false
set_option linter.all false
set_option maxRecDepth 100000
set_option exponentiation.threshold 9000
namespace My
open PySem PySem.Spec PyProof.Rows L2 Tw Bar
theorem Zln (a b:Int):aG c5 (bC a b) (bC a b)=.ret (.bool false):=by
 unfold bC
 rw [Zlo rfl rfl (λa b z=>by cases z.1)]
 simp [PyData.eqv,PyData.eqvAll]
theorem Zbe (t b:Int):aG am (bC t b) (.int 0)=.ret (.int (Gc.b8 t b)):=by
 unfold bC
 rw [dE,jK]
 rfl
theorem Zbd (t b:Int):aG am (bC t b) (.int 1)=.ret (.int (Gc.bQ t b)):=by
 unfold bC
 rw [dE,lf]
 rfl
structure Lst (s:Shp) (one:List Int) (lv:Nat->Int):Prop where
 r:RuOk s one lv
 st:ba s one lv=lv
 e:kM [.d s.d,.d (tI one)]=.ret (.d (mJ s one lv))
theorem Cs.lst {s:Shp} {one:List Int} (h:Cs s one):∃ lv,Lst s one lv:=by
 obtain ⟨lv,r,hf,e⟩:=ZmE h.dr.ok h.n8 h.B h.gr h.ps
 exact ⟨lv,r,hf,e⟩
end My
set_option Elab.async false
set_option linter.all false
set_option maxRecDepth 100000
set_option exponentiation.threshold 9000
namespace My
open PySem PySem.Spec PyProof.Rows L2 Tw Bar
theorem ki (lo:Int) (n:Nat):au lo (n+1)=lo::au (lo+1) n:=by
 have:=pe lo 1 n
 rw [Nat.add_comm 1 n] at this
 rw [this]
 show [lo+((0:Nat):Int)]++_=_
 rw [show lo+((0:Nat):Int)=lo by omega]
 rfl
noncomputable def mtx (n:Nat) (f:Nat->Nat->Int):List PyData:=(List.range n).map λi=>.list (ae n (f i))
theorem eK (n:Nat) (f:Nat->Nat->Int):(mtx n f).length=n:=by unfold mtx; rw [List.length_map,List.length_range]
theorem ml {n i:Nat} (f:Nat->Nat->Int) (h:i < n):(mtx n f)[i]?=some (.list (ae n (f i))):=by
 unfold mtx
 rw [List.getElem?_map,List.getElem?_range h]
 rfl
theorem jp {n i:Nat} (f:Nat->Nat->Int) (h:i < n):a9 (mtx n f) (i:Int)=some (.list (ae n (f i))):=dF (Int.natCast_nonneg i) (by rw [Int.toNat_natCast]; exact ml f h)
theorem pR {n i:Nat} (f:Nat->Nat->Int) (g:Nat->Int) (h:i < n):(mtx n f).set i (.list (ae n g))=mtx n λq=>if q=i then g else f q:=by
 refine List.ext_getElem? λq=>?_
 rw [List.getElem?_set,eK]
 by_cases e:i=q
 ·subst e
  rw [if_pos rfl,if_pos h,ml _ h,if_pos rfl]
 ·rw [if_neg e]
  by_cases hq:q < n
  ·rw [ml _ hq,ml _ hq,if_neg (λz=>e z.symm)]
  ·rw [List.getElem?_eq_none (by rw [eK]; omega),List.getElem?_eq_none (by rw [eK]; omega)]
theorem ZcK {n:Nat} {f g:Nat->Nat->Int} (h:∀ i l,i < n->l < n->f i l=g i l):mtx n f=mtx n g:=by
 unfold mtx
 refine List.map_congr_left λi hi=>?_
 rw [ig λl hl=>h i l (List.mem_range.mp hi) hl]
theorem kd {n j:Nat} (r:Nat->Int) (h:j < n):aG am (.list (ae n r)) (.int j)=.ret (.int (r j)):=by
 rw [fS,dF (v:=.int (r j)) (Int.natCast_nonneg j) (by rw [Int.toNat_natCast]; exact ii h)]
 rfl
theorem kT {xs:List PyData} {i:Nat} (h:i < xs.length):bG xs.length (i:Int)=some i:=by
 unfold bG
 rw [if_pos (Int.natCast_nonneg i),if_pos (by omega),Int.toNat_natCast]
structure Dt (n k:Nat) (A B:Nat->Nat->Int) (sg:Int) (f:Nat->Nat->Int):Prop where
 n8:n<=8
 s1:sg=1\/sg=-1
 dB:d B n=sg * d A n
 nz:∀ j,j<=k->d B j≠0
 rw:∀ r,k<=r->r < n->∀ l,l < n->f r l=F B k r (col B l)
 nb:∀ r l,r < n->l < n->nb 13 (B r l)
theorem Dt.fn {n k:Nat} {A B f:Nat->Nat->Int} {sg:Int} (h:Dt n k A B sg f) (hk:k<=n) {r l:Nat} (r1:k<=r) (r2:r < n) (hl:l < n):Tw.nb 300 (f r l):=by
 rw [h.rw r r1 r2 l hl]
 have:=rX (A:=B) (n:=n) (b:=13) (by have:=h.n8; omega) h.nb (k:=k) (i:=r) hk r2 (a:=col B l) λq hq=>h.nb q l hq hl
 unfold M at this
 rw [if_neg (by omega)] at this
 exact bb this (by decide)
theorem Dt.dn {n k:Nat} {A B f:Nat->Nat->Int} {sg:Int} (h:Dt n k A B sg f) {j:Nat} (hj:j<=n):Tw.nb 300 (d B j):=bb (jH (A:=B) (n:=n) (b:=13) (by have:=h.n8; omega) h.nb hj) (by decide)
noncomputable def stp (k:Nat) (c:Int) (f:Nat->Nat->Int) (r l:Nat):Int:=(f r l * f k k - f r k * f k l).fdiv c
theorem Dt.step {n k:Nat} {A B f:Nat->Nat->Int} {sg:Int} (h:Dt n k A B sg f) (hk:k < n) (h0:f k k≠0):Dt n (k+1) A B sg (λr=>if k < r then stp k (d B k) f r else f r)/\f k k=d B (k+1):=by
 have e1:f k k=d B (k+1):=by rw [h.rw k (Nat.le_refl _) hk k hk,lc]
 have nz':∀ j,j<=k+1->d B j≠0:=λj hj=>by
  by_cases q:j=k+1
  ·rw [q,<- e1]; exact h0
  ·exact h.nz j (by omega)
 refine ⟨⟨h.n8,h.s1,h.dB,nz',λr r1 r2 l hl=>?_,h.nb⟩,e1⟩
 show (if k < r then stp k (d B k) f r else f r) l=_
 rw [if_pos (by omega)]
 unfold stp
 rw [e1,h.rw r (by omega) r2 l hl,h.rw r (by omega) r2 k hk,h.rw k (Nat.le_refl _) hk l hl]
 have st:=Zie B (k:=k) nz' (col B l) (i:=r) (by omega)
 rw [nY] at st
 unfold M at st
 rw [if_neg (by omega),if_neg (by omega),if_neg (by omega),if_neg (by omega)] at st
 have e2:F B k r (col B l) * d B (k+1) - F B k r (col B k) * F B k k (col B l)=d B k * F B (k+1) r (col B l):=by rw [st,Int.mul_comm (F B k r (col B l))]
 rw [e2]
 exact Int.mul_fdiv_cancel_left _ (h.nz k (by omega))
theorem Dt.swap {n k p:Nat} {A B f:Nat->Nat->Int} {sg:Int} (h:Dt n k A B sg f) (hp:k < p) (pn:p < n):Dt n k A (λr l=>B (tp k p r) l) (0 - sg) (λr=>f (tp k p r)):=by
 have tlt:∀ r,r < k->tp k p r=r:=λr hr=>by unfold tp; rw [if_neg (by omega),if_neg (by omega)]
 have tn:∀ r,r < n->tp k p r < n:=λr hr=>by unfold tp; split <;> (try split) <;> omega
 have tk:∀ r,k<=r->k<=tp k p r:=λr hr=>by unfold tp; split <;> (try split) <;> omega
 have top:∀ r l,r < k->(λr l=>B (tp k p r) l) r l=B r l:=λr l hr=>by show B (tp k p r) l=B r l; rw [tlt r hr]
 refine ⟨h.n8,by rcases h.s1 with e | e <;> omega,?_,λj hj=>?_,λr r1 r2 l hl=>?_,λr l hr hl=>h.nb _ l (tn r hr) hl⟩
 ·obtain ⟨q,rfl⟩:∃ q,p=k+q+1:=⟨p - k - 1,by omega⟩
  rw [Zg9 q B pn,h.dB,Int.sub_mul,Int.zero_mul]
  omega
 ·rw [qM top hj]
  exact h.nz j hj
 ·rw [h.rw (tp k p r) (tk r r1) (tn r r2) l hl]
  exact (Zpb top (λ_=>rfl) (λq hq=>by show B (tp k p q) l=B q l; rw [tlt q hq]) rfl).symm
theorem dq {n k r:Nat} {A B f:Nat->Nat->Int} {sg:Int} (h:Dt n k A B sg f) (hk:k < n) (r1:k < r) (r2:r < n):∀ m:Nat,m<=n->aV (bM (bo (aB (ah 0) (aB (ah 1) bi))) lX [.un,.un,.d (.int (d B k)),.d (.list (ae n (f k))),.d (.int k),.d (.list (ae n (f r)))]) (bI (ae m (f r)) (ae m (f k)))=.ret (ae m (stp k (d B k) f r))
 | 0,_=>rfl
 | m+1,hm=>by
  have ih:=dq h hk r1 r2 m (by omega)
  have nn:=h.n8
  have e1:=kd (n:=n) (j:=k) (f k) hk
  have e2:=kd (n:=n) (j:=k) (f r) hk
  have f1:=aF (h.fn (by omega) (by omega) r2 (show m < n by omega)) (by decide)
  have f2:=aF (h.fn (by omega) (Nat.le_refl k) hk hk) (by decide)
  have f3:=aF (h.fn (by omega) (by omega) r2 hk) (by decide)
  have f4:=aF (h.fn (by omega) (Nat.le_refl k) hk (show m < n by omega)) (by decide)
  have f5:=aF (h.dn (j:=k) (by omega)) (by decide)
  have ed:=k9 (m:=f r m * f k k - f r k * f k m) (n:=d B k) (h.nz k (Nat.le_refl _)) f5
  have e0:bM (bo (aB (ah 0) (aB (ah 1) bi))) lX [.un,.un,.d (.int (d B k)),.d (.list (ae n (f k))),.d (.int k),.d (.list (ae n (f r)))] (.tuple [.int (f r m),.int (f k m)])=.ret (.int (stp k (d B k) f r m)):=by
   simp_arith [lX,e1,e2,f1,f2,f3,f4,ed]
   rfl
  have er:∀ g:Nat->Int,ae (m+1) g=ae m g++[.int (g m)]:=λg=>by unfold ae; rw [List.range_succ,List.map_append,List.map_append]; rfl
  have ez:bI (ae (m+1) (f r)) (ae (m+1) (f k))=bI (ae m (f r)) (ae m (f k))++[.tuple [.int (f r m),.int (f k m)]]:=by
   rw [er,er]
   unfold bI
   rw [List.zip_append (by rw [cX,cX]),List.map_append]
   rfl
  have ma:∀ (xs:List PyData) (y:PyData) {g:PyData->Tr PyData} {zs:List PyData} {z:PyData},aV g xs=.ret zs->g y=.ret z->aV g (xs++[y])=.ret (zs++[z]):=by
   intro xs
   induction xs with
   | nil =>
    intro y g zs z h1 h2
    have:zs=[]:=by cases h1; rfl
    subst this
    show (g y).bind _=_
    rw [h2]
    rfl
   | cons x xs ihx =>
    intro y g zs z h1 h2
    rw [aV] at h1
    rw [List.cons_append,aV]
    cases e3:g x with
    | ret w =>
     rw [e3,Tr.ret_bind] at h1
     cases e4:aV g xs with
     | ret ws =>
      rw [e4,Tr.ret_bind] at h1
      cases h1
      rw [Tr.ret_bind,ihx y e4 h2]
      rfl
     | fail=>rw [e4] at h1; cases h1
     | draw a b=>rw [e4] at h1; cases h1
    | fail=>rw [e3] at h1; cases h1
    | draw a b=>rw [e3] at h1; cases h1
  rw [ez,er]
  exact ma _ _ ih e0
theorem dr1 {n k r:Nat} {A B f:Nat->Nat->Int} {sg:Int} (h:Dt n k A B sg f) (hk:k < n) (r1:k < r) (r2:r < n) {g:Nat->Nat->Int} (hg:g r=f r) (J0 J5 J8:Sl) :
  ∃ K8:Sl,mS [J0,.own (mtx n g),.d (.int sg),.d (.int (d B k)),.d (.int k),J5,.d (.list (ae n (f k))),.d (.int r),J8]=.ret (.next [J0,.own (mtx n λq=>if q=r then stp k (d B k) f r else g q),.d (.int sg),.d (.int (d B k)),.d (.int k),J5,.d (.list (ae n (f k))),.d (.int r),K8]):=by
 have nn:=h.n8
 have e1:=jp (n:=n) g r2
 rw [hg] at e1
 have e2:=dq h hk r1 r2 n (Nat.le_refl _)
 have it:∀ xs:List PyData,cf (.list xs)=.ret xs:=λ_=>rfl
 have hs:small (bI (ae n (f r)) (ae n (f k))).length=true:=bK (by unfold bI; rw [List.length_map,List.length_zip,cX,cX]; omega)
 have hx:bG (mtx n g).length (r:Int)=some r:=kT (by rw [eK]; exact r2)
 have e3:=pR g (stp k (d B k) f r) r2
 refine ⟨.d (.list (ae n (f r))),?_⟩
 simp_arith [mS,e1,it,hs,e2,jD hx,e3]
theorem qH {n k:Nat} {A B f:Nat->Nat->Int} {sg:Int} (h:Dt n k A B sg f) (hk:k < n) (J0 J5:Sl):∀ (m r:Nat) (g:Nat->Nat->Int) (J7 J8:Sl),k < r->r+m=n->(∀ q,g q=if k < q/\q < r then stp k (d B k) f q else f q)->∃ K7 K8:Sl,bV (ah 7) mS ((au r m).map PyData.int) [J0,.own (mtx n g),.d (.int sg),.d (.int (d B k)),.d (.int k),J5,.d (.list (ae n (f k))),J7,J8]=.ret (.next [J0,.own (mtx n λq=>if k < q then stp k (d B k) f q else f q),.d (.int sg),.d (.int (d B k)),.d (.int k),J5,.d (.list (ae n (f k))),K7,K8])
 | 0,r,g,J7,J8,r1,rm,hg=>⟨J7,J8,by
  have e:mtx n g=mtx n λq=>if k < q then stp k (d B k) f q else f q:=ZcK λi l hi hl=>by
   rw [hg i]
   by_cases q:k < i
   ·rw [if_pos ⟨q,by omega⟩,if_pos q]
   ·rw [if_neg (λz=>q z.1),if_neg q]
  rw [e]
  rfl⟩
 | m+1,r,g,J7,J8,r1,rm,hg=>by
  obtain ⟨L8,et⟩:=dr1 h hk r1 (by omega) (g:=g) (by rw [hg r,if_neg (by omega)]) J0 J5 J8
  obtain ⟨K7,K8,e⟩:=qH h hk J0 J5 m (r+1) (λq=>if q=r then stp k (d B k) f r else g q) (.d (.int r)) L8 (by omega) (by omega) λq=>by
   by_cases e1:q=r
   ·subst e1
    rw [if_pos rfl,if_pos ⟨r1,by omega⟩]
   ·rw [if_neg e1,hg q]
    by_cases e2:k < q/\q < r
    ·rw [if_pos e2,if_pos ⟨e2.1,by omega⟩]
    ·rw [if_neg e2,if_neg (by omega)]
  refine ⟨K7,K8,?_⟩
  have eg:ah 7 (.int (r:Int)) [J0,.own (mtx n g),.d (.int sg),.d (.int (d B k)),.d (.int k),J5,.d (.list (ae n (f k))),J7,J8]=some [J0,.own (mtx n g),.d (.int sg),.d (.int (d B k)),.d (.int k),J5,.d (.list (ae n (f k))),.d (.int r),J8]:=rfl
  have er:au (r:Int) (m+1)=(r:Int)::au ((r+1:Nat):Int) m:=by rw [show ((r+1:Nat):Int)=(r:Int)+1 by omega]; exact ki r m
  rw [er,List.map_cons,c9,eg,Tr.of_some,Tr.ret_bind,eN,et,Tr.ret_bind,dS,e]
end My
set_option Elab.async false
set_option linter.all false
set_option maxRecDepth 100000
set_option exponentiation.threshold 9000
namespace My
open PySem PySem.Spec PyProof.Rows L2 Tw Bar
noncomputable def lds (f:Nat->Nat->Int) (k:Nat):Nat->Nat->List Nat
 | _,0=>[]
 | r,m+1=>if f r k≠0 then r::lds f k (r+1) m else lds f k (r+1) m
theorem pZ {f:Nat->Nat->Int} {k p:Nat}:∀ {m r:Nat},p∈lds f k r m->r<=p/\p < r+m/\f p k≠0
 | 0,r,h=>by cases h
 | m+1,r,h=>by
  rw [lds] at h
  by_cases e:f r k≠0
  ·rw [if_pos e] at h
   rcases List.mem_cons.mp h with q | q
   ·subst q; exact ⟨Nat.le_refl _,by omega,e⟩
   ·have:=pZ q; exact ⟨by omega,by omega,this.2.2⟩
  ·rw [if_neg e] at h
   have:=pZ h
   exact ⟨by omega,by omega,this.2.2⟩
theorem Zc9 {f:Nat->Nat->Int} {k:Nat}:∀ {m r:Nat},lds f k r m=[]->∀ p,r<=p->p < r+m->f p k=0
 | 0,r,_,p,p1,p2=>by omega
 | m+1,r,h,p,p1,p2=>by
  rw [lds] at h
  by_cases e:f r k≠0
  ·rw [if_pos e] at h; cases h
  ·rw [if_neg e] at h
   by_cases q:p=r
   ·subst q; exact Classical.not_not.mp e
   ·exact Zc9 h p (by omega) (by omega)
theorem ldq {n k:Nat} {f:Nat->Nat->Int} (hk:k < n):∀ (m r:Nat),r+m<=n->dR (gP (ah 0) gC il [.un,.d (.int k),.d (.list (mtx n f))]) ((au r m).map PyData.int)=.ret (((lds f k r m).map λq:Nat=>(q:Int)).map PyData.int)
 | 0,r,_=>rfl
 | m+1,r,h=>by
  have ih:=ldq (f:=f) hk m (r+1) (by omega)
  have e1:aG am (.list (mtx n f)) (.int r)=.ret (.list (ae n (f r))):=by
   rw [fS,jp f (by omega)]
   rfl
  have e2:=kd (n:=n) (j:=k) (f r) hk
  have er:au (r:Int) (m+1)=(r:Int)::au ((r+1:Nat):Int) m:=by rw [show ((r+1:Nat):Int)=(r:Int)+1 by omega]; exact ki r m
  have e0:gP (ah 0) gC il [.un,.d (.int k),.d (.list (mtx n f))] (.int r)=.ret (if f r k≠0 then some (.int r) else none):=by
   have e3:∀ (p:List Sl->Tr Bool) (q:List Sl->Tr PyData) (a:PyData),gP (ah 0) p q [.un,.d (.int k),.d (.list (mtx n f))] a=(p [.d a,.d (.int k),.d (.list (mtx n f))]).bind λc=>if c=true then (q [.d a,.d (.int k),.d (.list (mtx n f))]).bind λz=>.ret (some z) else .ret none:=λp q a=>rfl
   rw [e3]
   have e4:gC [.d (.int r),.d (.int k),.d (.list (mtx n f))]=.ret (!f r k == 0):=by
    simp_arith [gC,e1,e2]
   have e5:il [.d (.int r),.d (.int k),.d (.list (mtx n f))]=.ret (.int r):=rfl
   rw [e4,Tr.ret_bind,e5]
   by_cases q:f r k=0
   ·have:(!f r k == 0)=false:=by rw [q]; rfl
    rw [this,if_neg (by decide),if_neg (λz=>z q)]
   ·have:(!f r k == 0)=true:=by rw [beq_eq_false_iff_ne.mpr q]; rfl
    rw [this,if_pos rfl,if_pos q]
    rfl
  rw [er,List.map_cons,dR,e0,Tr.ret_bind,ih,Tr.ret_bind,lds]
  unfold js
  by_cases q:f r k≠0
  ·rw [if_pos q,if_pos q]; rfl
  ·rw [if_neg q,if_neg q]
theorem m7:∀ l:List Int,(l.map PyData.int).all gT=true
 | []=>rfl
 | x::l=>by rw [List.map_cons,List.all_cons,m7 l]; rfl
theorem ZmC {n k:Nat} {f:Nat->Nat->Int} (n8:n<=8) (hk:k < n) (J0 J2 J3 J5 J6 J7 J8:Sl):jQ 1 (f9 (iP (af (aa 4) (af (eR cx (cE 1 aE)) ap))) 1 [4,1] (ah 0) gC il) [J0,.own (mtx n f),J2,J3,.d (.int k),J5,J6,J7,J8]=.ret (((lds f k k (n - k)).map λq:Nat=>(q:Int)).map PyData.int):=by
 have r1:ij [.int (k:Int),.int (n:Int)]=.ret ((au k (n - k)).map PyData.int):=by
  rw [qz (c8 (by omega) (by omega)) (c8 (by omega) (by omega))]
  unfold aR
  rw [show ((n:Int) - (k:Int)).toNat=n - k by omega]
 have hs:small ((au (k:Int) (n - k)).map PyData.int).length=true:=bK (by rw [List.length_map,gw]; omega)
 have e:=ldq (f:=f) hk (n - k) k (by omega)
 have ln:bH cx [.list (mtx n f)]=.ret (.int n):=by
  rw [k8,eK]
 have key:f9 (iP (af (aa 4) (af (eR cx (cE 1 aE)) ap))) 1 [4,1] (ah 0) gC il [J0,.d (.list (mtx n f)),J2,J3,.d (.int k),J5,J6,J7,J8]=.ret (((lds f k k (n - k)).map λq:Nat=>(q:Int)).map PyData.int):=by
  have hl:cE 1 aE [J0,.d (.list (mtx n f)),J2,J3,.d (.int k),J5,J6,J7,J8]=.ret [.d (.list (mtx n f))]:=rfl
  simp_arith [hl,ln,r1,hs,e]
 have ez:fz 1 [J0,.own (mtx n f),J2,J3,.d (.int k),J5,J6,J7,J8]=[J0,.d (.list (mtx n f)),J2,J3,.d (.int k),J5,J6,J7,J8]:=rfl
 unfold jQ
 rw [ez,key,Tr.ret_bind,if_pos (m7 _)]
theorem Zmt {n k p:Nat} {f:Nat->Nat->Int} (n8:n<=8) (hk:k < n) (hp:p < n) (hkp:k≠p) {ls:List PyData} (J0 J2 J3 J6 J7 J8:Sl) (h0:aG am (.list ls) (.int 0)=.ret (.int p)) :
  nI 1 (aa 4) (ac am (aa 5) (aC (.int 0))) (cv (af (cH 1 (ac am (aa 5) (aC (.int 0)))) (af (cH 1 (aa 4)) ap))) [J0,.own (mtx n f),J2,J3,.d (.int k),.d (.list ls),J6,J7,J8]=.ret (.next [J0,.own (mtx n λr=>f (tp k p r)),J2,J3,.d (.int k),.d (.list ls),J6,J7,J8]):=by
 have e1:=jp (n:=n) f hp
 have e2:=jp (n:=n) f hk
 have ev:cv (af (cH 1 (ac am (aa 5) (aC (.int 0)))) (af (cH 1 (aa 4)) ap)) [J0,.own (mtx n f),J2,J3,.d (.int k),.d (.list ls),J6,J7,J8]=.ret (.tuple [.list (ae n (f p)),.list (ae n (f k))]):=by
  simp_arith [h0,e1,e2]
 unfold nI
 rw [ev,Tr.ret_bind]
 have i1:bG (mtx n f).length (k:Int)=some k:=kT (by rw [eK]; exact hk)
 have s1:ib 1 (aa 4) (.list (ae n (f p))) [J0,.own (mtx n f),J2,J3,.d (.int k),.d (.list ls),J6,J7,J8]=.ret [J0,.own (mtx n λq=>if q=k then f p else f q),J2,J3,.d (.int k),.d (.list ls),J6,J7,J8]:=by
  show (Tr.of (bG (mtx n f).length (k:Int))).bind _=_
  rw [i1,Tr.of_some,Tr.ret_bind]
  show Tr.ret [J0,.own ((mtx n f).set k (.list (ae n (f p)))),J2,J3,.d (.int k),.d (.list ls),J6,J7,J8]=_
  rw [pR f (f p) hk]
 have i2:bG (mtx n λq=>if q=k then f p else f q).length (p:Int)=some p:=kT (by rw [eK]; exact hp)
 have s2:ib 1 (ac am (aa 5) (aC (.int 0))) (.list (ae n (f k))) [J0,.own (mtx n λq=>if q=k then f p else f q),J2,J3,.d (.int k),.d (.list ls),J6,J7,J8]=.ret [J0,.own (mtx n λr=>f (tp k p r)),J2,J3,.d (.int k),.d (.list ls),J6,J7,J8]:=by
  have ei:ac am (aa 5) (aC (.int 0)) [J0,.own (mtx n λq=>if q=k then f p else f q),J2,J3,.d (.int k),.d (.list ls),J6,J7,J8]=.ret (.int p):=by
   show aG am (.list ls) (.int 0)=_
   exact h0
  show (ac am (aa 5) (aC (.int 0)) [J0,.own (mtx n λq=>if q=k then f p else f q),J2,J3,.d (.int k),.d (.list ls),J6,J7,J8]).bind _=_
  rw [ei,Tr.ret_bind]
  show (Tr.of (bG (mtx n λq=>if q=k then f p else f q).length (p:Int))).bind _=_
  rw [i2,Tr.of_some,Tr.ret_bind]
  show Tr.ret [J0,.own ((mtx n λq=>if q=k then f p else f q).set p (.list (ae n (f k)))),J2,J3,.d (.int k),.d (.list ls),J6,J7,J8]=_
  rw [pR _ (f k) hp]
  have e:mtx n (λq=>if q=p then f k else if q=k then f p else f q)=mtx n λr=>f (tp k p r):=ZcK λi l _ _=>by
   unfold tp
   by_cases h1:i=k
   ·rw [if_neg (by omega),if_pos h1,if_pos h1]
   ·rw [if_neg h1,if_neg h1]
    by_cases h2:i=p
    ·rw [if_pos h2,if_pos h2]
    ·rw [if_neg h2,if_neg h2]
  rw [e]
 show (ib 1 (aa 4) (.list (ae n (f p))) [J0,.own (mtx n f),J2,J3,.d (.int k),.d (.list ls),J6,J7,J8]).bind _=_
 rw [s1,Tr.ret_bind,s2,Tr.ret_bind]
theorem ZmZ {n k:Nat} {A B f:Nat->Nat->Int} {sg:Int} (h:Dt n k A B sg f) (hk:k < n) (J0 J5 J6 J7 J8:Sl) :
  (d A n=0/\gQ [J0,.own (mtx n f),.d (.int sg),.d (.int (d B k)),.d (.int k),J5,J6,J7,J8]=.ret (.ret (.d (.int 0)))) \/
  (∃ (B' f':Nat->Nat->Int) (sg':Int) (K5 K6 K7 K8:Sl),Dt n (k+1) A B' sg' f'/\gQ [J0,.own (mtx n f),.d (.int sg),.d (.int (d B k)),.d (.int k),J5,J6,J7,J8]=.ret (.next [J0,.own (mtx n f'),.d (.int sg'),.d (.int (d B' (k+1))),.d (.int k),K5,K6,K7,K8])):=by
 have n8:=h.n8
 have e1:=ZmC (f:=f) n8 hk J0 (.d (.int sg)) (.d (.int (d B k))) J5 J6 J7 J8
 have lsI:∀ l:List Nat,PyData.list ((l.map λq:Nat=>(q:Int)).map PyData.int)=lI (l.map λq:Nat=>(q:Int)):=λ_=>rfl
 have nil:PyData.list []=lI []:=rfl
 cases hL:lds f k k (n - k) with
 | nil =>
  rw [hL] at e1
  have q:=qB ((([]:List Nat)).map λq:Nat=>(q:Int)) []
  have q:aG de (.list []) (.list [])=.ret (.bool true):=by rw [nil]; exact q.trans (by simp)
  refine .inl ⟨?_,?_⟩
  ·have hz:d B n=0:=Znc hk (h.nz k (Nat.le_refl _)) λr r1 r2=>by
    rw [<- h.rw r r1 r2 k hk]
    exact Zc9 hL r r1 (by omega)
   have:=h.dB
   rw [hz] at this
   rcases h.s1 with e | e <;> rw [e] at this <;> omega
  ·have e1:jQ 1 (f9 (iP (af (aa 4) (af (eR cx (cE 1 aE)) ap))) 1 [4,1] (ah 0) gC il) [J0,.own (mtx n f),.d (.int sg),.d (.int (d B k)),.d (.int k),J5,J6,J7,J8]=.ret []:=e1
   simp_arith only [gQ,e1,q]
 | cons p ps =>
  rw [hL] at e1
  obtain ⟨p1,p2,p3⟩:=pZ (show p∈lds f k k (n - k) by rw [hL]; simp)
  have q:aG de (.list (((p::ps).map λq:Nat=>(q:Int)).map PyData.int)) (.list [])=.ret (.bool false):=by
   rw [lsI,nil,qB]
   simp
  have h0:aG am (.list (((p::ps).map λq:Nat=>(q:Int)).map PyData.int)) (.int 0)=.ret (.int p):=by
   rw [List.map_cons,List.map_cons,fS,jK]
   rfl
  have ln:∀ g:Nat->Nat->Int,bH cx [.list (mtx n g)]=.ret (.int n):=λg=>by rw [k8,eK]
  have r1:ij [.int ((k:Int)+1),.int (n:Int)]=.ret ((au ((k+1:Nat):Int) (n - (k+1))).map PyData.int):=by
   rw [qz (c8 (by omega) (by omega)) (c8 (by omega) (by omega))]
   unfold aR
   rw [show ((n:Int) - ((k:Int)+1)).toNat=n - (k+1) by omega]
   rfl
  have hl:∀ (g:Nat->Nat->Int) (X2 X3 X4 X5 X6 X7 X8:Sl),cE 1 aE [J0,.own (mtx n g),X2,X3,X4,X5,X6,X7,X8]=.ret [.d (.list (mtx n g))]:=λ_ _ _ _ _ _ _ _=>rfl
  generalize hls:((p::ps).map λq:Nat=>(q:Int)).map PyData.int=ls at *
  by_cases hkp:p=k
  ·subst hkp
   obtain ⟨st,el⟩:=h.step hk p3
   obtain ⟨K7,K8,e3⟩:=qH h hk J0 (.d (.list ls)) (n - (p+1)) (p+1) f J7 J8 (by omega) (by omega) λq=>by rw [if_neg (by omega)]
   have c:(!((p:Int) == (p:Int)))=false:=by simp
   have e2:=jp (n:=n) f hk
   have e4:=kd (n:=n) (j:=p) (f p) hk
   rw [el] at e4
   refine .inr ⟨B,_,sg,.d (.list ls),.d (.list (ae n (f p))),K7,K8,st,?_⟩
   simp_arith only [gQ,e1,q,h0,c,e2,hl,ln,r1,e3,e4]
  ·have hsw:=h.swap (p:=p) (by omega) (by omega)
   have fk:(λr=>f (tp k p r)) k=f p:=by show f (tp k p k)=f p; unfold tp; rw [if_pos rfl]
   obtain ⟨st,el⟩:=hsw.step hk (by show f (tp k p k) k≠0; unfold tp; rw [if_pos rfl]; exact p3)
   have db:d (λr l=>B (tp k p r) l) k=d B k:=qM (k:=k) (λr l hr=>by show B (tp k p r) l=B r l; unfold tp; rw [if_neg (by omega),if_neg (by omega)]) (Nat.le_refl _)
   obtain ⟨K7,K8,e3⟩:=qH hsw hk J0 (.d (.list ls)) (n - (k+1)) (k+1) (λr=>f (tp k p r)) J7 J8 (by omega) (by omega) λq=>by rw [if_neg (by omega)]
   rw [db] at e3
   have c:(!((p:Int) == (k:Int)))=true:=by simp; omega
   have es:=Zmt (f:=f) n8 hk (show p < n by omega) (λz=>hkp z.symm) (ls:=ls) J0 (.d (.int (0 - sg))) (.d (.int (d B k))) J6 J7 J8 h0
   have e2:=jp (n:=n) (λr=>f (tp k p r)) hk
   have e4:=kd (n:=n) (j:=k) (f (tp k p k)) hk
   have el:f (tp k p k) k=d (λr l=>B (tp k p r) l) (k+1):=el
   rw [el] at e4
   refine .inr ⟨λr l=>B (tp k p r) l,_,0 - sg,.d (.list ls),.d (.list (ae n (f (tp k p k)))),K7,K8,st,?_⟩
   simp_arith only [gQ,e1,q,h0,c,es,e2,hl,ln,r1,e3,e4,db]
theorem Zhb {n:Nat} {A:Nat->Nat->Int} (J0:Sl):∀ (m k:Nat) (B f:Nat->Nat->Int) (sg:Int) (J4 J5 J6 J7 J8:Sl),k+m=n->Dt n k A B sg f ->
  (d A n=0/\bV (ah 4) gQ ((au k m).map PyData.int) [J0,.own (mtx n f),.d (.int sg),.d (.int (d B k)),J4,J5,J6,J7,J8]=.ret (.ret (.d (.int 0)))) \/
  (∃ (B' f':Nat->Nat->Int) (sg':Int) (K4 K5 K6 K7 K8:Sl),Dt n n A B' sg' f'/\bV (ah 4) gQ ((au k m).map PyData.int) [J0,.own (mtx n f),.d (.int sg),.d (.int (d B k)),J4,J5,J6,J7,J8]=.ret (.next [J0,.own (mtx n f'),.d (.int sg'),.d (.int (d B' n)),K4,K5,K6,K7,K8]))
 | 0,k,B,f,sg,J4,J5,J6,J7,J8,hk,h=>by
  have e:k=n:=by omega
  subst e
  exact .inr ⟨B,f,sg,J4,J5,J6,J7,J8,h,rfl⟩
 | m+1,k,B,f,sg,J4,J5,J6,J7,J8,hk,h=>by
  have er:au (k:Int) (m+1)=(k:Int)::au ((k+1:Nat):Int) m:=by rw [show ((k+1:Nat):Int)=(k:Int)+1 by omega]; exact ki k m
  have eg:ah 4 (.int (k:Int)) [J0,.own (mtx n f),.d (.int sg),.d (.int (d B k)),J4,J5,J6,J7,J8]=some [J0,.own (mtx n f),.d (.int sg),.d (.int (d B k)),.d (.int k),J5,J6,J7,J8]:=rfl
  rcases ZmZ h (by omega) J0 J5 J6 J7 J8 with ⟨z,et⟩ | ⟨B',f',sg',K5,K6,K7,K8,st,et⟩
  ·refine .inl ⟨z,?_⟩
   rw [er,List.map_cons,c9,eg,Tr.of_some,Tr.ret_bind,eN,et,Tr.ret_bind]
   rfl
  ·rcases Zhb J0 m (k+1) B' f' sg' (.d (.int k)) K5 K6 K7 K8 (by omega) st with ⟨z,e⟩ | ⟨B2,f2,sg2,L4,L5,L6,L7,L8,st2,e⟩
   ·refine .inl ⟨z,?_⟩
    rw [er,List.map_cons,c9,eg,Tr.of_some,Tr.ret_bind,eN,et,Tr.ret_bind,dS,e]
   ·refine .inr ⟨B2,f2,sg2,L4,L5,L6,L7,L8,st2,?_⟩
    rw [er,List.map_cons,c9,eg,Tr.of_some,Tr.ret_bind,eN,et,Tr.ret_bind,dS,e]
theorem ZmH {n:Nat} (n8:n<=8) {A:Nat->Nat->Int} (hA:∀ r l,r < n->l < n->nb 13 (A r l)):kK [.d (.list (mtx n A))]=.ret (.d (.int (d A n))):=by
 have z0:∀ j,j<=0->d A j≠0:=λj hj=>by
  have e:j=0:=by omega
  rw [e,iI]
  decide
 have h0:Dt n 0 A A 1 A:=⟨n8,.inl rfl,by rw [Int.one_mul],z0,λr _ _ l _=>by
  unfold F
  rw [iI]
  show A r l=1 * A r l - 0
  omega,hA⟩
 have hmap:aV (bM (ah 0) kr [.un]) (mtx n A)=.ret (mtx n A):=by
  have key:∀ l:List Nat,aV (bM (ah 0) kr [.un]) (l.map λi=>.list (ae n (A i)))=.ret (l.map λi=>.list (ae n (A i))):=by
   intro l
   induction l with
   | nil=>rfl
   | cons i l ih =>
    have e0:bM (ah 0) kr [.un] (.list (ae n (A i)))=.ret (.list (ae n (A i))):=by
     have ll:ld gN [.list (ae n (A i))]=.ret (ae n (A i)):=rfl
     simp_arith only [kr,ll]
    rw [List.map_cons,aV,e0,Tr.ret_bind,ih]
    rfl
  exact key _
 have it:cf (.list (mtx n A))=.ret (mtx n A):=rfl
 have hs:small (mtx n A).length=true:=bK (by rw [eK]; omega)
 have ln:bH cx [.list (mtx n A)]=.ret (.int n):=by rw [k8,eK]
 have r1:dN [.int (n:Int)]=.ret ((au ((0:Nat):Int) n).map PyData.int):=by
  rw [fA (c8 (by omega) (by omega))]
  unfold aR
  rw [show ((n:Int) - 0).toNat=n by omega]
  rfl
 have hl:∀ (X2 X3 X4 X5 X6 X7 X8:Sl),cE 1 aE [.d (.list (mtx n A)),.own (mtx n A),X2,X3,X4,X5,X6,X7,X8]=.ret [.d (.list (mtx n A))]:=λ_ _ _ _ _ _ _=>rfl
 have d0:d A 0=1:=iI A
 rcases Zhb (.d (.list (mtx n A))) n 0 A A 1 .un .un .un .un .un (by omega) h0 with ⟨z,e⟩ | ⟨B,f,sg,L4,L5,L6,L7,L8,st,e⟩
 ·rw [d0] at e
  rw [z]
  simp_arith only [kK,it,hs,hmap,hl,ln,r1,e]
 ·rw [d0] at e
  have fs:fit sg=true:=aF (k:=3) (by rcases st.s1 with q | q <;> rw [q] <;> exact bL (by decide) (by decide)) (by decide)
  have fd:=aF (st.dn (j:=n) (Nat.le_refl _)) (by decide)
  have ev:sg * d B n=d A n:=by
   rw [st.dB]
   rcases st.s1 with q | q <;> rw [q] <;> omega
  simp_arith only [kK,it,hs,hmap,hl,ln,r1,e,fs,fd,ev]
end My
set_option Elab.async false
set_option linter.all false
set_option maxRecDepth 100000
set_option exponentiation.threshold 9000
namespace My
open PySem PySem.Spec PyProof.Rows L2 Tw Bar
theorem Zhc (xs:List PyData) (t:Nat) (h:t<=xs.length):gm (.list xs) none (some (t:Int))=.ret (.list (xs.take t)):=by
 rw [jC]
 unfold L2.eP
 rw [HT.lV,HT.o4,Nat.min_eq_left h,List.drop_zero,Nat.sub_zero]
theorem Zhg (xs:List PyData) (t:Nat):gm (.list xs) (some (t:Int)) none=.ret (.list (xs.drop t)):=by
 rw [jC]
 unfold L2.eP
 rw [HT.lV,HT.o4]
 rcases Nat.le_total t xs.length with hle | hle
 ·rw [Nat.min_eq_left hle,List.take_of_length_le (by rw [List.length_drop]; exact Nat.le_refl _)]
 ·rw [Nat.min_eq_right hle,List.drop_eq_nil_of_le (Nat.le_refl _),List.drop_eq_nil_of_le hle]
  simp
theorem ZhY {xs ys:List PyData} (h:small (xs.length+ys.length)=true):aG gY (.list xs) (.list ys)=.ret (.list (xs++ys)):=by
 show aG aW (.list xs) (.list ys)=_
 exact jE h
theorem Zhd {α:Type} (f:Nat->α) {m k:Nat} (hk:k < m+1):((List.range (m+1)).map f).take k++((List.range (m+1)).map f).drop (k+1)=(List.range m).map λi=>f (sk k i):=by
 refine List.ext_getElem? λq=>?_
 have l1:(((List.range (m+1)).map f).take k).length=k:=by rw [List.length_take,List.length_map,List.length_range]; omega
 unfold sk
 by_cases hq:q < k
 ·rw [List.getElem?_append_left (by rw [l1]; exact hq),List.getElem?_take_of_lt hq,List.getElem?_map,List.getElem?_map,List.getElem?_range (by omega),List.getElem?_range (by omega)]
  show some (f q)=some (f _)
  rw [if_pos hq]
 ·rw [List.getElem?_append_right (by rw [l1]; omega),l1,List.getElem?_drop,List.getElem?_map,List.getElem?_map]
  by_cases h2:q < m
  ·rw [List.getElem?_range (by omega),List.getElem?_range h2]
   show some (f _)=some (f _)
   rw [if_neg hq,show k+1+(q - k)=q+1 by omega]
  ·rw [List.getElem?_eq_none (by rw [List.length_range]; omega),List.getElem?_eq_none (by rw [List.length_range]; omega)]
   rfl
theorem ZaI (f:Nat->Int):∀ n:Nat,((List.range n).map f).sum=ad f n
 | 0=>rfl
 | n+1=>by rw [List.range_succ,List.map_append,List.sum_append,ZaI f n,Bar.ad]; simp
noncomputable def tB (s:Shp) (one:List Int) (lv:Nat->Int) (i j:Nat):Int:=(if i=j then one.sum else 0) - cY s one (lv i) j
theorem Zax {s:Shp} {one:List Int} {lv:Nat->Int} (r:RuOk s one lv) {i:Nat} (hi:i < s.n):ad (λj=>tB s one lv i j) s.n=0:=by
 have h:=r.h
 have hn:=h.n_eq
 have e1:ad (λj=>cY s one (lv i) j) s.n=one.sum:=by
  unfold cY
  have y2:=r.hi i hi
  refine oH (λx hx=>?_) one 0
  have:=fP s (lv i) x
  have:=fO h y2 hx
  omega
 have e2:ad (λj=>if i=j then one.sum else 0) s.n=one.sum:=by
  refine Eq.trans ?_ (ZaJ hi one.sum)
  congr 1
  funext j
  split
  ·rw [Int.mul_one]
  ·rw [Int.mul_zero]
 have e3:ad (λj=>tB s one lv i j+cY s one (lv i) j) s.n=ad (λj=>if i=j then one.sum else 0) s.n:=by
  congr 1
  funext j
  unfold tB
  omega
 have e4:=lM (λj=>tB s one lv i j) (λj=>cY s one (lv i) j) s.n
 rw [e3,e2,e1] at e4
 generalize one.sum=S at *
 omega
theorem Zay {s:Shp} {one:List Int} {lv:Nat->Int} (r:RuOk s one lv) (s13:nb 13 one.sum) (i j:Nat):nb 13 (tB s one lv i j):=by
 have p0:0<=cY s one (lv i) j:=jV r.hd.w0 λx=>by split <;> decide
 have p1:cY s one (lv i) j<=one.sum:=oj r.hd.w0 λx=>by split <;> decide
 have sp:=r.hd.pos
 unfold tB
 unfold nb at *
 split <;> omega
noncomputable def oB (s:Shp) (one:List Int) (lv:Nat->Int) (m i:Nat):Int:=d (mn i (tB s one lv)) m
theorem Zcz {s:Shp} {one:List Int} {lv:Nat->Int} (r:RuOk s one lv) {m:Nat} (hm:s.n=m+1):one.sum * ad (oB s one lv m) (m+1)=av s one lv:=by
 have:=ZkA (A:=tB s one lv) (m:=m) (λi hi=>by rw [<- hm] at hi ⊢; exact Zax r hi) one.sum
 have e:(oB s one lv m)=λi=>d (mn i (tB s one lv)) m:=rfl
 rw [e,this]
 unfold av
 rw [hm]
 refine qN λi j hi hj=>?_
 unfold bj tB
 rw [if_neg (show ¬ j=m+1 by omega)]
theorem Zlg {s:Shp} {one:List Int} {lv:Nat->Int} (r:RuOk s one lv) {m:Nat} (hm:s.n=m+1):av s one lv * ad (λi=>oB s one lv m i * cB s one ((i:Int) - s.depth) (lv i)) (m+1)=zB s one lv 0 * av s one lv:=by
 have:=ZkB (A:=tB s one lv) (m:=m) (λi hi=>by rw [<- hm] at hi ⊢; exact Zax r hi) (S:=one.sum) (Dd:=av s one lv) (z:=zB s one lv) (c:=λi=>cB s one ((i:Int) - s.depth) (lv i)) λi hi=>by
  have e:=kA r (i:=i) (by omega)
  rw [hm,oG] at e
  rw [<- e]
  have e0:bj s one lv (m+1) i 0=one.sum:=by unfold bj; rw [if_neg (by omega),if_pos rfl]
  rw [e0]
  congr 1
  refine eD λl hl=>?_
  unfold bj tB
  rw [if_neg (show ¬ l+1=m+1 by omega),if_neg (show ¬ l+1=0 by omega)]
 have e1:=Zcz r hm
 have e:(oB s one lv m)=λi=>d (mn i (tB s one lv)) m:=rfl
 rw [e] at e1
 rw [e1] at this
 exact this
theorem ZcV {s:Shp} {lv:Nat->Int} {i:Nat} (hi:i < s.n):aG am (tI (ay s lv)) (.int (i:Int))=.ret (.int (lv i)):=by
 have e:((ay s lv).map PyData.int)[i]?=some (.int (lv i)):=by
  unfold ay
  rw [List.getElem?_map,List.getElem?_map,List.getElem?_range hi]
  rfl
 unfold tI
 rw [dE,dF (v:=.int (lv i)) (Int.natCast_nonneg i) (by rw [Int.toNat_natCast]; exact e)]
 rfl
theorem mn1 {s:Shp} (h:s.Ok) {i:Nat} {lv:Nat->Int} (hi:i < s.n) (y1:-s.depth<=lv i) (y2:lv i<=s.top) (O N S W C J13 J14:Sl):∀ (l:List Int) (k:Nat) (r:Nat->Int) (c:Int) (J10 J11 J12:Sl),k+l.length<=16->(∀ w∈l,nb 30 w)->∃ K10 K11 K12:Sl,bV (bo (aB (ah 10) (aB (ah 11) bi))) mR (enu k l) [.d s.d,O,.d (tI (ay s lv)),N,S,W,C,.d (.int i),.own (ae s.n r),.d (.int c),J10,J11,J12,J13,J14]=.ret (.next [.d s.d,O,.d (tI (ay s lv)),N,S,W,C,.d (.int i),.own (ae s.n λj=>r j - ws (λf=>if (s.nx (lv i) f+s.depth).toNat=j then 1 else 0) k l),.d (.int (c+ws (λf=>s.day (lv i) f) k l)),K10,K11,K12,J13,J14])
 | [],k,r,c,J10,J11,J12,_,_=>⟨J10,J11,J12,by
  have e:ae s.n (λj=>r j - ws (λf=>if (s.nx (lv i) f+s.depth).toNat=j then 1 else 0) k [])=ae s.n r:=ig λj _=>by rw [ws,Int.sub_zero]
  rw [e,ws,Int.add_zero]
  rfl⟩
 | w::l,k,r,c,J10,J11,J12,hk,hw=>by
  have t0:=h.t0
  have d0:=h.d0
  have td:=h.td
  have hn:=h.n_eq
  rw [List.length_cons] at hk
  have n1:=fP s (lv i) k
  have n2:=fO h y2 (show (0:Int)<=k by omega)
  have hy:nb 20 (lv i):=bL (by show -1048576 < _; omega) (by show _ < 1048576; omega)
  have hf:nb 40 (k:Int):=bL (by show -1099511627776 < _; omega) (by show _ < 1099511627776; omega)
  have e1:=Zmz s (lv i) k
  have e2:=ZmD h y1 y2 (show (0:Int)<=k by omega) (by omega)
  have e3:=ZcV (lv:=lv) hi
  have f2:=aF (lb h hy hf) (by decide)
  have f3:=aF (hw w (by simp)) (by decide)
  obtain ⟨q,hq⟩:∃ q:Nat,s.nx (lv i) k+s.depth=(q:Int):=⟨(s.nx (lv i) k+s.depth).toNat,by omega⟩
  have qn:q < s.n:=by omega
  have e4:a9 (ae s.n r) (q:Int)=some (.int (r q)):=dF (Int.natCast_nonneg q) (by rw [Int.toNat_natCast]; exact ii qn)
  have hx:bG (ae s.n r).length (q:Int)=some q:=kT (by rw [cX]; exact qn)
  have e5:=ke (r:=r) qn (r q - w)
  obtain ⟨K10,K11,K12,e⟩:=mn1 h hi y1 y2 O N S W C J13 J14 l (k+1) (λj=>if j=q then r q - w else r j) (c+w * s.day (lv i) k) (.d (.int k)) (.d (.int w)) (.d (.int q)) (by omega) λv hv=>hw v (List.mem_cons_of_mem _ hv)
  refine ⟨K10,K11,K12,?_⟩
  have et:mR [.d s.d,O,.d (tI (ay s lv)),N,S,W,C,.d (.int i),.own (ae s.n r),.d (.int c),.d (.int k),.d (.int w),J12,J13,J14]=.ret (.next [.d s.d,O,.d (tI (ay s lv)),N,S,W,C,.d (.int i),.own (ae s.n λj=>if j=q then r q - w else r j),.d (.int (c+w * s.day (lv i) k)),.d (.int k),.d (.int w),.d (.int q),J13,J14]):=by
   simp_arith [mR,e3,e1,e2,hq,e4,jD hx,e5,f2,f3]
  have eg:(bo (aB (ah 10) (aB (ah 11) bi))) (.tuple [.int (k:Int),.int w]) [.d s.d,O,.d (tI (ay s lv)),N,S,W,C,.d (.int i),.own (ae s.n r),.d (.int c),J10,J11,J12,J13,J14]=some [.d s.d,O,.d (tI (ay s lv)),N,S,W,C,.d (.int i),.own (ae s.n r),.d (.int c),.d (.int k),.d (.int w),J12,J13,J14]:=rfl
  have er:(ae s.n λj=>(if j=q then r q - w else r j) - ws (λf=>if (s.nx (lv i) f+s.depth).toNat=j then 1 else 0) (k+1) l)=ae s.n λj=>r j - ws (λf=>if (s.nx (lv i) f+s.depth).toNat=j then 1 else 0) k (w::l):=ig λj hj=>by
   rw [ws]
   have hq':(s.nx (lv i) k+s.depth).toNat=q:=by omega
   rw [hq']
   by_cases z:j=q
   ·subst z
    rw [if_pos rfl,if_pos rfl]
    omega
   ·rw [if_neg z,if_neg (λe=>z e.symm)]
    omega
  rw [enu,c9,eg,Tr.of_some,Tr.ret_bind,eN,et,Tr.ret_bind,dS,e,er,ws,Int.add_assoc]
theorem mn2 {s:Shp} {one:List Int} {lv:Nat->Int} (r:RuOk s one lv) {i:Nat} (hi:i < s.n) {rs cs:List PyData} (h1:rs.length<=9) (h2:cs.length<=9) (J8 J9 J10 J11 J12 J13 J14:Sl):∃ K9 K10 K11 K12:Sl,
  mQ [.d s.d,.d (tI one),.d (tI (ay s lv)),.d (.int s.n),.d (.int one.sum),.own rs,.own cs,.d (.int i),J8,J9,J10,J11,J12,J13,J14]=.ret (.next [.d s.d,.d (tI one),.d (tI (ay s lv)),.d (.int s.n),.d (.int one.sum),.own (rs++[.list (ae s.n (tB s one lv i))]),.own (cs++[.int (cB s one ((i:Int) - s.depth) (lv i))]),.d (.int i),.d (.list (ae s.n (tB s one lv i))),K9,K10,K11,K12,J13,J14]):=by
 have h:=r.h
 have hn:=h.n_eq
 have t0:=h.t0
 have d0:=h.d0
 have td:=h.td
 have y0:=r.lo i hi
 have y2:=r.hi i hi
 have n9:=r.n9
 have y1:-s.depth<=lv i:=by omega
 have hrep:jJ gv (.list [.int 0]) (.int (s.n:Int))=.ret (ae s.n λ_=>0):=by
  rw [ZbP (by simp; omega)]
  rw [Int.toNat_natCast]
  unfold ae
  congr 1
  generalize s.n=m
  induction m with
  | zero=>rfl
  | succ m ih=>rw [List.replicate_succ',List.flatten_append,ih,List.range_succ,List.map_append,List.map_append]; rfl
 have hx:bG (ae s.n λ_=>0).length (i:Int)=some i:=kT (by rw [cX]; exact hi)
 have e5:=ke (r:=λ_=>0) hi one.sum
 have e3:=ZcV (lv:=lv) hi
 have eo:=Zmy h (x:=(i:Int) - s.depth) (y:=lv i) (by omega) y0 y2
 have g1:=aF (eB r.hd) (by decide)
 have g2:=aF (pD h (fH h (show -s.depth<=(i:Int) - s.depth by omega) (by omega)) (fH h y1 y2)) (by decide)
 obtain ⟨K10,K11,K12,eL⟩:=mn1 h hi y1 y2 (.d (tI one)) (.d (.int s.n)) (.d (.int one.sum)) (.own rs) (.own cs) J13 J14 one 0 (λq=>if q=i then one.sum else 0) (one.sum * s.ord ((i:Int) - s.depth) (lv i)) J10 J11 J12 (by have:=r.hd.len; omega) r.hd.nb
 have ee:cL (one.map PyData.int)=enu 0 one:=qC one
 have er:(ae s.n λj=>(if j=i then one.sum else 0) - ws (λf=>if (s.nx (lv i) f+s.depth).toNat=j then 1 else 0) 0 one)=ae s.n (tB s one lv i):=ig λj hj=>by
  unfold tB cY
  by_cases e:j=i
  ·rw [if_pos e,if_pos e.symm]
  ·rw [if_neg e,if_neg (λz=>e z.symm)]
 have ec:one.sum * s.ord ((i:Int) - s.depth) (lv i)+ws (λf=>s.day (lv i) f) 0 one=cB s one ((i:Int) - s.depth) (lv i):=by
  unfold cB Shp.wg
  congr 1
  refine lD λf _=>?_
  rw [Int.one_mul,Int.add_zero]
 rw [er,ec] at eL
 have it:cf (tI one)=.ret (one.map PyData.int):=rfl
 have s1:small (rs.length+1)=true:=bK (by omega)
 have s2:small (cs.length+1)=true:=bK (by omega)
 refine ⟨.d (.int (cB s one ((i:Int) - s.depth) (lv i))),K10,K11,K12,?_⟩
 simp_arith [mQ,Zgi,Zgh,hrep,jD hx,e5,e3,eo,g1,g2,it,ee,eL,s1,s2]
end My
set_option Elab.async false
set_option linter.all false
set_option maxRecDepth 100000
set_option exponentiation.threshold 9000
namespace My
open PySem PySem.Spec PyProof.Rows L2 Tw Bar
theorem ZbK (k:Nat) (f:Nat->PyData):(List.range k).map f++[f k]=(List.range (k+1)).map f:=by rw [List.range_succ,List.map_append]; rfl
theorem mn3 {s:Shp} {one:List Int} {lv:Nat->Int} (r:RuOk s one lv) (J13 J14:Sl):∀ (m k:Nat) (J7 J8 J9 J10 J11 J12:Sl),k+m=s.n->(0 < m\/∃ Y,J8=.d Y)->∃ (Y:PyData) (K7 K9 K10 K11 K12:Sl),
  bV (ah 7) mQ ((au k m).map PyData.int) [.d s.d,.d (tI one),.d (tI (ay s lv)),.d (.int s.n),.d (.int one.sum),.own ((List.range k).map λi:Nat=>PyData.list (ae s.n (tB s one lv i))),.own ((List.range k).map λi:Nat=>PyData.int (cB s one ((i:Int) - s.depth) (lv i))),J7,J8,J9,J10,J11,J12,J13,J14]=.ret (.next [.d s.d,.d (tI one),.d (tI (ay s lv)),.d (.int s.n),.d (.int one.sum),.own (mtx s.n (tB s one lv)),.own ((List.range s.n).map λi:Nat=>PyData.int (cB s one ((i:Int) - s.depth) (lv i))),K7,.d Y,K9,K10,K11,K12,J13,J14])
 | 0,k,J7,J8,J9,J10,J11,J12,hk,h8=>by
  have e:k=s.n:=by omega
  subst e
  rcases h8 with z | ⟨Y,rfl⟩
  ·omega
  ·exact ⟨Y,J7,J9,J10,J11,J12,rfl⟩
 | m+1,k,J7,J8,J9,J10,J11,J12,hk,_=>by
  have n9:=r.n9
  have er:au (k:Int) (m+1)=(k:Int)::au ((k+1:Nat):Int) m:=by rw [show ((k+1:Nat):Int)=(k:Int)+1 by omega]; exact ki k m
  obtain ⟨L9,L10,L11,L12,et⟩:=mn2 r (i:=k) (by omega) (rs:=(List.range k).map λi:Nat=>PyData.list (ae s.n (tB s one lv i))) (cs:=(List.range k).map λi:Nat=>PyData.int (cB s one ((i:Int) - s.depth) (lv i))) (by rw [List.length_map,List.length_range]; omega) (by rw [List.length_map,List.length_range]; omega) J8 J9 J10 J11 J12 J13 J14
  rw [ZbK k λi:Nat=>PyData.list (ae s.n (tB s one lv i)),ZbK k λi:Nat=>PyData.int (cB s one ((i:Int) - s.depth) (lv i))] at et
  obtain ⟨Y,K7,K9,K10,K11,K12,e⟩:=mn3 r J13 J14 m (k+1) (.d (.int k)) (.d (.list (ae s.n (tB s one lv k)))) L9 L10 L11 L12 (by omega) (.inr ⟨_,rfl⟩)
  refine ⟨Y,K7,K9,K10,K11,K12,?_⟩
  generalize (List.range k).map (λi:Nat=>PyData.list (ae s.n (tB s one lv i)))=rs at *
  generalize (List.range k).map (λi:Nat=>PyData.int (cB s one ((i:Int) - s.depth) (lv i)))=cs at *
  have eg:ah 7 (.int (k:Int)) [.d s.d,.d (tI one),.d (tI (ay s lv)),.d (.int s.n),.d (.int one.sum),.own rs,.own cs,J7,J8,J9,J10,J11,J12,J13,J14]=some [.d s.d,.d (tI one),.d (tI (ay s lv)),.d (.int s.n),.d (.int one.sum),.own rs,.own cs,.d (.int k),J8,J9,J10,J11,J12,J13,J14]:=rfl
  rw [er,List.map_cons,c9,eg,Tr.of_some,Tr.ret_bind,eN,et,Tr.ret_bind,dS,e]
theorem Zmv {m k:Nat} (m8:m<=8) (hk:k < m+1) (A:Nat->Nat->Int) (hA:∀ r l,nb 13 (A r l)) {rs:List PyData} (hl:rs.length<=9) (X5:Sl) (h5:X5=.own (mtx (m+1) A)\/X5=.d (.list (mtx (m+1) A))) (J0 J1 J2 J3 J4 J6 J9 J10 J11 J12 J14:Sl) (Y:PyData):∃ K14:Sl,
  mP [J0,J1,J2,J3,J4,X5,J6,.d (.int k),.d Y,J9,J10,J11,J12,.own rs,J14]=.ret (.next [J0,J1,J2,J3,J4,.d (.list (mtx (m+1) A)),J6,.d (.int k),.d Y,J9,J10,J11,J12,.own (rs++[.int (d (mn k A) m)]),K14]):=by
 have hz:fz 5 [J0,J1,J2,J3,J4,X5,J6,.d (.int k),.d Y,J9,J10,J11,J12,.own rs,J14]=[J0,J1,J2,J3,J4,.d (.list (mtx (m+1) A)),J6,.d (.int k),.d Y,J9,J10,J11,J12,.own rs,J14]:=by
  rcases h5 with rfl | rfl <;> rfl
 have ek:((k:Int)+1)=((k+1:Nat):Int):=by omega
 have c1:=Zhc (mtx (m+1) A) k (by rw [eK]; omega)
 have c2:=Zhg (mtx (m+1) A) (k+1)
 have ca:=ZhY (xs:=(mtx (m+1) A).take k) (ys:=(mtx (m+1) A).drop (k+1)) (bK (by rw [List.length_take,List.length_drop,eK]; omega))
 have cc:(mtx (m+1) A).take k++(mtx (m+1) A).drop (k+1)=(List.range m).map λi:Nat=>PyData.list (ae (m+1) (A (sk k i))):=Zhd (λi:Nat=>PyData.list (ae (m+1) (A i))) hk
 rw [cc] at ca
 have hmap:aV (bM (ah 0) kn [.un,.d (.int k)]) ((List.range m).map λi:Nat=>PyData.list (ae (m+1) (A (sk k i))))=.ret (mtx m (mn k A)):=by
  have key:∀ l:List Nat,aV (bM (ah 0) kn [.un,.d (.int k)]) (l.map λi:Nat=>PyData.list (ae (m+1) (A (sk k i))))=.ret (l.map λi:Nat=>PyData.list (ae m (mn k A i))):=by
   intro l
   induction l with
   | nil=>rfl
   | cons i l ih =>
    have e0:bM (ah 0) kn [.un,.d (.int k)] (.list (ae (m+1) (A (sk k i))))=.ret (.list (ae m (mn k A i))):=by
     have d1:=Zhc (ae (m+1) (A (sk k i))) k (by rw [cX]; omega)
     have d2:=Zhg (ae (m+1) (A (sk k i))) (k+1)
     have da:=ZhY (xs:=(ae (m+1) (A (sk k i))).take k) (ys:=(ae (m+1) (A (sk k i))).drop (k+1)) (bK (by rw [List.length_take,List.length_drop,cX]; omega))
     have dc:(ae (m+1) (A (sk k i))).take k++(ae (m+1) (A (sk k i))).drop (k+1)=ae m (mn k A i):=by
      have:=Zhd (λl=>PyData.int (A (sk k i) l)) hk
      unfold ae
      rw [List.map_map,List.map_map]
      exact this
     rw [dc] at da
     generalize ae (m+1) (A (sk k i))=R at *
     simp_arith [kn,d1,ek,d2,da]
    rw [List.map_cons,aV,e0,Tr.ret_bind,ih]
    rfl
  exact key _
 have ed:=ZmH (n:=m) m8 (A:=mn k A) λr l _ _=>hA _ _
 have it:∀ xs:List PyData,cf (.list xs)=.ret xs:=λ_=>rfl
 have hs:small ((List.range m).map λi:Nat=>PyData.list (ae (m+1) (A (sk k i)))).length=true:=bK (by rw [List.length_map,List.length_range]; omega)
 have s1:small (rs.length+1)=true:=bK (by omega)
 refine ⟨.d (.list ((List.range m).map λi:Nat=>PyData.list (ae (m+1) (A (sk k i))))),?_⟩
 generalize (List.range m).map (λi:Nat=>PyData.list (ae (m+1) (A (sk k i))))=Z at *
 generalize mtx m (mn k A)=W at *
 have e1:di 5 (aX 14 (ac gY (fY (aa 5) f8 (fE (aa 7))) (fY (aa 5) (fE (ac aW (aa 7) (aC (.int 1)))) f8))) [J0,J1,J2,J3,J4,X5,J6,.d (.int k),.d Y,J9,J10,J11,J12,.own rs,J14]=.ret (.next [J0,J1,J2,J3,J4,.d (.list (mtx (m+1) A)),J6,.d (.int k),.d Y,J9,J10,J11,J12,.own rs,.d (.list Z)]):=by
  unfold di
  rw [hz]
  simp_arith [c1,ek,c2,ca]
 generalize mtx (m+1) A=V at *
 unfold mP
 rw [qy,e1,Tr.ret_bind]
 simp_arith [it,hs,hmap,ed,s1]
end My
set_option Elab.async false
set_option linter.all false
set_option maxRecDepth 100000
set_option exponentiation.threshold 9000
namespace My
open PySem PySem.Spec PyProof.Rows L2 Tw Bar
theorem mn4 {m:Nat} (m8:m<=8) (A:Nat->Nat->Int) (hA:∀ r l,nb 13 (A r l)) (J0 J1 J2 J3 J4 J6 J9 J10 J11 J12:Sl) (Y:PyData):∀ (q k:Nat) (X5 J7 J14:Sl),k+q=m+1->(X5=.own (mtx (m+1) A)\/X5=.d (.list (mtx (m+1) A)))->∃ K5 K7 K14:Sl,
  bV (ah 7) mP ((au k q).map PyData.int) [J0,J1,J2,J3,J4,X5,J6,J7,.d Y,J9,J10,J11,J12,.own (ae k λi=>d (mn i A) m),J14]=.ret (.next [J0,J1,J2,J3,J4,K5,J6,K7,.d Y,J9,J10,J11,J12,.own (ae (m+1) λi=>d (mn i A) m),K14])
 | 0,k,X5,J7,J14,hk,_=>by
  have e:k=m+1:=by omega
  subst e
  exact ⟨X5,J7,J14,rfl⟩
 | q+1,k,X5,J7,J14,hk,h5=>by
  have er:au (k:Int) (q+1)=(k:Int)::au ((k+1:Nat):Int) q:=by rw [show ((k+1:Nat):Int)=(k:Int)+1 by omega]; exact ki k q
  obtain ⟨L14,et⟩:=Zmv m8 (k:=k) (by omega) A hA (rs:=ae k λi=>d (mn i A) m) (by rw [cX]; omega) X5 h5 J0 J1 J2 J3 J4 J6 J9 J10 J11 J12 J14 Y
  have es:(ae k λi=>d (mn i A) m)++[PyData.int (d (mn k A) m)]=ae (k+1) λi=>d (mn i A) m:=by
   unfold ae
   rw [List.range_succ,List.map_append,List.map_append]
   rfl
  rw [es] at et
  obtain ⟨K5,K7,K14,e⟩:=mn4 m8 A hA J0 J1 J2 J3 J4 J6 J9 J10 J11 J12 Y q (k+1) (.d (.list (mtx (m+1) A))) (.d (.int k)) L14 (by omega) (.inr rfl)
  refine ⟨K5,K7,K14,?_⟩
  have eg:ah 7 (.int (k:Int)) [J0,J1,J2,J3,J4,X5,J6,J7,.d Y,J9,J10,J11,J12,.own (ae k λi=>d (mn i A) m),J14]=some [J0,J1,J2,J3,J4,X5,J6,.d (.int k),.d Y,J9,J10,J11,J12,.own (ae k λi=>d (mn i A) m),J14]:=rfl
  rw [er,List.map_cons,c9,eg,Tr.of_some,Tr.ret_bind,eN,et,Tr.ret_bind,dS,e]
theorem Zaa {a c:Nat->Int} (ha:∀ i,fit (a i)=true):∀ (l:List Nat),(∀ i∈l,fit (c i)=true)->aV (bM (bo (aB (ah 0) (aB (ah 1) bi))) lW [.un,.un]) (bI ((l.map a).map PyData.int) (l.map λi=>PyData.int (c i)))=.ret ((l.map λi=>a i * c i).map PyData.int)
 | [],_=>rfl
 | i::l,hc=>by
  have ih:=Zaa ha l λj hj=>hc j (List.mem_cons_of_mem _ hj)
  have f1:=ha i
  have f2:=hc i (by simp)
  have ez:bI (((i::l).map a).map PyData.int) ((i::l).map λi=>PyData.int (c i))=.tuple [.int (a i),.int (c i)]::bI ((l.map a).map PyData.int) (l.map λi=>PyData.int (c i)):=rfl
  have e0:bM (bo (aB (ah 0) (aB (ah 1) bi))) lW [.un,.un] (.tuple [.int (a i),.int (c i)])=.ret (.int (a i * c i)):=by
   simp_arith [lW,f1,f2]
  rw [ez,aV,e0,Tr.ret_bind,ih]
  rfl
theorem ZmA {s:Shp} {one:List Int} {lv:Nat->Int} (r:RuOk s one lv) (s13:nb 13 one.sum):mz [.d s.d,.d (tI one),.d (tI (ay s lv))]=.ret (.d (bC (zB s one lv 0) (av s one lv))):=by
 have h:=r.h
 have hn:=h.n_eq
 have t0:=h.t0
 have d0:=h.d0
 have n9:=r.n9
 obtain ⟨m,hm⟩:∃ m,s.n=m+1:=⟨s.n - 1,by omega⟩
 have sp:=dm r
 have hS:=r.hd.pos
 have ln:bH cx [tI (ay s lv)]=.ret (.int s.n):=by
  unfold tI
  rw [qA,List.length_map,ZcY]
 have r1:dN [.int (s.n:Int)]=.ret ((au ((0:Nat):Int) s.n).map PyData.int):=by
  rw [fA (c8 (by omega) (by omega))]
  unfold aR
  rw [show ((s.n:Int) - 0).toNat=s.n by omega]
  rfl
 obtain ⟨Y,K7,K9,K10,K11,K12,e1⟩:=mn3 r .un .un s.n 0 .un .un .un .un .un .un (by omega) (.inl (by omega))
 have z0:∀ f:Nat->PyData,(List.range 0).map f=[]:=λ_=>rfl
 rw [z0,z0] at e1
 obtain ⟨L5,L7,L14,e2⟩:=mn4 (m:=m) (by omega) (tB s one lv) (λi j=>Zay r s13 i j) (.d s.d) (.d (tI one)) (.d (tI (ay s lv))) (.d (.int s.n)) (.d (.int one.sum)) (.own ((List.range s.n).map λi:Nat=>PyData.int (cB s one ((i:Int) - s.depth) (lv i)))) K9 K10 K11 K12 Y (m+1) 0 (.own (mtx s.n (tB s one lv))) K7 .un (by omega) (.inl (by rw [hm]))
 have e20:ae 0 (λi=>d (mn i (tB s one lv)) m)=[]:=rfl
 rw [e20,<- hm] at e2
 have oe:(λi=>d (mn i (tB s one lv)) m)=oB s one lv m:=rfl
 rw [oe] at e2
 have ofit:∀ i,fit (oB s one lv m i)=true:=λi=>aF (jH (b:=13) (n:=m) (by omega) (λr' l _ _=>Zay r s13 _ _) (Nat.le_refl _)) (by decide)
 have em:=Zaa (a:=oB s one lv m) (c:=λi=>cB s one ((i:Int) - s.depth) (lv i)) ofit (List.range s.n) λi hi=>aF (Zhx r (List.mem_range.mp hi)) (by decide)
 have ro:ae s.n (oB s one lv m)=((List.range s.n).map (oB s one lv m)).map PyData.int:=rfl
 rw [ro] at e2
 have it:∀ xs:List PyData,cf (.list xs)=.ret xs:=λ_=>rfl
 have hs:small (bI (((List.range s.n).map (oB s one lv m)).map PyData.int) ((List.range s.n).map λi:Nat=>PyData.int (cB s one ((i:Int) - s.depth) (lv i)))).length=true:=bK (by
  unfold bI
  rw [List.length_map,List.length_zip,List.length_map,List.length_map,List.length_range,List.length_map,List.length_range]
  omega)
 have q1:=nh ((List.range s.n).map λi=>oB s one lv m i * cB s one ((i:Int) - s.depth) (lv i))
 have q2:=nh ((List.range s.n).map (oB s one lv m))
 rw [ZaI] at q1 q2
 have o1:=Zcz r hm
 have o2:=Zlg r hm
 rw [<- hm] at o1 o2
 have f1:=aF (eB r.hd) (by decide)
 have f2:fit (Bar.ad (oB s one lv m) s.n)=true:=by
  have b:=lP r s13
  refine aF (k:=208) ?_ (by decide)
  unfold nb at *
  rw [<- o1,Int.natAbs_mul] at b
  have:1 * (Bar.ad (oB s one lv m) s.n).natAbs<=one.sum.natAbs * (Bar.ad (oB s one lv m) s.n).natAbs:=Nat.mul_le_mul_right _ (by omega)
  omega
 have es:=ZgS (t:=Bar.ad (λi=>oB s one lv m i * cB s one ((i:Int) - s.depth) (lv i)) s.n) (b:=av s one lv) sp (bb (lP r s13) (by decide))
 have ee:bC (Bar.ad (λi=>oB s one lv m i * cB s one ((i:Int) - s.depth) (lv i)) s.n) (av s one lv)=bC (zB s one lv 0) (av s one lv):=Zbc sp sp (by rw [Int.mul_comm]; exact o2)
 rw [ee] at es
 have hl:∀ (X0 X1 X2 X3 X4 X5 X6 X7 X8 X9 X10 X11 X12 X14:Sl) (xs:List PyData),cE 13 aE [X0,X1,X2,X3,X4,X5,X6,X7,X8,X9,X10,X11,X12,.d (.list xs),X14]=.ret [.d (.list xs)]:=λ_ _ _ _ _ _ _ _ _ _ _ _ _ _ _=>rfl
 generalize Bar.ad (oB s one lv m) s.n=B at *
 generalize Bar.ad (λi=>oB s one lv m i * cB s one ((i:Int) - s.depth) (lv i)) s.n=T at *
 generalize ((List.range s.n).map (oB s one lv m)).map PyData.int=os at *
 generalize (List.range s.n).map (λi:Nat=>PyData.int (cB s one ((i:Int) - s.depth) (lv i)))=cs at *
 generalize ((List.range s.n).map λi=>oB s one lv m i * cB s one ((i:Int) - s.depth) (lv i)).map PyData.int=ps at *
 simp_arith only [mz,ln,j0,r1,e1,e2,it,hs,em,q1,q2,hl,f1,f2,o1,es]
end My
set_option Elab.async false
set_option linter.all false
set_option maxRecDepth 100000
set_option exponentiation.threshold 9000
namespace My
open PySem PySem.Spec PyProof.Rows L2 Tw Bar
theorem Zmw {s:Shp} {one:List Int} {lv:Nat->Int} (r:RuOk s one lv):gM [.d s.d,.d (tI one),.d (tI ((List.range s.n).map lv))]=.ret (.d (.tuple [.int (zB s one lv 0),lI (s.row (wB s one lv)),.int (av s one lv)])):=by
 have h:=r.h
 have hn:=h.n_eq
 have t0:=h.t0
 have d0:=h.d0
 have n9:=r.n9
 have e1:=nj h
 have em:=ZcI r
 have es:=ZgQ (ZaE r)
 have it:∀ xs,cf (.tuple xs)=.ret xs:=λ_=>rfl
 have hs:small (bI (aR (-s.depth) (s.top+1)) (((List.range s.n).map lv).map PyData.int)).length=true:=bK (by
  unfold bI
  rw [List.length_map,List.length_zip,cI]
  omega)
 have ew:=Zah h one lv
 have ez:((List.range s.n).map λi=>M (bj s one lv s.n) s.n i (col (bj s one lv s.n) s.n)).map PyData.int=((List.range s.n).map (zB s one lv)).map PyData.int:=rfl
 rw [ez] at es
 have a0:aG am (.list (((List.range s.n).map (zB s one lv)).map PyData.int)) (.int 0)=.ret (.int (zB s one lv 0)):=by
  rw [fS,dF (v:=.int (zB s one lv 0)) (by decide) (by rw [List.getElem?_map,List.getElem?_map]; show Option.map _ (Option.map _ ((List.range s.n)[0]?))=_; rw [List.getElem?_range (by omega)]; rfl)]
  rfl
 have a1:gm (.list (((List.range s.n).map (zB s one lv)).map PyData.int)) (some 1) none=.ret (.list ((((List.range s.n).map (zB s one lv)).map PyData.int).drop 1)):=by
  rw [jC,Zhi]
 have a2:aG aW (.list [.int 0]) (.list ((((List.range s.n).map (zB s one lv)).map PyData.int).drop 1))=.ret (lI (s.row (wB s one lv))):=by
  rw [jE (bK (by rw [List.length_drop,List.length_map,List.length_map,List.length_range]; show 1+_<=_; omega))]
  show Tr.ret (PyData.list (PyData.int 0::(((List.range s.n).map (zB s one lv)).map PyData.int).drop 1))=_
  rw [ew]
  rfl
 have ed:d (bj s one lv s.n) s.n=av s one lv:=rfl
 rw [ed] at es
 generalize ((List.range s.n).map (zB s one lv)).map PyData.int=zs at *
 simp_arith only [gM,Zge,Zgg,e1,it,qj,hs,em,es,a0,a1,a2]
theorem ZmM {s:Shp} {one:List Int} (hd:DayB one) (gr:s.top+s.depth<=great one) (ps:∃ w∈one,w > 0):iC [.d s.d,.d (tI one)]=.ret (.d .none):=by
 have eg:=ZgT ps (by have:=hd.len; omega)
 have ca:decide (great one < s.top+s.depth)=false:=decide_eq_false (by omega)
 simp_arith [iC,eg,ca]
theorem ZgR {s:Shp} {one:List Int} {lv:Nat->Int} (r:RuOk s one lv):ju [.d s.d,.d (tI one),.d (tI (ay s lv))]=.ret (.d (bC (zB s one lv 0) (av s one lv))):=by
 have e0:=ZmM r.hd r.gr r.ps
 have e1:=Zmw r
 have sp:=dm r
 have e2:=qE (t:=zB s one lv 0) (b:=av s one lv) (by omega) (bb (i7 r) (by decide))
 unfold ay
 simp_arith [ju,Zf3,Zf4,e0,e1,e2]
theorem Zor {α β:Type} {h:PyData->Tr PyData} {D:α->PyData} {F:β->PyData} {Q:α->β->Prop} {n:Nat}:∀ (l:List α),(∀ x∈l,Al (h (D x)) n λy=>∃ v,y=F v/\Q x v)->Al (aV h (l.map D)) (n * l.length) λys=>∃ vs:List β,ys=vs.map F/\vs.length=l.length/\∀ (k:Nat) (x:α) (v:β),l[k]?=some x->vs[k]?=some v->Q x v:=by
 intro l
 induction l with
 | nil=>intro _; exact cD ⟨[],rfl,rfl,λk x v a b=>by simp at a⟩
 | cons x l ih =>
  intro hx
  rw [List.map_cons,aV]
  refine dX (hx x (by simp)) (n':=n * l.length) (by rw [List.length_cons,Nat.mul_succ]; omega) ?_
  rintro _ ⟨v,rfl,hq⟩
  refine dX (n':=0) (ih λy hy=>hx y (List.mem_cons_of_mem _ hy)) (by omega) ?_
  rintro _ ⟨vs,rfl,hl,hqs⟩
  refine cD ⟨v::vs,rfl,by rw [List.length_cons,List.length_cons,hl],λk y w a b=>?_⟩
  cases k with
  | zero=>cases a; cases b; exact hq
  | succ k=>exact hqs k y w a b
theorem ZbI (n:Nat):aR 0 (n:Int)=(List.range n).map λk:Nat=>PyData.int k:=by
 unfold aR au
 rw [List.map_map,show ((n:Int) - 0).toNat=n by omega]
 refine List.map_congr_left λk _=>?_
 show PyData.int (0+(k:Int))=_
 rw [Int.zero_add]
theorem ZjH {s:Shp} {one:List Int} {lv:Nat->Int} (r:RuOk s one lv) {q:PyData->Tr PyData} (hq:∀ k:Nat,k < s.n->Al (q (.int k)) 1 λy=>∃ v:Int,y=.int v/\(k:Int) - s.depth<=v/\v<=s.top):Al (aV q (aR 0 s.n)) s.n λys=>∃ lv':Nat->Int,ys=(ay s lv').map PyData.int/\RuOk s one lv':=by
 rw [ZbI]
 have key:=Zor (h:=q) (D:=λk:Nat=>PyData.int k) (F:=PyData.int) (Q:=λ(k:Nat) (v:Int)=>(k:Int) - s.depth<=v/\v<=s.top) (n:=1) (List.range s.n) λk hk=>hq k (List.mem_range.mp hk)
 rw [List.length_range,Nat.one_mul] at key
 refine rn key (Nat.le_refl _) ?_
 rintro _ ⟨ls,rfl,hl,hv⟩
 have hv':∀ i (hi:i < ls.length),(i:Int) - s.depth<=ls[i]/\ls[i]<=s.top:=λi hi=>hv i i ls[i] (List.getElem?_range (by omega)) (List.getElem?_eq_getElem hi)
 have el:ay s (λi=>(ls[i]?).getD 0)=ls:=by
  unfold ay
  refine List.ext_getElem? λi=>?_
  by_cases hi:i < s.n
  ·rw [List.getElem?_map,List.getElem?_range hi]
   show some ((ls[i]?).getD 0)=ls[i]?
   rw [List.getElem?_eq_getElem (by omega)]
   rfl
  ·rw [List.getElem?_eq_none (by rw [List.length_map,List.length_range]; omega),List.getElem?_eq_none (by omega)]
 refine ⟨λi=>(ls[i]?).getD 0,by rw [el],r.h,r.n9,r.hd,r.gr,r.ps,λi hi=>?_,λi hi=>?_⟩
 ·rw [List.getElem?_eq_getElem (by omega)]
  exact (hv' i (by omega)).1
 ·rw [List.getElem?_eq_getElem (by omega)]
  exact (hv' i (by omega)).2
theorem ZlC {s:Shp} {one:List Int} {lv lv':Nat->Int} (r:RuOk s one lv) (r':RuOk s one lv') (hf:ba s one lv=lv):av s one lv' * zB s one lv 0<=av s one lv * zB s one lv' 0:=by
 rcases Zjl r' (A:=wB s one lv) (A':=wB s one lv') (D:=av s one lv) (D':=av s one lv') (M:=zB s one lv 0) (M':=zB s one lv' 0) (w_0 _ _ _) (w_0 _ _ _) (dm r') (λi hi=>by rw [ZgU r hi]; exact ZmN r hf hi (r'.lo i hi) (r'.hi i hi)) (λi hi=>ZgU r' hi) with k | ⟨k,_⟩
 ·exact Int.le_of_lt k
 ·exact Int.le_of_eq k
theorem pT {z c z' c':Int} (h:0 < c) (h':0 < c') (k:c' * z<=c * z'):¬ Gc.b8 z' c' * Gc.bQ z c < Gc.b8 z c * Gc.bQ z' c':=by
 intro q
 have e:Gc.b8 z c * c=z * Gc.bQ z c:=pV h
 have e':Gc.b8 z' c' * c'=z' * Gc.bQ z' c':=pV h'
 have p:0 < Gc.bQ z c:=(pU (t:=z) h).pos
 have p':0 < Gc.bQ z' c':=(pU (t:=z') h').pos
 generalize Gc.b8 z c=t at *
 generalize Gc.b8 z' c'=t' at *
 generalize Gc.bQ z c=b at *
 generalize Gc.bQ z' c'=b' at *
 have a1:=Int.mul_lt_mul_of_pos_right q (Int.mul_pos h h')
 have a2:=Int.mul_le_mul_of_nonneg_right k (Int.le_of_lt (Int.mul_pos p p'))
 have a3:t' * b * (c * c')=z' * b' * (b * c):=by rw [<- e']; grind
 have a4:t * b' * (c * c')=z * b * (b' * c'):=by rw [<- e]; grind
 rw [a3,a4] at a1
 have a5:c' * z * (b * b')=z * b * (b' * c'):=by grind
 have a6:c * z' * (b * b')=z' * b' * (b * c):=by grind
 rw [a5,a6] at a2
 omega
theorem ZjS {t b:Int} (h1:nb 1900 (Gc.b8 t b)) (h2:nb 1900 (Gc.bQ t b)):ik (bC t b)=true:=by
 refine ZbH (o6 (xs:=[.int (Gc.b8 t b),.int (Gc.bQ t b)]) (k:=0) (n:=1901) λx hx=>?_) (by decide) (by show 2 * 1901+2 * 2+10<=10000000; decide)
 simp only [List.mem_cons,List.not_mem_nil,or_false] at hx
 rcases hx with rfl | rfl
 ·exact o8 h1
 ·exact o8 h2
theorem ZjQ {s:Shp} {one:List Int} {lv lv':Nat->Int} (c:Cs s one) (L:Lst s one lv) (r':RuOk s one lv') (J0 J1 J2 J6 J7 J8 J9 J10 J11 J13:Sl):∃ K13:Sl,qe [J0,J1,J2,.d s.d,.d (tI one),.d (bC (zB s one lv 0) (av s one lv)),J6,J7,J8,J9,J10,J11,.d (tI (ay s lv')),J13]=.ret (.next [J0,J1,J2,.d s.d,.d (tI one),.d (bC (zB s one lv 0) (av s one lv)),J6,J7,J8,J9,J10,J11,.d (tI (ay s lv')),K13]):=by
 have hn:=c.dr.ok.n_eq
 have t0:=c.dr.ok.t0
 have d0:=c.dr.ok.d0
 have e1:=ZgR r'
 have e2:=ZmA r' c.s13
 have sp:=dm L.r
 have sp':=dm r'
 obtain ⟨n1,n2⟩:=ZcZ (oh L.r (show 0 < s.n by omega)) (lP L.r c.s13) (by omega)
 obtain ⟨m1,m2⟩:=ZcZ (oh r' (show 0 < s.n by omega)) (lP r' c.s13) (by omega)
 have rp:=ZjS (bb m1 (by decide)) (bb m2 (by decide))
 have f1:=aF n1 (by decide)
 have f2:=aF n2 (by decide)
 have f3:=aF m1 (by decide)
 have f4:=aF m2 (by decide)
 have cmp:=pT sp sp' (ZlC L.r r' L.st)
 have pb:0 < Gc.bQ (zB s one lv' 0) (av s one lv'):=(pU (t:=zB s one lv' 0) sp').pos
 have e3:=ZgS (t:=Gc.b8 (zB s one lv' 0) (av s one lv')) pb (bb m2 (by decide))
 have e4:bC (Gc.b8 (zB s one lv' 0) (av s one lv')) (Gc.bQ (zB s one lv' 0) (av s one lv'))=bC (zB s one lv' 0) (av s one lv'):=Zbc pb sp' (pV sp')
 rw [e4] at e3
 have x1:=Zbe (zB s one lv' 0) (av s one lv')
 have x2:=Zbd (zB s one lv' 0) (av s one lv')
 have x3:=Zbe (zB s one lv 0) (av s one lv)
 have x4:=Zbd (zB s one lv 0) (av s one lv)
 refine ⟨.d (bC (zB s one lv' 0) (av s one lv')),?_⟩
 generalize bC (zB s one lv' 0) (av s one lv')=F at *
 generalize bC (zB s one lv 0) (av s one lv)=E at *
 simp_arith [qe,e1,e2,ZeN rp,ZaP,Bool.not_true,x1,x2,x3,x4,e3,f1,f2,f3,f4,decide_eq_false cmp]
end My
set_option Elab.async false
set_option linter.all false
set_option maxRecDepth 100000
set_option exponentiation.threshold 9000
namespace My
open PySem PySem.Spec PyProof.Rows L2 Tw Bar
theorem ZkU {s:Shp} {one:List Int} {lv:Nat->Int} (r:RuOk s one lv):RuOk s one λi=>(i:Int) - s.depth:=⟨r.h,r.n9,r.hd,r.gr,r.ps,λi _=>Int.le_refl _,λi hi=>by have:=r.h.n_eq; show (i:Int) - s.depth<=s.top; omega⟩
theorem ZjT {s:Shp} {one:List Int} (c:Cs s one) {a b e f:Nat->Int} (ra:RuOk s one a) (rb:RuOk s one b) (re:RuOk s one e) (rf:RuOk s one f):ik (.tuple [s.d,tI one,.list [tI (ay s a),tI (ay s b),tI (ay s e),tI (ay s f)]])=true:=by
 have key:∀ {g:Nat->Int},RuOk s one g->Rp (tI (ay s g)) 1 40000:=λ{g} r=>ie (o7 (m:=9) (λn hn=>by
  unfold ay at hn
  obtain ⟨i,hi,rfl⟩:=List.mem_map.mp hn
  have h1:=r.lo i (List.mem_range.mp hi)
  have h2:=r.hi i (List.mem_range.mp hi)
  have:=r.h.t0
  have:=r.h.d0
  have:=r.h.td
  exact bb (show nb 20 (g i) from bL (by show -1048576 < _; omega) (by show _ < 1048576; omega)) (by decide)) (by rw [ZcY]; exact r.n9)) (Nat.le_refl _) (by decide)
 refine ZbH (o6 (xs:=[s.d,tI one,.list [tI (ay s a),tI (ay s b),tI (ay s e),tI (ay s f)]]) (k:=2) (n:=200000) λx hx=>?_) (by decide) (by show 3 * 200000+2 * 3+10<=10000000; decide)
 simp only [List.mem_cons,List.not_mem_nil,or_false] at hx
 rcases hx with rfl | rfl | rfl
 ·exact ie (ZjR c.dr.ok) (by decide) (by decide)
 ·exact ie (ZjV c.B) (by decide) (by decide)
 ·refine ie (ZjU (xs:=[tI (ay s a),tI (ay s b),tI (ay s e),tI (ay s f)]) (k:=1) (n:=40000) λx hx=>?_) (Nat.le_refl _) (by show 4 * 40000+2 * 4+10<=200000; decide)
  simp only [List.mem_cons,List.not_mem_nil,or_false] at hx
  rcases hx with rfl | rfl | rfl | rfl
  ·exact key ra
  ·exact key rb
  ·exact key re
  ·exact key rf
theorem drawn {s:Shp} {one:List Int} {lv:Nat->Int} (r:RuOk s one lv) {rs:List PyData} (hl:rs.length<=5) (J0 J2 J4 J5 J6 J7 J10 J11 J12 J13:Sl):Al (qf [J0,.pen,J2,.d s.d,J4,J5,J6,J7,.d (.int s.n),.own rs,J10,J11,J12,J13]) 9 λo=>∃ lv':Nat->Int,RuOk s one lv'/\o=.next [J0,.pen,J2,.d s.d,J4,J5,J6,J7,.d (.int s.n),.own (rs++[tI (ay s lv')]),J10,J11,J12,J13]:=by
 have n9:=r.n9
 have hn:=r.h.n_eq
 have t0:=r.h.t0
 have d0:=r.h.d0
 have r1:dN [.int (s.n:Int)]=.ret (aR 0 s.n):=fA (c8 (by omega) (by omega))
 have hs:small (aR 0 (s.n:Int)).length=true:=bK (by rw [cI]; omega)
 have s1:small (rs.length+1)=true:=bK (by omega)
 simp_arith [qf,bA,r1,hs]
 refine dX (n:=s.n) (n':=0) (ZjH r λk hk=>?_) (by omega) ?_
 ·simp_arith [Zcf,bA]
  refine dW (n:=0) (by omega) (by omega) (by decide) λx x0 x1=>?_
  try simp_arith [bA]
  exact cD ⟨_,rfl,by omega,by omega⟩
 ·rintro _ ⟨lv',rfl,r'⟩
  have eT:PyData.tuple ((ay s lv').map PyData.int)=tI (ay s lv'):=rfl
  simp_arith [bA,s1,eT]
  exact cD ⟨lv',r',rfl⟩
theorem turn (J2 J3 J4 J5 J6 J7 J8 J9 J10 J11 J12 J13:Sl):Al (qd [.un,.pen,J2,J3,J4,J5,J6,J7,J8,J9,J10,J11,J12,J13]) 100 λo=>∃ K3 K4 K5 K6 K7 K8 K9 K10 K11 K12 K13:Sl,o=.next [.un,.pen,J2,K3,K4,K5,K6,K7,K8,K9,K10,K11,K12,K13]:=by
 simp_arith [qd,bA]
 refine dX (n:=60) (n':=40) (ZjI (few:=4) (by decide) (by decide)) (by decide) ?_
 rintro _ ⟨s,one,rfl,c⟩
 obtain ⟨lv,L⟩:=c.lst
 have hn:=c.dr.ok.n_eq
 have t0:=c.dr.ok.t0
 have d0:=c.dr.ok.d0
 have n8:=c.n8
 have e1:=L.e
 unfold mJ at e1
 have en:s.top+s.depth+1=(s.n:Int):=by omega
 have r1:dN [.int (s.n:Int)]=.ret (aR 0 s.n):=fA (c8 (by omega) (by omega))
 have r2:dN [.int 2]=.ret [.int 0,.int 1]:=fA rfl
 have hs:small (aR 0 (s.n:Int)).length=true:=bK (by rw [cI]; omega)
 have e2:aV (bM (ah 0) ku [.un,.d s.d]) (aR 0 s.n)=.ret ((ay s λi=>(i:Int) - s.depth).map PyData.int):=by
  rw [ZbI]
  unfold ay
  have key:∀ l:List Nat,aV (bM (ah 0) ku [.un,.d s.d]) (l.map λk:Nat=>PyData.int k)=.ret ((l.map λi:Nat=>(i:Int) - s.depth).map PyData.int):=by
   intro l
   induction l with
   | nil=>rfl
   | cons i l ih =>
    have e0:bM (ah 0) ku [.un,.d s.d] (.int (i:Int))=.ret (.int ((i:Int) - s.depth)):=by
     simp_arith [ku]
    rw [List.map_cons,aV,e0,Tr.ret_bind,ih]
    rfl
  exact key _
 have ro:=ZkU L.r
 have eT:∀ g:Nat->Int,PyData.tuple ((ay s g).map PyData.int)=tI (ay s g):=λ_=>rfl
 have hem:=ZgR L.r
 have hne:=Zln (zB s one lv 0) (av s one lv)
 have rule:=λ(lv':Nat->Int) (r':RuOk s one lv')=>ZjQ c L r'
 generalize hE:bC (zB s one lv 0) (av s one lv)=E at *
 generalize (PyData.tuple ((au (-s.depth) ↑s.n).map λx=>bC (wB s one lv x) (av s one lv)))=Wt at *
 simp_arith [bA,e1,en,r1,hs,e2,eT,r2,c9]
 refine dX (n:=9) (n':=31) (drawn L.r (by simp) _ _ _ _ _ _ _ _ _ _) (by decide) ?_
 rintro _ ⟨g1,rg1,rfl⟩
 simp_arith [bA,c9]
 refine dX (n:=9) (n':=22) (drawn L.r (by simp) _ _ _ _ _ _ _ _ _ _) (by decide) ?_
 rintro _ ⟨g2,rg2,rfl⟩
 have rp:=ZjT c ro L.r rg1 rg2
 have it:∀ xs:List PyData,cf (.list xs)=.ret xs:=λ_=>rfl
 generalize hR:PyData.list [tI (ay s λi=>(i:Int) - s.depth),tI (ay s lv),tI (ay s g1),tI (ay s g2)]=RS at *
 have itR:cf RS=.ret [tI (ay s λi=>(i:Int) - s.depth),tI (ay s lv),tI (ay s g1),tI (ay s g2)]:=by rw [<- hR]; rfl
 obtain ⟨q1,h1⟩:=rule _ ro .un .pen J2 (.d Wt) (.d (tI (ay s lv))) (.d (.int s.n)) (.d RS) (.d (.int 1)) (.d (.str (PyData.tuple [s.d,tI one,RS]).shown)) J13
 obtain ⟨q2,h2⟩:=rule _ L.r .un .pen J2 (.d Wt) (.d (tI (ay s lv))) (.d (.int s.n)) (.d RS) (.d (.int 1)) (.d (.str (PyData.tuple [s.d,tI one,RS]).shown)) q1
 obtain ⟨q3,h3⟩:=rule _ rg1 .un .pen J2 (.d Wt) (.d (tI (ay s lv))) (.d (.int s.n)) (.d RS) (.d (.int 1)) (.d (.str (PyData.tuple [s.d,tI one,RS]).shown)) q2
 obtain ⟨q4,h4⟩:=rule _ rg2 .un .pen J2 (.d Wt) (.d (tI (ay s lv))) (.d (.int s.n)) (.d RS) (.d (.int 1)) (.d (.str (PyData.tuple [s.d,tI one,RS]).shown)) q3
 simp_arith [bA,hR,ZeN rp,itR,c9,h1,h2,h3,h4,hem,hne,ZaP,Bool.not_true]
 exact cD ⟨_,_,_,_,_,_,_,_,_,_,_,rfl⟩
theorem law_true:Al (mC p8) 2000 λo=>o=.ret (.d (.bool true)):=by
 have r3:dN [.int 4]=.ret (aR 0 4):=fA rfl
 simp_arith [mC,p8,bA,r3]
 refine dX (n:=400) (n':=0) (P:=λo=>∃ ρ,o=.next ρ) ?_ (by decide) ?_
 ·refine Zot (n:=100) (λρ=>∃ J2 J3 J4 J5 J6 J7 J8 J9 J10 J11 J12 J13:Sl,ρ=[.un,.pen,J2,J3,J4,J5,J6,J7,J8,J9,J10,J11,J12,J13]) ⟨_,_,_,_,_,_,_,_,_,_,_,_,rfl⟩ (by rw [cI]; decide) ?_ (λρ _=>⟨ρ,rfl⟩)
  rintro x ρ hx ⟨J2,J3,J4,J5,J6,J7,J8,J9,J10,J11,J12,J13,rfl⟩
  refine ⟨_,rfl,rn (turn (.d x) J3 J4 J5 J6 J7 J8 J9 J10 J11 J12 J13) (Nat.le_refl _) ?_⟩
  rintro _ ⟨K3,K4,K5,K6,K7,K8,K9,K10,K11,K12,K13,rfl⟩
  exact ⟨_,rfl,_,_,_,_,_,_,_,_,_,_,_,_,rfl⟩
 ·rintro _ ⟨ρ,rfl⟩
  simp_arith [bA]
  exact cD rfl
end My
set_option Elab.async false
set_option linter.all false
set_option maxRecDepth 100000
open PySem PySem.W PyProof.Rows L2
theorem My.g_mk {K:PySem.W.Frag} {mg:Str->Option Value} {h:Heap} (X:K.In h) (G:h.Ns mainGlobals mg) {n:Str} {v:Int} {t:Tok} (z:PySem.W.nsIn K mainGlobals n=some (some (.int v t))):∃ t,mg n=some (.int v t):=⟨_,PySem.W.mg_of X G z⟩
set_option maxRecDepth 100000 in
set_option maxHeartbeats 0 in
theorem PySem.Challenge.cw_twomarks_k39_means_of_rules_holds : PySem.Challenge.rw_twomarks_k39_means_of_rules.Holds := by
 refine My.hd ?_
 k_fill
 refine L2.Ziu (l:=PySem.Challenge.rw_twomarks_k39_means_of_rules) (n:=63) (k:=8) (x:="_law_script") (CX:=gi) (sp:=L2.ZaR) rfl (by decide) rfl ⟨rfl,by decide,by decide,rfl⟩ (λw h Y=>PySem.W.kIn_of Y) ?F ?S ?C
 case F =>
  intro w mg fa h KX G hmg
  have T:My.Txt (L2.KOf KX) mg:=by
   dsimp only [L2.KOf]
   constructor
   all_goals first
    | (refine PySem.W.mg_none_of KX G ?_; k_is)
    | (refine' My.g_mk KX G ?z; (case z=>k_is))
    | (refine' L2.ZmW KX G ?a ?l ?c ?k ?b; (case a=>k_is); (case l=>k_is); (case c=>k_is); (case k=>k_is); (case b=>intro _ _ _ _ _ _ us hl; first | (obtain ⟨_,rfl⟩:=L2.Zc8 hl; rfl) | (obtain ⟨_,_,rfl⟩:=L2.Zc7 hl; rfl) | (obtain ⟨_,_,_,rfl⟩:=L2.Zc6 hl; rfl) | (obtain ⟨_,_,_,_,rfl⟩:=L2.Zc5 hl; rfl) | (obtain ⟨_,_,_,_,_,rfl⟩:=L2.ZlR hl; rfl)))
  obtain ⟨f,fd,F,hm,_⟩:=T.Zna.ex
  have e0:=hmg.symm.trans hm
  cases e0
  refine ⟨fd,?_,λbase _ _=>My.Zk8 T F (L2.Tr.ok_mono (L2.Tr.all_ok My.law_true.out (by decide)) λ_ _ h=>h.2)⟩
  obtain ⟨oc,od,kV,doc,pm,an,cdv,ct,osl,rfl,lk,hcd⟩:=F.ex
  exact λs u=>.of_eq rfl
 case S=>exact λK H a ns hl _ hS=>⟨a,ns,rfl,hS,hl,λ_=>rfl⟩
 case C=>exact λ_ _ _ _ z=>z
