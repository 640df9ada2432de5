import PyProof.Rows.All
import Wide.All
import OpenK.AllK
import Wide.FinOn
import Lean
import PyProof.EqAt
import PyProof.EqKinds
import PyProof.TupleCall
import PySem.Challenge.RW_twomarks_k45_later_and_dearer
set_option Elab.async false
set_option linter.all false
set_option maxRecDepth 100000
set_option maxHeartbeats 0
noncomputable abbrev My.vw : PySem.Program := PySem.W.view
 PySem.Challenge.rw_twomarks_k45_later_and_dearer.row.prog [1, 2, 3, 5, 6, 8, 9, 10, 11, 12, 13, 14, 15, 16, 17, 18, 19, 20, 21, 23, 24, 26, 27, 28, 29, 31, 33, 34, 35, 36, 37, 38, 39, 40, 41, 42, 43, 44, 46, 47, 48, 49, 50, 51, 52, 53, 54, 55, 56, 57, 58, 59]
open PySem PySem.W in
theorem My.hd_l {p q:Program} {loose:List Str} {Xt:Shared->Bool} {α:Type} {Yf:Shared->α} {Ya:World->α} {N:Nat} (a:∀ w,(openEnds treeTable p w N).map (λs=>openSeen q loose (importedModules p.main.body) Xt true s)=some (openGood q loose)) (b:∀ w,(openEnds treeTable p w N).map Yf=some (Ya w)):LeftO p q loose Xt Yf Ya N:=λw=>by
 have h:=a w
 have g:=b w
 cases e:openEnds treeTable p w N with
 | none=>rw [e] at h;exact nomatch h
 | some s=>rw [e,Option.map_some] at h g;rw [Option.map_some,Option.some.inj h,Option.some.inj g]
theorem My.hd_b {A B C H:Prop} (f:A->B->C->H) (p:A∧B∧C):H:=f p.1 p.2.1 p.2.2
local macro_rules
 | `(tactic| o_head $H:term) => `(tactic| (
  refine My.hd_b (λa b c => PySem.W.holds_open (q := My.vw) (loose := [])
   (Xt := λs => PySem.W.xlAt My.vw [] s && PySem.W.recOk
    (PySem.W.RowW.records PySem.Challenge.rw_twomarks_k45_later_and_dearer.row.toRowW) s)
   (XP := PySem.W.XL My.vw []) (Yf := ($H).obs)
   (Ya := ($H).val) (YP := ($H).says) (N := 20000) (My.hd_l a b)
   ($H).of ($H).keeps (λs e => PySem.W.xl_of s
    (Bool.and_eq_true_iff.mp e).1) PySem.W.XL.keeps
   (by rfl) (by rfl) (by rfl)
   (λs e => PySem.W.recFacts_of
    (Bool.and_eq_true_iff.mp e).2)
   (by rfl) ?k1 (by decide +kernel)
   ⟨rfl, rfl, rfl, rfl, rfl, by decide +kernel⟩ ?hw c) ?hc
  (case k1 => assumption)))
open_top My.hd_0 for PySem.Challenge.rw_twomarks_k45_later_and_dearer
noncomputable def My.hd_1:=λb c=>My.hd_0 ⟨λw=>by kernel_rfl,b,c⟩
noncomputable def My.hd:=λc=>My.hd_1 (λw=>by kernel_rfl) c
set_option maxHeartbeats 4000000
namespace L2
open PySem PySem.Spec PyProof.Rows
noncomputable abbrev bb:=Sum Int Str
noncomputable def iL:bb->Value->Bool
 | .inl k,v=>Value.isInt k v
 | .inr x,v=>Value.isStrOf x v
noncomputable def ZiM (w:World):bb->Int
 | .inl k=>hashInt k
 | .inr x=>hashStr w x
theorem fQ:∀ {k:bb} {v:Value},iL k v=true->(∃ i t,k=Sum.inl i/\v=Value.int i t)\/(∃ x t,k=Sum.inr x/\v=Value.str x t)
 | .inl i,v,h=>by
  obtain ⟨t,e⟩:=Value.isInt_shape (k:=i) (v:=v) h
  exact .inl ⟨i,t,rfl,e⟩
 | .inr x,v,h=>by
  obtain ⟨t,e⟩:=Value.isStrOf_shape (x:=x) (v:=v) h
  exact .inr ⟨x,t,rfl,e⟩
theorem ZiL (i:Int) (t:Tok):iL (.inl i) (.int i t)=true:=by simp [iL,Value.isInt]
theorem ZiK (x:Str) (t:Tok):iL (.inr x) (.str x t)=true:=by simp [iL,Value.isStrOf]
theorem ZiJ (a b:Int):decide ((Sum.inl a:bb)=Sum.inl b)=(a == b):=by
 by_cases e:a=b
 ·subst e; simp
 ·have h:¬ (Sum.inl a:bb)=Sum.inl b:=λq=>e (Sum.inl.inj q)
  rw [decide_eq_false h]
  exact (beq_eq_false_iff_ne.mpr e).symm
theorem ZiG (a b:Str):decide ((Sum.inr a:bb)=Sum.inr b)=decide (a=b):=by
 by_cases e:a=b
 ·subst e; simp
 ·have h:¬ (Sum.inr a:bb)=Sum.inr b:=λq=>e (Sum.inr.inj q)
  rw [decide_eq_false h,decide_eq_false e]
theorem ZiI (a:Int) (b:Str):decide ((Sum.inl a:bb)=Sum.inr b)=false:=decide_eq_false (λq=>nomatch q)
theorem ZiH (a:Str) (b:Int):decide ((Sum.inr a:bb)=Sum.inl b)=false:=decide_eq_false (λq=>nomatch q)
noncomputable def cK (prog:Program) (w:World):PySem.KeyKind prog w bb where
 is:=iL
 hash:=ZiM w
 inj:=λv a b ha hb=>by
  rcases fQ ha with ⟨i,t,rfl,rfl⟩ | ⟨x,t,rfl,rfl⟩
  ·rcases fQ hb with ⟨j,u,rfl,e⟩ | ⟨y,u,rfl,e⟩
   ·injection e with e1 _; rw [e1]
   ·exact nomatch e
  ·rcases fQ hb with ⟨j,u,rfl,e⟩ | ⟨y,u,rfl,e⟩
   ·exact nomatch e
   ·injection e with e1 _; rw [e1]
 byValue:=λk v h=>by
  rcases fQ h with ⟨i,t,rfl,rfl⟩ | ⟨x,t,rfl,rfl⟩ <;> rfl
 pyHash:=λhv h=>by
  rcases fQ hv with ⟨i,t,rfl,rfl⟩ | ⟨x,t,rfl,rfl⟩
  ·exact wpAny_pyHash_int h
  ·exact wpAny_pyHash_str h
 eqBool:=λhu hv h=>by
  rcases fQ hu with ⟨i,t,rfl,rfl⟩ | ⟨x,t,rfl,rfl⟩
  ·rcases fQ hv with ⟨j,u,rfl,rfl⟩ | ⟨y,u,rfl,rfl⟩
   ·rw [ZiJ] at h; exact wpAny_eqBool_int h
   ·rw [ZiI] at h; exact SeqAt.EqAt.int_str i t y u _ _ _ _ h
  ·rcases fQ hv with ⟨j,u,rfl,rfl⟩ | ⟨y,u,rfl,rfl⟩
   ·rw [ZiH] at h; exact SeqAt.EqAt.str_int x t j u _ _ _ _ h
   ·rw [ZiG] at h; exact wpAny_eqBool_str h
 «strs»:=λk x t v h=>by
  rcases fQ h with ⟨i,u,rfl,e⟩ | ⟨y,u,rfl,e⟩
  ·exact nomatch e
  ·injection e with e1 _
   subst e1
   cases v <;> rfl
theorem Zcu (prog:Program) (w:World) (i:Int) (t:Tok):(cK prog w).is (.inl i) (.int i t)=true:=ZiL i t
theorem Zia (prog:Program) (w:World) (x:Str) (t:Tok):(cK prog w).is (.inr x) (.str x t)=true:=ZiK x t
inductive V where
 | non | bl (b:Bool) | int (i:Int) | str (x:Str) | byt (b:Array UInt8) | flt (b:UInt64) | ref (a:Addr) | ty (n:String)
 deriving DecidableEq
noncomputable def RelV:V->Value->Prop
 | .non,u=>u=Value.none
 | .bl b,u=>u=Value.bool b
 | .int i,u=>∃ t,u=Value.int i t
 | .str x,u=>∃ t,u=Value.str x t
 | .byt b,u=>∃ t,u=Value.bytes b t
 | .flt b,u=>∃ t,u=Value.float b t
 | .ref a,u=>u=Value.ref a
 | .ty n,u=>u=Value.type n
noncomputable abbrev Vals:List V->List Value->Prop:=Paired RelV
theorem Vals.length {xs:List V} {us:List Value} (r:Vals xs us):xs.length=us.length:=Paired.length r
theorem Vals.get {xs:List V} {us:List Value} {i:Nat} {x:V} (h:Vals xs us) (e:xs[i]?=some x):∃ u,us[i]?=some u/\RelV x u:=by
 induction h generalizing i with
 | nil=>cases e
 | cons r t ih=>cases i with | zero=>cases e; exact ⟨_,rfl,r⟩ | succ i=>exact ih (i:=i) e
theorem Vals.set {x:V} {u:Value} (r:RelV x u) {xs:List V} {us:List Value} (i:Nat) (h:Vals xs us):Vals (xs.set i x) (us.set i u):=by
 induction h generalizing i with
 | nil=>exact .nil
 | cons q t ih=>cases i with | zero=>exact .cons r t | succ i=>exact .cons q (ih i)
theorem Vals.append {xs ys:List V} {us ws:List Value} (h:Vals xs us) (s:Vals ys ws):Vals (xs++ys) (us++ws):=by
 induction h with
 | nil=>exact s
 | cons r t ih=>exact .cons r ih
theorem Vals.take {xs:List V} {us:List Value} (n:Nat) (h:Vals xs us):Vals (xs.take n) (us.take n):=by
 induction h generalizing n with
 | nil=>rw [List.take_nil,List.take_nil]; exact .nil
 | cons r t ih=>cases n with | zero=>exact .nil | succ n=>exact .cons r (ih n)
theorem Vals.drop {xs:List V} {us:List Value} (n:Nat) (h:Vals xs us):Vals (xs.drop n) (us.drop n):=by
 induction h generalizing n with
 | nil=>rw [List.drop_nil,List.drop_nil]; exact .nil
 | cons r t ih=>cases n with | zero=>exact .cons r t | succ n=>exact ih n
theorem Vals.none_of:∀ {xs:List V} {us:List Value} {i:Nat},Vals xs us->xs[i]?=none->us[i]?=none:=λ{xs us i} r e=>by
 have h1:=r.length
 have h2:xs.length<=i:=List.getElem?_eq_none_iff.mp e
 exact List.getElem?_eq_none_iff.mpr (by omega)
noncomputable def RelO:Option V->Option Value->Prop
 | some v,some u=>RelV v u
 | none,none=>True
 | _,_=>False
noncomputable def KV {κ:Type}:List (κ×V)->List (κ×Value)->Prop:=Paired λ(p:κ×V) (q:κ×Value)=>p.1=q.1/\RelV p.2 q.2
noncomputable def kV:bb->V
 | .inl i=>.int i
 | .inr x=>.str x
inductive HO where
 /-- a list -/
 | lst (xs:List V)
 /-- a tuple (never changes) -/
 | tup (xs:List V)
 /-- a dict whose keys are ints and texts; one whose keys are tuples of ints and texts (the empty one is both) -/
 | dK (kvs:List (bb×V)) | dT (kvs:List (List bb×V))
 /-- a set of ints: its members,its size -/
 | set (S:Int->Bool) (n:Nat)
 /-- an instance of the class at C,its dict at dx,its attributes -/
 | ins (C dx:Addr) (fs:List (Str×V))
 /-- the dict of the instance at x -/
 | own (x:Addr)
 /-- the dict of an exception -/
 | xd (fs:List (Str×V))
 /-- a bound method,f of x -/
 | met (f x:Addr)
 /-- a range object lo,lo+1,.. below hi -/
 | rng (lo hi:Int)
 /-- a thing that is known to the object (the script; a dict while a loop walks it): read,never written while it is so -/
 | frz (o:Obj) (u:HO)
 /-- a code object's table -/
 | tbl (ps:Array Value)
 /-- any other thing,by what is true of its one object (a def of one's own: SetO a S n:=HO.ext λh=>..) -/
 | ext (φ:Heap->Prop)
noncomputable abbrev Hp:=Addr->Option HO
noncomputable def upd (H:Hp) (a:Addr) (o:HO):Hp:=λb=>if b=a then some o else H b
theorem bW {H:Hp} {a:Addr} {o:HO}:upd H a o a=some o:=by unfold upd; rw [if_pos rfl]
theorem aM {H:Hp} {a b:Addr} {o:HO} (h:b≠a):upd H a o b=H b:=by unfold upd; rw [if_neg h]
theorem cv {H:Hp} {a b:Addr} {o:HO} (h:H a=some o) (h':H b=none):a≠b:=by
 intro e; subst e; rw [h] at h'; cases h'
section
variable (P:Program) (w:World)
noncomputable def ObjOk (H:Hp) (h:Heap) (a:Addr):HO->Prop
 | .lst xs=>xs.length<=sizeLine/\∃ (its:List Value) (n:Nat),Vals xs its/\h.get? a=some { cls:=.type "list",data:=.seq its.toArray n }
 | .tup xs=>xs.length<=sizeLine/\∃ its:List Value,Vals xs its/\IsTup h a its.toArray
 | .dK kvs=>kvs.length<=sizeLine/\(a == sysModules)=false/\∃ vs,KV kvs vs/\h.DictOf (cK P w) a vs
 | .dT kvs=>kvs.length<=sizeLine/\(a == sysModules)=false/\∃ xs:List (List bb×Addr×Value),
   Paired (λ(p:List bb×V) (q:List bb×Addr×Value)=>p.1=q.1/\H q.2.1=some (.tup (p.1.map kV))/\RelV p.2 q.2.2) kvs xs /\
   ∃ o es ep,h.get? a=some o/\o.ExactDict/\o.data=.dict es ep/\es.toList=xs.map (entryOfKey (tupleKind (cK P w)))/\(xs.map (·.1)).Nodup
 | .set S n=>h.SetOf (intKind P w) a S n
 | .ins C dx fs=>H dx=some (.own a)/\fs.length<=1000/\dx≠a/\h.get? a=some (PySem.W.instObj C dx) /\
   ∃ mA,h.Ns1 dx mA/\(∀ f,RelO (fs.lookup f) (mA f))/\PySem.Within mA (fs.map (·.1))
 | .own _=>∃ o,h.get? a=some o
 | .xd fs=>∃ mA,h.Ns1 a mA/\∀ f,RelO (fs.lookup f) (mA f)
 | .rng lo hi=>∃ t u v,h.get? a=some { cls:=.type "range",data:=.fields #[.int lo t,.int hi u,.int 1 v] }
 | .frz o u=>h.get? a=some o/\ObjOk H h a u
 | .tbl ps=>h.get? a=some { cls:=.none,data:=.fields ps }
 | .met f x=>h.get? a=some (PySem.W.methodObj (.ref f) (.ref x))
 | .ext φ=>φ h/\(∃ o,h.get? a=some o)/\∀ h1 h2:Heap,φ h1->(∀ o,h1.get? a=some o->h2.get? a=some o)->φ h2
noncomputable def HOk (H:Hp) (h:Heap):Prop:=∀ a o,H a=some o->ObjOk P w H h a o
end
section
variable {P:Program} {w:World} {H H':Hp} {h h':Heap} {a:Addr} {o:HO}
theorem ObjOk.lt (x:ObjOk P w H h a o):a < h.objs.size:=by
 cases o with
 | lst xs=>obtain ⟨_,_,_,_,e⟩:=x; exact Heap.lt_size e
 | tup xs=>obtain ⟨_,_,_,p⟩:=x; exact p.lt
 | dK kvs=>obtain ⟨_,_,_,_,o,_,_,e,_⟩:=x; exact Heap.lt_size e
 | dT kvs=>obtain ⟨_,_,_,_,o,_,_,e,_⟩:=x; exact Heap.lt_size e
 | set S n=>obtain ⟨o,_,_,_,e,_⟩:=x; exact Heap.lt_size e
 | ins C dx fs=>obtain ⟨_,_,_,e,_⟩:=x; exact Heap.lt_size e
 | own y=>obtain ⟨_,e⟩:=x; exact Heap.lt_size e
 | xd fs=>obtain ⟨_,⟨_,_,_,e,_⟩,_⟩:=x; exact Heap.lt_size e
 | rng lo hi=>obtain ⟨_,_,_,e⟩:=x; exact Heap.lt_size e
 | frz ob u=>obtain ⟨e,_⟩:=x; exact Heap.lt_size e
 | tbl ps=>exact Heap.lt_size (show h.get? a=some _ from x)
 | met f y=>exact Heap.lt_size (show h.get? a=some _ from x)
 | ext φ=>obtain ⟨_,⟨_,e⟩,_⟩:=x; exact Heap.lt_size e
theorem Paired.mapP {α β:Type} {F G:α->β->Prop} {l₁:List α} {l₂:List β} (h:Paired F l₁ l₂) (f:∀ a b,F a b->G a b):Paired G l₁ l₂:=by
 induction h with
 | nil=>exact .nil
 | cons r t ih=>exact .cons (f _ _ r) ih
theorem ObjOk.stay (x:ObjOk P w H h a o) (k:∀ b u,(b=a\/H b=some (.own a))->h.get? b=some u->h'.get? b=some u)
  (ho:∀ b,H b=some (.own a)->H' b=some (.own a)) (ht:∀ b xs,H b=some (.tup xs)->H' b=some (.tup xs)):ObjOk P w H' h' a o:=by
 induction o with
 | lst xs=>obtain ⟨z,its,n,r,e⟩:=x; exact ⟨z,its,n,r,k _ _ (.inl rfl) e⟩
 | tup xs=>obtain ⟨z,its,r,ob,e,c⟩:=x; exact ⟨z,its,r,ob,k _ _ (.inl rfl) e,c⟩
 | dK kvs=>obtain ⟨z,y,vs,r,ob,es,ep,e,c⟩:=x; exact ⟨z,y,vs,r,ob,es,ep,k _ _ (.inl rfl) e,c⟩
 | dT kvs =>
  obtain ⟨z,y,xs,r,ob,es,ep,e,c⟩:=x
  exact ⟨z,y,xs,Paired.mapP r λp q z=>⟨z.1,ht _ _ z.2.1,z.2.2⟩,ob,es,ep,k _ _ (.inl rfl) e,c⟩
 | set S n=>obtain ⟨ob,es,ep,t,e,c⟩:=x; exact ⟨ob,es,ep,t,k _ _ (.inl rfl) e,c⟩
 | ins C dx fs =>
  obtain ⟨d,z,ne,e,mA,⟨od,es,ep,e2,c⟩,r⟩:=x
  exact ⟨ho _ d,z,ne,k _ _ (.inl rfl) e,mA,⟨od,es,ep,k _ _ (.inr d) e2,c⟩,r⟩
 | own y=>obtain ⟨ob,e⟩:=x; exact ⟨ob,k _ _ (.inl rfl) e⟩
 | xd fs=>obtain ⟨mA,⟨od,es,ep,e,c⟩,r⟩:=x; exact ⟨mA,⟨od,es,ep,k _ _ (.inl rfl) e,c⟩,r⟩
 | rng lo hi=>obtain ⟨t,u,v,e⟩:=x; exact ⟨t,u,v,k _ _ (.inl rfl) e⟩
 | frz ob u ih=>obtain ⟨e,q⟩:=x; exact ⟨k _ _ (.inl rfl) e,ih q⟩
 | tbl ps =>
  have e:h.get? a=some { cls:=.none,data:=.fields ps }:=x
  show h'.get? a=some { cls:=.none,data:=.fields ps }
  exact k a _ (.inl rfl) e
 | met f y =>
  have e:h.get? a=some (PySem.W.methodObj (.ref f) (.ref y)):=x
  show h'.get? a=some (PySem.W.methodObj (.ref f) (.ref y))
  exact k a _ (.inl rfl) e
 | ext φ=>obtain ⟨p,⟨o,e⟩,st⟩:=x; exact ⟨st _ _ p λo q=>k _ _ (.inl rfl) q,⟨o,k _ _ (.inl rfl) e⟩,st⟩
theorem HOk.lt (x:HOk P w H h) (e:H a=some o):a < h.objs.size:=(x a o e).lt
theorem HOk.fresh (x:HOk P w H h) (e:h.objs.size<=a):H a=none:=by
 cases q:H a with
 | none=>rfl
 | some u=>exact absurd (Nat.lt_of_lt_of_le (x.lt q) e) (Nat.lt_irrefl _)
theorem HOk.kept (x:HOk P w H h) (k:∀ b u,h.get? b=some u->h'.get? b=some u):HOk P w H h':=λa o e =>
 (x a o e).stay (λb u _ q=>k b u q) (λ_ q=>q) λ_ _ q=>q
theorem HOk.laid (x:HOk P w H h) (k:∀ b u,h.get? b=some u->h'.get? b=some u) (hp:h.objs.size<=a) (new:ObjOk P w (upd H a o) h' a o):HOk P w (upd H a o) h':=λb u e=>by
 have hn:=x.fresh hp
 by_cases hb:b=a
 ·subst hb; rw [bW] at e; cases e; exact new
 ·rw [aM hb] at e
  exact (x b u e).stay (λc v _ q=>k c v q) (λc q=>by rw [aM (cv q hn)]; exact q) λc xs q=>by rw [aM (cv q hn)]; exact q
end
noncomputable def Rd (H:Hp) (a:Addr) (u:HO):Prop:=H a=some u\/∃ o,H a=some (.frz o u)
theorem Rd.ok {P:Program} {w:World} {H:Hp} {h:Heap} {a:Addr} {u:HO} (r:Rd H a u) (x:HOk P w H h):ObjOk P w H h a u:=by
 rcases r with r | ⟨o,r⟩
 ·exact x a u r
 ·obtain ⟨_,q⟩:=x a _ r
  exact q
noncomputable def nH:Option HO->Prop
 | some (.lst _)=>True
 | some (.dK _)=>True
 | some (.dT _)=>True
 | some (.set _ _)=>True
 | some (.ins _ _ _)=>True
 | some (.ext _)=>True
 | _=>False
section
variable {P:Program} {w:World} {H:Hp} {h h':Heap} {x e:Addr} {o':HO}
theorem HOk.write (ok:HOk P w H h) (mu:nH (H x)) (he:e=x\/H e=some (.own x)) (k:∀ b u,b≠e->h.get? b=some u->h'.get? b=some u) (heo:∃ u,h'.get? e=some u)
  (new:ObjOk P w (upd H x o') h' x o'):HOk P w (upd H x o') h':=λb u q=>by
 have nown:∀ c y,H c=some (.own y)->c≠x:=λc y r z=>by subst z; rw [r] at mu; exact mu
 have ntup:∀ c xs,H c=some (.tup xs)->c≠x:=λc xs r z=>by subst z; rw [r] at mu; exact mu
 by_cases hb:b=x
 ·subst hb; rw [bW] at q; cases q; exact new
 ·rw [aM hb] at q
  by_cases hbe:b=e
  ·have q':H b=some (.own x):=by
    rcases he with z | z
    ·exact absurd (hbe.trans z) hb
    ·rw [hbe]; exact z
   rw [q] at q'; cases q'
   obtain ⟨v,hv⟩:=heo
   exact ⟨v,by rw [hbe]; exact hv⟩
  ·refine (ok b u q).stay (λc v hc r=>k c v ?_ r) (λc r=>by rw [aM (nown c b r)]; exact r) λc xs r=>by rw [aM (ntup c xs r)]; exact r
   rcases hc with rfl | hc
   ·exact hbe
   ·rintro rfl
    rcases he with z | z
    ·exact nown c b hc z
    ·rw [hc] at z; cases z; exact hb rfl
end
structure Un (fs ex:List Addr) (H H':Hp) (h h':Heap):Prop where
 keep:∀ b o,h.get? b=some o->H b=none->b ∉ fs->b ∉ ex->h'.get? b=some o
 slot:∀ b o,h.get? b=some o->H b=none->b∈fs->b ∉ ex->∃ sl,h'.get? b=some { o with slots:=sl }
 free:∀ b o,h.get? b=some o->H b=none->b ∉ ex->H' b=none
 there:∀ b o,h.get? b=some o->b ∉ ex->∃ o',h'.get? b=some o'
 tups:∀ b xs,H b=some (.tup xs)->H' b=some (.tup xs)
 frzs:∀ b o u,H b=some (.frz o u)->H' b=some (.frz o u)
 tbls:∀ b ps,H b=some (.tbl ps)->∃ more,H' b=some (.tbl (ps++more))
section
variable {fs fs' ex ex':List Addr} {H H1 H2:Hp} {h h1 h2 h':Heap} {a x e:Addr} {o:HO}
theorem Un.any (u:Un fs ex H H1 h h1) {b:Addr} {ob:Obj} (q:h.get? b=some ob) (n:H b=none) (hx:b ∉ ex):∃ sl,h1.get? b=some { ob with slots:=sl }:=by
 by_cases hb:b∈fs
 ·exact u.slot b ob q n hb hx
 ·exact ⟨ob.slots,u.keep b ob q n hb hx⟩
theorem Un.kept (k:∀ b u,h.get? b=some u->h'.get? b=some u):Un fs ex H H h h' :=
 ⟨λb ob q _ _ _=>k b ob q,λb ob q _ _ _=>⟨ob.slots,k b ob q⟩,λ_ _ _ n _=>n,λb ob q _=>⟨ob,k b ob q⟩,λ_ _ q=>q,λ_ _ _ q=>q,λ_ ps q=>⟨#[],by rw [q]; simp⟩⟩
theorem Un.refl:Un fs ex H H h h:=Un.kept λ_ _ q=>q
theorem Un.laid (k:∀ b u,h.get? b=some u->h'.get? b=some u) (hp:h.objs.size<=a) (hn:H a=none):Un fs ex H (upd H a o) h h' where
 keep:=λb u q _ _ _=>k b u q
 slot:=λb u q _ _ _=>⟨u.slots,k b u q⟩
 free:=λb u q n _=>by rw [aM (Nat.ne_of_lt (Nat.lt_of_lt_of_le (Heap.lt_size q) hp))]; exact n
 there:=λb u q _=>⟨u,k b u q⟩
 tups:=λb xs q=>by rw [aM (cv q hn)]; exact q
 frzs:=λb u xs q=>by rw [aM (cv q hn)]; exact q
 tbls:=λb ps q=>⟨#[],by rw [aM (cv q hn),q]; simp⟩
theorem Un.write (mu:nH (H x)) (he:e=x\/H e=some (.own x)) (k:∀ b u,b≠e->h.get? b=some u->h'.get? b=some u) (heo:∃ u,h'.get? e=some u):Un fs ex H (upd H x o) h h':=by
 have hx:∀ b,H b=none->b≠x:=λb n z=>by subst z; rw [n] at mu; exact mu
 have hb:∀ b,H b=none->b≠e:=λb n z=>by
  subst z
  rcases he with r | r
  ·exact hx b n r
  ·rw [n] at r; cases r
 have hm:∀ b u,H b=some u->¬ nH (some u)->b≠x:=λb u q nm z=>by subst z; rw [q] at mu; exact nm mu
 refine ⟨λb u q n _ _=>k b u (hb b n) q,λb u q n _ _=>⟨u.slots,k b u (hb b n) q⟩,λb u q n _=>by rw [aM (hx b n)]; exact n,λb u q _=>?_,
  λb xs q=>by rw [aM (hm b _ q λz=>z)]; exact q,λb u xs q=>by rw [aM (hm b _ q λz=>z)]; exact q,λb ps q=>⟨#[],by rw [aM (hm b _ q λz=>z),q]; simp⟩⟩
 by_cases hbe:b=e
 ·subst hbe; exact heo
 ·exact ⟨u,k b u hbe q⟩
end
noncomputable def trk (h:Heap) (H:Hp):List Addr:=(List.range h.objs.size).filter λa=>(H a).isSome
noncomputable def fS (h:Heap) (H:Hp):Heap:=PySem.W.hideAll h (trk h H)
theorem ZiX (h:Heap) (H:Hp):(fS h H).objs.size=h.objs.size:=PySem.W.hideAll_size _ _
theorem ZiY {h:Heap} {H:Hp} {b:Addr} {o:Obj} (e:h.get? b=some o) (n:H b=none):(fS h H).get? b=some o :=
 PySem.W.hideAll_get _ e λhm=>by
  have q:(H b).isSome=true:=(List.mem_filter.mp hm).2
  rw [n] at q; simp at q
theorem Zh0 {h:Heap} {H:Hp} {b:Addr} {o:Obj} (e:(fS h H).get? b=some o):h.get? b=some o/\H b=none:=by
 have e':h.get? b=some o:=PySem.W.of_hideAll (trk h H) e
 refine ⟨e',?_⟩
 cases q:H b with
 | none=>rfl
 | some x =>
  have hm:b∈trk h H:=List.mem_filter.mpr ⟨List.mem_range.mpr (Heap.lt_size e'),by simp [q]⟩
  have z:(fS h H).get? b=none:=PySem.W.hideAll_none (trk h H) hm
  rw [z] at e; cases e
noncomputable def ZnL (g h:Heap) (L:Addr):List (Addr×Obj):=(List.range h.objs.size).filterMap λa=>if a=L\/(g.get? a).isSome=true then none else (h.get? a).map λo=>(a,o)
noncomputable def rest (g h:Heap) (L d:Addr):List (Addr×Obj):=(ZnL g h L).filter λp=>decide (p.1≠d)
structure Mod (K:PySem.W.Frag) (mg:Str->Option Value) (base:Heap):Prop where
 kin:K.In base
 glob:base.Ns mainGlobals mg
 blt:∃ mb,base.Ns builtinsNs mb/\∀ x:Str,x≠"__name__"->mb x=bootBuiltins x
 nolimit:base.NoLimit
 nodig:base.NoDigits
structure Cx where
 prog:Program
 w:World
 K:PySem.W.Frag
 mg:Str->Option Value
 base:Heap
 A:Around
 N:List Str
 s₀:Shared
 H₀:Hp
 env:Env
 outer:List Env
 stack:List Env
 ex:List Addr
 fn:Str->Bool
 calm:Bool
 pn:List (Addr×Obj)
 xe:Value->Shared->Prop
noncomputable def frs (l:List Env):List Addr:=l.filterMap (·.frame)
noncomputable abbrev Cx.fs (X:Cx):List Addr:=frs X.outer
noncomputable def no (sc:Scope) (x:Str):Prop:=sc.names.lookup x=some .local\/sc.names.lookup x=some .cell\/sc.names.lookup x=some .free
noncomputable def kT (sc:Scope) (x:Str):Prop:=sc.names.lookup x=some .local\/sc.names.lookup x=some .cell
noncomputable def Zou (env:Env) (h:Heap) (m:Str->Option Value) (x:Str) (u:Value):Prop :=
 (env.kindOf x=some .local/\m x=some u)\/((env.kindOf x=some .cell\/env.kindOf x=some .free)/\∃ c,env.cells.lookup x=some c/\h.IsCell c (some u))
structure Cx.Ok (X:Cx):Prop where
 mod:Mod X.K X.mg X.base
 kind:X.env.scope.kind=.function
 glob:X.env.globals=mainGlobals
 blt:X.env.builtins=builtinsNs
 above:X.s₀.heap.objs.size<=X.env.locals
 inj:∀ x y c,X.env.cells.lookup x=some c->X.env.cells.lookup y=some c->x=y
 has:∀ x,(X.env.kindOf x=some .cell\/X.env.kindOf x=some .free)->∃ c,X.env.cells.lookup x=some c
 cab:∀ x c,X.fn x=true->X.env.cells.lookup x=some c->X.s₀.heap.objs.size<=c
 hd:X.calm=true->X.A.handled=none
 frames:X.A.frames=some X.stack
 stk:X.stack=X.outer\/(X.stack=X.env::X.outer/\X.env.frame=some X.env.locals)
 exf:∀ b∈X.ex,b≠X.env.locals/\∀ x c,X.env.cells.lookup x=some c->c≠b
 bs:∀ b o,X.base.get? b=some o->X.s₀.heap.get? b=some o/\X.H₀ b=none
 bsz:X.base.objs.size<=X.s₀.heap.objs.size
 noex:∀ b o,X.base.get? b=some o->b ∉ X.ex
 exfs:∀ b∈X.ex,b ∉ X.fs
 funs:X.s₀.heap.FunFrames X.base X.outer
 frf:∀ b∈X.fs,X.H₀ b=none
structure Inv (X:Cx) (pins:List (Addr×Obj)) (σ:List (Option V)) (H:Hp) (s:Shared):Prop where
 ok:X.Ok
 os:s.os=X.s₀.os
 bare:AllBare s.gens
 base:Un X.fs X.ex X.H₀ H X.s₀.heap s.heap
 loc:∃ m,s.heap.Ns X.env.locals m/\∀ (i:Nat) (x:Str) (v:V),X.N[i]?=some x->σ[i]?=some (some v)->no X.env.scope x->∃ u,RelV v u/\Zou X.env s.heap m x u
 cell:∀ x c,X.env.cells.lookup x=some c->∃ v,s.heap.IsCell c v
 free:H X.env.locals=none
 freeC:∀ x c,X.env.cells.lookup x=some c->H c=none
 pin:∀ p∈X.pn++pins,s.heap.get? p.1=some p.2/\H p.1=none/\p.1≠X.env.locals/\p.1 ∉ X.fs/\∀ v,p.2.data≠.cell v
 hok:HOk X.prog X.w H s.heap
 len:σ.length=X.N.length
section
variable {X:Cx} {pins:List (Addr×Obj)} {σ:List (Option V)} {H H':Hp} {s:Shared} {h':Heap}
theorem Cx.Ok.nofr (ok:X.Ok) {b:Addr} {o:Obj} (e:X.base.get? b=some o):b ∉ X.fs:=λhb=>by
 have:=(ok.funs.mem hb).1
 rw [e] at this; cases this
theorem Inv.bs (I:Inv X pins σ H s):∀ b o,X.base.get? b=some o->s.heap.get? b=some o/\H b=none:=λb o e =>
 ⟨I.base.keep b o (I.ok.bs b o e).1 (I.ok.bs b o e).2 (I.ok.nofr e) (I.ok.noex b o e),I.base.free b o (I.ok.bs b o e).1 (I.ok.bs b o e).2 (I.ok.noex b o e)⟩
theorem Inv.bk (I:Inv X pins σ H s):∀ b o,X.base.get? b=some o->s.heap.get? b=some o:=λb o e=>(I.bs b o e).1
theorem Inv.mod (I:Inv X pins σ H s):Mod X.K X.mg X.base:=I.ok.mod
theorem Inv.kIn (I:Inv X pins σ H s):X.K.In s.heap:=I.ok.mod.kin.keeps I.bk
theorem Inv.lt (I:Inv X pins σ H s):X.env.locals < s.heap.objs.size:=let ⟨_,hn,_⟩:=I.loc; hn.lt
theorem Inv.sz (I:Inv X pins σ H s):X.s₀.heap.objs.size<=s.heap.objs.size:=Nat.le_trans I.ok.above (Nat.le_of_lt I.lt)
theorem Inv.nofs (I:Inv X pins σ H s) {a:Addr} (h:s.heap.objs.size<=a):a ∉ X.fs:=λhb=>by
 obtain ⟨_,o,ho,_⟩:=I.ok.funs.mem hb
 exact absurd (Nat.lt_of_lt_of_le (Heap.lt_size ho) (Nat.le_trans I.sz h)) (Nat.lt_irrefl _)
theorem Inv.cne (I:Inv X pins σ H s):∀ x c,X.env.cells.lookup x=some c->c≠X.env.locals:=λx c e z=>by
 obtain ⟨v,o,ho,hd⟩:=I.cell x c e
 obtain ⟨m,⟨o',es,ep,ho',hd',_⟩,_⟩:=I.loc
 rw [z,ho'] at ho; cases ho; rw [hd'] at hd; cases hd
theorem Inv.funs (I:Inv X pins σ H s):s.heap.FunFrames X.base X.outer:=by
 have all:∀ (l:List Env),(∀ b∈frs l,b∈X.fs)->X.s₀.heap.FunFrames X.base l->s.heap.FunFrames X.base l:=by
  intro l
  induction l with
  | nil=>intro _ _; trivial
  | cons env r ih =>
   intro hs hl
   obtain ⟨hk,⟨L,o,hf,hn,ho,hd⟩,hr⟩:=hl
   have hL:L∈X.fs:=hs L (by unfold frs; rw [List.filterMap_cons,hf]; exact List.mem_cons_self)
   obtain ⟨sl,e⟩:=I.base.slot L o ho (I.ok.frf L hL) hL λz=>I.ok.exfs L z hL
   exact ⟨hk,⟨L,_,hf,hn,e,hd⟩,ih (λb hb=>hs b (by unfold frs; rw [List.filterMap_cons,hf]; exact List.mem_cons_of_mem _ hb)) hr⟩
 exact all X.outer (λ_ hb=>hb) I.ok.funs
theorem Inv.stack (I:Inv X pins σ H s):s.heap.FunFrames X.base X.stack:=by
 rcases I.ok.stk with e | ⟨e,hf⟩
 ·rw [e]; exact I.funs
 ·rw [e]
  obtain ⟨m,hn,_⟩:=I.loc
  refine .cons (by rw [I.ok.kind]; decide) hf hn ?_ I.funs
  exact Heap.get?_none_of_le (Nat.le_trans I.ok.bsz I.ok.above)
theorem Inv.stkSub (I:Inv X pins σ H s):∀ b∈frs X.stack,b∈X.env.locals::X.fs:=λb hb=>by
 rcases I.ok.stk with e | ⟨e,hf⟩
 ·rw [e] at hb; exact List.mem_cons_of_mem _ hb
 ·rw [e] at hb
  unfold frs at hb
  rw [List.filterMap_cons,hf] at hb
  exact hb
theorem Inv.stkFree (I:Inv X pins σ H s):∀ b∈frs X.stack,H b=none:=λb hb=>by
 rcases List.mem_cons.mp (I.stkSub b hb) with e | hb
 ·rw [e]; exact I.free
 ·obtain ⟨_,o,ho,_⟩:=I.ok.funs.mem hb
  exact I.base.free b o ho (I.ok.frf b hb) λz=>I.ok.exfs b z hb
theorem Inv.step {g':Array GenState} {t':Nat} {d':Drawn} {ch:List Addr} (I:Inv X pins σ H s)
  (hch:∀ b∈ch,(b∈X.ex\/X.s₀.heap.objs.size<=b)/\b≠X.env.locals/\(∀ x c,X.env.cells.lookup x=some c->c≠b)/\∀ p∈X.pn++pins,p.1≠b)
  (keep:∀ b o,b≠X.env.locals->b ∉ X.fs->b ∉ ch->s.heap.get? b=some o->H b=none->h'.get? b=some o)
  (slot:∀ b o,b≠X.env.locals->b∈X.fs->b ∉ ch->s.heap.get? b=some o->H b=none->∃ sl,h'.get? b=some { o with slots:=sl }) (free:∀ b o,b ∉ ch->s.heap.get? b=some o->H b=none->H' b=none)
  (there:∀ b o,b ∉ ch->s.heap.get? b=some o->∃ o',h'.get? b=some o')
  (tups:∀ b xs,H b=some (.tup xs)->H' b=some (.tup xs)) (frzs:∀ b o u,H b=some (.frz o u)->H' b=some (.frz o u)) (tbls:∀ b ps,H b=some (.tbl ps)->∃ more,H' b=some (.tbl (ps++more)))
  (ns:∀ m,s.heap.Ns X.env.locals m->h'.Ns X.env.locals m) (hok:HOk X.prog X.w H' h') (hg:AllBare g') :
  Inv X pins σ H' { s with heap:=h',gens:=g',drawn:=d',toks:=t' }:=by
 have neL:∀ b o,X.s₀.heap.get? b=some o->b≠X.env.locals:=λb o e=>Nat.ne_of_lt (Nat.lt_of_lt_of_le (Heap.lt_size e) I.ok.above)
 have neC:∀ b o,X.s₀.heap.get? b=some o->b ∉ X.ex->b ∉ ch:=λb o e hx hb=>by
  rcases (hch b hb).1 with z | z
  ·exact hx z
  ·exact absurd (Nat.lt_of_lt_of_le (Heap.lt_size e) z) (Nat.lt_irrefl _)
 have cellK:∀ x c,X.env.cells.lookup x=some c->∀ v,s.heap.IsCell c v->h'.IsCell c v:=λx c e v hz0=>by
  obtain ⟨o,ho,hd⟩:=hz0
  have nch:c ∉ ch:=λz=>(hch c z).2.2.1 x c e rfl
  by_cases hc:c∈X.fs
  ·obtain ⟨sl,q⟩:=slot c o (I.cne x c e) hc nch ho (I.freeC x c e)
   exact ⟨_,q,hd⟩
  ·exact ⟨o,keep c o (I.cne x c e) hc nch ho (I.freeC x c e),hd⟩
 refine ⟨I.ok,I.os,hg,⟨λb o e n hb hx=>?_,λb o e n hb hx=>?_,λb o e n hx=>?_,λb o e hx=>?_,λb xs e=>tups b xs (I.base.tups b xs e),λb o xs e=>frzs b o xs (I.base.frzs b o xs e),λb ps e=>?_⟩,?_,λx c e=>?_,?_,λx c e=>?_,λp hp=>?_,hok,I.len⟩
 ·exact keep b o (neL b o e) hb (neC b o e hx) (I.base.keep b o e n hb hx) (I.base.free b o e n hx)
 ·obtain ⟨sl,e1⟩:=I.base.slot b o e n hb hx
  obtain ⟨sl',e2⟩:=slot b _ (neL b o e) hb (neC b o e hx) e1 (I.base.free b o e n hx)
  exact ⟨sl',e2⟩
 ·obtain ⟨o',e1⟩:=I.base.there b o e hx
  exact free b o' (neC b o e hx) e1 (I.base.free b o e n hx)
 ·obtain ⟨o',e1⟩:=I.base.there b o e hx
  exact there b o' (neC b o e hx) e1
 ·obtain ⟨m1,e1⟩:=I.base.tbls b ps e
  obtain ⟨m2,e2⟩:=tbls b _ e1
  exact ⟨m1++m2,by rw [e2,Array.append_assoc]⟩
 ·obtain ⟨m,hn,hl⟩:=I.loc
  refine ⟨m,ns m hn,λi x v e1 e2 e3=>?_⟩
  obtain ⟨u,r,l⟩:=hl i x v e1 e2 e3
  refine ⟨u,r,?_⟩
  rcases l with l | ⟨k,c,e,z⟩
  ·exact .inl l
  ·exact .inr ⟨k,c,e,cellK x c e _ z⟩
 ·obtain ⟨v,z⟩:=I.cell x c e
  exact ⟨v,cellK x c e v z⟩
 ·obtain ⟨m,⟨o,_,_,ho,_⟩,_⟩:=I.loc
  exact free _ o (λz=>(hch _ z).2.1 rfl) ho I.free
 ·obtain ⟨v,o,ho,hd⟩:=I.cell x c e
  exact free c o (λz=>(hch c z).2.2.1 x c e rfl) ho (I.freeC x c e)
 ·obtain ⟨e,n,ne,nf,d⟩:=I.pin p hp
  have nch:p.1 ∉ ch:=λz=>(hch p.1 z).2.2.2 p hp rfl
  exact ⟨keep p.1 p.2 ne nf nch e n,free p.1 p.2 nch e n,ne,nf,d⟩
theorem Inv.un {t':Nat} (I:Inv X pins σ H s) (u:Un X.fs [] H H' s.heap h') (hok:HOk X.prog X.w H' h'):Inv X pins σ H' { s with heap:=h',toks:=t' }:=by
 obtain ⟨m,⟨o,es,ep,ho,r⟩,_⟩:=id I.loc
 obtain ⟨sl,hL⟩:=u.any ho I.free (by simp)
 exact I.step (g':=s.gens) (d':=s.drawn) (ch:=[]) (λ_ z=>nomatch z) (λb o _ hb _ e n=>u.keep b o e n hb (by simp)) (λb o _ hb _ e n=>u.slot b o e n hb (by simp)) (λb o _ e n=>u.free b o e n (by simp)) (λb o _ e=>u.there b o e (by simp)) u.tups u.frzs u.tbls (λm' hm=>by
  obtain ⟨o',es',ep',ho',r'⟩:=hm
  rw [ho] at ho'; cases ho'
  exact ⟨_,es',ep',hL,r'⟩) hok I.bare
theorem Inv.call {g':Array GenState} {t':Nat} {d':Drawn} {ch:List Addr} (I:Inv X pins σ H s) (u:Un (frs X.stack) ch H H' s.heap h') (hok:HOk X.prog X.w H' h') (hg:AllBare g')
  (hch:∀ b∈ch,(b∈X.ex\/X.s₀.heap.objs.size<=b)/\b≠X.env.locals/\(∀ x c,X.env.cells.lookup x=some c->c≠b)/\∀ p∈X.pn++pins,p.1≠b) :
  Inv X pins σ H' { s with heap:=h',gens:=g',drawn:=d',toks:=t' }:=by
 obtain ⟨m,⟨o,es,ep,ho,r⟩,_⟩:=id I.loc
 obtain ⟨sl,hL⟩:=u.any ho I.free λz=>(hch _ z).2.1 rfl
 exact I.step (ch:=ch) hch (λb o hL hb hc e n=>u.keep b o e n (λz=>(List.mem_cons.mp (I.stkSub b z)).elim hL hb) hc) (λb o _ _ hc e n=>u.any e n hc) (λb o hc e n=>u.free b o e n hc) (λb o hc e=>u.there b o e hc) u.tups u.frzs u.tbls (λm' hm=>by
  obtain ⟨o',es',ep',ho',r'⟩:=hm
  rw [ho] at ho'; cases ho'
  exact ⟨_,es',ep',hL,r'⟩) hok hg
theorem Inv.turned {t':Nat} {it:Addr} (I:Inv X pins σ H s) (k:∀ b o,b≠it->s.heap.get? b=some o->h'.get? b=some o) (hn:H it=none) (hL:it≠X.env.locals)
  (h1:it∈X.ex\/X.s₀.heap.objs.size<=it) (h2:∀ x c,X.env.cells.lookup x=some c->c≠it) (h3:∀ p∈X.pn++pins,p.1≠it):Inv X pins σ H { s with heap:=h',toks:=t' }:=by
 have nit:∀ b u,H b=some u->b≠it:=λb u e z=>by rw [z,hn] at e; cases e
 refine I.step (g':=s.gens) (d':=s.drawn) (ch:=[it]) (λb hb=>?_) (λb o _ _ hc e _=>k b o (λz=>hc (by simp [z])) e) (λb o _ _ hc e _=>⟨o.slots,k b o (λz=>hc (by simp [z])) e⟩) (λ_ _ _ _ n=>n)
  (λb o hc e=>⟨o,k b o (λz=>hc (by simp [z])) e⟩) (λ_ _ e=>e) (λ_ _ _ e=>e) (λb ps e=>⟨#[],by rw [e]; simp⟩) (λm hm=>?_) (λb u e=>?_) I.bare
 ·have e:b=it:=by simpa using hb
  subst e
  exact ⟨h1,hL,h2,h3⟩
 ·obtain ⟨o,es,ep,ho,r⟩:=hm
  exact ⟨o,es,ep,k _ o (Ne.symm hL) ho,r⟩
 ·refine (I.hok b u e).stay (λc v hc q=>k c v ?_ q) (λ_ q=>q) λ_ _ q=>q
  rcases hc with z | z
  ·rw [z]; exact nit b u e
  ·exact nit c _ z
theorem Inv.tok (I:Inv X pins σ H s) (t:Nat):Inv X pins σ H { s with toks:=t }:=I.un (h':=s.heap) (t':=t) Un.refl I.hok
theorem Inv.kept {t':Nat} (I:Inv X pins σ H s) (k:∀ b u,s.heap.get? b=some u->h'.get? b=some u):Inv X pins σ H { s with heap:=h',toks:=t' }:=I.un (Un.kept k) (I.hok.kept k)
theorem Inv.laid {a:Addr} {o:HO} {t':Nat} (I:Inv X pins σ H s) (k:∀ b u,s.heap.get? b=some u->h'.get? b=some u) (hp:s.heap.objs.size<=a) (new:ObjOk X.prog X.w (upd H a o) h' a o) :
  Inv X pins σ (upd H a o) { s with heap:=h',toks:=t' }:=I.un (Un.laid k hp (I.hok.fresh hp)) (I.hok.laid k hp new)
theorem Inv.write {x e:Addr} {o:HO} {t':Nat} (I:Inv X pins σ H s) (mu:nH (H x)) (he:e=x\/H e=some (.own x)) (k:∀ b u,b≠e->s.heap.get? b=some u->h'.get? b=some u) (heo:∃ u,h'.get? e=some u)
  (new:ObjOk X.prog X.w (upd H x o) h' x o):Inv X pins σ (upd H x o) { s with heap:=h',toks:=t' }:=I.un (Un.write mu he k heo) (I.hok.write mu he k heo new)
theorem Inv.pins_of {pins':List (Addr×Obj)} (I:Inv X pins σ H s) (h:∀ p∈pins',s.heap.get? p.1=some p.2/\H p.1=none/\p.1≠X.env.locals/\p.1 ∉ X.fs/\∀ v,p.2.data≠.cell v):Inv X pins' σ H s :=
 ⟨I.ok,I.os,I.bare,I.base,I.loc,I.cell,I.free,I.freeC,λp hp=>(List.mem_append.mp hp).elim (λz=>I.pin p (List.mem_append_left _ z)) (h p),I.hok,I.len⟩
theorem Zcs {N:List Str} (hN:N.Nodup) {i j:Nat} {x:Str} (a:N[i]?=some x) (b:N[j]?=some x):i=j:=by
 obtain ⟨h1,e1⟩:=List.getElem?_eq_some_iff.mp a
 obtain ⟨h2,e2⟩:=List.getElem?_eq_some_iff.mp b
 exact (List.getElem_inj hN).mp (e1.trans e2.symm)
theorem oq {M:Model} {A:Around} {E:Value->Shared->Prop} {i:Nat} {x:Str} {v:V} {u:Value} {Q:Unit->Shared->Prop} (I:Inv X pins σ H s) (hN:X.N.Nodup) (hi:X.N[i]?=some x) (hx:kT X.env.scope x) (r:RelV v u)
  (h:∀ s',Inv X pins (σ.set i (some v)) H s'->(∃ a,Heap.SameBut a s.heap s'.heap/\(a=X.env.locals\/X.env.cells.lookup x=some a))->Q () s') (hf:X.fn x=true\/X.env.scope.names.lookup x=some .local:=by first | exact .inl rfl | exact .inr rfl | assumption):wpAny M A (storeName X.env x u) Q E s:=by
 obtain ⟨m,hn,hl⟩:=id I.loc
 have hcls:(X.env.scope.kind == .class || (X.env.scope.kind == .module && X.env.locals != X.env.globals))=false:=by rw [I.ok.kind]; rfl
 have hiσ:i < σ.length:=by rw [I.len]; exact (List.getElem?_eq_some_iff.mp hi).1
 have cne:=I.cne
 have tracked:∀ {a:Addr} {h':Heap},(∃ o,s.heap.get? a=some o/\H a=none)->Heap.SameBut a s.heap h'->HOk X.prog X.w H h':=λ{a h'} ha hs b ob e=>by
  obtain ⟨_,_,hfree⟩:=ha
  refine (I.hok b ob e).stay (λc w' hc q=>(hs.2 c ?_).trans q) (λ_ q=>q) λ_ _ q=>q
  rintro rfl
  rcases hc with rfl | hc
  ·rw [hfree] at e; cases e
  ·rw [hfree] at hc; cases hc
 rcases hx with hk | hk
 ·refine wpAny_storeName_local hk hn (λh' hn' hs=>?_) hcls
  obtain ⟨oL,_,_,hoL,_⟩:=id hn
  refine h _ ⟨I.ok,I.os,I.bare,⟨λb o e n hb hx=>?_,λb o e n hb hx=>?_,I.base.free,λb o e hx=>?_,I.base.tups,I.base.frzs,I.base.tbls⟩,⟨_,hn',λj y v' e1 e2 e3=>?_⟩,λy c e=>?_,I.free,I.freeC,λp hp=>?_,tracked ⟨oL,hoL,I.free⟩ hs,by simpa using I.len⟩ ⟨_,hs,.inl rfl⟩
  ·exact (hs.2 b (Nat.ne_of_lt (Nat.lt_of_lt_of_le (Heap.lt_size e) I.ok.above))).trans (I.base.keep b o e n hb hx)
  ·obtain ⟨sl,e1⟩:=I.base.slot b o e n hb hx
   exact ⟨sl,(hs.2 b (Nat.ne_of_lt (Nat.lt_of_lt_of_le (Heap.lt_size e) I.ok.above))).trans e1⟩
  ·obtain ⟨o',e1⟩:=I.base.there b o e hx
   exact ⟨o',(hs.2 b (Nat.ne_of_lt (Nat.lt_of_lt_of_le (Heap.lt_size e) I.ok.above))).trans e1⟩
  ·by_cases hj:j=i
   ·subst hj
    rw [hi] at e1; cases e1
    rw [List.getElem?_set_self hiσ] at e2
    cases e2
    exact ⟨u,r,.inl ⟨hk,by simp⟩⟩
   ·rw [List.getElem?_set_ne (Ne.symm hj)] at e2
    obtain ⟨u',r',q⟩:=hl j y v' e1 e2 e3
    refine ⟨u',r',?_⟩
    rcases q with ⟨k,e⟩ | ⟨k,c,e,z⟩
    ·refine .inl ⟨k,?_⟩
     have:y≠x:=λe=>hj (Zcs hN e1 (e ▸ hi))
     simp [this,e]
    ·exact .inr ⟨k,c,e,z.sameBut hs (cne y c e)⟩
  ·obtain ⟨w',z⟩:=I.cell y c e
   exact ⟨w',z.sameBut hs (cne y c e)⟩
  ·obtain ⟨e,n,ne,nf,d⟩:=I.pin p hp
   exact ⟨(hs.2 p.1 ne).trans e,n,ne,nf,d⟩
 ·have hfn:X.fn x=true:=by
   rcases hf with z | z
   ·exact z
   ·rw [z] at hk; cases hk
  obtain ⟨c,hc⟩:=I.ok.has x (.inl hk)
  obtain ⟨w',z⟩:=I.cell x c hc
  refine wpAny_storeName_cell I.ok.kind hk hc z (λh' hc' hs=>?_)
  obtain ⟨oc,hoc,hocd⟩:=id z
  refine h { s with heap:=h' } ⟨I.ok,I.os,I.bare,⟨λb o e n hb hx=>?_,λb o e n hb hx=>?_,I.base.free,λb o e hx=>?_,I.base.tups,I.base.frzs,I.base.tbls⟩,⟨m,hn.sameBut hs (Ne.symm (cne x c hc)),λj y v' e1 e2 e3=>?_⟩,λy c' e=>?_,I.free,I.freeC,λp hp=>?_,tracked ⟨oc,hoc,I.freeC x c hc⟩ hs,by simpa using I.len⟩ ⟨c,hs,.inr hc⟩
  ·exact (hs.2 b (Nat.ne_of_lt (Nat.lt_of_lt_of_le (Heap.lt_size e) (I.ok.cab x c hfn hc)))).trans (I.base.keep b o e n hb hx)
  ·obtain ⟨sl,e1⟩:=I.base.slot b o e n hb hx
   exact ⟨sl,(hs.2 b (Nat.ne_of_lt (Nat.lt_of_lt_of_le (Heap.lt_size e) (I.ok.cab x c hfn hc)))).trans e1⟩
  ·obtain ⟨o',e1⟩:=I.base.there b o e hx
   exact ⟨o',(hs.2 b (Nat.ne_of_lt (Nat.lt_of_lt_of_le (Heap.lt_size e) (I.ok.cab x c hfn hc)))).trans e1⟩
  ·by_cases hj:j=i
   ·subst hj
    rw [hi] at e1; cases e1
    rw [List.getElem?_set_self hiσ] at e2
    cases e2
    exact ⟨u,r,.inr ⟨.inl hk,c,hc,hc'⟩⟩
   ·rw [List.getElem?_set_ne (Ne.symm hj)] at e2
    obtain ⟨u',r',q⟩:=hl j y v' e1 e2 e3
    refine ⟨u',r',?_⟩
    rcases q with q | ⟨k,c',e,z'⟩
    ·exact .inl q
    ·refine .inr ⟨k,c',e,z'.sameBut hs ?_⟩
     rintro rfl
     exact hj (Zcs hN e1 (I.ok.inj _ _ _ e hc ▸ hi))
  ·by_cases hcc:c'=c
   ·subst hcc; exact ⟨_,hc'⟩
   ·obtain ⟨w2,z2⟩:=I.cell y c' e
    exact ⟨w2,z2.sameBut hs hcc⟩
  ·obtain ⟨e,n,ne,nf,d⟩:=I.pin p hp
   refine ⟨(hs.2 p.1 ?_).trans e,n,ne,nf,d⟩
   intro q
   rw [q,hoc] at e
   have q':oc=p.2:=Option.some.inj e
   exact d w' (by rw [<- q']; exact hocd)
theorem jm {M:Model} {A:Around} {E:Value->Shared->Prop} {i:Nat} {x:Str} {v:V} {u:Value} {Q:Unit->Shared->Prop} (I:Inv X pins σ H s) (hN:X.N.Nodup) (hi:X.N[i]?=some x) (hx:kT X.env.scope x) (r:RelV v u)
  (h:∀ s',Inv X pins (σ.set i (some v)) H s'->Q () s') (hf:X.fn x=true\/X.env.scope.names.lookup x=some .local:=by first | exact .inl rfl | exact .inr rfl | assumption):wpAny M A (storeName X.env x u) Q E s :=
 oq I hN hi hx r (λs' I' _=>h s' I') hf
theorem Inv.call' {s':Shared} {ch:List Addr} (I:Inv X pins σ H s) (ho:s'.os=s.os) (u:Un (frs X.stack) ch H H' s.heap s'.heap) (hok:HOk X.prog X.w H' s'.heap) (hg:AllBare s'.gens)
  (hch:∀ b∈ch,(b∈X.ex\/X.s₀.heap.objs.size<=b)/\b≠X.env.locals/\(∀ x c,X.env.cells.lookup x=some c->c≠b)/\∀ p∈X.pn++pins,p.1≠b):Inv X pins σ H' s':=by
 obtain ⟨h',g',d',t',o'⟩:=s'
 have e:o'=s.os:=ho
 subst e
 exact I.call (g':=g') (t':=t') (d':=d') u hok hg hch
end
noncomputable abbrev XK:=Value->Option Addr->Hp->Prop
noncomputable abbrev St:=List (Option V)
noncomputable abbrev VK:=V->Hp->Prop
noncomputable abbrev TE:=St->Hp->VK->Prop
noncomputable abbrev TT:=St->Hp->(Bool->Hp->Prop)->Prop
noncomputable abbrev TA:=St->Hp->(List V->Hp->Prop)->Prop
structure Ends where
 nx:St->Hp->Prop
 rt:VK
 bk:St->Hp->Prop:=λ_ _=>False
 ct:St->Hp->Prop:=λ_ _=>False
noncomputable abbrev TS:=Ends->St->Hp->Prop
noncomputable def EP (X:Cx) (pins:List (Addr×Obj)) (σ:St) (Q:VK) (u:Value) (s':Shared):Prop:=∃ v H',Inv X pins σ H' s'/\RelV v u/\Q v H'
noncomputable def TP (X:Cx) (pins:List (Addr×Obj)) (σ:St) (Q:Bool->Hp->Prop) (b:Bool) (s':Shared):Prop:=∃ H',Inv X pins σ H' s'/\Q b H'
noncomputable def AP (X:Cx) (pins:List (Addr×Obj)) (σ:St) (Q:List V->Hp->Prop) (us:List Value) (s':Shared):Prop:=∃ vs H',Inv X pins σ H' s'/\Vals vs us/\Q vs H'
noncomputable def SP (X:Cx) (pins:List (Addr×Obj)) (D:Ends) (f:Flow) (s':Shared):Prop :=
 match f with
 | .next=>∃ σ' H',Inv X pins σ' H' s'/\D.nx σ' H'
 | .brk=>∃ σ' H',Inv X pins σ' H' s'/\D.bk σ' H'
 | .cont=>∃ σ' H',Inv X pins σ' H' s'/\D.ct σ' H'
 | .ret u=>∃ v σ' H',Inv X pins σ' H' s'/\RelV v u/\D.rt v H'
noncomputable def PE (X:Cx) (e:Expr) (t:TE):Prop :=
 ∀ (pins:List (Addr×Obj)) (s:Shared) (σ:St) (H:Hp) (Q:VK),Inv X pins σ H s->t σ H Q->wpAny (model X.prog X.w) X.A (eval e X.env) (EP X pins σ Q) X.xe s
noncomputable def PT (X:Cx) (e:Expr) (t:TT):Prop :=
 ∀ (pins:List (Addr×Obj)) (s:Shared) (σ:St) (H:Hp) (Q:Bool->Hp->Prop),Inv X pins σ H s->t σ H Q->wpAny (model X.prog X.w) X.A (isTrue e X.env (eval e X.env)) (TP X pins σ Q) X.xe s
noncomputable def PW (X:Cx) (e:Expr) (t:TT):Prop :=
 ∀ (whole:Sem Value) (pins:List (Addr×Obj)) (s:Shared) (σ:St) (H:Hp) (Q:Bool->Hp->Prop),Inv X pins σ H s->t σ H Q->wpAny (model X.prog X.w) X.A (isTrue e X.env whole) (TP X pins σ Q) X.xe s
theorem PW.pt {X:Cx} {e:Expr} {t:TT} (h:PW X e t):PT X e t:=h _
noncomputable def PA (X:Cx) (es:List Expr) (t:TA):Prop :=
 ∀ (pos:Pos) (pins:List (Addr×Obj)) (s:Shared) (σ:St) (H:Hp) (Q:List V->Hp->Prop),Inv X pins σ H s->t σ H Q->wpAny (model X.prog X.w) X.A (spliced (backTo pos (starEach es X.env))) (AP X pins σ Q) X.xe s
noncomputable def PS (X:Cx) (st:Stmt) (t:TS):Prop :=
 ∀ (pins:List (Addr×Obj)) (s:Shared) (σ:St) (H:Hp) (D:Ends),Inv X pins σ H s->t D σ H->wpAny (model X.prog X.w) X.A (exec st X.env) (SP X pins D) X.xe s
noncomputable def PSs (X:Cx) (st:List Stmt) (t:TS):Prop :=
 ∀ (pins:List (Addr×Obj)) (s:Shared) (σ:St) (H:Hp) (D:Ends),Inv X pins σ H s->t D σ H->wpAny (model X.prog X.w) X.A (execs st X.env) (SP X pins D) X.xe s
theorem thn {α:Type} {t:Sem α} {Q Q':α->Shared->Prop} {M:Model} {A:Around} {E:Value->Shared->Prop} {s:Shared} (h:wpAny M A t Q E s) (hQ:∀ a s,Q a s->Q' a s):wpAny M A t Q' E s:=wpAny_mono h hQ λ_ _ x=>x
section
variable {X:Cx}
noncomputable def eO (i:Nat):TE:=λσ H Q=>∃ v,σ[i]?=some (some v)/\Q v H
noncomputable def tC (v:V):TE:=λ_ H Q=>Q v H
theorem Zhz {i:Nat} {x:Str} {pos:Pos} (hN:X.N[i]?=some x) (hv:no X.env.scope x) (hd:(x == ("__debug__":Str))=false:=by decide) (hcd:(x == ("__classdict__":Str))=false:=by decide):PE X (.Name x pos) (eO i):=by
 intro pins s σ H Q I h
 obtain ⟨v,e,h⟩:=h
 obtain ⟨m,hn,hl⟩:=I.loc
 obtain ⟨u,r,l⟩:=hl i x v hN e hv
 have fin:EP X pins σ Q u s:=⟨v,H,I,r,h⟩
 rcases l with ⟨hk,hm⟩ | ⟨hk,c,hc,hcell⟩
 ·exact wpAny_Name (wpAny_loadName_local I.ok.kind hk hn hm fin) hd
 ·rcases hk with hk | hk
  ·exact wpAny_Name (wpAny_loadName_cell I.ok.kind hk hc hcell fin) hd
  ·exact wpAny_Name (wpAny_loadName_free I.ok.kind hk hc hcell fin hcd) hd
theorem bL {i j pos}:PE X (.Constant (.int i) j pos) (tC (.int i)):=λ_ _ _ H _ I h=>wpAny_Constant_int ⟨.int i,H,I.tok _,⟨_,rfl⟩,h⟩
theorem ZhI {b j pos}:PE X (.Constant (.bool b) j pos) (tC (.bl b)):=λ_ _ _ H _ I h=>Constant_bool ⟨.bl b,H,I,rfl,h⟩
noncomputable def Gl (X:Cx) (x:Str):Prop:=X.env.kindOf x=some .globalImplicit
theorem ZcP {E:Value->Shared->Prop} {pins:List (Addr×Obj)} {s:Shared} {σ:St} {H:Hp} {x:Str} {u:Value} {pos:Pos} {Q:Value->Shared->Prop} (I:Inv X pins σ H s) (hg:Gl X x) (hm:X.mg x=some u) (h:Q u s)
  (hd:(x == ("__debug__":Str))=false:=by decide):wpAny (model X.prog X.w) X.A (eval (.Name x pos) X.env) Q E s :=
 Calls.Name_function_global I.ok.kind hg (Calls.loadGlobal_global (by rw [I.ok.glob]; exact I.mod.glob.keeps I.bk) hm h) hd
theorem gW {E:Value->Shared->Prop} {pins:List (Addr×Obj)} {s:Shared} {σ:St} {H:Hp} {x:Str} {u:Value} {pos:Pos} {Q:Value->Shared->Prop} (I:Inv X pins σ H s) (hg:Gl X x) (hm:X.mg x=none) (hv:bootBuiltins x=some u) (h:Q u s)
  (hn:x≠"__name__":=by decide) (hd:(x == ("__debug__":Str))=false:=by decide):wpAny (model X.prog X.w) X.A (eval (.Name x pos) X.env) Q E s:=by
 obtain ⟨mb,h1,h2⟩:=I.mod.blt
 exact Calls.Name_function_global I.ok.kind hg (Calls.loadGlobal_builtin (by rw [I.ok.glob]; exact I.mod.glob.keeps I.bk) hm (by rw [I.ok.blt]; exact h1.keeps I.bk) ((h2 x hn).trans hv) h) hd
theorem ZhD {x:Str} {v:V} {u:Value} {pos:Pos} (hg:Gl X x) (hm:X.mg x=some u) (r:RelV v u) (hd:(x == ("__debug__":Str))=false:=by decide):PE X (.Name x pos) (tC v) :=
 λ_ _ _ H _ I h=>ZcP I hg hm ⟨v,H,I,r,h⟩ hd
variable {a b:Expr} {ta tb:TE} {pos:Pos}
variable {tA tB':TT} {rest:List Expr}
noncomputable def Zf5 (t u:TT):TT:=λσ H Q=>t σ H λc H1=>if c=true then u σ H1 Q else Q false H1
noncomputable def tOr (t u:TT):TT:=λσ H Q=>t σ H λc H1=>if c=true then Q true H1 else u σ H1 Q
noncomputable def ZfW (t:TT):TT:=λσ H Q=>t σ H λc H1=>Q (!c) H1
theorem Zhj (ha:PT X a tA):PW X (.BoolOp .And [a] pos) tA:=by
 intro wh pins s σ H Q I h
 refine isTrue_and (thn (ha pins s σ H Q I h) λc s1 e=>?_)
 cases c with
 | true=>exact isTrue_and_nil e
 | false=>exact e
theorem Zhh (ha:PT X a tA):PW X (.BoolOp .Or [a] pos) tA:=by
 intro wh pins s σ H Q I h
 refine isTrue_or (thn (ha pins s σ H Q I h) λc s1 e=>?_)
 cases c with
 | false=>exact isTrue_or_nil e
 | true=>exact e
theorem Zhk (ha:PT X a tA) (hb:PW X (.BoolOp .And (b::rest) pos) tB'):PW X (.BoolOp .And (a::b::rest) pos) (Zf5 tA tB'):=by
 intro wh pins s σ H Q I h
 refine isTrue_and (thn (ha pins s σ H _ I h) λc s1 hz0=>?_)
 obtain ⟨H1,I1,q1⟩:=hz0
 cases c with
 | true=>exact hb wh pins s1 σ H1 Q I1 q1
 | false=>exact ⟨H1,I1,q1⟩
theorem Zhi (ha:PT X a tA) (hb:PW X (.BoolOp .Or (b::rest) pos) tB'):PW X (.BoolOp .Or (a::b::rest) pos) (tOr tA tB'):=by
 intro wh pins s σ H Q I h
 refine isTrue_or (thn (ha pins s σ H _ I h) λc s1 hz0=>?_)
 obtain ⟨H1,I1,q1⟩:=hz0
 cases c with
 | true=>exact ⟨H1,I1,q1⟩
 | false=>exact hb wh pins s1 σ H1 Q I1 q1
theorem Zhm (ha:PT X a tA):PT X (.UnaryOp .Not a pos) (ZfW tA):=by
 intro pins s σ H Q I h
 exact isTrue_not (ha pins s σ H (λc H1=>Q (!c) H1) I h)
noncomputable def tIf (t:TT) (ta tb:TE):TE:=λσ H Q=>t σ H λc H1=>if c=true then ta σ H1 Q else tb σ H1 Q
theorem ZhC {c:Expr} (hc:PT X c tA) (ha:PE X a ta) (hb:PE X b tb):PE X (.IfExp c a b pos) (tIf tA ta tb):=by
 intro pins s σ H Q I h
 refine wpAny_IfExp (thn (hc pins s σ H _ I h) λd s1 hz0=>?_)
 obtain ⟨H1,I1,q1⟩:=hz0
 cases d with
 | true=>exact ha pins s1 σ H1 Q I1 q1
 | false=>exact hb pins s1 σ H1 Q I1 q1
end
noncomputable def SqL (K:PySem.W.Frag) (H:Hp) (a:Addr) (xs:List V):Prop :=
 Rd H a (.lst xs) \/
  ∃ (o:Obj) (its:Array Value) (n:Nat),K.lookup a=some o/\o.cls=.type "list"/\o.dict=none/\o.data=.seq its n/\its.size<=sizeLine/\Vals xs its.toList
noncomputable def SqT (K:PySem.W.Frag) (H:Hp) (a:Addr) (xs:List V):Prop :=
 Rd H a (.tup xs) \/
  ∃ (o:Obj) (its:Array Value) (n:Nat),K.lookup a=some o/\o.cls=.type "tuple"/\o.data=.seq its n/\its.size<=sizeLine/\Vals xs its.toList
noncomputable def ZnZ:Value->Option V
 | .none=>some .non
 | .bool b=>some (.bl b)
 | .int i _=>some (.int i)
 | .str x _=>some (.str x)
 | .bytes b _=>some (.byt b)
 | .float b _=>some (.flt b)
 | .ref a=>some (.ref a)
 | .type n=>some (.ty n)
 | _=>none
theorem RelV.abs {x:V} {u:Value} (r:RelV x u):ZnZ u=some x:=by
 cases x with
 | non=>cases r; rfl
 | bl _=>cases r; rfl
 | int _=>obtain ⟨t,rfl⟩:=r; rfl
 | str _=>obtain ⟨t,rfl⟩:=r; rfl
 | byt _=>obtain ⟨t,rfl⟩:=r; rfl
 | flt _=>obtain ⟨t,rfl⟩:=r; rfl
 | ref _=>cases r; rfl
 | ty _=>cases r; rfl
theorem RelV.inj {x y:V} {u:Value} (r:RelV x u) (q:RelV y u):x=y:=Option.some.inj (r.abs.symm.trans q.abs)
theorem Vals.inj {xs ys:List V} {us:List Value} (h:Vals xs us) (h':Vals ys us):xs=ys:=by
 induction h generalizing ys with
 | nil=>cases h'; rfl
 | cons r t ih=>cases h' with | cons r' t'=>rw [r.inj r',ih t']
section
variable {X:Cx} {pins:List (Addr×Obj)} {σ:St} {H:Hp} {s:Shared} {a:Addr} {xs ys:List V}
theorem SqL.of {K:PySem.W.Frag} (h:H a=some (.lst xs)):SqL K H a xs:=.inl (.inl h)
theorem SqT.of {K:PySem.W.Frag} (h:H a=some (.tup xs)):SqT K H a xs:=.inl (.inl h)
theorem Inv.list (I:Inv X pins σ H s) (h:SqL X.K H a xs):∃ its:List Value,Vals xs its/\PlainL s.heap a its.toArray/\xs.length<=sizeLine:=by
 rcases h with h | ⟨o,its,n,hk,hc,hd,hs,hz,r⟩
 ·obtain ⟨z,its,n,r,e⟩:=h.ok I.hok
  exact ⟨its,r,⟨_,n,e,rfl,rfl,rfl⟩,z⟩
 ·refine ⟨its.toList,r,⟨o,n,I.kIn a o hk,hc,hd,by simpa using hs⟩,?_⟩
  have e:=r.length
  simp only [Array.length_toList] at e
  omega
theorem Inv.tuple (I:Inv X pins σ H s) (h:SqT X.K H a xs):∃ its:List Value,Vals xs its/\IsTup s.heap a its.toArray/\xs.length<=sizeLine:=by
 rcases h with h | ⟨o,its,n,hk,hc,hs,hz,r⟩
 ·obtain ⟨z,its,r,p⟩:=h.ok I.hok
  exact ⟨its,r,p,z⟩
 ·refine ⟨its.toList,r,⟨o,I.kIn a o hk,hc,n,by simpa using hs⟩,?_⟩
  have e:=r.length
  simp only [Array.length_toList] at e
  omega
theorem Inv.list_inj (I:Inv X pins σ H s) (h:SqL X.K H a xs) (h':SqL X.K H a ys):xs=ys:=by
 obtain ⟨its,r,⟨o,n,e,_,_,d⟩,_⟩:=I.list h
 obtain ⟨its',r',⟨o',n',e',_,_,d'⟩,_⟩:=I.list h'
 rw [e] at e'; cases e'
 rw [d] at d'
 injection d' with d1 _
 have:its=its':=by simpa using congrArg Array.toList d1
 subst this
 exact r.inj r'
theorem Inv.tuple_inj (I:Inv X pins σ H s) (h:SqT X.K H a xs) (h':SqT X.K H a ys):xs=ys:=by
 obtain ⟨its,r,⟨o,e,_,n,d⟩,_⟩:=I.tuple h
 obtain ⟨its',r',⟨o',e',_,n',d'⟩,_⟩:=I.tuple h'
 rw [e] at e'; cases e'
 rw [d] at d'
 injection d' with d1 _
 have:its=its':=by simpa using congrArg Array.toList d1
 subst this
 exact r.inj r'
end
noncomputable abbrev Cx.wish (X:Cx) (E:Value->Shared->Prop):Cx:={ X with xe:=E }
noncomputable abbrev Cx.nox (X:Cx):Cx:=X.wish λ_ _=>False
theorem Cx.Ok.wish {X:Cx} (ok:X.Ok) (E:Value->Shared->Prop):(X.wish E).Ok :=
 ⟨ok.mod,ok.kind,ok.glob,ok.blt,ok.above,ok.inj,ok.has,ok.cab,ok.hd,ok.frames,ok.stk,ok.exf,ok.bs,ok.bsz,ok.noex,ok.exfs,ok.funs,ok.frf⟩
theorem Cx.Ok.unwish {X:Cx} {E:Value->Shared->Prop} (ok:(X.wish E).Ok):X.Ok :=
 ⟨ok.mod,ok.kind,ok.glob,ok.blt,ok.above,ok.inj,ok.has,ok.cab,ok.hd,ok.frames,ok.stk,ok.exf,ok.bs,ok.bsz,ok.noex,ok.exfs,ok.funs,ok.frf⟩
section
variable {X:Cx} {pins:List (Addr×Obj)} {σ:St} {H:Hp} {s:Shared} {E:Value->Shared->Prop}
theorem Inv.wish (I:Inv X pins σ H s) (E:Value->Shared->Prop):Inv (X.wish E) pins σ H s:=⟨I.ok.wish E,I.os,I.bare,I.base,I.loc,I.cell,I.free,I.freeC,I.pin,I.hok,I.len⟩
theorem Inv.unwish (I:Inv (X.wish E) pins σ H s):Inv X pins σ H s:=⟨I.ok.unwish,I.os,I.bare,I.base,I.loc,I.cell,I.free,I.freeC,I.pin,I.hok,I.len⟩
theorem SP.unwish {D:Ends} {f:Flow} {s':Shared} (h:SP (X.wish E) pins D f s'):SP X pins D f s':=by
 cases f with
 | next=>obtain ⟨σ',H',I,q⟩:=h; exact ⟨σ',H',I.unwish,q⟩
 | brk=>obtain ⟨σ',H',I,q⟩:=h; exact ⟨σ',H',I.unwish,q⟩
 | cont=>obtain ⟨σ',H',I,q⟩:=h; exact ⟨σ',H',I.unwish,q⟩
 | ret u=>obtain ⟨v,σ',H',I,r,q⟩:=h; exact ⟨v,σ',H',I.unwish,r,q⟩
theorem PSs.nox {st:List Stmt} {t:TS} (h:PSs X.nox st t):PSs X st t:=λpins s σ H D I hw =>
 wpAny_mono (h pins s σ H D (I.wish _) hw) (λ_ _ q=>q.unwish) λ_ _ z=>False.elim z
end
section
variable {X:Cx} {st:Stmt} {rest:List Stmt} {t u:TS} {e:Expr} {te:TE} {pos:Pos}
noncomputable def ZfY:TS:=λD σ H=>D.nx σ H
noncomputable def ZaA (t u:TS):TS:=λD σ H=>t { D with nx:=u D } σ H
theorem lG:PSs X [] ZfY:=λ_ _ σ H _ I h=>wpAny_execs_nil ⟨σ,H,I,h⟩
theorem eh (h1:PS X st t) (h2:PSs X rest u):PSs X (st::rest) (ZaA t u):=by
 intro pins s σ H D I h
 refine wpAny_execs_cons (thn (h1 pins s σ H { D with nx:=u D } I h) λf s1 q=>?_)
 cases f with
 | next =>
  obtain ⟨σ',H',I',q⟩:=q
  exact h2 pins s1 σ' H' D I' q
 | ret v=>exact q
 | brk=>exact q
 | cont=>exact q
theorem iu (h1:PS X st t):PSs X [st] t:=by
 intro pins s σ H D I h
 refine wpAny_execs_cons (thn (h1 pins s σ H D I h) λf s1 q=>?_)
 cases f with
 | next=>exact wpAny_execs_nil q
 | ret v=>exact q
 | brk=>exact q
 | cont=>exact q
theorem Inv.quiet {pins:List (Addr×Obj)} {σ:St} {H:Hp} {s:Shared} (I:Inv X pins σ H s):interactive X.env=false:=by simp [interactive,I.ok.kind]
noncomputable def og (te:TE):TS:=λD σ H=>te σ H λ_ H1=>D.nx σ H1
theorem fH (he:PE X e te) (hs:swapsWith e none pos.line X.env=pure false:=by rfl):PS X (.Expr e pos) (og te):=by
 intro pins s σ H D I h
 exact wpAny_Expr_any (thn (he pins s σ H _ I h) λv s1 ⟨x,H1,I1,r1,q1⟩=>⟨σ,H1,I1,q1⟩) I.quiet hs
noncomputable def ZfT (te:TE):TS:=λD σ H=>te σ H D.rt
theorem gg (he:PE X e te):PS X (.Return (some e) pos) (ZfT te):=by
 intro pins s σ H D I h
 exact wpAny_Return_some (thn (he pins s σ H _ I h) λv s1 ⟨x,H1,I1,r1,q1⟩=>⟨x,σ,H1,I1,r1,q1⟩)
noncomputable def Zf2 (c:TT) (t u:TS):TS:=λD σ H=>c σ H λb H1=>if b=true then t D σ H1 else u D σ H1
theorem lK {c:Expr} {a b:List Stmt} {tc:TT} (hc:PT X c tc) (ha:PSs X a t) (hb:PSs X b u):PS X (.If c a b pos) (Zf2 tc t u):=by
 intro pins s σ H D I h
 refine wpAny_If (thn (hc pins s σ H _ I h) λd s1 hz0=>?_)
 obtain ⟨H1,I1,q1⟩:=hz0
 cases d with
 | true=>exact ha pins s1 σ H1 D I1 q1
 | false=>exact hb pins s1 σ H1 D I1 q1
end
noncomputable abbrev TG:=V->St->Hp->(St->Hp->Prop)->Prop
noncomputable abbrev fZ:=List V->St->Hp->(St->Hp->Prop)->Prop
noncomputable def PG (X:Cx) (target:Expr) (t:TG):Prop :=
 ∀ (pins:List (Addr×Obj)) (s:Shared) (σ:St) (H:Hp) (v:V) (u:Value) (Q:St->Hp->Prop),Inv X pins σ H s->RelV v u->t v σ H Q ->
  wpAny (model X.prog X.w) X.A (assign target X.env u) (λ_ s'=>∃ σ' H',Inv X pins σ' H' s'/\Q σ' H') X.xe s
noncomputable def PGs (X:Cx) (ts:List Expr) (t:fZ):Prop :=
 ∀ (pins:List (Addr×Obj)) (s:Shared) (σ:St) (H:Hp) (vs:List V) (us:List Value) (Q:St->Hp->Prop),Inv X pins σ H s->Vals vs us->t vs σ H Q ->
  wpAny (model X.prog X.w) X.A (assignInOrder ((assignEach ts X.env).map (·.2)) us) (λ_ s'=>∃ σ' H',Inv X pins σ' H' s'/\Q σ' H') X.xe s
noncomputable abbrev kL:=V->V->V->Hp->(Hp->Prop)->Prop
noncomputable def rF (X:Cx) (t:kL):Prop :=
 ∀ (pins:List (Addr×Obj)) (s:Shared) (σ:St) (H:Hp) (o i v:V) (ov iv u:Value) (Q:Hp->Prop),Inv X pins σ H s->RelV o ov->RelV i iv->RelV v u->t o i v H Q ->
  wpAny (model X.prog X.w) X.A (setItem ov iv u) (λ_ s'=>∃ H',Inv X pins σ H' s'/\Q H') X.xe s
noncomputable abbrev jf:=V->V->Hp->VK->Prop
noncomputable def nr (X:Cx) (op:Operator) (t:jf):Prop :=
 ∀ (pins:List (Addr×Obj)) (s:Shared) (σ:St) (H:Hp) (x y:V) (v u:Value) (Q:VK),Inv X pins σ H s->RelV x v->RelV y u->t x y H Q ->
  wpAny (model X.prog X.w) X.A (inplaceOp op v u) (EP X pins σ Q) X.xe s
section
variable {X:Cx} {pos:Pos}
noncomputable def eA (i:Nat):TG:=λv σ H Q=>Q (σ.set i (some v)) H
theorem aO {i:Nat} {x:Str} (hN:X.N.Nodup) (hi:X.N[i]?=some x) (hx:kT X.env.scope x) (hf:X.fn x=true\/X.env.scope.names.lookup x=some .local:=by first | exact .inl rfl | exact .inr rfl | assumption):PG X (.Name x pos) (eA i):=by
 intro pins s σ H v u Q I r h
 exact wpAny_assign_Name (jm I hN hi hx r (λs' I'=>⟨_,H,I',h⟩) hf)
noncomputable def Zjf:fZ:=λvs σ H Q=>vs=[]/\Q σ H
noncomputable def Zjg (t:TG) (u:fZ):fZ:=λvs σ H Q=>∃ v r,vs=v::r/\t v σ H λσ' H'=>u r σ' H' Q
theorem Zhw:PGs X [] Zjf:=by
 intro pins s σ H vs us Q I r h
 obtain ⟨e,h⟩:=h
 subst e
 cases r
 exact assignInOrder_nil ⟨σ,H,I,h⟩
theorem Zhx {e:Expr} {es:List Expr} {t:TG} {u:fZ} (h1:PG X e t) (h2:PGs X es u)
  (hs:(assignEach (e::es) X.env).map (·.2)=assign e X.env::(assignEach es X.env).map (·.2):=by rfl):PGs X (e::es) (Zjg t u):=by
 intro pins s σ H vs us Q I r h
 obtain ⟨v,vr,e1,h⟩:=h
 subst e1
 cases r with
 | cons r rr =>
  rw [hs]
  refine assignInOrder_cons (thn (h1 pins s σ H _ _ _ I r h) λ_ s1 hz0=>?_)
  obtain ⟨σ1,H1,I1,q1⟩:=hz0
  exact h2 pins s1 σ1 H1 _ _ Q I1 rr q1
noncomputable def Zje (K:PySem.W.Frag) (n:Nat) (t:fZ):TG:=λv σ H Q=>∃ a xs,v=.ref a/\SqT K H a xs/\xs.length=n/\t xs σ H Q
theorem Zhy {es:List Expr} {k:Nat} {t:fZ} {n:Nat} (hc:X.calm=true) (h:PGs X es t)
  (hn:(assignEach es X.env).length=n:=by rfl) (hst:(assignEach es X.env).findIdx? (·.1)=none:=by rfl):PG X (.Tuple es k pos) (Zje X.K n t):=by
 intro pins s σ H v u Q I r hw
 obtain ⟨a,xs,e1,hq,hl,hw⟩:=hw
 subst e1
 cases r
 obtain ⟨its,rv,ht,hz⟩:=I.tuple hq
 refine assign_Tuple_tuple (I.ok.hd hc) ht (by simp [hn,<- hl,rv.length]) hst λh' hx=>?_
 have I1:Inv X pins σ H { s with heap:=h' }:=I.kept (t':=s.toks) λb o e=>hx b o (Nat.ne_of_lt (Heap.lt_size e)) e
 exact h pins _ σ H xs _ Q I1 (by simpa using rv) hw
noncomputable def Zdh (to ti:TE) (t:kL):TG:=λv σ H Q=>to σ H λo H1=>ti σ H1 λi H2=>t o i v H2 λH3=>Q σ H3
theorem jG {o i:Expr} {to ti:TE} {t:kL} (ho:PE X o to) (hi:PE X i ti) (hs:rF X t)
  (ha:∀ v,assign (.Subscript o i pos) X.env v=(do
   let ov <- holding [v] (eval o X.env)
   let iv <- holding [v,ov] (eval i X.env)
   standAt pos
   holding [v,ov,iv] (setItem ov iv v)
   release [v,ov,iv] []):=by intro _; rfl):PG X (.Subscript o i pos) (Zdh to ti t):=by
 intro pins s σ H v u Q I r h
 rw [ha]
 refine wpAny_bind (wpAny_holding (thn (ho pins s σ H _ I h) λov s1 hz0=>?_))
 obtain ⟨x,H1,I1,r1,q1⟩:=hz0
 refine wpAny_bind (wpAny_holding (thn (hi pins s1 σ H1 _ I1 q1) λiv s2 hz0=>?_))
 obtain ⟨y,H2,I2,r2,q2⟩:=hz0
 refine wpAny_bind (wpAny_standAt (wpAny_bind (wpAny_holding (thn (hs pins s2 σ H2 x y v ov iv u _ I2 r1 r2 r q2) λ_ s3 hz0=>?_))))
 obtain ⟨H3,I3,q3⟩:=hz0
 exact wpAny_release ⟨σ,H3,I3,q3⟩
noncomputable def dJ (te:TE) (g:TG):TS:=λD σ H=>te σ H λx H1=>g x σ H1 D.nx
theorem fI {tg e:Expr} {te:TE} {g:TG} (he:PE X e te) (hg:PG X tg g) (hs:swapsWithSole [tg] e pos.line X.env=pure false:=by rfl) (hw:swappedStores [tg] e X.env=pure none:=by rfl)
  (h1:(assignEach [tg] X.env).map (·.2)=[assign tg X.env]:=by rfl):PS X (.Assign [tg] e pos) (dJ te g):=by
 intro pins s σ H D I h
 refine wpAny_Assign_stores (thn (he pins s σ H _ I h) λv s1 hz0=>?_) hs hw
 obtain ⟨x,H1,I1,r1,q1⟩:=hz0
 rw [h1]
 exact thn (hg pins s1 σ H1 x v _ I1 r1 q1) λ_ s2 q=>q
theorem aR {i:Nat} {x:Str} {e:Expr} {te:TE} {pos':Pos} (hN:X.N.Nodup) (hi:X.N[i]?=some x) (hx:kT X.env.scope x) (he:PE X e te) (hs:swapsWith e (some (.Name x pos')) pos.line X.env=pure false:=by rfl) (hf:X.fn x=true\/X.env.scope.names.lookup x=some .local:=by first | exact .inl rfl | exact .inr rfl | assumption) :
  PS X (.Assign [.Name x pos'] e pos) (dJ te (eA i)):=by
 intro pins s σ H D I h
 refine wpAny_Assign_Name (thn (he pins s σ H _ I h) λv s1 hz0=>?_) hs
 obtain ⟨y,H1,I1,r1,q1⟩:=hz0
 exact jm I1 hN hi hx r1 (λs2 I2=>⟨_,H1,I2,q1⟩) hf
noncomputable def ZaB (i j:Nat) (ta:TA):TS:=λD σ H=>ta σ H λvs H1=>∃ v w,vs=[v,w]/\D.nx ((σ.set i (some v)).set j (some w)) H1
theorem lJ {i j:Nat} {x y:Str} {a b:Expr} {ta:TA} {px py pt:Pos} {kt k2 pt2} (hc:X.calm=true) (hN:X.N.Nodup) (hi:X.N[i]?=some x) (hj:X.N[j]?=some y) (hij:i≠j)
  (hx:X.env.scope.names.lookup x=some .local) (hy:X.env.scope.names.lookup y=some .local) (ha:PA X [a,b] ta)
  (hw:swappedStores [.Tuple [.Name x px,.Name y py] kt pt] (.Tuple [a,b] k2 pt2) X.env=pure (some [x,y]))
  (hs:swapsWithSole [.Tuple [.Name x px,.Name y py] kt pt] (.Tuple [a,b] k2 pt2) pos.line X.env=pure false:=by rfl) :
  PS X (.Assign [.Tuple [.Name x px,.Name y py] kt pt] (.Tuple [a,b] k2 pt2) pos) (ZaB i j ta):=by
 intro pins s σ H D I h
 rw [exec_Assign_arm]
 refine wpAny_bind (wpAny_standAt ?_)
 rw [hs]
 refine wpAny_bind (wpAny_pure ?_)
 rw [if_neg (by decide)]
 refine wpAny_bind (Tuple_ (thn (ha _ pins s σ H _ I h) λus s1 hz0=>?_))
 obtain ⟨vs,H1,I1,r1,q1⟩:=hz0
 obtain ⟨v,w,e1,q1⟩:=q1
 subst e1
 obtain ⟨u1,u2,rfl,rv,rw'⟩:∃ u1 u2,us=[u1,u2]/\RelV v u1/\RelV w u2:=by
  cases r1 with
  | cons p q =>
   cases q with
   | cons p' q' =>
    cases q'
    exact ⟨_,_,rfl,p,p'⟩
 refine wpAny_newObj_type ?_ (by show 2<=sizeLine; decide)
 have I2:Inv X pins σ H1 { s1 with heap:=s1.heap.push { cls:=.type "tuple",data:=.seq [u1,u2].toArray } }:=I1.kept (t':=s1.toks) λb o e=>Heap.get?_push_of_some _ e
 rw [hw]
 refine wpAny_bind (wpAny_pure ?_)
 show wpAny (model X.prog X.w) X.A (do rule "assign.swapped-stores"; let items <- unpackItems (.ref s1.heap.objs.size) 2 none; assignInOrder [λv=>bindName X.env y v,λv=>bindName X.env x v] items.reverse; pure Flow.next) _ _ _
 refine wpAny_bind (wpAny_rule (wpAny_bind (unpackItems_tuple (items:=#[u1,u2]) (I.ok.hd hc) (IsTup.new s1.heap _) λh' hx'=>?_)))
 have I3:=I2.kept (h':=h') (t':=s1.toks) λb o e=>hx' b o (Nat.ne_of_lt (Heap.lt_size e)) e
 show wpAny _ _ (assignInOrder [λv=>bindName X.env y v,λv=>bindName X.env x v] [u2,u1] >>= λ_=>pure Flow.next) _ _ _
 refine wpAny_bind (assignInOrder_cons (wpAny_bindName (jm I3 hN hj (.inl hy) rw' (λs2 I4=>?_) (.inr hy))))
 refine assignInOrder_cons (wpAny_bindName (jm I4 hN hi (.inl hx) rv (λs3 I5=>assignInOrder_nil (wpAny_pure ?_)) (.inr hx)))
 rw [List.set_comm _ _ (Ne.symm hij)] at I5
 exact ⟨_,H1,I5,q1⟩
noncomputable def ZaH (i:Nat) (te:TE) (ti:jf):TS:=λD σ H=>∃ x,σ[i]?=some (some x)/\te σ H λy H1=>ti x y H1 λz H2=>D.nx (σ.set i (some z)) H2
theorem lL {i:Nat} {x:Str} {e:Expr} {te:TE} {op:Operator} {ti:jf} {pos':Pos} (hN:X.N.Nodup) (hi:X.N[i]?=some x) (hx:kT X.env.scope x) (he:PE X e te) (ho:nr X op ti) (hf:X.fn x=true\/X.env.scope.names.lookup x=some .local:=by first | exact .inl rfl | exact .inr rfl | assumption) :
  PS X (.AugAssign (.Name x pos') op e pos) (ZaH i te ti):=by
 intro pins s σ H D I h
 obtain ⟨v,e1,h⟩:=h
 obtain ⟨m,hn,hl⟩:=I.loc
 have vis:no X.env.scope x:=by rcases hx with k | k; exact .inl k; exact .inr (.inl k)
 obtain ⟨u,r,l⟩:=hl i x v hi e1 vis
 refine wpAny_AugAssign_Name ?_
 have go:wpAny (model X.prog X.w) X.A (eval e X.env) (λw s₂=>wpAny (model X.prog X.w) X.A (inplaceOp op u w) (λr s₃=>wpAny (model X.prog X.w) X.A (storeName X.env x r) (λ_=>SP X pins D .next) X.xe s₃) X.xe s₂) X.xe s:=by
  refine thn (he pins s σ H _ I h) λw s1 hz0=>?_
  obtain ⟨y,H1,I1,r1,q1⟩:=hz0
  refine thn (ho pins s1 σ H1 v y u w _ I1 r r1 q1) λz s2 hz0=>?_
  obtain ⟨zv,H2,I2,r2,q2⟩:=hz0
  exact jm I2 hN hi hx r2 (λs3 I3=>⟨_,H2,I3,q2⟩) hf
 rcases l with ⟨hk,hm⟩ | ⟨hk,c,hc,hcell⟩
 ·exact wpAny_loadName_local I.ok.kind hk hn hm go
 ·rcases hk with hk | hk
  ·exact wpAny_loadName_cell I.ok.kind hk hc hcell go
  ·rcases hx with k | k
   ·have:X.env.scope.names.lookup x=some .free:=hk
    rw [k] at this; cases this
   ·have:X.env.scope.names.lookup x=some .free:=hk
    rw [k] at this; cases this
noncomputable def ZaG (to ti te:TE) (tget:V->V->Hp->VK->Prop) (tip:jf) (tset:kL):TS:=λD σ H=>to σ H λo H1=>ti σ H1 λi H2=>tget o i H2 λx H3=>te σ H3 λy H4=>tip x y H4 λz H5=>tset o i z H5 λH6=>D.nx σ H6
noncomputable def Zfd (X:Cx) (t:V->V->Hp->VK->Prop):Prop :=
 ∀ (pins:List (Addr×Obj)) (s:Shared) (σ:St) (H:Hp) (o i:V) (ov iv:Value) (Q:VK),Inv X pins σ H s->RelV o ov->RelV i iv->t o i H Q ->
  wpAny (model X.prog X.w) X.A (getItem ov iv) (EP X pins σ Q) X.xe s
theorem Zhr {o i e:Expr} {to ti te:TE} {tget:V->V->Hp->VK->Prop} {tip:jf} {tset:kL} {op:Operator} {tpos:Pos} (ho:PE X o to) (hi:PE X i ti) (hg:Zfd X tget) (he:PE X e te) (hp:nr X op tip) (hs:rF X tset)
  (ha:∀ ov iv new,augStore i ov iv new=(do holding [new,ov,iv] (setItem ov iv new); release [new,ov,iv] []; pure .next):=by intros; rfl):PS X (.AugAssign (.Subscript o i tpos) op e pos) (ZaG to ti te tget tip tset):=by
 intro pins s σ H D I h
 refine wpAny_AugAssign_SubscriptAny (thn (ho pins s σ H _ I h) λov s1 hz0=>?_) ha
 obtain ⟨x1,H1,I1,r1,q1⟩:=hz0
 refine thn (hi pins s1 σ H1 _ I1 q1) λiv s2 hz0=>?_
 obtain ⟨x2,H2,I2,r2,q2⟩:=hz0
 refine thn (hg pins s2 σ H2 x1 x2 ov iv _ I2 r1 r2 q2) λold s3 hz0=>?_
 obtain ⟨x3,H3,I3,r3,q3⟩:=hz0
 refine thn (he pins s3 σ H3 _ I3 q3) λv s4 hz0=>?_
 obtain ⟨x4,H4,I4,r4,q4⟩:=hz0
 refine thn (hp pins s4 σ H4 x3 x4 old v _ I4 r3 r4 q4) λnew s5 hz0=>?_
 obtain ⟨x5,H5,I5,r5,q5⟩:=hz0
 exact thn (hs pins s5 σ H5 x1 x2 x5 ov iv new _ I5 r1 r2 r5 q5) λ_ s6 hz0=>by
  obtain ⟨H6,I6,q6⟩:=hz0
  exact ⟨σ,H6,I6,q6⟩
noncomputable def ipI (f:Int->Int->Int):jf:=λx y H Q=>∃ i j,x=.int i/\y=.int j/\Q (.int (f i j)) H
theorem ZiV:nr X .Add (ipI λi j=>i+j):=by
 intro pins s σ H x y v u Q I r1 r2 h
 obtain ⟨i,j,e1,e2,q⟩:=h
 subst e1; subst e2
 obtain ⟨t,rfl⟩:=r1
 obtain ⟨t',rfl⟩:=r2
 exact iadd_int ⟨.int _,H,I.tok _,⟨_,rfl⟩,q⟩
end
section
variable {X:Cx} {pos:Pos}
noncomputable def ZfL (c:TT) (tb:TS):TS:=λD σ H=>∃ W:Nat->St->Hp->Prop,(∃ m,W m σ H)/\∀ m σ H,W m σ H ->
 c σ H λb H1=>if b=true then ∃ N:St->Hp->Prop,(∀ σ' H',N σ' H'->∃ m',m' < m/\W m' σ' H')/\tb { D with nx:=N,ct:=N,bk:=D.nx } σ H1 else D.nx σ H1
theorem Zho {c:Expr} {body:List Stmt} {tc:TT} {tb:TS} (hp:PassesOwn (model X.prog X.w) X.A X.env X.xe) (hc:PT X c tc) (hb:PSs X body tb):PS X (.While c body [] pos) (ZfL tc tb):=by
 intro pins s σ H D I h
 obtain ⟨W,⟨m0,w0⟩,turn⟩:=h
 refine wpAny_While (codeAny_whileLoop (λn s'=>∃ σ' H',Inv X pins σ' H' s'/\W n σ' H') ?_ m0 ⟨σ,H,I,w0⟩)
 rintro n s1 ⟨σ1,H1,I1,w1⟩
 refine wpAny_passesOwn hp (thn (hc pins s1 σ1 H1 _ I1 (turn n σ1 H1 w1)) λb s2 hz0=>?_)
 obtain ⟨H2,I2,q2⟩:=hz0
 cases b with
 | true =>
  obtain ⟨N,hN,q2⟩:=q2
  rw [if_pos rfl]
  refine wpAny_passesOwn hp (thn (hb pins s2 σ1 H2 _ I2 q2) λf s3 q3=>?_)
  cases f with
  | next =>
   obtain ⟨σ3,H3,I3,n3⟩:=q3
   obtain ⟨m',hm,w3⟩:=hN σ3 H3 n3
   exact ⟨m',hm,σ3,H3,I3,w3⟩
  | cont =>
   obtain ⟨σ3,H3,I3,n3⟩:=q3
   obtain ⟨m',hm,w3⟩:=hN σ3 H3 n3
   exact ⟨m',hm,σ3,H3,I3,w3⟩
  | brk=>exact q3
  | ret v=>exact q3
 | false =>
  rw [if_neg Bool.false_ne_true]
  exact wpAny_execs_nil ⟨σ1,H2,I2,q2⟩
end
structure It where
 go:Nat->Hp->Prop
 yld:Nat->Hp->V->Hp->Prop
 stop:Nat->Hp->Prop
noncomputable def eM (X:Cx) (pins:List (Addr×Obj)) (H:Hp) (b:Addr):Prop :=
 H b=none/\b≠X.env.locals/\b ∉ X.fs/\(b∈X.ex\/X.s₀.heap.objs.size<=b)/\(∀ x c,X.env.cells.lookup x=some c->c≠b)/\∀ p∈X.pn++pins,p.1≠b
theorem Inv.fpOk {X:Cx} {pins:List (Addr×Obj)} {σ:St} {H H':Hp} {s:Shared} {b:Addr} (I:Inv X pins σ H s) (hb:s.heap.objs.size<=b) (hn:H' b=none):eM X pins H' b:=by
 refine ⟨hn,Nat.ne_of_gt (Nat.lt_of_lt_of_le I.lt hb),I.nofs hb,.inr (Nat.le_trans I.sz hb),λx c e z=>?_,λp hp z=>?_⟩
 ·obtain ⟨v,q⟩:=I.cell x c e
  exact absurd (Nat.lt_of_lt_of_le q.lt (by rw [z]; exact hb)) (Nat.lt_irrefl _)
 ·exact absurd (Nat.lt_of_lt_of_le (Heap.lt_size (I.pin p hp).1) (by rw [z]; exact hb)) (Nat.lt_irrefl _)
structure Turn (P:Program) (w:World) (K:PySem.W.Frag) (tg:Expr) (J:It) (fp:List Addr) (it:Addr) (tn:Nat->Heap->Prop):Prop where
 mem:it∈fp
 obj:∀ i h,tn i h->∀ b∈fp,∃ o,h.get? b=some o/\∀ v,o.data≠.cell v
 keep:∀ i h h',tn i h->(∀ b∈fp,∀ o,h.get? b=some o->h'.get? b=some o)->tn i h'
 item:∀ (X:Cx),X.prog=P->X.w=w->X.K=K->X.calm=true->∀ (i:Nat) (pins:List (Addr×Obj)) (s:Shared) (σ:St) (H:Hp) (E:Value->Shared->Prop),Inv X pins σ H s->(∀ b∈fp,eM X pins H b)->tn i s.heap->J.go i H ->
  wpAny (model P w) X.A (pyNext (.ref it)) (λr s1=>∃ u,r=some u /\
   wpAny (model P w) X.A (letOwnedTupleGo tg (.ref it) u) (λ_ s2=>∃ x H',Inv X pins σ H' s2/\RelV x u/\J.yld i H x H'/\tn (i+1) s2.heap/\∀ b∈fp,H' b=none) E s1) E s
 done:∀ (X:Cx),X.prog=P->X.w=w->X.K=K->X.calm=true->∀ (i:Nat) (pins:List (Addr×Obj)) (s:Shared) (σ:St) (H:Hp) (E:Value->Shared->Prop),Inv X pins σ H s->(∀ b∈fp,eM X pins H b)->tn i s.heap->J.stop i H ->
  wpAny (model P w) X.A (pyNext (.ref it)) (λr s1=>r=none/\Inv X pins σ H s1) E s
 self:∀ (A:Around) (i:Nat) (s:Shared) (Q:Value->Shared->Prop) (E:Value->Shared->Prop),tn i s.heap->Q (.ref it) s->wpAny (model P w) A (pyIter (.ref it)) Q E s
noncomputable abbrev TI:=St->Hp->(It->Hp->Prop)->Prop
noncomputable def kM (X:Cx) (pins:List (Addr×Obj)) (σ:St) (tg:Expr) (R:It->Hp->Prop) (itv:Value) (s2:Shared):Prop :=
 ∃ (it:Addr) (fp:List Addr) (tn:Nat->Heap->Prop) (J:It) (H':Hp),itv=.ref it/\Inv X pins σ H' s2/\Turn X.prog X.w X.K tg J fp it tn/\tn 0 s2.heap/\(∀ b∈fp,eM X pins H' b)/\R J H'
noncomputable def PI (X:Cx) (tg iter:Expr) (wi:TI):Prop :=
 ∀ (pins:List (Addr×Obj)) (s:Shared) (σ:St) (H:Hp) (R:It->Hp->Prop),Inv X pins σ H s->wi σ H R ->
  wpAny (model X.prog X.w) X.A (eval iter X.env) (λv s1=>wpAny (model X.prog X.w) X.A (pyIter v) (kM X pins σ tg R) X.xe s1) X.xe s
theorem ke {M:Model} {A:Around} {E:Value->Shared->Prop} {s:Shared} {tg:Expr} {it:Addr} {u:Value} {o:Obj} {n:String} {vs:Array Value} {Q:Unit->Shared->Prop} (ho:s.heap.get? it=some o) (hc:o.cls=.type n) (hd:o.data=.fields vs)
  (hn:["enumerate","zip","dict_itemiterator","dict_reverseitemiterator","odict_iterator","itertools.zip_longest","itertools.pairwise"].contains n=false) (hQ:Q () s):wpAny M A (letOwnedTupleGo tg (.ref it) u) Q E s:=by
 unfold letOwnedTupleGo
 cases tg <;> first
  | exact wpAny_pure hQ
  | (cases u <;> first
    | exact wpAny_pure hQ
    | (refine wpAny_bind (wpAny_load ho ?_)
       rw [hc,hd]
       show wpAny M A (if (["enumerate","zip","dict_itemiterator","dict_reverseitemiterator","odict_iterator","itertools.zip_longest","itertools.pairwise"].contains n && vs[0]? == some (rawInt _))=true then _ else _) Q E s
       rw [if_neg (by intro h; rw [hn,Bool.false_and] at h; cases h)]
       exact wpAny_pure hQ))
noncomputable def rH (K:PySem.W.Frag) (a:Addr):It :=
 ⟨λi H=>∃ xs x,SqL K H a xs/\xs[i]?=some x,λi H x H'=>H'=H/\∀ xs,SqL K H a xs->xs[i]?=some x,λi H=>∃ xs,SqL K H a xs/\xs.length<=i⟩
noncomputable def rG (K:PySem.W.Frag) (a:Addr):It :=
 ⟨λi H=>∃ xs x,SqT K H a xs/\xs[i]?=some x,λi H x H'=>H'=H/\∀ xs,SqT K H a xs->xs[i]?=some x,λi H=>∃ xs,SqT K H a xs/\xs.length<=i⟩
noncomputable def h7 (lo:Int) (n:Nat):It:=⟨λi _=>i < n,λi H x H'=>H'=H/\x=.int (lo+i),λi _=>n<=i⟩
theorem ZfD {P:Program} {w:World} {K:PySem.W.Frag} {tg:Expr} (a it:Addr):Turn P w K tg (rH K a) [it] it (λi h=>h.IsListIter it a i) where
 mem:=by simp
 obj:=λi h st b hb=>by
  have e:b=it:=by simpa using hb
  subst e
  obtain ⟨o,e,c,d⟩:=st
  exact ⟨o,e,λv z=>by rw [d] at z; cases z⟩
 keep:=λi h h' st k=>st.at λo e=>k it (by simp) o e
 item:=by
  intro X hP hw hK hc i pins s σ H E I hf st hg
  subst hP hw hK
  obtain ⟨xs,x,hq,hx⟩:=hg
  obtain ⟨its,rv,p,hz⟩:=I.list hq
  obtain ⟨u,hu,ru⟩:=rv.get hx
  obtain ⟨f0,f1,f2,f3,f4,f5⟩:=hf it (by simp)
  refine wpAny_pyNext_list_item st p.isList (x:=u) (by simpa using hu) λh' st' sb=>?_
  have I1:Inv X pins σ H { s with heap:=h' }:=I.turned (t':=s.toks) (λb o hb e=>(sb.2 b hb).trans e) f0 f1 f3 f4 f5
  obtain ⟨o,e,c,d⟩:=id st'
  exact ⟨u,rfl,ke (s:={ s with heap:=h' }) e c d (by decide) ⟨x,H,I1,ru,⟨rfl,λys hy=>by rw [I.list_inj hy hq]; exact hx⟩,st',λb hb=>(hf b hb).1⟩⟩
 done:=by
  intro X hP hw hK hc i pins s σ H E I hf st hg
  subst hP hw hK
  obtain ⟨xs,hq,hx⟩:=hg
  obtain ⟨its,rv,p,hz⟩:=I.list hq
  obtain ⟨f0,f1,f2,f3,f4,f5⟩:=hf it (by simp)
  have hl:=rv.length
  exact wpAny_pyNext_list_end (I.ok.hd hc) st p.isList (by simp; omega) λh' eb=>⟨rfl,I.turned (t':=s.toks) (λb o hb e=>eb b o hb e) f0 f1 f3 f4 f5⟩
 self:=λ_ _ _ _ _ st h=>wpAny_pyIter_listiter st h
theorem ZfA {P:Program} {w:World} {K:PySem.W.Frag} {tg:Expr} (a it:Addr):Turn P w K tg (rG K a) [it] it (λi h=>h.IsTupleIter it a i) where
 mem:=by simp
 obj:=λi h st b hb=>by
  have e:b=it:=by simpa using hb
  subst e
  obtain ⟨o,e,c,d⟩:=st
  exact ⟨o,e,λv z=>by rw [d] at z; cases z⟩
 keep:=λi h h' st k=>st.at λo e=>k it (by simp) o e
 item:=by
  intro X hP hw hK hc i pins s σ H E I hf st hg
  subst hP hw hK
  obtain ⟨xs,x,hq,hx⟩:=hg
  obtain ⟨its,rv,p,hz⟩:=I.tuple hq
  obtain ⟨u,hu,ru⟩:=rv.get hx
  obtain ⟨f0,f1,f2,f3,f4,f5⟩:=hf it (by simp)
  refine wpAny_pyNext_tuple_item st (show s.heap.IsTuple a its.toArray from p) (x:=u) (by simpa using hu) λh' st' sb=>?_
  have I1:Inv X pins σ H { s with heap:=h' }:=I.turned (t':=s.toks) (λb o hb e=>(sb.2 b hb).trans e) f0 f1 f3 f4 f5
  obtain ⟨o,e,c,d⟩:=id st'
  exact ⟨u,rfl,ke (s:={ s with heap:=h' }) e c d (by decide) ⟨x,H,I1,ru,⟨rfl,λys hy=>by rw [I.tuple_inj hy hq]; exact hx⟩,st',λb hb=>(hf b hb).1⟩⟩
 done:=by
  intro X hP hw hK hc i pins s σ H E I hf st hg
  subst hP hw hK
  obtain ⟨xs,hq,hx⟩:=hg
  obtain ⟨its,rv,p,hz⟩:=I.tuple hq
  obtain ⟨f0,f1,f2,f3,f4,f5⟩:=hf it (by simp)
  have hl:=rv.length
  exact wpAny_pyNext_tuple_end (I.ok.hd hc) st (show s.heap.IsTuple a its.toArray from p) (by simp; omega) λh' eb=>⟨rfl,I.turned (t':=s.toks) (λb o hb e=>eb b o hb e) f0 f1 f3 f4 f5⟩
 self:=λ_ _ _ _ _ st h=>wpAny_pyIter_tupleiter st h
theorem ZfC {P:Program} {w:World} {K:PySem.W.Frag} {tg:Expr} (it:Addr) (lo:Int) (n:Nat):Turn P w K tg (h7 lo n) [it] it (λi h=>IsRangeIter h it (lo+(i:Nat) * 1) ((n:Int) - (i:Nat)) 1) where
 mem:=by simp
 obj:=λi h st b hb=>by
  have e:b=it:=by simpa using hb
  subst e
  exact ⟨_,st,λv z=>by
   have z':Data.fields _=Data.cell v:=z
   cases z'⟩
 keep:=λi h h' st k=>k it (by simp) _ st
 item:=by
  intro X hP hw hK hc i pins s σ H E I hf st hg
  subst hP hw hK
  obtain ⟨f0,f1,f2,f3,f4,f5⟩:=hf it (by simp)
  have W:=Walks.range (prog:=X.prog) (w:=X.w) (I.ok.hd hc) it lo 1 n
  refine W.item i s _ _ hg st λv h' tk hv st' kk=>?_
  obtain ⟨t,rfl⟩:=hv
  have I1:Inv X pins σ H { s with heap:=h',toks:=tk }:=I.turned (λb o hb e=>kk b o (by simpa using hb) e) f0 f1 f3 f4 f5
  refine ⟨_,rfl,ke (s:={ s with heap:=h',toks:=tk }) (n:="range_iterator") st' rfl rfl (by decide) ⟨.int (lo+i),H,I1,⟨t,?_⟩,⟨rfl,rfl⟩,st',λb hb=>(hf b hb).1⟩⟩
  rw [Int.mul_one]
 done:=by
  intro X hP hw hK hc i pins s σ H E I hf st hg
  subst hP hw hK
  obtain ⟨f0,f1,f2,f3,f4,f5⟩:=hf it (by simp)
  exact wpAny_pyNext_range_end (I.ok.hd hc) st (by have:n<=i:=hg; omega) λh' eb=>⟨rfl,I.turned (t':=s.toks) (λb o hb e=>eb b o hb e) f0 f1 f3 f4 f5⟩
 self:=λ_ _ _ _ _ st h=>wpAny_pyIter_rangeiter st h
section
variable {X:Cx} {tg:Expr}
theorem ZbG {pins:List (Addr×Obj)} {σ:St} {H:Hp} {s:Shared} {R:It->Hp->Prop} {E:Value->Shared->Prop} {lo hi:Int} {t u v:Tok} {tk:Nat} (I:Inv X pins σ H s) (h1:-(2 ^ 62)<=lo) (h2:lo < 2 ^ 62) (h3:-(2 ^ 62)<=hi) (h4:hi < 2 ^ 62)
  (q:R (h7 lo (hi - lo).toNat) H):wpAny (model X.prog X.w) X.A (pyIter (.ref s.heap.objs.size)) (kM X pins σ tg R) E { s with heap:=s.heap.push { cls:=.type "range",data:=.fields #[.int lo t,.int hi u,.int 1 v] },toks:=tk }:=by
 refine wpAny_pyIter_range (IsRange.new ..) (small_one h1 h2 h3 h4) ?_
 have I1:Inv X pins σ H { s with heap:=s.heap.push { cls:=.type "range",data:=.fields #[.int lo t,.int hi u,.int 1 v] },toks:=tk }:=I.kept λb o e=>Heap.get?_push_of_some _ e
 refine ⟨(s.heap.push { cls:=.type "range",data:=.fields #[.int lo t,.int hi u,.int 1 v] }).objs.size,[(s.heap.push { cls:=.type "range",data:=.fields #[.int lo t,.int hi u,.int 1 v] }).objs.size],_,_,H,rfl,
  I1.kept (t':=tk) λb o e=>Heap.get?_push_of_some _ e,ZfC _ lo (hi - lo).toNat,?_,λb hb=>?_,q⟩
 ·have e1:lo+((0:Nat):Int) * 1=lo:=by simp
  have e2:(((hi - lo).toNat:Nat):Int) - ((0:Nat):Int)=Builtin.Range.rangeSize lo hi 1:=by rw [rangeSize_one]; split <;> omega
  show IsRangeIter _ _ (lo+((0:Nat):Int) * 1) ((((hi - lo).toNat:Nat):Int) - ((0:Nat):Int)) 1
  rw [e1,e2]
  exact Heap.get?_push_size _ rfl
 ·have e:b=(s.heap.push { cls:=.type "range",data:=.fields #[.int lo t,.int hi u,.int 1 v] }).objs.size:=by simpa using hb
  subst e
  exact I1.fpOk (Nat.le_refl _) (I1.hok.fresh (Nat.le_refl _))
noncomputable def Zde (ta:TA):TI:=λσ H R=>ta σ H λvs H1=>∃ j:Int,vs=[.int j]/\-(2 ^ 62)<=j/\j < 2 ^ 62/\R (h7 0 j.toNat) H1
noncomputable def Zdd (ta:TA):TI:=λσ H R=>ta σ H λvs H1=>∃ i j:Int,vs=[.int i,.int j]/\(-(2 ^ 62)<=i/\i < 2 ^ 62/\-(2 ^ 62)<=j/\j < 2 ^ 62)/\R (h7 i (j - i).toNat) H1
theorem iw {a:Expr} {ta:TA} {p pos:Pos} (hg:Gl X "range") (hm:X.mg "range"=none) (ha:PA X [a] ta) (hs:starEach [a] X.env=[(false,eval a X.env)]:=by rfl):PI X tg (.Call (.Name "range" p) [a] [] pos) (Zde ta):=by
 intro pins s σ H R I h
 refine Call_ (gW I hg hm boot_range (PyProof.Rows.callWith_type1 (thn (ha pos pins s σ H _ I h) λus s1 hz0=>?_) hs rfl))
 obtain ⟨vs,H1,I1,r1,q1⟩:=hz0
 obtain ⟨j,e,q1,q2,q⟩:=q1
 subst e
 cases r1 with
 | cons r rr =>
  cases rr
  obtain ⟨t,rfl⟩:=r
  exact call_range_1 (ZbG I1 (by omega) (by omega) q1 q2 (by simpa using q))
theorem pF {a b:Expr} {ta:TA} {p pos:Pos} (hg:Gl X "range") (hm:X.mg "range"=none) (ha:PA X [a,b] ta) (hs:starEach [a,b] X.env=[(false,eval a X.env),(false,eval b X.env)]:=by rfl) (hs2:starEach [b] X.env=[(false,eval b X.env)]:=by rfl) :
  PI X tg (.Call (.Name "range" p) [a,b] [] pos) (Zdd ta):=by
 intro pins s σ H R I h
 refine Call_ (gW I hg hm boot_range (PyProof.Rows.callWith_type1 (thn (ha pos pins s σ H _ I h) λus s1 hz0=>?_) (by rw [hs,hs2]) (by rw [hs2]; rfl)))
 obtain ⟨vs,H1,I1,r1,q1⟩:=hz0
 obtain ⟨i,j,e,⟨q1,q2,q3,q4⟩,q⟩:=q1
 subst e
 cases r1 with
 | cons r rr =>
  cases rr with
  | cons r' rr =>
   cases rr
   obtain ⟨t,rfl⟩:=r
   obtain ⟨t',rfl⟩:=r'
   exact call_range_2 (ZbG I1 q1 q2 q3 q4 q)
noncomputable def Zf4 (wi:TI) (g:TG) (tb:TS):TS:=λD σ H=>wi σ H λJ H1=>∃ W:Nat->Nat->St->Hp->Prop,(∃ m,W 0 m σ H1)/\∀ i m σ H,W i m σ H ->
 (J.stop i H/\D.nx σ H)\/(J.go i H/\∃ N:St->Hp->Prop,(∀ σ' H',N σ' H'->∃ m',m' < m/\W (i+1) m' σ' H')/\∀ x H',J.yld i H x H'->g x σ H' λσ2 H2=>tb { D with nx:=N,ct:=N,bk:=D.nx } σ2 H2)
noncomputable def lN (fp:List Addr) (h:Heap):List (Addr×Obj):=fp.filterMap λb=>(h.get? b).map λo=>(b,o)
theorem fj {fp:List Addr} {h:Heap} {b:Addr} {o:Obj} (hb:b∈fp) (e:h.get? b=some o):(b,o)∈lN fp h:=List.mem_filterMap.mpr ⟨b,hb,by rw [e]; rfl⟩
theorem ZhZ {fp:List Addr} {h:Heap} {p:Addr×Obj} (hp:p∈lN fp h):p.1∈fp/\h.get? p.1=some p.2:=by
 obtain ⟨b,hb,e⟩:=List.mem_filterMap.mp hp
 cases q:h.get? b with
 | none=>rw [q] at e; cases e
 | some o =>
  rw [q] at e
  have e':(b,o)=p:=Option.some.inj e
  subst e'
  exact ⟨hb,q⟩
theorem Inv.pinned {pins:List (Addr×Obj)} {σ:St} {H:Hp} {s:Shared} {fp:List Addr} (I:Inv X pins σ H s) (hf:∀ b∈fp,eM X pins H b) (ho:∀ b∈fp,∃ o,s.heap.get? b=some o/\∀ v,o.data≠.cell v):Inv X (pins++lN fp s.heap) σ H s :=
 I.pins_of λp hp=>(List.mem_append.mp hp).elim (λz=>I.pin p (List.mem_append_right _ z)) λz=>by
  obtain ⟨hb,e⟩:=ZhZ z
  obtain ⟨f0,f1,f2,_⟩:=hf p.1 hb
  obtain ⟨o,e',d⟩:=ho p.1 hb
  rw [e] at e'; cases e'
  exact ⟨e,f0,f1,f2,d⟩
theorem Inv.unpinned {pins pl:List (Addr×Obj)} {σ:St} {H:Hp} {s:Shared} (I:Inv X (pins++pl) σ H s):Inv X pins σ H s:=I.pins_of λp hp=>I.pin p (List.mem_append_right _ (List.mem_append_left _ hp))
theorem Zhq {iter:Expr} {body:List Stmt} {wi:TI} {g:TG} {tb:TS} {pos:Pos} (hp:PassesOwn (model X.prog X.w) X.A X.env X.xe) (hc:X.calm=true) (hi:PI X tg iter wi) (hg:PG X tg g) (hb:PSs X body tb)
  (hs:∀ x,foldedSetIterable iter X.env x=pure x:=by intro _; rfl):PS X (.For tg iter body [] pos) (Zf4 wi g tb):=by
 intro pins s σ H D I h
 refine wpAny_For (thn (hi pins s σ H _ I h) λv s1 h1=>thn h1 λitv s2 h2=>?_) hs
 obtain ⟨it,fp,tn,J,H2,e,I2,T,st2,f2,W,⟨m0,w0⟩,turn⟩:=h2
 subst e
 -- what stays true of the iterator's objects through the loop
 have stat:∀ {H':Hp},(∀ b∈fp,H' b=none)->∀ b∈fp,eM X pins H' b:=λhn b hb=>⟨hn b hb,(f2 b hb).2⟩
 refine codeAny_forLoop_any (λn s'=>∃ i σ' H',Inv X pins σ' H' s'/\tn i s'.heap/\(∀ b∈fp,H' b=none)/\W i n σ' H') ?_ m0 ⟨0,σ,H2,I2,st2,λb hb=>(f2 b hb).1,w0⟩
 rintro n s3 ⟨i,σ3,H3,I3,st3,fr3,w3⟩
 rcases turn i n σ3 H3 w3 with ⟨stop,qn⟩ | ⟨go,N,hN,step⟩
 ·refine wpAny_passesOwn hp (thn (T.done X rfl rfl rfl hc i pins s3 σ3 H3 X.xe I3 (stat fr3) st3 stop) λr s4 hz0=>?_)
  obtain ⟨hr,I4⟩:=hz0
  subst hr
  exact wpAny_execs_nil ⟨σ3,H3,I4,qn⟩
 ·refine wpAny_passesOwn hp (thn (T.item X rfl rfl rfl hc i pins s3 σ3 H3 X.xe I3 (stat fr3) st3 go) λr s4 hz0=>?_)
  obtain ⟨u,hr,h4⟩:=hz0
  subst hr
  refine wpAny_passesOwn hp (thn h4 λ_ s5 hz0=>?_)
  obtain ⟨x,H5,I5,r5,y5,st5,fr5⟩:=hz0
  have I5':=I5.pinned (stat fr5) (T.obj _ _ st5)
  refine wpAny_passesOwn hp (thn (hg _ s5 σ3 H5 x u _ I5' r5 (step x H5 y5)) λ_ s6 hz0=>?_)
  obtain ⟨σ6,H6,I6,q6⟩:=hz0
  refine wpAny_passesOwn hp (thn (hb _ s6 σ6 H6 _ I6 q6) λf s7 q7=>?_)
  have again:∀ {σ7:St} {H7:Hp},Inv X (pins++lN fp s5.heap) σ7 H7 s7->N σ7 H7->∃ m,m < n/\∃ i σ' H',Inv X pins σ' H' s7/\tn i s7.heap/\(∀ b∈fp,H' b=none)/\W i m σ' H':=λ{σ7 H7} I7 n7=>by
   obtain ⟨m',hm,w7⟩:=hN σ7 H7 n7
   refine ⟨m',hm,i+1,σ7,H7,I7.unpinned,T.keep _ _ _ st5 λb hb o e=>(I7.pin (b,o) (List.mem_append_right _ (List.mem_append_right _ (fj hb e)))).1,λb hb=>?_,w7⟩
   obtain ⟨o,e,d⟩:=T.obj _ _ st5 b hb
   exact (I7.pin (b,o) (List.mem_append_right _ (List.mem_append_right _ (fj hb e)))).2.1
  cases f with
  | next=>obtain ⟨σ7,H7,I7,n7⟩:=q7; exact again I7 n7
  | cont=>obtain ⟨σ7,H7,I7,n7⟩:=q7; exact again I7 n7
  | brk=>obtain ⟨σ7,H7,I7,q7⟩:=q7; exact ⟨σ7,H7,I7.unpinned,q7⟩
  | ret v=>obtain ⟨x7,σ7,H7,I7,r7,q7⟩:=q7; exact ⟨x7,σ7,H7,I7.unpinned,r7,q7⟩
end
noncomputable abbrev R2:=V->V->Hp->VK->Prop
noncomputable def OpR (X:Cx) (f:Value->Value->Sem Value) (r:R2):Prop :=
 ∀ (pins:List (Addr×Obj)) (s:Shared) (σ:St) (H:Hp) (x y:V) (v u:Value) (Q:VK),Inv X pins σ H s->RelV x v->RelV y u->r x y H Q ->
  wpAny (model X.prog X.w) X.A (f v u) (EP X pins σ Q) X.xe s
noncomputable def rB (X:Cx) (f:Value->Sem Value) (r:V->Hp->VK->Prop):Prop :=
 ∀ (pins:List (Addr×Obj)) (s:Shared) (σ:St) (H:Hp) (x:V) (v:Value) (Q:VK),Inv X pins σ H s->RelV x v->r x H Q ->
  wpAny (model X.prog X.w) X.A (f v) (EP X pins σ Q) X.xe s
noncomputable def dg (X:Cx) (f:Value) (r:List V->Hp->VK->Prop):Prop :=
 ∀ (pins:List (Addr×Obj)) (s:Shared) (σ:St) (H:Hp) (xs:List V) (us:List Value) (Q:VK),Inv X pins σ H s->Vals xs us->r xs H Q ->
  wpAny (model X.prog X.w) X.A (call f us) (EP X pins σ Q) X.xe s
noncomputable def Zn8 (X:Cx) (r:V->Hp->(Bool->Hp->Prop)->Prop):Prop :=
 ∀ (pins:List (Addr×Obj)) (s:Shared) (σ:St) (H:Hp) (x:V) (v:Value) (Q:Bool->Hp->Prop),Inv X pins σ H s->RelV x v->r x H Q ->
  wpAny (model X.prog X.w) X.A (truthy v) (TP X pins σ Q) X.xe s
noncomputable def gM (r:R2) (ta tb:TE):TE:=λσ H Q=>ta σ H λx H1=>tb σ H1 λy H2=>r x y H2 Q
noncomputable def tUn (r:V->Hp->VK->Prop) (ta:TE):TE:=λσ H Q=>ta σ H λx H1=>r x H1 Q
noncomputable def rI (C:Int->Int->Prop) (g:Int->Int->V):R2:=λx y H Q=>∃ i j,x=.int i/\y=.int j/\C i j/\Q (g i j) H
noncomputable def dN (g:Int->Int->V):R2:=λx y H Q=>∃ i j,x=.int i/\y=.int j/\Q (g i j) H
noncomputable def rU (g:Int->V):V->Hp->VK->Prop:=λx H Q=>∃ i,x=.int i/\Q (g i) H
section
variable {X:Cx} {a b c:Expr} {ta tb tc:TE} {pos:Pos}
theorem qV (ha:PE X a ta) (hb:PE X b tb) {pins:List (Addr×Obj)} {s:Shared} {σ:St} {H:Hp} {R:V->V->Hp->Prop} (I:Inv X pins σ H s)
  (h:ta σ H λx H1=>tb σ H1 λy H2=>R x y H2) {Q:Value->Shared->Prop} {f:Value->Value->Sem Value}
  (hf:∀ v u s2 x y H2,Inv X pins σ H2 s2->RelV x v->RelV y u->R x y H2->wpAny (model X.prog X.w) X.A (f v u) Q X.xe s2) :
  wpAny (model X.prog X.w) X.A (eval a X.env) (λv s₁=>wpAny (model X.prog X.w) X.A (eval b X.env) (λu s₂=>wpAny (model X.prog X.w) X.A (f v u) Q X.xe s₂) X.xe s₁) X.xe s:=by
 refine thn (ha pins s σ H _ I h) λv s1 hz0=>?_
 obtain ⟨x,H1,I1,r1,q1⟩:=hz0
 refine thn (hb pins s1 σ H1 _ I1 q1) λu s2 hz0=>?_
 obtain ⟨y,H2,I2,r2,q2⟩:=hz0
 exact hf v u s2 x y H2 I2 r1 r2 q2
theorem ce {op:Operator} {r:R2} (ho:OpR X (binaryOp op) r) (ha:PE X a ta) (hb:PE X b tb):PE X (.BinOp a op b pos) (gM r ta tb):=by
 intro pins s σ H Q I h
 exact wpAny_BinOp (qV ha hb I h λv u s2 x y H2 I2 rx ry q=>ho pins s2 σ H2 x y v u Q I2 rx ry q)
theorem ZhA {op:UnaryOp} {r:V->Hp->VK->Prop} (ho:rB X (unaryOp op) r) (ha:PE X a ta):PE X (.UnaryOp op a pos) (tUn r ta):=by
 intro pins s σ H Q I h
 exact UnaryOp_ (thn (ha pins s σ H _ I h) λv s1 ⟨x,H1,I1,r1,q1⟩=>ho pins s1 σ H1 x v Q I1 r1 q1)
theorem gk {f:Value->Value->Sem Value} {C:Int->Int->Prop} {g:Int->Int->Int}
  (rule:∀ (i j:Int) (t u:Tok) (s:Shared) (Q:Value->Shared->Prop) (E:Value->Shared->Prop),C i j->Q (.int (g i j) s.toks) { s with toks:=s.toks+1 }->wpAny (model X.prog X.w) X.A (f (.int i t) (.int j u)) Q E s) :
  OpR X f (rI C λi j=>.int (g i j)):=by
 intro pins s σ H x y v u Q I rx ry h
 obtain ⟨i,j,rfl,rfl,hc,q⟩:=h
 obtain ⟨t,rfl⟩:=rx
 obtain ⟨t',rfl⟩:=ry
 exact rule i j t t' s _ _ hc ⟨.int (g i j),H,I.tok _,⟨_,rfl⟩,q⟩
theorem pO {f:Value->Value->Sem Value} {g:Int->Int->Int}
  (rule:∀ (i j:Int) (t u:Tok) (s:Shared) (Q:Value->Shared->Prop) (E:Value->Shared->Prop),Q (.int (g i j) s.toks) { s with toks:=s.toks+1 }->wpAny (model X.prog X.w) X.A (f (.int i t) (.int j u)) Q E s) :
  OpR X f (dN λi j=>.int (g i j)):=by
 intro pins s σ H x y v u Q I rx ry h
 obtain ⟨i,j,rfl,rfl,q⟩:=h
 obtain ⟨t,rfl⟩:=rx
 obtain ⟨t',rfl⟩:=ry
 exact rule i j t t' s _ _ ⟨.int (g i j),H,I.tok _,⟨_,rfl⟩,q⟩
theorem lS {f:Value->Value->Sem Value} {g:Int->Int->Bool}
  (rule:∀ (i j:Int) (t u:Tok) (s:Shared) (Q:Value->Shared->Prop) (E:Value->Shared->Prop),Q (.bool (g i j)) s->wpAny (model X.prog X.w) X.A (f (.int i t) (.int j u)) Q E s) :
  OpR X f (dN λi j=>.bl (g i j)):=by
 intro pins s σ H x y v u Q I rx ry h
 obtain ⟨i,j,rfl,rfl,q⟩:=h
 obtain ⟨t,rfl⟩:=rx
 obtain ⟨t',rfl⟩:=ry
 exact rule i j t t' s _ _ ⟨.bl (g i j),H,I,rfl,q⟩
noncomputable def Zov (i j:Int):Prop:=0 < j/\j < 1073741824
noncomputable def Zfj (i j:Int):Prop:=0<=j/\j<=1000000/\i.natAbs < 2 ^ 64
noncomputable def CMul (i j:Int):Prop:=(-(2 ^ 64) < i/\i < 2 ^ 64)\/(-(2 ^ 64) < j/\j < 2 ^ 64)
theorem CMul.ok {i j:Int} (h:CMul i j):IntMulOk i j:=by
 rcases h with ⟨h1,h2⟩ | ⟨h1,h2⟩
 ·exact .of_left (intBits_le_64 h1 h2)
 ·exact .of_right (intBits_le_64 h1 h2)
theorem gS:OpR X (binaryOp .Add) (dN λi j=>.int (i+j)):=pO λ_ _ _ _ _ _ _ q=>add_int q
theorem dk:OpR X (binaryOp .Sub) (dN λi j=>.int (i - j)):=pO λ_ _ _ _ _ _ _ q=>sub_int q
theorem pK:OpR X (binaryOp .Mult) (rI CMul λi j=>.int (i * j)):=gk λ_ _ _ _ _ _ _ hc q=>mul_int q hc.ok
theorem pM:OpR X (binaryOp .FloorDiv) (rI Zov λi j=>.int (i / j)):=gk λi j _ _ _ _ _ hc q=>by
 have h1:(0:Int) < j:=hc.1
 have h2:j < 1073741824:=hc.2
 exact floordiv_int (by omega) (by rw [Int.fdiv_eq_ediv_of_nonneg i (by omega)]; exact q) (.inl (PyProof.noPylong_small (by omega)))
theorem gi:OpR X (binaryOp .Mod) (rI (λ_ j=>0 < j) λi j=>.int (i % j)):=gk λi j _ _ _ _ _ hc q=>by
 have h1:(0:Int) < j:=hc
 exact mod_int' (by omega) (by rw [Int.fmod_eq_emod_of_nonneg i (by omega)]; exact q)
theorem lQ:OpR X (binaryOp .Mod) (rI (λ_ j=>j≠0) λi j=>.int (i.fmod j)):=gk λ_ _ _ _ _ _ _ hc q=>mod_int' hc q
theorem pJ:OpR X (binaryOp .Pow) (rI Zfj λi j=>.int (i ^ j.toNat)):=gk λ_ _ _ _ _ _ _ hc q=>pow_int_small hc.1 hc.2.1 hc.2.2 q
theorem Zc9:OpR X (inplaceOp .Add) (dN λi j=>.int (i+j)):=pO λ_ _ _ _ _ _ _ q=>iadd_int q
theorem unI {f:Value->Sem Value} {g:Int->Int}
  (rule:∀ (i:Int) (t:Tok) (s:Shared) (Q:Value->Shared->Prop) (E:Value->Shared->Prop),Q (.int (g i) s.toks) { s with toks:=s.toks+1 }->wpAny (model X.prog X.w) X.A (f (.int i t)) Q E s) :
  rB X f (rU λi=>.int (g i)):=by
 intro pins s σ H x v Q I rx h
 obtain ⟨i,rfl,q⟩:=h
 obtain ⟨t,rfl⟩:=rx
 exact rule i t s _ _ ⟨.int (g i),H,I.tok _,⟨_,rfl⟩,q⟩
theorem Zfx:rB X (unaryOp .USub) (rU λi=>.int (-i)):=unI λ_ _ _ _ _ q=>neg_int q
end
noncomputable def scal:V->V->Bool
 | .non,.non=>true | .non,.int _=>true | .int _,.non=>true | .non,.bl _=>true | .bl _,.non=>true | .non,.str _=>true | .str _,.non=>true
 | .int _,.int _=>true | .bl _,.bl _=>true | .str _,.str _=>true | .byt _,.byt _=>true
 | .int _,.str _=>true | .str _,.int _=>true | .bl _,.str _=>true | .str _,.bl _=>true
 | _,_=>false
noncomputable def rEq:R2:=λx y H Q=>scal x y=true/\Q (.bl (decide (x=y))) H
noncomputable def rNe:R2:=λx y H Q=>scal x y=true/\Q (.bl (!decide (x=y))) H
theorem Zd0 {i j:Int}:decide (V.int i=V.int j)=(i == j):=by
 rw [Bool.eq_iff_iff]
 simp
theorem Zd2 {i j:Bool}:decide (V.bl i=V.bl j)=(i == j):=by
 rw [Bool.eq_iff_iff]
 simp
theorem mO {i j:Str}:decide (V.str i=V.str j)=(i == j):=by
 rw [Bool.eq_iff_iff]
 simp
theorem Zd1 {i j:Array UInt8}:decide (V.byt i=V.byt j)=(i.toList == j.toList):=by
 rw [Bool.eq_iff_iff]
 cases i
 cases j
 simp
section
variable {X:Cx} {a b c:Expr} {ta tb tc:TE} {pos:Pos}
theorem bP {pins:List (Addr×Obj)} {σ:St} {H:Hp} {s:Shared} {Q:VK} {k k':Bool} (I:Inv X pins σ H s) (q:Q (.bl k) H) (e:k=k'):EP X pins σ Q (.bool k') s:=by
 subst e
 exact ⟨.bl k,H,I,rfl,q⟩
theorem ZhS:OpR X (compareOp .Eq) rEq:=by
 intro pins s σ H x y v u Q I rx ry h
 obtain ⟨hs,q⟩:=h
 cases x with
 | non =>
  cases rx
  cases y with
  | non=>cases ry; exact PySem.EqNone.eq_none_none (bP I q (by simp))
  | bl j=>cases ry; exact PySem.EqNone.eq_none_bool (bP I q (by simp))
  | int j=>obtain ⟨t',rfl⟩:=ry; exact PySem.EqNone.eq_none_int (bP I q (by simp))
  | str j=>obtain ⟨t',rfl⟩:=ry; exact PySem.EqNone.eq_none_str (bP I q (by simp))
  | _=>exact absurd (show false=true from hs) Bool.false_ne_true
 | bl i =>
  cases rx
  cases y with
  | non=>cases ry; exact PySem.EqNone.eq_bool_none (bP I q (by simp))
  | bl j=>cases ry; exact eq_bool (bP I q Zd2)
  | str j=>obtain ⟨t',rfl⟩:=ry; exact PySem.EqMixed.eq_bool_str (bP I q (by simp))
  | _=>exact absurd (show false=true from hs) Bool.false_ne_true
 | int i =>
  obtain ⟨t,rfl⟩:=rx
  cases y with
  | non=>cases ry; exact PySem.EqNone.eq_int_none (bP I q (by simp))
  | int j=>obtain ⟨t',rfl⟩:=ry; exact eq_int (bP I q Zd0)
  | str j=>obtain ⟨t',rfl⟩:=ry; exact PySem.EqMixed.eq_int_str (bP I q (by simp))
  | _=>exact absurd (show false=true from hs) Bool.false_ne_true
 | str i =>
  obtain ⟨t,rfl⟩:=rx
  cases y with
  | non=>cases ry; exact PySem.EqNone.eq_str_none (bP I q (by simp))
  | bl j=>cases ry; exact PySem.EqMixed.eq_str_bool (bP I q (by simp))
  | int j=>obtain ⟨t',rfl⟩:=ry; exact PySem.EqMixed.eq_str_int (bP I q (by simp))
  | str j=>obtain ⟨t',rfl⟩:=ry; exact eq_str (bP I q mO)
  | _=>exact absurd (show false=true from hs) Bool.false_ne_true
 | byt i =>
  obtain ⟨t,rfl⟩:=rx
  cases y with
  | byt j=>obtain ⟨t',rfl⟩:=ry; exact PySem.W.eq_bytes (bP I q Zd1)
  | _=>exact absurd (show false=true from hs) Bool.false_ne_true
 | _=>cases y <;> exact absurd (show false=true from hs) Bool.false_ne_true
theorem ZhN:OpR X (compareOp .NotEq) rNe:=by
 intro pins s σ H x y v u Q I rx ry h
 obtain ⟨hs,q⟩:=h
 cases x with
 | non =>
  cases rx
  cases y with
  | non=>cases ry; exact PySem.EqNone.ne_none_none (bP I q (by simp))
  | bl j=>cases ry; exact PySem.EqNone.ne_none_bool (bP I q (by simp))
  | int j=>obtain ⟨t',rfl⟩:=ry; exact PySem.EqNone.ne_none_int (bP I q (by simp))
  | str j=>obtain ⟨t',rfl⟩:=ry; exact PySem.EqNone.ne_none_str (bP I q (by simp))
  | _=>exact absurd (show false=true from hs) Bool.false_ne_true
 | bl i =>
  cases rx
  cases y with
  | non=>cases ry; exact PySem.EqNone.ne_bool_none (bP I q (by simp))
  | bl j=>cases ry; exact ne_bool (bP I q (congrArg not Zd2))
  | str j=>obtain ⟨t',rfl⟩:=ry; exact PySem.EqMixed.ne_bool_str (bP I q (by simp))
  | _=>exact absurd (show false=true from hs) Bool.false_ne_true
 | int i =>
  obtain ⟨t,rfl⟩:=rx
  cases y with
  | non=>cases ry; exact PySem.EqNone.ne_int_none (bP I q (by simp))
  | int j=>obtain ⟨t',rfl⟩:=ry; exact ne_int (bP I q (congrArg not Zd0))
  | str j=>obtain ⟨t',rfl⟩:=ry; exact PySem.EqMixed.ne_int_str (bP I q (by simp))
  | _=>exact absurd (show false=true from hs) Bool.false_ne_true
 | str i =>
  obtain ⟨t,rfl⟩:=rx
  cases y with
  | non=>cases ry; exact PySem.EqNone.ne_str_none (bP I q (by simp))
  | bl j=>cases ry; exact PySem.EqMixed.ne_str_bool (bP I q (by simp))
  | int j=>obtain ⟨t',rfl⟩:=ry; exact PySem.EqMixed.ne_str_int (bP I q (by simp))
  | str j=>obtain ⟨t',rfl⟩:=ry; exact ne_str (bP I q (congrArg not mO))
  | _=>exact absurd (show false=true from hs) Bool.false_ne_true
 | byt i =>
  obtain ⟨t,rfl⟩:=rx
  cases y with
  | byt j=>obtain ⟨t',rfl⟩:=ry; exact PySem.W.ne_bytes (bP I q (congrArg not Zd1))
  | _=>exact absurd (show false=true from hs) Bool.false_ne_true
 | _=>cases y <;> exact absurd (show false=true from hs) Bool.false_ne_true
theorem pL:OpR X (compareOp .Lt) (dN λi j=>.bl (decide (i < j))):=lS λ_ _ _ _ _ _ _ q=>lt_int q
theorem ZhP:OpR X (compareOp .LtE) (dN λi j=>.bl (decide (i<=j))):=lS λ_ _ _ _ _ _ _ q=>le_int q
theorem gj:OpR X (compareOp .Gt) (dN λi j=>.bl (decide (j < i))):=lS λ_ _ _ _ _ _ _ q=>gt_int q
theorem ZhQ:OpR X (compareOp .GtE) (dN λi j=>.bl (decide (j<=i))):=lS λ_ _ _ _ _ _ _ q=>ge_int q
theorem OpR.or {f:Value->Value->Sem Value} {r r':R2} (h:OpR X f r) (h':OpR X f r'):OpR X f (λx y H Q=>r x y H Q\/r' x y H Q):=by
 intro pins s σ H x y v u Q I rx ry q
 rcases q with q | q
 ·exact h pins s σ H x y v u Q I rx ry q
 ·exact h' pins s σ H x y v u Q I rx ry q
theorem nomark (b:Expr) {op:CmpOp} (h:op≠.In:=by decide) (h2:op≠.NotIn:=by decide):behindInMarks op b=false:=by
 have e1:(op == CmpOp.In)=false:=by cases op <;> first | rfl | exact absurd rfl h
 have e2:(op == CmpOp.NotIn)=false:=by cases op <;> first | rfl | exact absurd rfl h2
 cases b <;> first | rfl | (show (_ && (op == CmpOp.In || op == CmpOp.NotIn) && _)=false; rw [e1,e2,Bool.or_false,Bool.and_false,Bool.false_and])
theorem ZhG {op:CmpOp} {r:R2} (ho:OpR X (compareOp op) r) (ha:PE X a ta) (hb:PE X b tb) (hm:behindInMarks op b=false):PE X (.Compare a [op] [b] pos) (gM r ta tb):=by
 intro pins s σ H Q I h
 exact wpAny_Compare1 (qV ha hb I h λv u s2 x y H2 I2 rx ry q=>ho pins s2 σ H2 x y v u Q I2 rx ry q) hm
noncomputable def k7 (t:TE):TT:=λσ H Q=>t σ H λx H'=>∃ k,x=.bl k/\Q k H'
theorem jD {op:CmpOp} {r:R2} (ho:OpR X (compareOp op) r) (ha:PE X a ta) (hb:PE X b tb) (hm:behindInMarks op b=false):PT X (.Compare a [op] [b] pos) (k7 (gM r ta tb)):=by
 intro pins s σ H Q I h
 refine wpAny_isTrue_Compare1 (thn (ha pins s σ H _ I h) λv s1 ⟨x,H1,I1,r1,q1⟩=>thn (hb pins s1 σ H1 _ I1 q1) λu s2 ⟨y,H2,I2,r2,q2⟩ =>
  thn (ho pins s2 σ H2 x y v u _ I2 r1 r2 q2) λc s3 ⟨z,H3,I3,r3,k,e,q3⟩=>?_) hm
 subst e
 cases r3
 exact wpAny_truthy_bool ⟨H3,I3,q3⟩
noncomputable def Zfc (K:PySem.W.Frag) (x:V) (H:Hp) (k:Bool):Prop :=
 match x with
 | .non=>k=false
 | .bl b=>k=b
 | .int i=>k=(i != 0)
 | .str y=>y.length<=sizeLine/\k=((y.length:Int) != 0)
 | .byt y=>y.size<=sizeLine/\k=((y.size:Int) != 0)
 | .ref p=>(∃ xs,SqL K H p xs/\k=!xs.isEmpty)\/(∃ xs,SqT K H p xs/\k=!xs.isEmpty)\/∃ kvs,H p=some (.dK kvs)/\k=!kvs.isEmpty
 | _=>False
theorem ZiU {κ:Type} {kvs:List (κ×V)} {vs:List (κ×Value)} (r:KV kvs vs):(!vs.isEmpty)=!kvs.isEmpty:=by
 cases r <;> rfl
theorem Zc5 {xs:List V} {its:List Value} (r:Vals xs its):(!its.toArray.isEmpty)=!xs.isEmpty:=by
 cases r <;> simp
theorem gr:(sizeLine:Nat) < 2 ^ 63:=by rw [sizeLine_eq]; decide
theorem ZfH:Zn8 X (λx H Q=>∃ k,Zfc X.K x H k/\Q k H):=by
 intro pins s σ H x v Q I rx h
 obtain ⟨k,e,q⟩:=h
 have hl:=gr
 have hs:sizeLine=16777216:=sizeLine_eq
 cases x with
 | non =>
  cases rx
  have e':k=false:=e
  subst e'
  exact truthy_none ⟨H,I,q⟩
 | bl b =>
  cases rx
  have e':k=b:=e
  subst e'
  exact wpAny_truthy_bool ⟨H,I,q⟩
 | int i =>
  obtain ⟨t,rfl⟩:=rx
  have e':k=(i != 0):=e
  subst e'
  exact PySem.P.truthy_int ⟨H,I,q⟩
 | str y =>
  obtain ⟨t,rfl⟩:=rx
  obtain ⟨hy,e'⟩:y.length<=sizeLine/\k=((y.length:Int) != 0):=e
  subst e'
  exact PySem.P.truthy_str (by omega) ⟨H,I.tok _,q⟩
 | byt y =>
  obtain ⟨t,rfl⟩:=rx
  obtain ⟨hy,e'⟩:y.size<=sizeLine/\k=((y.size:Int) != 0):=e
  subst e'
  exact PySem.W.truthy_bytes (by omega) ⟨H,I.tok _,q⟩
 | ref p =>
  cases rx
  have e':(∃ xs,SqL X.K H p xs/\k=!xs.isEmpty)\/(∃ xs,SqT X.K H p xs/\k=!xs.isEmpty)\/∃ kvs,H p=some (.dK kvs)/\k=!kvs.isEmpty:=e
  rcases e' with ⟨xs,hx,e'⟩ | ⟨xs,hx,e'⟩ | ⟨kvs,hx,e'⟩
  ·subst e'
   obtain ⟨its,r,pl,hz⟩:=I.list hx
   have hlen:=r.length
   exact wpAny_truthy_list pl.isList (by simp only [List.size_toArray]; omega) ⟨H,I.tok _,by rw [Zc5 r]; exact q⟩
  ·subst e'
   obtain ⟨its,r,pl,hz⟩:=I.tuple hx
   have hlen:=r.length
   exact truthy_tuple pl (by simp only [List.size_toArray]; omega) ⟨H,I.tok _,by rw [Zc5 r]; exact q⟩
  ·subst e'
   obtain ⟨hz,hS,vs,r,m⟩:kvs.length<=sizeLine/\(p == sysModules)=false/\∃ vs,KV kvs vs/\s.heap.DictOf (cK X.prog X.w) p vs:=I.hok p _ hx
   have hlen:kvs.length=vs.length:=Paired.length r
   exact wpAny_truthy_dict hS m (by omega) ⟨H,I.tok _,by rw [ZiU r]; exact q⟩
 | _=>exact (show False from e).elim
theorem Zhl (ha:PE X a ta) (he:∀ whole,isTrue a X.env whole=(do let v <- whole; standAt a.pos; holding [v] (truthy v))) :
  PT X a (λσ H Q=>ta σ H λx H'=>∃ k,Zfc X.K x H' k/\Q k H'):=by
 intro pins s σ H Q I h
 exact isTrue_plain (thn (ha pins s σ H _ I h) λv s1 ⟨x,H1,I1,r1,q1⟩=>ZfH pins s1 σ H1 x v Q I1 r1 q1) (he _)
theorem eN {x:V} {us:List Value} (r:Vals [x] us):∃ u,us=[u]/\RelV x u:=by
 cases r with
 | cons r1 r2=>cases r2; exact ⟨_,rfl,r1⟩
theorem kY {x y:V} {us:List Value} (r:Vals [x,y] us):∃ u w',us=[u,w']/\RelV x u/\RelV y w':=by
 cases r with
 | cons r1 r2 =>
  cases r2 with
  | cons r3 r4=>cases r4; exact ⟨_,_,rfl,r1,r3⟩
theorem iW:dg X (.builtin "abs") (λxs H Q=>∃ i,xs=[.int i]/\Q (.int (if i < 0 then -i else i)) H):=by
 intro pins s σ H xs us Q I r h
 obtain ⟨i,rfl,q⟩:=h
 obtain ⟨u,rfl,t,rfl⟩:=eN r
 exact call_abs_int λu tk=>⟨.int (if i < 0 then -i else i),H,I.tok _,⟨_,rfl⟩,q⟩
theorem Zeo (hc:X.calm=true):dg X (.builtin "max") (λxs H Q=>∃ i j,xs=[.int i,.int j]/\Q (.int (if j > i then j else i)) H):=by
 intro pins s σ H xs us Q I r h
 obtain ⟨i,j,rfl,q⟩:=h
 obtain ⟨u,w',rfl,⟨t,rfl⟩,⟨t',rfl⟩⟩:=kY r
 refine max_two_ints (I.ok.hd hc) λh' tk k=>⟨_,H,I.kept k,?_,q⟩
 by_cases hj:j > i
 ·rw [if_pos hj,if_pos hj]; exact ⟨_,rfl⟩
 ·rw [if_neg hj,if_neg hj]; exact ⟨_,rfl⟩
theorem Zen (hc:X.calm=true):dg X (.builtin "min") (λxs H Q=>∃ i j,xs=[.int i,.int j]/\Q (.int (if j < i then j else i)) H):=by
 intro pins s σ H xs us Q I r h
 obtain ⟨i,j,rfl,q⟩:=h
 obtain ⟨u,w',rfl,⟨t,rfl⟩,⟨t',rfl⟩⟩:=kY r
 refine min_two_ints (I.ok.hd hc) λh' tk k=>⟨_,H,I.kept k,?_,q⟩
 by_cases hj:j < i
 ·rw [if_pos hj,if_pos hj]; exact ⟨_,rfl⟩
 ·rw [if_neg hj,if_neg hj]; exact ⟨_,rfl⟩
end
section
variable {prog:Program} {w:World} {A:Around} {E:Value->Shared->Prop} {s:Shared} {K:PySem.W.Frag} {x dx C f:Addr} {mA:Str->Option Value} {name:Str} {v:Value}
end
theorem RelO.some_of {v:V} {o:Option Value} (r:RelO (some v) o):∃ u,o=some u/\RelV v u:=by
 cases o with
 | none=>exact (show False from r).elim
 | some u=>exact ⟨u,rfl,r⟩
section
variable {P:Program} {w:World} {H H':Hp} {h h':Heap} {a C dx:Addr} {fs fs':List (Str×V)}
end
section
variable {X:Cx} {pins:List (Addr×Obj)} {σ:St} {H:Hp} {s:Shared} {a C dx:Addr} {fs:List (Str×V)} {f:Str} {v:V} {A:Around} {E:Value->Shared->Prop}
end
section
variable {X:Cx} {o e value:Expr} {f:Str} {pos pos' tpos:Pos} {ta tv:TE}
end
section
variable {X:Cx} {pins:List (Addr×Obj)} {σ:St} {H:Hp} {s:Shared} {A:Around} {E:Value->Shared->Prop} {Q:Value->Shared->Prop} {c:Value} {b:Bool}
end
structure Room (k:Nat) (A:Around):Prop where
 hd:A.handled=none
 dp:A.depth+3 * k+5 < recursionLimit
 un:A.units+16 * k+200 < cLine
 gd:A.guards=some []
theorem Room.mono {j k:Nat} {A:Around} (r:Room k A) (h:j<=k):Room j A:=⟨r.hd,by have:=r.dp; omega,by have:=r.un; omega,r.gd⟩
theorem Room.deeper {k:Nat} {A:Around} (r:Room (k+1) A) (env:Env):Room k (A.deeper env) :=
 ⟨r.hd,by have:=r.dp; show A.depth+1+3 * k+5 < _; omega,by have:=r.un; show A.units+3+16 * k+200 < _; omega,r.gd⟩
theorem Room.depth {k:Nat} {A:Around} (r:Room k A):A.depth < recursionLimit:=by have:=r.dp; omega
theorem Room.units {k:Nat} {A:Around} (r:Room k A):A.units+64 < cLine:=by have:=r.un; omega
noncomputable def aS:TA:=λ_ H Q=>Q [] H
noncomputable def fc (ta:TE) (tr:TA):TA:=λσ H Q=>ta σ H λx H1=>tr σ H1 λxs H2=>Q (x::xs) H2
section
variable {X:Cx} {e:Expr} {es:List Expr} {te:TE} {t:TA} {pos:Pos}
theorem cu:PA X [] aS:=λ_ _ _ _ H Q I h=>Calls.spliced_nil ⟨[],H,I,.nil,h⟩
theorem ci (ha:PE X e te) (hr:PA X es t) (hs:starEach (e::es) X.env=(false,eval e X.env)::starEach es X.env:=by rfl):PA X (e::es) (fc te t):=by
 intro pos pins s σ H Q I h
 rw [hs]
 show wpAny _ _ (spliced ((false,eval e X.env)::backTo pos (starEach es X.env))) _ _ s
 refine Calls.spliced_cons (thn (ha pins s σ H _ I h) λu s1 hz0=>?_)
 obtain ⟨x,H1,I1,r1,q1⟩:=hz0
 exact thn (hr pos pins s1 σ H1 _ I1 q1) λus s2 hz0=>by
  obtain ⟨xs,H2,I2,r2,q2⟩:=hz0
  exact ⟨x::xs,H2,I2,.cons r1 r2,q2⟩
noncomputable def ZfN (t:TA):TE:=λσ H Q=>t σ H λxs H1=>xs.length<=sizeLine/\∀ p,H1 p=none->Q (.ref p) (upd H1 p (.tup xs))
noncomputable def ZfZ (t:TA):TE:=λσ H Q=>t σ H λxs H1=>xs.length<=sizeLine/\∀ p,H1 p=none->Q (.ref p) (upd H1 p (.lst xs))
theorem ZhB {x1} (h:PA X es t):PE X (.Tuple es x1 pos) (ZfN t):=by
 intro pins s σ H Q I hq
 refine wpAny_Tuple_spliced (thn (h pos pins s σ H _ I hq) λus s1 ⟨xs,H1,I1,r,z,q⟩=>⟨by rw [<- r.length]; exact z,?_⟩)
 have hf:H1 s1.heap.objs.size=none:=I1.hok.fresh (Nat.le_refl _)
 refine ⟨.ref s1.heap.objs.size,upd H1 s1.heap.objs.size (.tup xs),I1.laid (t':=s1.toks) (λb u e=>Heap.get?_push_of_some _ e) (Nat.le_refl _) ?_,rfl,q _ hf⟩
 exact ⟨z,us,r,⟨_,Heap.get?_push_size _ rfl,rfl,_,rfl⟩⟩
theorem Zcc (h:PA X es t):PE X (.List es pos) (ZfZ t):=by
 intro pins s σ H Q I hq
 refine wpAny_List_spliced (thn (h pos pins s σ H _ I hq) λus s1 ⟨xs,H1,I1,r,z,q⟩=>⟨by rw [<- r.length]; exact z,?_⟩)
 have hf:H1 s1.heap.objs.size=none:=I1.hok.fresh (Nat.le_refl _)
 refine ⟨.ref s1.heap.objs.size,upd H1 s1.heap.objs.size (.lst xs),I1.laid (t':=s1.toks) (λb u e=>Heap.get?_push_of_some _ e) (Nat.le_refl _) ?_,rfl,q _ hf⟩
 exact ⟨z,us,0,r,Heap.get?_push_size _ rfl⟩
end
noncomputable abbrev Sp:=List V->Hp->VK->XK->Prop
noncomputable abbrev dX:=List Env->Hp->Shared->XK->Value->Shared->Prop
structure Env0 (P:Program) (w:World) (K:PySem.W.Frag) (mg:Str->Option Value) (base:Heap) (A:Around) (outer:List Env) (s:Shared) (H:Hp):Prop where
 frames:A.frames=some outer
 mod:Mod K mg base
 bs:∀ b o,base.get? b=some o->s.heap.get? b=some o/\H b=none
 bsz:base.objs.size<=s.heap.objs.size
 funs:s.heap.FunFrames base outer
 frf:∀ b∈frs outer,H b=none
 hok:HOk P w H s.heap
 bare:AllBare s.gens
noncomputable def CE (outer:List Env) (P:Program) (w:World) (H:Hp) (s:Shared) (Q:VK) (u:Value) (s':Shared):Prop :=
 ∃ v H',s'.os=s.os/\AllBare s'.gens/\Un (frs outer) [] H H' s.heap s'.heap/\HOk P w H' s'.heap/\RelV v u/\Q v H'
noncomputable def CR (CX:dX) (outer:List Env) (P:Program) (w:World) (H:Hp) (s:Shared) (Q:VK) (E:XK) (r:Result) (s':Shared):Prop :=
 match r with
 | .ok (.ret u)=>CE outer P w H s Q u s'
 | .ok _=>False
 | .error e=>CX outer H s E e s'
structure FnOk (P:Program) (w:World) (K:PySem.W.Frag) (mg:Str->Option Value) (base:Heap) (CX:dX) (k:Nat) (f:Addr) (fd:FuncData) (ps:List Str) (sp:Sp):Prop where
 len:∀ vs H Q E,sp vs H Q E->vs.length=ps.length
 run:∀ (A:Around) (outer:List Env) (s:Shared) (H:Hp) (args:Args) (us:List Value) (vs:List V) (Q:VK) (E:XK),Room k A->Env0 P w K mg base A outer s H->BindsTo s fd args (ps.zip us)->Vals vs us->sp vs H Q E ->
  codeAny (model P w) A (.call (.ref f) args) (CR CX outer P w H s Q E) s
theorem FnOk.imp {P:Program} {w:World} {K:PySem.W.Frag} {mg:Str->Option Value} {base:Heap} {CX:dX} {k:Nat} {f:Addr} {fd:FuncData} {ps:List Str} {sp sp':Sp} (F:FnOk P w K mg base CX k f fd ps sp)
  (h:∀ vs H Q E,sp' vs H Q E->sp vs H Q E):FnOk P w K mg base CX k f fd ps sp' :=
 ⟨λvs H Q E q=>F.len vs H Q E (h _ _ _ _ q),λA outer s H args us vs Q E hr he hb hv hs=>F.run A outer s H args us vs Q E hr he hb hv (h _ _ _ _ hs)⟩
section
variable {X:Cx} {pins:List (Addr×Obj)} {σ:St} {H:Hp} {s s':Shared}
theorem Inv.env0 (I:Inv X pins σ H s):Env0 X.prog X.w X.K X.mg X.base X.A X.stack s H :=
 ⟨I.ok.frames,I.ok.mod,I.bs,Nat.le_trans I.ok.bsz I.sz,I.stack,I.stkFree,I.hok,I.bare⟩
theorem Inv.after {Q:VK} {u:Value} (I:Inv X pins σ H s) (h:CE X.stack X.prog X.w H s Q u s'):EP X pins σ Q u s':=by
 obtain ⟨v,H',os,bare,un,hok,r,q⟩:=h
 obtain ⟨hh,g,d,t,os'⟩:=s'
 obtain rfl:os'=s.os:=os
 exact ⟨v,H',I.call (h':=hh) (g':=g) (d':=d) (t':=t) (ch:=[]) un hok bare (λb z=>absurd z (by simp)),r,q⟩
end
noncomputable def ZaD (sp:Sp) (dvs:List V) (E:XK) (t:TA):TE:=λσ H Q=>t σ H λvs H1=>sp (vs++dvs) H1 Q E
noncomputable def Binds (K:PySem.W.Frag) (fd:FuncData) (ps:List Str) (ds:List Value):Prop :=
 ∀ (s:Shared) (us:List Value),K.In s.heap->(us++ds).length=ps.length->BindsTo s fd ⟨us,[]⟩ (ps.zip (us++ds))
theorem Binds.all {K:PySem.W.Frag} {fd:FuncData} {ps:List Str} (h:∀ us:List Value,us.length=ps.length->bindArgs fd ⟨us,[]⟩=pure (ps.zip us)):Binds K fd ps []:=λs us _ hl=>by
 rw [List.append_nil] at hl ⊢
 exact .of_eq (h us hl)
noncomputable def rE (CX:dX) (X:Cx) (E:XK):Prop:=∀ (pins:List (Addr×Obj)) (σ:St) (H:Hp) (s:Shared) (e:Value) (s':Shared),Inv X pins σ H s->CX X.stack H s E e s'->X.xe e s'
section
variable {X:Cx} {CX:dX} {k:Nat} {f C:Addr} {fd:FuncData} {ps:List Str} {sp:Sp} {dvs:List V} {ds:List Value} {E:XK} {x m:Str} {p pos apos:Pos} {e o:Expr} {es:List Expr} {ta:TE} {t:TA}
theorem ZgO {pins:List (Addr×Obj)} {σ:St} {H:Hp} {s:Shared} {Q:VK} {us:List Value} {vs:List V} (F:FnOk X.prog X.w X.K X.mg X.base CX k f fd ps sp) (hr:Room k X.A) (hb:Binds X.K fd ps ds) (hd:Vals dvs ds) (hx:rE CX X E)
  (I:Inv X pins σ H s) (r:Vals vs us) (h:sp (vs++dvs) H Q E):wpAny (model X.prog X.w) X.A (call (.ref f) us) (EP X pins σ Q) X.xe s:=by
 have r2:Vals (vs++dvs) (us++ds):=r.append hd
 have hl:(us++ds).length=ps.length:=by rw [<- r2.length]; exact F.len _ _ _ _ h
 refine wpAny_call (codeAny_mono (F.run X.A X.stack s H ⟨us,[]⟩ (us++ds) (vs++dvs) Q E hr I.env0 (hb s us I.kIn hl) r2 h) λr s' hq=>?_)
 cases r with
 | error e=>exact hx pins σ H s e s' I hq
 | ok fl =>
  cases fl with
  | ret u=>exact I.after hq
  | next=>exact False.elim hq
  | brk=>exact False.elim hq
  | cont=>exact False.elim hq
theorem ZhH (F:FnOk X.prog X.w X.K X.mg X.base CX k f fd ps sp) (hr:Room k X.A) (hg:Gl X x) (hm:X.mg x=some (.ref f)) (hk:PySem.W.keepIn X.K (.ref f)=true) (hb:Binds X.K fd ps ds) (hd:Vals dvs ds) (hx:rE CX X E)
  (ha:PA X (e::es) t) (hdb:(x == ("__debug__":Str))=false:=by decide) (he:starEach (e::es) X.env=(false,eval e X.env)::starEach es X.env:=by rfl) (hpl:(backTo pos (starEach es X.env)).any (·.1)=false:=by rfl) :
  PE X (.Call (.Name x p) (e::es) [] pos) (ZaD sp dvs E t):=by
 intro pins s σ H Q I h
 refine wpAny_Call_Name_kw (ZcP I hg hm ?_ hdb)
 refine PySem.W.callWith_K (h₀:=X.base) I.ok.mod.kin hk (thn (ha pos pins s σ H _ I h) λus s1 ⟨vs,H1,I1,r,q⟩=>⟨I1.kIn,?_⟩) he hpl
 exact ZgO F hr hb hd hx I1 r q
end
noncomputable def PK (X:Cx) (kws:List Keyword) (t:TA):Prop :=
 ∀ (pos:Pos) (pins:List (Addr×Obj)) (s:Shared) (σ:St) (H:Hp) (Q:List V->Hp->Prop),Inv X pins σ H s->t σ H Q->wpAny (model X.prog X.w) X.A (evalAll ((backToKw pos (keywordEach kws X.env)).map (·.2))) (AP X pins σ Q) X.xe s
section
variable {X:Cx} {CX:dX} {k:Nat} {f C:Addr} {fd:FuncData} {ps ks:List Str} {sp:Sp} {E:XK} {x m:Str} {p pos apos kpos:Pos} {e o:Expr} {es:List Expr} {kws:List Keyword} {te ta:TE} {t tk:TA} {nm:Option Str}
variable {g:List Value->List Value->List Value} {gV:List V->List V->List V}
end
structure FnScope (N P:List Str) (sc:Scope):Prop where
 kind:sc.kind=.function
 co:sc.isCoroutine=false
 gen:sc.isGenerator=false
 nd:N.Nodup
 pre:N.take P.length=P
 par:∀ x∈P,sc.names.lookup x=some .local\/sc.names.lookup x=some .cell
 nofree:∀ y∈sc.names,y.2≠.free
theorem ZeI {kindOf:Str->Option NameKind} {x:Str}:∀ {binds:List (Str×Value)} {m:Str->Option Value},(∀ v,(x,v) ∉ binds)->bindL kindOf binds m x=m x
 | [],_,_=>rfl
 | (n,v)::r,m,h=>by
  unfold bindL
  rw [ZeI λw hw=>h w (List.mem_cons_of_mem _ hw)]
  split
  ·have:x≠n:=by rintro rfl; exact h v List.mem_cons_self
   simp [this]
  ·rfl
theorem ZeK {kindOf:Str->Option NameKind} {x:Str}:∀ {binds:List (Str×Value)} {m:Str->Option Value},(∀ v,(x,v) ∉ binds)->bindC kindOf binds m x=m x
 | [],_,_=>rfl
 | (n,v)::r,m,h=>by
  unfold bindC
  rw [ZeK λw hw=>h w (List.mem_cons_of_mem _ hw)]
  split
  ·rfl
  ·have:x≠n:=by rintro rfl; exact h v List.mem_cons_self
   simp [this]
theorem ZeJ {kindOf:Str->Option NameKind} {x:Str} {v:Value}:∀ {P:List Str} {vs:List Value} {i:Nat} {m:Str->Option Value},P.Nodup->P[i]?=some x->vs[i]?=some v->kindOf x=some .local ->
  bindL kindOf (P.zip vs) m x=some v
 | [],_,_,_,_,h,_,_=>by simp at h
 | _::_,[],_,_,_,_,h,_=>by simp at h
 | p::P,w::vs,0,m,nd,h1,h2,hk=>by
  simp at h1 h2; subst h1; subst h2
  show bindL kindOf ((p,w)::P.zip vs) m p=_
  unfold bindL
  rw [ZeI λv hv=>(List.nodup_cons.mp nd).1 (List.of_mem_zip hv).1,if_pos hk]
  simp
 | p::P,w::vs,i+1,m,nd,h1,h2,hk=>by
  show bindL kindOf ((p,w)::P.zip vs) m x=_
  unfold bindL
  exact ZeJ (i:=i) (List.nodup_cons.mp nd).2 (by simpa using h1) (by simpa using h2) hk
theorem ZeL {kindOf:Str->Option NameKind} {x:Str} {v:Value}:∀ {P:List Str} {vs:List Value} {i:Nat} {m:Str->Option Value},P.Nodup->P[i]?=some x->vs[i]?=some v->kindOf x≠some .local ->
  bindC kindOf (P.zip vs) m x=some v
 | [],_,_,_,_,h,_,_=>by simp at h
 | _::_,[],_,_,_,_,h,_=>by simp at h
 | p::P,w::vs,0,m,nd,h1,h2,hk=>by
  simp at h1 h2; subst h1; subst h2
  show bindC kindOf ((p,w)::P.zip vs) m p=_
  unfold bindC
  rw [ZeK λv hv=>(List.nodup_cons.mp nd).1 (List.of_mem_zip hv).1,if_neg hk]
  simp
 | p::P,w::vs,i+1,m,nd,h1,h2,hk=>by
  show bindC kindOf ((p,w)::P.zip vs) m x=_
  unfold bindC
  exact ZeL (i:=i) (List.nodup_cons.mp nd).2 (by simpa using h1) (by simpa using h2) hk
noncomputable def start (N:List Str) (vs:List V):St:=vs.map some++List.replicate (N.length - vs.length) none
noncomputable def gA (CX:dX) (P:Program) (w:World) (K:PySem.W.Frag) (mg:Str->Option Value) (base:Heap) (N:List Str) (qual:Str) (scope:Scope) (f:Addr) (cd:Value) (A:Around) (outer:List Env) (s:Shared) (H:Hp) (E:XK):Cx where
 prog:=P
 w:=w
 K:=K
 mg:=mg
 base:=base
 A:=A.deeper (envOfC qual scope s.heap.objs.size f cd)
 N:=N
 s₀:=s
 H₀:=H
 env:=envOfC qual scope s.heap.objs.size f cd
 outer:=outer
 stack:=envOfC qual scope s.heap.objs.size f cd::outer
 ex:=[]
 calm:=true
 fn:=λ_=>true
 pn:=[]
 xe:=λe s'=>wpAny (model P w) (A.deeper (envOfC qual scope s.heap.objs.size f cd)) (leaving (envOfC qual scope s.heap.objs.size f cd) e) (λ_ s''=>CX outer H s E e s'') (λe' s''=>CX outer H s E e' s'') s'
theorem Zek {sc:Scope} {n:Nat} {x:Str} (h:sc.names.lookup x=some .cell):∃ c,(cellsFrom n sc.names []).lookup x=some c:=by
 have q:=PySem.W.cellsFrom_some sc.names n [] (.inl h)
 exact Option.isSome_iff_exists.mp q
theorem ZiW {CX:dX} {P:Program} {w:World} {K:PySem.W.Frag} {mg:Str->Option Value} {base:Heap} {N ps:List Str} {qual:Str} {scope:Scope} {f:Addr} {cd:Value} {A:Around} {outer:List Env} {s s1:Shared} {H:Hp} {E:XK} {us:List Value} {vs:List V}
  (S:FnScope N ps scope) (hd:A.handled=none) (e0:Env0 P w K mg base A outer s H) (hl:vs.length=ps.length) (r:Vals vs us)
  (x:InCallC s s.heap.objs.size (bindL (envOfC qual scope s.heap.objs.size f cd).kindOf (ps.zip us) λ_=>none) (cellsFrom (s.heap.objs.size+1) scope.names []) (bindC (envOfC qual scope s.heap.objs.size f cd).kindOf (ps.zip us) λ_=>none) s1) :
  Inv (gA CX P w K mg base N qual scope f cd A outer s H E) [] (start N vs) H s1:=by
 have hpl:ps.length<=N.length:=by have:=congrArg List.length S.pre; rw [List.length_take] at this; omega
 obtain ⟨h1,tk,rfl,hk⟩:=x.done
 have noA:∀ b:Addr,b ∉ (gA CX P w K mg base N qual scope f cd A outer s H E).ex:=λb z=>absurd (show b∈([]:List Addr) from z) (by simp)
 refine ⟨⟨e0.mod,S.kind,rfl,rfl,Nat.le_refl _,λy z c h1 h2=>?_,λy hy=>?_,λy c _ h=>?_,λ_=>hd,Around.frames_deeper e0.frames,.inr ⟨rfl,rfl⟩,λb z=>absurd z (noA b),e0.bs,e0.bsz,λb _ _=>noA b,λb z=>absurd z (noA b),e0.funs,e0.frf⟩,
  rfl,e0.bare,Un.kept hk,⟨_,x.toInCall.ns,λi y v h1 h2 h3=>?_⟩,λy c h=>⟨_,x.cell y c h⟩,e0.hok.fresh (Nat.le_refl _),λy c h=>?_,λp hp=>absurd (show p∈([]:List (Addr×Obj)) from hp) (by simp),e0.hok.kept hk,?_⟩
 ·exact name_of_addr x.apart (PySem.mem_of_lookup h1) (PySem.mem_of_lookup h2)
 ·have hy:scope.names.lookup y=some .cell\/scope.names.lookup y=some .free:=hy
  rcases hy with hy | hy
  ·exact Zek hy
  ·exact absurd rfl (S.nofree _ (PySem.mem_of_lookup hy))
 ·exact Nat.le_of_lt (x.above y c (PySem.mem_of_lookup h))
 ·have hi:i < vs.length:=by
   unfold start at h2
   by_cases hi:i < vs.length
   ·exact hi
   ·rw [List.getElem?_append_right (by simpa using hi)] at h2
    rw [List.getElem?_replicate] at h2
    split at h2 <;> cases h2
  have ha:vs[i]?=some v:=by
   unfold start at h2
   rw [List.getElem?_append_left (by simpa using hi),List.getElem?_map] at h2
   cases e:vs[i]? with
   | none=>rw [e] at h2; cases h2
   | some a=>rw [e] at h2; cases h2; rfl
  obtain ⟨u,hu,rv⟩:=r.get ha
  have hp:ps[i]?=some y:=by
   rw [<- S.pre,List.getElem?_take_of_lt (by omega)]; exact h1
  have ndP:ps.Nodup:=by rw [<- S.pre]; exact S.nd.sublist (List.take_sublist _ _)
  refine ⟨u,rv,?_⟩
  rcases S.par y (List.mem_of_getElem? hp) with k | k
  ·exact .inl ⟨k,ZeJ ndP hp hu k⟩
  ·obtain ⟨c,e⟩:=Zek (n:=s.heap.objs.size+1) k
   refine .inr ⟨.inl k,c,e,?_⟩
   have q:=x.cell y c e
   rw [ZeL ndP hp hu (by show scope.names.lookup y≠_; rw [k]; decide)] at q
   exact q
 ·exact e0.hok.fresh (Nat.le_of_lt (x.above y c (PySem.mem_of_lookup h)))
 ·unfold start
  show _=N.length
  rw [List.length_append,List.length_map,List.length_replicate]
  omega
theorem Zjl {CX:dX} {P:Program} {w:World} {K:PySem.W.Frag} {mg:Str->Option Value} {base:Heap} {k:Nat} {f:Addr} {name qual:Str} {params:Arguments} {body:List Stmt} {scope:Scope} {dV kV doc pm cdv ct oc:Value} {an od:Option Addr}
  {osl:Array (Option Value)} {N ps:List Str} {sp:Sp} (lk:K.lookup f=some ⟨oc,od,.func (PySem.W.fnOf name qual params body scope dV kV doc pm an cdv ct),osl⟩) (hcd:PySem.W.codeIn K cdv qual=true) (S:FnScope N ps scope)
  (len:∀ vs H Q E,sp vs H Q E->vs.length=ps.length)
  (hbody:∀ (A:Around) (outer:List Env) (s:Shared) (H:Hp) (vs:List V) (Q:VK) (E:XK),Room k (A.deeper (envOfC qual scope s.heap.objs.size f cdv))->sp vs H Q E ->
   ∃ t,PSs (gA CX P w K mg base N qual scope f cdv A outer s H E) body t/\t { nx:=λ_ H'=>Q .non H',rt:=Q } (start N vs) H) :
  FnOk P w K mg base CX (k+1) f (PySem.W.fnOf name qual params body scope dV kV doc pm an cdv ct) ps sp:=by
 refine ⟨len,λA outer s H args us vs Q E hr e0 hb r hsp=>?_⟩
 have hl:=len _ _ _ _ hsp
 have KX:K.In s.heap:=e0.mod.kin.keeps λb o e=>(e0.bs b o e).1
 have lim:s.heap.NoLimit:=e0.mod.nolimit.keeps λb o e=>(e0.bs b o e).1
 have hkind:∀ y∈ps.zip us,scope.names.lookup y.1=some .local\/(scope.names.lookup y.1=some .cell/\((cellsFrom (s.heap.objs.size+1) scope.names []).lookup y.1).isSome=true):=λ⟨n,v⟩ hy=>by
  rcases S.par n (List.of_mem_zip hy).1 with q | q
  ·exact .inl q
  ·exact .inr ⟨q,PySem.W.cellsFrom_some _ _ _ (.inl q)⟩
 refine codeAny_call_function hr.depth (KX _ _ lk) rfl S.co S.gen rfl (PySem.W.codeRec_of KX hcd) (hb _ _ _ _ ?_)
 refine wpAny_newFunctionEnv_cells S.kind hkind λenv he s1 x=>?_
 subst he
 refine ⟨lim.keeps x.toInCall.keep,codeAny_func ?_⟩
 obtain ⟨t,ht,hq⟩:=hbody A outer s H vs Q E (hr.deeper _) hsp
 have I:Inv (gA CX P w K mg base N qual scope f cdv A outer s H E) [] (start N vs) H s1:=ZiW S hr.hd e0 hl r x
 refine wpAny_mono (ht [] s1 (start N vs) H _ I hq) (λfl s' hs=>?_) λe s' hs=>hs
 have fin:∀ {σ':St} {H':Hp} {v:V} {u:Value},Inv (gA CX P w K mg base N qual scope f cdv A outer s H E) [] σ' H' s'->RelV v u->Q v H'->CE outer P w H s Q u s' :=
  λ{σ' H' v u} J rv q=>⟨v,H',J.os,J.bare,J.base,J.hok,rv,q⟩
 cases fl with
 | ret u =>
  obtain ⟨v,σ',H',J,rv,q⟩:=hs
  exact fin J rv q
 | next =>
  obtain ⟨σ',H',J,q⟩:=hs
  exact fin (v:=V.non) (u:=Value.none) J rfl q
 | brk =>
  obtain ⟨_,_,_,q⟩:=hs
  exact False.elim q
 | cont =>
  obtain ⟨_,_,_,q⟩:=hs
  exact False.elim q
section
variable {X:Cx} {x:Str} {p pos:Pos} {e:Expr} {es:List Expr} {t:TA} {id T:String} {r:List V->Hp->VK->Prop}
noncomputable def f8 (r:List V->Hp->VK->Prop) (t:TA):TE:=λσ H Q=>t σ H λvs H1=>r vs H1 Q
theorem bu (hc:dg X (.builtin id) r) (hg:Gl X x) (hm:X.mg x=none) (hv:bootBuiltins x=some (.builtin id)) (ha:PA X (e::es) t) (hn:x≠"__name__":=by decide) (hdb:(x == ("__debug__":Str))=false:=by decide)
  (he:starEach (e::es) X.env=(false,eval e X.env)::starEach es X.env:=by rfl) (hpl:(backTo pos (starEach es X.env)).any (·.1)=false:=by rfl):PE X (.Call (.Name x p) (e::es) [] pos) (f8 r t):=by
 intro pins s σ H Q I h
 refine wpAny_Call_Name_kw (gW I hg hm hv ?_ hn hdb)
 exact PyProof.Rows.callWith_builtin1 (thn (ha pos pins s σ H _ I h) λus s1 ⟨vs,H1,I1,r1,q1⟩=>hc pins s1 σ H1 vs us Q I1 r1 q1) he hpl
theorem cJ (hc:dg X (.type T) r) (hg:Gl X x) (hm:X.mg x=none) (hv:bootBuiltins x=some (.type T)) (ha:PA X (e::es) t) (hn:x≠"__name__":=by decide) (hdb:(x == ("__debug__":Str))=false:=by decide)
  (he:starEach (e::es) X.env=(false,eval e X.env)::starEach es X.env:=by rfl) (hpl:(backTo pos (starEach es X.env)).any (·.1)=false:=by rfl):PE X (.Call (.Name x p) (e::es) [] pos) (f8 r t):=by
 intro pins s σ H Q I h
 refine wpAny_Call_Name_kw (gW I hg hm hv ?_ hn hdb)
 exact PyProof.Rows.callWith_type1 (thn (ha pos pins s σ H _ I h) λus s1 ⟨vs,H1,I1,r1,q1⟩=>hc pins s1 σ H1 vs us Q I1 r1 q1) he hpl
end
end L2
namespace HT
open PySem PyProof.Rows
noncomputable def cw:List Int->List Int->Bool
 | [],[]=>false
 | [],_::_=>true
 | _::_,[]=>false
 | x::xs,y::ys=>if x=y then cw xs ys else decide (x < y)
theorem ZcI (x y:Int) (xs ys:List Int):cw (x::xs) (y::ys)=if x=y then cw xs ys else decide (x < y):=rfl
theorem ZcH:cw [] []=false:=rfl
theorem Ziq (y:Int) (ys:List Int):cw [] (y::ys)=true:=rfl
theorem Zir (x:Int) (xs:List Int):cw (x::xs) []=false:=rfl
theorem ZlM (A:Around) (s:Shared) (a:Int) (t:Tok) (c:Int) (u:Tok):∃ e,SeqAt.EqAt A s (.int a t) (.int c u) e/\(e=true ↔ a=c) :=
 ⟨(a == c),SeqAt.EqAt.int_int a t c u,by simp⟩
theorem Zg6 (A:Around) (s:Shared) (a:Int) (t:Tok) (c:Int) (u:Tok) (prog:Program) (w:World) (E:Value->Shared->Prop) (Q:Value->Shared->Prop) (h:Q (.bool (decide (a < c))) s) :
  wpAny (model prog w) A (richCompare .Lt (.int a t) (.int c u)) Q E s :=
 (PyProof.Rows.lt_int h:wpAny (model prog w) A (compareOp .Lt (.int a t) (.int c u)) Q E s)
section
open PySem.SeqAt
open PySem.AutoSeq1 (wpAny_loadPart')
open PySem.MeetsSeq PySem.MeetsSeq2 PySem.MeetsSeq3
theorem ZfG (l b:Addr) (items items2:Array Value) (n n2:Nat) (dd dd2:Option Addr) (sl dZ:Array (Option Value)) (ns ms:List Int) (hi:IntsAre items.toList ns) (hj:IntsAre items2.toList ms) :
  Meets (Builtin.«tuple.__lt__» ⟨[.ref l,.ref b],[]⟩)
   (λ_ R s=>s.heap.get? l=some { cls:=.type "tuple",dict:=dd,data:=.seq items n,slots:=sl }/\s.heap.get? b=some { cls:=.type "tuple",dict:=dd2,data:=.seq items2 n2,slots:=dZ } /\
    R (.ok (.ret (.bool (cw ns ms)))) s) :=
 .of_wp λprog w A R s h=>by
  obtain ⟨hp,g,d,tk,os⟩:=s; obtain ⟨hl,hb,h⟩:=h
  have f2:=AutoSeq1.sub_tuple_tuple
  have z1:items.size=ns.length:=by rw [<- hi.length]; simp
  have z2:items2.size=ms.length:=by rw [<- hj.length]; simp
  wp_walk using wpAny_loadPart' hl,wpAny_loadPart' hb,wpAny_forIn_list _ (λrest b s'=>b.1=none/\s'=⟨hp,g,d,tk,os⟩/\∃ (vs ws:List Value) (ns' ms':List Int),rest=vs.zip ws /\
   IntsAre vs ns'/\IntsAre ws ms'/\ns'.length+items2.size=ms'.length+items.size/\R (.ok (.ret (.bool (cw ns' ms')))) ⟨hp,g,d,tk,os⟩) _
  case turn =>
   rintro ⟨y,x⟩ rest b s' ⟨hb',rfl,vs,ws,ns',ms',hz,hvi,hwi,hlen,hR⟩
   cases hvi with
   | nil=>rw [List.zip_nil_left] at hz; cases hz
   | cons a t hvi' =>
    cases hwi with
    | nil=>rw [List.zip_nil_right] at hz; cases hz
    | cons c u hwi' =>
     rw [List.zip_cons_cons] at hz
     injection hz with hyx hrest
     injection hyx with hy hx
     subst hy hx
     rw [ZcI] at hR
     simp only [List.length_cons] at hlen
     obtain ⟨e,he,hiff⟩:=ZlM A.in1 ⟨hp,g,d,tk,os⟩ a t c u
     refine wpAny_bind (he prog w _ _ ?_)
     cases e with
     | true =>
      rw [if_pos (hiff.mp rfl)] at hR
      wp_walk
      exact ⟨rfl,rfl,_,_,_,_,hrest,hvi',hwi',by omega,hR⟩
     | false =>
      rw [if_neg (λq=>absurd (hiff.mpr q) Bool.false_ne_true)] at hR
      have hri:=Zg6 A.in1 ⟨hp,g,d,tk,os⟩ a t c u prog w
      wp_walk using hri
      exact ⟨_,rfl,by simpa using hR⟩
  case fin =>
   rintro ⟨b1,b2⟩ s' ⟨hb',rfl,vs,ws,ns',ms',hz,hvi,hwi,hlen,hR⟩
   simp only at hb'
   subst hb'
   have hv:cw ns' ms'=decide (items.size < items2.size):=by
    cases hvi with
    | nil =>
     cases hwi with
     | nil =>
      simp only [List.length_nil] at hlen
      rw [ZcH]
      exact (decide_eq_false (by omega)).symm
     | cons c u hw =>
      simp only [List.length_nil,List.length_cons] at hlen
      rw [Ziq]
      exact (decide_eq_true (by omega)).symm
    | cons a t hv =>
     cases hwi with
     | nil =>
      simp only [List.length_nil,List.length_cons] at hlen
      rw [Zir]
      exact (decide_eq_false (by omega)).symm
     | cons c u hw =>
      rw [List.zip_cons_cons] at hz
      cases hz
   rw [hv] at hR
   wp_walk
   exact ⟨_,rfl,by simpa [Builtin.Tuple.tupleCompareSizes] using hR⟩
  case h =>
   exact ⟨rfl,rfl,items.toList,items2.toList,ns,ms,rfl,hi,hj,by omega,h⟩
end
section
variable {prog:Program} {w:World} {A:Around} {E:Value->Shared->Prop} {s:Shared}
theorem Zim {l b:Addr} {items items2:Array Value} {ns ms:List Int} {Q:Value->Shared->Prop} (hl:IsTup s.heap l items) (hb:IsTup s.heap b items2) (hi:IntsAre items.toList ns) (hj:IntsAre items2.toList ms)
  (hu:A.units < cLine) (h:Q (.bool (cw ns ms)) s):wpAny (model prog w) A (compareOp .Lt (.ref l) (.ref b)) Q E s:=by
 obtain ⟨⟨cls,dd,data,sl⟩,ho,hc,n,hd⟩:=id hl
 obtain ⟨⟨cls2,dd2,data2,dZ⟩,ho2,hc2,n2,hd2⟩:=id hb
 simp only at hc hd hc2 hd2
 subst hc hd hc2 hd2
 exact richCompare_meets_room (op:=.Lt) ⟨_,ho,rfl⟩ ⟨_,ho2,rfl⟩ PySem.F.slot_tuple_lt PySem.F.entry_tuple_lt (PySem.F.args_tuple_lt_2 _ _) (ZfG l b items items2 n n2 dd dd2 sl dZ ns ms hi hj)
  ⟨ho,ho2,show Value.bool (cw ns ms)≠Value.notImplemented/\Q (.bool (cw ns ms)) s from ⟨(λx=>nomatch x),h⟩⟩ hu
theorem Zm3 {t b:Addr} {vs ws:List Value} {Q:Value->Shared->Prop} (ht:IsTup s.heap t vs.toArray) (hb:IsTup s.heap b ws.toArray) (hv:vs≠[])
  (h1:ws=[]->Q (.ref t) s) (h2:ws≠[]->Q (.ref s.heap.objs.size) { s with heap:=s.heap.push { cls:=.type "tuple",data:=.seq (vs++ws).toArray } })
  (hsz:vs.length+ws.length<=sizeLine):wpAny (model prog w) A (binaryOp .Add (.ref t) (.ref b)) Q E s:=by
 obtain ⟨⟨cls,dd,data,sl⟩,ho,hc,n,hd⟩:=id ht
 obtain ⟨⟨cls2,dd2,data2,dZ⟩,ho2,hc2,n2,hd2⟩:=id hb
 simp only at hc hd hc2 hd2
 subst hc hd hc2 hd2
 have e:vs.toArray++ws.toArray=(vs++ws).toArray:=by simp
 by_cases hw:ws=[]
 ·exact concat_meets ⟨_,ho,rfl⟩ ⟨_,ho2,rfl⟩ noFill_tuple_add seq_tuple_add PySem.F.slot_tuple_add PySem.F.entry_tuple_add (PySem.F.args_tuple_add_2 _ _)
   (tuple_addW1 t b vs.toArray ws.toArray n n2 dd dd2 sl dZ (by simpa using hv) (by simp [hw])) ⟨ho,ho2,h1 hw⟩
 ·refine concat_meets ⟨_,ho,rfl⟩ ⟨_,ho2,rfl⟩ noFill_tuple_add seq_tuple_add PySem.F.slot_tuple_add PySem.F.entry_tuple_add (PySem.F.args_tuple_add_2 _ _)
   (tuple_addW2 t b vs.toArray ws.toArray n n2 dd dd2 sl dZ (by simpa using hv) (by simpa using hw) (by rw [List.size_toArray,List.size_toArray]; exact hsz)) ⟨ho,ho2,?_⟩
  rw [e]
  exact h2 hw
noncomputable def aJ (n d:Nat):Option Int->Nat
 | none=>d
 | some v=>if v < 0 then (v+(n:Int)).toNat else min v.toNat n
theorem Zbp (n d:Nat):aJ n d none=d:=rfl
theorem oZ (n d k:Nat):aJ n d (some (k:Int))=min k n:=by
 show (if (k:Int) < 0 then ((k:Int)+(n:Int)).toNat else min (k:Int).toNat n)=min k n
 rw [if_neg (by omega),Int.toNat_natCast]
theorem ZgN (n d:Nat) (hd:d<=n) (o:Option Int):aJ n d o<=n:=by
 cases o with
 | none=>exact hd
 | some v =>
  show (if v < 0 then (v+(n:Int)).toNat else min v.toNat n)<=n
  by_cases hv:v < 0
  ·rw [if_pos hv]; omega
  ·rw [if_neg hv]; exact Nat.min_le_right _ _
theorem Zej (v:Int) (n d:Nat):(if v < 0 then max (v+(n:Int)) 0 else min v (n:Int))=((aJ n d (some v):Nat):Int):=by
 show (if v < 0 then max (v+(n:Int)) 0 else min v (n:Int))=(((if v < 0 then (v+(n:Int)).toNat else min v.toNat n):Nat):Int)
 by_cases hv:v < 0
 ·rw [if_pos hv,if_pos hv,Int.ofNat_toNat]
 ·rw [if_neg hv,if_neg hv]
  obtain ⟨k,rfl⟩:=Int.eq_ofNat_of_zero_le (Int.not_lt.mp hv)
  rw [Int.toNat_natCast,<- Lean.Omega.Int.ofNat_min]
theorem ZnW (lo hi:Option Int) (n:Nat):Builtin.Slice.sliceAdjust lo hi 1 (n:Int)=(((aJ n 0 lo:Nat):Int),((aJ n n hi:Nat):Int)):=by
 have h1:¬ ((1:Int) < 0):=by omega
 unfold Builtin.Slice.sliceAdjust
 simp only [h1,if_false]
 refine Prod.ext ?_ ?_
 ·cases lo with
  | none=>rfl
  | some v=>exact Zej v n 0
 ·cases hi with
  | none=>rfl
  | some v=>exact Zej v n n
theorem Zht (i j:Nat):Builtin.Slice.slicePlaces (i:Int) (j:Int) 1=j - i:=by
 unfold Builtin.Slice.slicePlaces
 have h1:(1:Int) > 0:=by omega
 simp only [h1,if_true,Int.ediv_one]
 split <;> omega
theorem ZaS {v:Value} {o:Option Int} {Q:Option Int->Shared->Prop} (p:IsPart v o) (h:Q o s):wpAny (model prog w) A (Builtin.Slice.slicePartIndex v) Q E s:=by
 cases p with
 | none=>exact slicePart_none h
 | int i t=>exact slicePart_int h
theorem ZaU {sl:Addr} {vl vu:Value} {lo hi:Option Int} {n:Nat} {Q:Int×Int×Nat->Shared->Prop} (hs:s.heap.IsSliceOf sl vl vu .none) (pl:IsPart vl lo) (pu:IsPart vu hi)
  (h:Q (((aJ n 0 lo:Nat):Int),1,aJ n n hi - aJ n 0 lo) s):wpAny (model prog w) A (Builtin.Slice.sliceApplied (.ref sl) (pure (n:Int))) Q E s:=by
 obtain ⟨os,hos,hcs,hds⟩:=id hs
 unfold Builtin.Slice.sliceApplied Builtin.Slice.sliceFields
 refine wpAny_bind (wpAny_bind (wpAny_field hos hds (x:=vl) rfl (wpAny_bind (wpAny_field hos hds (x:=vu) rfl (wpAny_bind (wpAny_field hos hds (x:=.none) rfl (wpAny_pure ?_)))))))
 refine wpAny_bind (slicePart_none ?_)
 show wpAny _ _ (if ((1:Int) == 0)=true then _ else _) _ _ s
 rw [if_neg (by decide)]
 refine wpAny_bind (ZaS pl (wpAny_bind (ZaS pu (wpAny_bind (wpAny_pure ?_)))))
 show wpAny _ _ (match Builtin.Slice.sliceAdjust lo hi 1 (n:Int) with | (lo,hi)=>pure (lo,(1:Int),Builtin.Slice.slicePlaces lo hi 1)) _ _ s
 rw [ZnW lo hi n]
 show wpAny _ _ (pure (((aJ n 0 lo:Nat):Int),(1:Int),Builtin.Slice.slicePlaces ((aJ n 0 lo:Nat):Int) ((aJ n n hi:Nat):Int) 1)) _ _ s
 rw [Zht]
 exact wpAny_pure h
theorem Zhu (xs:Array Value) (i k:Nat):((List.range k).filterMap λ(m:Nat)=>xs[((i:Int)+(m:Int) * 1).toNat]?).toArray=((xs.toList.drop i).take k).toArray:=by
 have e:(λ(m:Nat)=>xs[((i:Int)+(m:Int) * 1).toNat]?)=λm=>xs[i+m]?:=by
  funext m
  have:((i:Int)+(m:Int) * 1).toNat=i+m:=by omega
  rw [this]
 rw [e]
 have:=pick_run xs i k
 rw [List.filterMap_map] at this
 have e2:((λx=>xs[x]?) ∘ λx=>i+x)=λm=>xs[i+m]?:=rfl
 rw [e2] at this
 rw [this]
theorem Zi2 {t sl:Addr} {items:Array Value} {vl vu:Value} {lo hi:Option Int} {Q:Value->Shared->Prop} (ht:IsTup s.heap t items) (hs:s.heap.IsSliceOf sl vl vu .none) (pl:IsPart vl lo) (pu:IsPart vu hi)
  (hw:¬ (aJ items.size 0 lo=0/\aJ items.size items.size hi=items.size))
  (h:Q (.ref s.heap.objs.size) { s with heap:=s.heap.push { cls:=.type "tuple",data:=.seq ((items.toList.drop (aJ items.size 0 lo)).take (aJ items.size items.size hi - aJ items.size 0 lo)).toArray } })
  (hsz:items.size<=sizeLine):wpAny (model prog w) A (getItem (.ref t) (.ref sl)) Q E s:=by
 have htake:sizeOk (.seq ((items.toList.drop (aJ items.size 0 lo)).take (aJ items.size items.size hi - aJ items.size 0 lo)).toArray):=by
  show ((items.toList.drop (aJ items.size 0 lo)).take (aJ items.size items.size hi - aJ items.size 0 lo)).toArray.size<=sizeLine
  rw [List.size_toArray,List.length_take,List.length_drop,Array.length_toList]
  exact Nat.le_trans (Nat.min_le_right _ _) (Nat.le_trans (Nat.sub_le _ _) hsz)
 have hj:aJ items.size items.size hi<=items.size:=ZgN _ _ (Nat.le_refl _) hi
 obtain ⟨os,hos,hcs,hds⟩:=id hs
 have hTs:s.TypeIs (.ref sl) "slice":=⟨os,hos,hcs⟩
 unfold getItem
 try with_reducible refine wpAny_holding ?_
 first | refine wpAny_bind (wpAny_pure ?_) | skip
 refine wpAny_bind (wpAny_sequenceKey ht.typeIs (by decide) ?_)
 refine wpAny_bind (wpAny_callSpecial?_slot (name:=Str.ofString "__getitem__") ht.typeIs PyProof.Rows.slot_tuple_getitem
  (wpAny_call_entry PyProof.Rows.slot_tuple_getitem ht.typeIs entry_tuple_getitem ?_ (args_tuple_getitem _ _)))
 show wpAny _ _ (Builtin.Tuple.tupleItemsOf (.ref t) >>= _) _ _ s
 refine wpAny_bind (tupleItemsOf_ ht ?_)
 refine wpAny_bind (wpAny_typeOf hTs ?_)
 rw [if_pos (by decide)]
 refine wpAny_bind (ZaU hs pl pu ?_)
 have hno:¬ ((((aJ items.size 0 lo:Nat):Int) == 0 && (1:Int) == 1 && (aJ items.size items.size hi - aJ items.size 0 lo) == items.size)=true):=by
  intro q
  rw [Bool.and_eq_true,Bool.and_eq_true] at q
  have q1:((aJ items.size 0 lo:Nat):Int)=0:=eq_of_beq q.1.1
  have q2:aJ items.size items.size hi - aJ items.size 0 lo=items.size:=eq_of_beq q.2
  exact hw ⟨by omega,by omega⟩
 show wpAny _ _ (if (((aJ items.size 0 lo:Nat):Int) == 0 && (1:Int) == 1 && (aJ items.size items.size hi - aJ items.size 0 lo) == items.size)=true then _ else _) _ _ s
 rw [if_neg hno,Zhu]
 first
  | exact wpAny_bind (m:=Builtin.Tuple.tupleExact _) (wpAny_newObj_type (wpAny_pure ⟨_,rfl,wpAny_pure h⟩) htake)
  | exact wpAny_bind (m:=Builtin.Tuple.tupleExact _) (wpAny_newObj_type (wpAny_bind (wpAny_pure (wpAny_pure ⟨_,rfl,wpAny_pure h⟩))) htake)
  | exact wpAny_bind (wpAny_bind (m:=Builtin.Tuple.tupleExact _) (wpAny_newObj_type (wpAny_pure (wpAny_pure ⟨_,rfl,wpAny_pure h⟩)) htake))
  | exact wpAny_bind (wpAny_bind (m:=Builtin.Tuple.tupleExact _) (wpAny_newObj_type (wpAny_pure ⟨_,rfl,wpAny_pure h⟩) htake))
end
end HT
namespace L2
open PySem PySem.Spec PyProof.Rows
noncomputable abbrev TO:=St->Hp->(Option Int->Hp->Prop)->Prop
noncomputable def PO (X:Cx) (e:Option Expr) (t:TO):Prop :=
 ∀ (pins:List (Addr×Obj)) (s:Shared) (σ:St) (H:Hp) (Q:Option Int->Hp->Prop),Inv X pins σ H s->t σ H Q ->
  wpAny (model X.prog X.w) X.A (evalPart e X.env) (λu s'=>∃ o H',Inv X pins σ H' s'/\IsPart u o/\Q o H') X.xe s
noncomputable def ZfX:TO:=λ_ H Q=>Q none H
noncomputable def ZfU (t:TE):TO:=λσ H Q=>t σ H λx H1=>∃ i,x=.int i/\Q (some i) H1
theorem Zda {ns:List Int}:∀ {us:List Value},Vals (ns.map V.int) us->IntsAre us ns:=by
 induction ns with
 | nil=>intro us r; rw [List.map_nil] at r; cases r; exact .nil
 | cons n ns ih =>
  intro us r
  rw [List.map_cons] at r
  cases r with
  | cons r1 r2 =>
   obtain ⟨t,e⟩:=r1
   subst e
   exact .cons n t (ih r2)
section
variable {X:Cx} {e:Expr} {te:TE} {lo hi:Option Expr} {tl th:TO} {pos p2:Pos}
theorem Zb9:PO X none ZfX:=by
 intro pins s σ H Q I h
 rw [evalPart_none]
 exact wpAny_pure ⟨none,H,I,.none,h⟩
theorem Zb8 (h:PE X e te):PO X (some e) (ZfU te):=by
 intro pins s σ H Q I hw
 rw [evalPart_some]
 refine thn (h pins s σ H _ I hw) λu s1 hz0=>?_
 obtain ⟨x,H1,I1,r1,q1⟩:=hz0
 obtain ⟨i,rfl,q⟩:=q1
 obtain ⟨t,rfl⟩:=r1
 exact ⟨some i,H1,I1,.int i t,q⟩
noncomputable def SlR (X:Cx) (r:V->Option Int->Option Int->Hp->VK->Prop):Prop :=
 ∀ (pins:List (Addr×Obj)) (s:Shared) (σ:St) (H:Hp) (x:V) (v vl vu:Value) (lo hi:Option Int) (sl:Addr) (Q:VK),Inv X pins σ H s->RelV x v->s.heap.IsSliceOf sl vl vu .none->IsPart vl lo->IsPart vu hi->r x lo hi H Q ->
  ∃ T id,typeLookup (.type T) "__getitem__"=pure (some (.builtin id))/\s.TypeIs v T/\wpAny (model X.prog X.w) X.A (getItem v (.ref sl)) (EP X pins σ Q) X.xe s
theorem SlR.or {r r':V->Option Int->Option Int->Hp->VK->Prop} (h:SlR X r) (h':SlR X r'):SlR X (λx lo hi H Q=>r x lo hi H Q\/r' x lo hi H Q):=by
 intro pins s σ H x v vl vu lo hi sl Q I rx hs pl pu q
 rcases q with q | q
 ·exact h pins s σ H x v vl vu lo hi sl Q I rx hs pl pu q
 ·exact h' pins s σ H x v vl vu lo hi sl Q I rx hs pl pu q
noncomputable def tSl (r:V->Option Int->Option Int->Hp->VK->Prop) (te:TE) (tl th:TO):TE:=λσ H Q=>te σ H λx H1=>tl σ H1 λl H2=>th σ H2 λu H3=>r x l u H3 Q
theorem Zcb {r:V->Option Int->Option Int->Hp->VK->Prop} (hr:SlR X r) (he:PE X e te) (hl:PO X lo tl) (hu:PO X hi th):PE X (.Subscript e (.Slice lo hi none p2) pos) (tSl r te tl th):=by
 intro pins s σ H Q I h
 refine Subscript_ (thn (he pins s σ H _ I h) λv s1 hz0=>?_)
 obtain ⟨x,H1,I1,r1,q1⟩:=hz0
 refine wpAny_Slice (thn (hl pins s1 σ H1 _ I1 q1) λvl s2 ⟨l,H2,I2,pl,q2⟩=>thn (hu pins s2 σ H2 _ I2 q2) λvu s3 hz0=>?_)
 obtain ⟨u,H3,I3,pu,q3⟩:=hz0
 rw [evalPart_none]
 refine wpAny_pure ?_
 have I4:Inv X pins σ H3 { s3 with heap:=s3.heap.push { cls:=.type "slice",data:=.fields #[vl,vu,.none] } }:=I3.kept (t':=s3.toks) λb ob q=>Heap.get?_push_of_some _ q
 obtain ⟨T,id,hT,ht,hg⟩:=hr pins { s3 with heap:=s3.heap.push { cls:=.type "slice",data:=.fields #[vl,vu,.none] } } σ H3 x v vl vu l u s3.heap.objs.size Q I4 r1 (Heap.IsSliceOf.new ..) pl pu q3
 show wpAny (model X.prog X.w) X.A (subscriptTail e (.Slice lo hi none p2) v (.ref s3.heap.objs.size)) (EP X pins σ Q) X.xe { s3 with heap:=s3.heap.push { cls:=.type "slice",data:=.fields #[vl,vu,.none] } }
 exact tail_any (ops:=[.ref s3.heap.objs.size,v]) ht hT hg (by with_unfolding_all rfl)
noncomputable def eB (xs:List V) (lo hi:Option Int):List V:=(xs.drop (HT.aJ xs.length 0 lo)).take (HT.aJ xs.length xs.length hi - HT.aJ xs.length 0 lo)
theorem Zea (xs:List V) (lo hi:Option Int):(eB xs lo hi).length<=xs.length:=by
 unfold eB
 rw [List.length_take,List.length_drop]
 exact Nat.le_trans (Nat.min_le_right _ _) (Nat.sub_le _ _)
noncomputable def ZbJ (K:PySem.W.Frag):V->Option Int->Option Int->Hp->VK->Prop:=λx lo hi H Q=>∃ a xs,x=.ref a/\SqT K H a xs /\
 ¬ (HT.aJ xs.length 0 lo=0/\HT.aJ xs.length xs.length hi=xs.length)/\∀ p,H p=none->Q (.ref p) (upd H p (.tup (eB xs lo hi)))
theorem Zgg:SlR X (ZbJ X.K):=by
 intro pins s σ H x v vl vu lo hi sl Q I rx hs pl pu h
 obtain ⟨a,xs,rfl,hx,hw,q⟩:=h
 cases rx
 obtain ⟨its,r,ht,hz⟩:=I.tuple hx
 have hlen:its.toArray.size=xs.length:=by rw [List.size_toArray]; exact r.length.symm
 refine ⟨"tuple",_,PyProof.Rows.slot_tuple_getitem.lookup,ht.typeIs,?_⟩
 refine HT.Zi2 ht hs pl pu (by rw [hlen]; exact hw) ?_ (by rw [hlen]; exact hz)
 rw [hlen]
 refine ⟨.ref s.heap.objs.size,_,I.laid (t':=s.toks) (o:=.tup (eB xs lo hi)) (λb ob q=>Heap.get?_push_of_some _ q) (Nat.le_refl _) ?_,rfl,q _ (I.hok.fresh (Nat.le_refl _))⟩
 exact ⟨Nat.le_trans (Zea xs lo hi) hz,_,(r.drop (HT.aJ xs.length 0 lo)).take (HT.aJ xs.length xs.length hi - HT.aJ xs.length 0 lo),IsTup.new _ _⟩
noncomputable def ZbX (K:PySem.W.Frag):R2:=λx y H Q=>∃ a b xs ys,x=.ref a/\y=.ref b/\SqT K H a xs/\SqT K H b ys/\xs≠[]/\xs.length+ys.length<=sizeLine /\
 (ys=[]->Q (.ref a) H)/\(ys≠[]->∀ p,H p=none->Q (.ref p) (upd H p (.tup (xs++ys))))
theorem Vals.nil_iff {xs:List V} {us:List Value} (r:Vals xs us):us=[] ↔ xs=[]:=by
 cases r with
 | nil=>simp
 | cons _ _=>simp
theorem ZhT:OpR X (binaryOp .Add) (ZbX X.K):=by
 intro pins s σ H x y v u Q I rx ry h
 obtain ⟨a,b,xs,ys,rfl,rfl,ha,hb,hx,hz,q1,q2⟩:=h
 cases rx
 cases ry
 obtain ⟨its,r1,p1,_⟩:=I.tuple ha
 obtain ⟨its2,r2,p2,_⟩:=I.tuple hb
 refine HT.Zm3 p1 p2 (λz=>hx (r1.nil_iff.mp z)) (λz=>⟨.ref a,H,I,rfl,q1 (r2.nil_iff.mp z)⟩) (λz=>?_) (by rw [<- r1.length,<- r2.length]; exact hz)
 refine ⟨.ref s.heap.objs.size,_,I.laid (t':=s.toks) (o:=.tup (xs++ys)) (λb ob q=>Heap.get?_push_of_some _ q) (Nat.le_refl _) ?_,rfl,q2 (λw=>z (r2.nil_iff.mpr w)) _ (I.hok.fresh (Nat.le_refl _))⟩
 exact ⟨by rw [List.length_append]; exact hz,_,r1.append r2,IsTup.new _ _⟩
end
noncomputable def c7 (n:Nat) (i:Int):Option Nat:=if 0<=i then (if i < n then some i.toNat else none) else if -(n:Int)<=i then some (i+n).toNat else none
noncomputable def bp {α:Type} (xs:List α) (i:Int):Option α:=(c7 xs.length i).bind λj=>xs[j]?
theorem Zc3 {n:Nat} {i:Int} {j:Nat} (h:c7 n i=some j):seqIndex? i n=some j/\j < n/\-(n:Int)<=i/\i < n:=by
 unfold c7 at h
 by_cases h0:0<=i
 ·rw [if_pos h0] at h
  by_cases h1:i < n
  ·rw [if_pos h1] at h
   have e:i.toNat=j:=Option.some.inj h
   exact ⟨by rw [seqIndex_of h0 h1,e],by omega,by omega,h1⟩
  ·rw [if_neg h1] at h; cases h
 ·rw [if_neg h0] at h
  by_cases h1:-(n:Int)<=i
  ·rw [if_pos h1] at h
   have e:(i+n).toNat=j:=Option.some.inj h
   exact ⟨by rw [seqIndex_neg (by omega) h1,e],by omega,h1,by omega⟩
  ·rw [if_neg h1] at h; cases h
theorem mU {α:Type} {xs:List α} {i:Int} {v:α} (h:bp xs i=some v):∃ j,seqIndex? i xs.length=some j/\xs[j]?=some v/\j < xs.length/\-(xs.length:Int)<=i/\i < xs.length:=by
 unfold bp at h
 cases e:c7 xs.length i with
 | none=>rw [e] at h; cases h
 | some j =>
  rw [e] at h
  obtain ⟨h1,h2,h3,h4⟩:=Zc3 e
  exact ⟨j,h1,h,h2,h3,h4⟩
theorem eX {α:Type} {xs:List α} {j:Nat} {v:α} (h:xs[j]?=some v):bp xs (j:Int)=some v:=by
 have hj:j < xs.length:=(List.getElem?_eq_some_iff.mp h).1
 have e:c7 xs.length (j:Int)=some j:=by
  unfold c7
  rw [if_pos (by omega),if_pos (by omega)]; simp
 unfold bp; rw [e]; exact h
noncomputable def rD (b:Expr):Prop:=∀ o i,subscripted b false o i=operate [o,i] (getItem o i)
noncomputable def IxR (X:Cx) (r:R2):Prop :=
 ∀ (value slice:Expr) (pins:List (Addr×Obj)) (s:Shared) (σ:St) (H:Hp) (x y:V) (v u:Value) (Q:VK),Inv X pins σ H s->RelV x v->RelV y u->r x y H Q ->
  subscripted slice false v u=operate [v,u] (getItem v u)->wpAny (model X.prog X.w) X.A (subscriptTail value slice v u) (EP X pins σ Q) X.xe s
noncomputable def MtR (X:Cx) (id:String) (r:V->List V->Hp->VK->Prop):Prop :=
 ∀ (pins:List (Addr×Obj)) (s:Shared) (σ:St) (H:Hp) (x:V) (xs:List V) (v:Value) (us:List Value) (Q:VK),Inv X pins σ H s->RelV x v->Vals xs us->r x xs H Q ->
  wpAny (model X.prog X.w) X.A (call (.builtin id) (v::us)) (EP X pins σ Q) X.xe s
section
variable {X:Cx} {a b:Expr} {ta tb:TE} {pos:Pos}
theorem IxR.or {r r':R2} (h:IxR X r) (h':IxR X r'):IxR X (λx y H Q=>r x y H Q\/r' x y H Q):=by
 intro value slice pins s σ H x y v u Q I rx ry q hs
 rcases q with q | q
 ·exact h value slice pins s σ H x y v u Q I rx ry q hs
 ·exact h' value slice pins s σ H x y v u Q I rx ry q hs
theorem eR {r:R2} (hr:IxR X r) (ha:PE X a ta) (hb:PE X b tb) (hs:rD b):PE X (.Subscript a b pos) (gM r ta tb):=by
 intro pins s σ H Q I h
 exact Subscript_ (qV ha hb I h λv u s2 x y H2 I2 rx ry q=>hr a b pins s2 σ H2 x y v u Q I2 rx ry q (hs _ _))
noncomputable def pb (K:PySem.W.Frag):R2:=λx y H Q=>∃ p xs i v,x=.ref p/\y=.int i/\SqL K H p xs/\bp xs i=some v/\Q v H
noncomputable def ZbR (K:PySem.W.Frag):R2:=λx y H Q=>∃ p xs i v,x=.ref p/\y=.int i/\SqT K H p xs/\bp xs i=some v/\Q v H
noncomputable def ZbS:R2:=λx y H Q=>∃ z i c,x=.str z/\y=.int i/\z.length<=sizeLine/\bp z.cps.toList i=some c/\Q (.str ⟨#[c]⟩) H
theorem eU:IxR X (pb X.K):=by
 intro value slice pins s σ H x y v u Q I rx ry h hs
 obtain ⟨p,xs,i,z,rfl,rfl,hq,he,q⟩:=h
 cases rx
 obtain ⟨t,rfl⟩:=ry
 obtain ⟨its,r,pl,hz⟩:=I.list hq
 obtain ⟨j,h1,h2,h3,h4,h5⟩:=mU he
 obtain ⟨w,ew,rw'⟩:=r.get h2
 have hl:=r.length
 have hn:=gr
 have fin:EP X pins σ Q w s:=⟨z,H,I,rw',q⟩
 by_cases h0:0<=i
 ·have hj:i.toNat=j:=by
   rw [seqIndex_of h0 h5] at h1
   exact Option.some.inj h1
  exact item_listR pl.isList h0 (by omega) (by rw [hj]; simpa using ew) fin hs
 ·have hj:(i+(its.toArray.size:Int)).toNat=j:=by
   rw [seqIndex_neg (by omega) h4] at h1
   rw [List.size_toArray,<- hl]
   exact Option.some.inj h1
  exact subscriptTail_builtinR (x:=w) pl.isList.typeIs slot_list_getitem.lookup
   (wpAny_getItem_list_neg (Q:=λr s'=>r=w/\EP X pins σ Q r s') pl.isList (by omega) (by rw [List.size_toArray] <;> omega) (by omega) (by rw [hj]; simpa using ew) ⟨rfl,fin⟩) hs
theorem ZiS:IxR X (ZbR X.K):=by
 intro value slice pins s σ H x y v u Q I rx ry h hs
 obtain ⟨p,xs,i,z,rfl,rfl,hq,he,q⟩:=h
 cases rx
 obtain ⟨t,rfl⟩:=ry
 obtain ⟨its,r,pl,hz⟩:=I.tuple hq
 obtain ⟨j,h1,h2,h3,h4,h5⟩:=mU he
 obtain ⟨w,ew,rw'⟩:=r.get h2
 have hl:=r.length
 have hn:=gr
 have fin:EP X pins σ Q w s:=⟨z,H,I,rw',q⟩
 exact subscriptTail_builtinR (x:=w) pl.typeIs slot_tuple_getitem.lookup
  (getItem_tuple (j:=j) (Q:=λr s'=>r=w/\EP X pins σ Q r s') pl (by omega) (by omega) (by rw [List.size_toArray,<- hl]; exact h1) (by simpa using ew) ⟨rfl,fin⟩) hs
theorem ZiT:IxR X ZbS:=by
 intro value slice pins s σ H x y v u Q I rx ry h hs
 obtain ⟨z,i,c,rfl,rfl,hz,he,q⟩:=h
 obtain ⟨t,rfl⟩:=rx
 obtain ⟨t',rfl⟩:=ry
 obtain ⟨j,h1,h2,h3,h4,h5⟩:=mU he
 have hl:z.cps.toList.length=z.length:=by simp [Str.length]
 rw [hl] at h1 h4 h5
 have hn:=gr
 exact tail_any (typeIs_str s z t) slot_str_getitem.lookup (getItem_str (c:=c) (by
  have e1:decide (i < -(2 ^ 63:Int))=false:=decide_eq_false (by omega)
  have e2:decide (i ≥ 2 ^ 63)=false:=decide_eq_false (by omega)
  rw [e1,e2,Bool.or_false]) (by rw [h1]; simpa using h2) ⟨.str ⟨#[c]⟩,H,I.tok _,⟨_,rfl⟩,q⟩) hs
noncomputable def rIx (K:PySem.W.Frag):R2:=λx y H Q=>pb K x y H Q\/ZbR K x y H Q\/ZbS x y H Q
theorem bh:IxR X (rIx X.K):=eU.or (ZiS.or ZiT)
theorem Zil (its:List Value) (n j:Nat) (u:Value):Obj.mapSeq (·.setIfInBounds j u) { cls:=.type "list",data:=.seq its.toArray n }={ cls:=.type "list",data:=.seq (its.set j u).toArray n }:=by
 simp [Obj.mapSeq]
theorem Inv.lst {pins:List (Addr×Obj)} {σ:St} {H:Hp} {s:Shared} {p:Addr} {xs:List V} (I:Inv X pins σ H s) (h:H p=some (.lst xs)) :
  ∃ (its:List Value) (n:Nat),Vals xs its/\s.heap.get? p=some { cls:=.type "list",data:=.seq its.toArray n }/\xs.length<=sizeLine:=by
 obtain ⟨z,its,n,r,e⟩:=I.hok p _ h
 exact ⟨its,n,r,e,z⟩
theorem Inv.lstUpd {pins:List (Addr×Obj)} {σ:St} {H:Hp} {s:Shared} {p:Addr} {xs ys:List V} {its its':List Value} {n n':Nat} {f:Obj->Obj} (I:Inv X pins σ H s) (h:H p=some (.lst xs))
  (ho:s.heap.get? p=some { cls:=.type "list",data:=.seq its.toArray n }) (hf:f { cls:=.type "list",data:=.seq its.toArray n }={ cls:=.type "list",data:=.seq its'.toArray n' }) (r:Vals ys its') (hz:ys.length<=sizeLine) (t:Nat) :
  Inv X pins σ (upd H p (.lst ys)) { s with heap:=s.heap.update p f,toks:=t }:=by
 have e:(s.heap.update p f).get? p=some { cls:=.type "list",data:=.seq its'.toArray n' }:=by
  rw [Heap.get?_update_self f ho (by rw [hf] <;> rfl),hf]
 refine I.write (x:=p) (e:=p) (by rw [h]; trivial) (.inl rfl) (λb u hb q=>(Heap.get?_update_other _ _ (Ne.symm hb)).trans q) ⟨_,e⟩ ?_
 exact ⟨hz,its',n',r,e⟩
noncomputable def o8:V->V->V->Hp->(Hp->Prop)->Prop:=λo i v H Q=>∃ p xs k j,o=.ref p/\i=.int k/\H p=some (.lst xs)/\c7 xs.length k=some j/\Q (upd H p (.lst (xs.set j v)))
theorem ig:rF X o8:=by
 intro pins s σ H o i v ov iv u Q I ro ri rv h
 obtain ⟨p,xs,k,j,rfl,rfl,hp,hj,q⟩:=h
 cases ro
 obtain ⟨t,rfl⟩:=ri
 obtain ⟨its,n,r,ho,hz⟩:=I.lst hp
 obtain ⟨h1,h2,h3,h4⟩:=Zc3 hj
 have hl:=r.length
 have hn:=gr
 have I':Inv X pins σ (upd H p (.lst (xs.set j v))) { s with heap:=s.heap.update p (Obj.mapSeq (·.setIfInBounds j u)) } :=
  I.lstUpd hp ho (Zil its n j u) (r.set rv j) (by rw [List.length_set]; exact hz) s.toks
 by_cases h0:0<=k
 ·have hk:k.toNat=j:=by
   rw [seqIndex_of h0 h4] at h1
   exact Option.some.inj h1
  exact PySem.W.ki_setAt ho h0 (by omega) (by rw [List.size_toArray,<- hl]; exact h4) (by rw [hk]; exact ⟨_,I',q⟩)
 ·have hk:(k+(its.toArray.size:Int)).toNat=j:=by
   rw [seqIndex_neg (by omega) h3] at h1
   rw [List.size_toArray,<- hl]
   exact Option.some.inj h1
  exact PySem.W.ki_setBack ho (by omega) (by rw [List.size_toArray,<- hl]; exact h3) (by omega) (by rw [hk]; exact ⟨_,I',q⟩)
theorem iU {n:Nat} {i:Int} (h:i < 0):max 0 (min (i+(n:Int)) n)=(((i+n).toNat:Nat):Int):=by
 rw [Int.min_eq_left (by omega),Int.ofNat_toNat,Int.max_comm]
theorem kn {n:Nat} {i:Int} (h:¬ i < 0):max 0 (min i (n:Int))=((min i.toNat n:Nat):Int):=by
 obtain ⟨k,rfl⟩:=Int.eq_ofNat_of_zero_le (Int.not_lt.mp h)
 rw [Int.toNat_natCast,<- Lean.Omega.Int.ofNat_min]
 exact Int.max_eq_right (Int.natCast_nonneg _)
theorem Zgd (lo hi:Option Int) (n:Nat):(sliceBounds lo hi none n).1=((HT.aJ n 0 lo:Nat):Int)/\(sliceBounds lo hi none n).2.1=((HT.aJ n n hi:Nat):Int)/\(sliceBounds lo hi none n).2.2=1:=by
 refine ⟨?_,?_,rfl⟩
 ·cases lo with
  | none=>simp [sliceBounds,HT.aJ]
  | some i =>
   simp only [sliceBounds,HT.aJ,Option.getD_none,show (1:Int) > 0 by decide,if_true]
   by_cases h:i < 0
   ·simp only [h,if_true]
    exact iU h
   ·simp only [h,if_false]
    exact kn h
 ·cases hi with
  | none=>simp [sliceBounds,HT.aJ]
  | some i =>
   simp only [sliceBounds,HT.aJ,Option.getD_none,show (1:Int) > 0 by decide,if_true]
   by_cases h:i < 0
   ·simp only [h,if_true]
    exact iU h
   ·simp only [h,if_false]
    exact kn h
theorem Zge (its:List Value) (lo hi:Option Int):slicePick its.toArray lo hi none=((its.drop (HT.aJ its.length 0 lo)).take (HT.aJ its.length its.length hi - HT.aJ its.length 0 lo)).toArray:=by
 obtain ⟨h1,h2,h3⟩:=Zgd lo hi its.toArray.size
 unfold slicePick
 rw [h1,h2,h3]
 simp only [sliceRange_one,pick_run,List.size_toArray] <;> rfl
noncomputable def ZbK (K:PySem.W.Frag):V->Option Int->Option Int->Hp->VK->Prop:=λx lo hi H Q=>∃ a xs,x=.ref a/\SqL K H a xs/\∀ p,H p=none->Q (.ref p) (upd H p (.lst (eB xs lo hi)))
theorem ZaV:SlR X (ZbK X.K):=by
 intro pins s σ H x v vl vu lo hi sl Q I rx hs pl pu h
 obtain ⟨a,xs,rfl,hx,q⟩:=h
 cases rx
 obtain ⟨its,r,ht,hz⟩:=I.list hx
 have hlen:=r.length
 refine ⟨"list",_,slot_list_getitem.lookup,ht.isList.typeIs,?_⟩
 refine wpAny_getItem_list_slice ht.isList hs pl pu .none (by simp) ?_ (by rw [List.size_toArray] <;> omega)
 rw [Zge,<- hlen]
 refine ⟨.ref s.heap.objs.size,_,I.laid (t':=s.toks) (o:=.lst (eB xs lo hi)) (λb ob q=>Heap.get?_push_of_some _ q) (Nat.le_refl _) ?_,rfl,q _ (I.hok.fresh (Nat.le_refl _))⟩
 exact ⟨Nat.le_trans (Zea xs lo hi) hz,_,0,(r.drop (HT.aJ xs.length 0 lo)).take (HT.aJ xs.length xs.length hi - HT.aJ xs.length 0 lo),Heap.get?_push_size _ rfl⟩
theorem fX:dg X (.builtin "len") (λxs H Q=>∃ p ys,xs=[.ref p]/\(SqL X.K H p ys\/SqT X.K H p ys)/\Q (.int ys.length) H):=by
 intro pins s σ H xs us Q I r h
 obtain ⟨p,ys,rfl,hq,q⟩:=h
 obtain ⟨u,rfl,rx⟩:=eN r
 cases rx
 have hn:=gr
 rcases hq with hq | hq
 ·obtain ⟨its,r',pl,hz⟩:=I.list hq
  have hlen:=r'.length
  exact Calls.call_len_list pl.isList (by simp only [List.size_toArray] <;> omega) ⟨.int ys.length,H,I.tok _,⟨s.toks+1,by rw [List.size_toArray,hlen]⟩,q⟩
 ·obtain ⟨its,r',pl,hz⟩:=I.tuple hq
  have hlen:=r'.length
  exact len_tuple pl (by simp only [List.size_toArray] <;> omega) ⟨.int ys.length,H,I.tok _,⟨s.toks+1,by rw [List.size_toArray,hlen]⟩,q⟩
theorem Znb:dg X (.type "list") (λxs H Q=>∃ p ys,xs=[.ref p]/\(SqL X.K H p ys\/SqT X.K H p ys)/\∀ l,H l=none->Q (.ref l) (upd H l (.lst ys))):=by
 intro pins s σ H xs us Q I r h
 obtain ⟨p,ys,rfl,hq,q⟩:=h
 obtain ⟨u,rfl,rx⟩:=eN r
 cases rx
 have fin:∀ (its:List Value),Vals ys its->ys.length<=sizeLine->∀ (h':Heap) (c':Nat),(∀ b o',s.heap.get? b=some o'->h'.get? b=some o') ->
   h'.get? s.heap.objs.size=some { cls:=.type "list",dict:=none,data:=.seq its.toArray c',slots:=#[] }->EP X pins σ Q (.ref s.heap.objs.size) { s with heap:=h' }:=λits r' hz h' c' kp e =>
  ⟨.ref s.heap.objs.size,_,I.laid (t':=s.toks) kp (Nat.le_refl _) (show ObjOk X.prog X.w _ h' _ (.lst ys) from ⟨hz,its,c',r',e⟩),rfl,q _ (I.hok.fresh (Nat.le_refl _))⟩
 rcases hq with hq | hq
 ·obtain ⟨its,r',pl,hz⟩:=I.list hq
  have hlen:=r'.length
  obtain ⟨o,ho,hc,n,hd⟩:=pl.isList
  exact call_list_seq p (.inl rfl) ho hc hd (λh' c' kp e=>fin its r' hz h' c' kp e) (by simp only [List.size_toArray] <;> omega)
 ·obtain ⟨its,r',pl,hz⟩:=I.tuple hq
  have hlen:=r'.length
  obtain ⟨o,ho,hc,n,hd⟩:=pl
  exact call_list_seq p (.inr rfl) ho hc hd (λh' c' kp e=>fin its r' hz h' c' kp e) (by simp only [List.size_toArray] <;> omega)
theorem dR:dg X (.type "tuple") (λxs H Q=>∃ p ys,xs=[.ref p]/\((SqL X.K H p ys/\∀ l,H l=none->Q (.ref l) (upd H l (.tup ys)))\/(SqT X.K H p ys/\Q (.ref p) H))):=by
 intro pins s σ H xs us Q I r h
 obtain ⟨p,ys,rfl,h⟩:=h
 obtain ⟨u,rfl,rx⟩:=eN r
 cases rx
 rcases h with ⟨hq,q⟩ | ⟨hq,q⟩
 ·obtain ⟨its,r',pl,hz⟩:=I.list hq
  have hlen:=r'.length
  refine call_tuple_list pl.isList (λh' kp=>?_) (by simp only [List.size_toArray] <;> omega)
  have I1:Inv X pins σ H { s with heap:=h' }:=I.kept (t':=s.toks) kp
  have I2:Inv X pins σ (upd H h'.objs.size (.tup ys)) { s with heap:=h'.push { cls:=.type "tuple",data:=.seq its.toArray } } :=
   I1.laid (t':=s.toks) (λb o e=>Heap.get?_push_of_some _ e) (Nat.le_refl _) (show ObjOk X.prog X.w _ _ _ (.tup ys) from ⟨hz,its,r',IsTup.new _ _⟩)
  exact ⟨.ref h'.objs.size,_,I2,rfl,q _ (I1.hok.fresh (Nat.le_refl _))⟩
 ·obtain ⟨its,r',pl,hz⟩:=I.tuple hq
  exact call_tuple_same pl ⟨.ref p,H,I,rfl,q⟩
noncomputable def nY (K:PySem.W.Frag) (T:String) (x:V) (H:Hp):Prop:=match x with
 | .str _=>T="str"
 | .int _=>T="int"
 | .ref p=>(T="list"/\∃ xs,SqL K H p xs)\/(T="tuple"/\∃ o,K.lookup p=some o/\o.cls=.type "tuple"/\o.dict=none) \/
   (T="dict"/\((∃ kvs,H p=some (.dK kvs))\/∃ kvs,H p=some (.dT kvs)))\/(T="set"/\∃ S n,H p=some (.set S n))
 | _=>False
theorem Zas {pins:List (Addr×Obj)} {σ:St} {H:Hp} {s:Shared} {T:String} {x:V} {v:Value} (I:Inv X pins σ H s) (r:RelV x v) (ty:nY X.K T x H) :
  s.TypeIs v T/\∀ a,v=.ref a->∃ ob,s.heap.get? a=some ob/\ob.dict=none:=by
 cases x with
 | str z =>
  obtain ⟨t,rfl⟩:=r
  cases (show T="str" from ty)
  exact ⟨typeIs_str s z t,λ_ e=>nomatch e⟩
 | int i =>
  obtain ⟨t,rfl⟩:=r
  cases (show T="int" from ty)
  exact ⟨typeIs_int s i t,λ_ e=>nomatch e⟩
 | ref p =>
  cases r
  rcases ty with ⟨rfl,xs,hq⟩ | ⟨rfl,o,hk,hc,hd⟩ | ⟨rfl,hk⟩ | ⟨rfl,S,n,hk⟩
  ·obtain ⟨its,_,pl,_⟩:=I.list hq
   refine ⟨pl.isList.typeIs,λa e=>?_⟩
   cases e
   obtain ⟨o,n,e,c,hd,_⟩:=pl
   exact ⟨o,e,hd⟩
  ·refine ⟨⟨o,I.kIn p o hk,hc⟩,λa e=>?_⟩
   cases e
   exact ⟨o,I.kIn _ o hk,hd⟩
  ·have z:∃ o,s.heap.get? p=some o/\o.ExactDict:=by
    rcases hk with ⟨kvs,hk⟩ | ⟨kvs,hk⟩
    ·obtain ⟨_,_,_,_,o,_,_,e,ex,_⟩:=I.hok p _ hk
     exact ⟨o,e,ex⟩
    ·obtain ⟨_,_,_,_,o,_,_,e,ex,_⟩:=I.hok p _ hk
     exact ⟨o,e,ex⟩
   obtain ⟨o,e,ex⟩:=z
   refine ⟨⟨o,e,ex.1⟩,λa e2=>?_⟩
   cases e2
   exact ⟨o,e,ex.2.1⟩
  ·obtain ⟨o,_,_,_,e,ex,_⟩:=I.hok p _ hk
   refine ⟨⟨o,e,ex.1⟩,λa e2=>?_⟩
   cases e2
   exact ⟨o,e,ex.2.1⟩
 | _=>exact False.elim ty
noncomputable def ZaE (K:PySem.W.Frag) (T:String) (r:V->List V->Hp->VK->Prop) (to:TE):TE:=λσ H Q=>to σ H λx H1=>nY K T x H1/\r x [] H1 Q
noncomputable def tBM (K:PySem.W.Frag) (T:String) (r:V->List V->Hp->VK->Prop) (to:TE) (t:TA):TE:=λσ H Q=>to σ H λx H1=>nY K T x H1/\t σ H1 λxs H2=>r x xs H2 Q
variable {o e:Expr} {es:List Expr} {to:TE} {t:TA} {name:Str} {apos cpos:Pos} {T id:String} {r:V->List V->Hp->VK->Prop}
theorem pH (pa:PlainAttrs T) (slot:Slot T name id) (hty:typeOf (.builtin id)=pure (.type "method_descriptor")) (hm:MtR X id r) (ho:PE X o to)
  (hbase:attributeBase o name X.env (eval o X.env)=eval o X.env:=by rfl) (hline:(apos.endLine == cpos.line)=true:=by rfl):PE X (.Call (.Attribute o name apos) [] [] cpos) (ZaE X.K T r to):=by
 intro pins s σ H Q I h
 refine wpAny_Call_method0_late hbase hline (thn (ho pins s σ H _ I h) λv s1 hz0=>?_)
 obtain ⟨x,H1,I1,r1,ty,q1⟩:=hz0
 obtain ⟨h1,h2⟩:=Zas I1 r1 ty
 exact ⟨T,id,pa,slot,hty,h1,h2,Calls.callWith_builtin rfl (PySem.evalArgs_none (hm pins s1 σ H1 x [] v [] Q I1 r1 .nil q1))⟩
theorem jH (pa:PlainAttrs T) (slot:Slot T name id) (hty:typeOf (.builtin id)=pure (.type "method_descriptor")) (hm:MtR X id r) (ho:PE X o to) (ha:PA X (e::es) t)
  (hbase:attributeBase o name X.env (eval o X.env)=eval o X.env:=by rfl)
  (hfew:((backTo cpos (starEach (e::es) X.env)).all (λx=>!x.1) && (backToKw cpos (keywordEach [] X.env)).all (λx=>x.1.isSome)
   && decide ((e::es).length+([]:List Keyword).length+(if ([]:List Keyword).isEmpty then 0 else 1) < 30))=true:=by rfl)
  (hline:(apos.endLine == cpos.line)=true:=by rfl) (hs:starEach (e::es) X.env=(false,eval e X.env)::starEach es X.env:=by rfl) (hplain:(backTo cpos (starEach es X.env)).any (·.1)=false:=by rfl) :
  PE X (.Call (.Attribute o name apos) (e::es) [] cpos) (tBM X.K T r to t):=by
 intro pins s σ H Q I h
 refine wpAny_Call_method_late hbase hfew hline rfl (thn (ho pins s σ H _ I h) λv s1 hz0=>?_)
 obtain ⟨x,H1,I1,r1,ty,q1⟩:=hz0
 obtain ⟨h1,h2⟩:=Zas I1 r1 ty
 refine ⟨T,id,pa,slot,hty,h1,h2,?_⟩
 have hA:=ha cpos pins s1 σ H1 _ I1 q1
 rw [hs] at hA ⊢
 refine Calls.callWith_builtin (by show (false || (backTo cpos (starEach es X.env)).any (·.1))=false; rw [hplain] <;> rfl) (Calls.evalArgs_plain ?_)
 exact thn hA λus s2 hz0=>by
  obtain ⟨vs,H2,I2,r2,q2⟩:=hz0
  exact hm pins s2 σ H2 x vs v us Q I2 r1 r2 q2
end
noncomputable def MtM (X:Cx) (id:String) (r:V->List V->Hp->VK->Prop):Prop :=
 ∀ (pins:List (Addr×Obj)) (s:Shared) (σ:St) (H:Hp) (x:V) (xs:List V) (v:Value) (us:List Value) (Q:VK),Inv X pins σ H s->RelV x v->Vals xs us->r x xs H Q ->
  wpAny (model X.prog X.w) X.A (call (.builtin id) (v::us)) (EP X pins σ Q) X.xe s
theorem Vals.one {x:V} {us:List Value} (h:Vals [x] us):∃ u,us=[u]/\RelV x u:=by
 cases h with
 | cons r t=>cases t; exact ⟨_,rfl,r⟩
theorem Vals.zero:∀ {us:List Value},Vals [] us->us=[]
 | _,.nil=>rfl
theorem Vals.reverse {xs:List V} {us:List Value} (h:Vals xs us):Vals xs.reverse us.reverse:=by
 induction h with
 | nil=>exact .nil
 | cons r t ih=>rw [List.reverse_cons,List.reverse_cons]; exact Vals.append ih (.cons r .nil)
theorem Vals.rep {xs:List V} {us:List Value} (h:Vals xs us):∀ k:Nat,Vals (List.replicate k xs).flatten (List.replicate k us).flatten
 | 0=>.nil
 | k+1=>by
  rw [List.replicate_succ,List.replicate_succ,List.flatten_cons,List.flatten_cons]
  exact Vals.append h (Vals.rep h k)
theorem Zdk (its:List Value):∀ (k:Nat) (acc:List Value),
  List.foldl (λx1 x2=>x1++x2) acc.toArray (List.replicate k its.toArray)=(acc++(List.replicate k its).flatten).toArray
 | 0,acc=>by simp
 | k+1,acc=>by
  have e:acc.toArray++its.toArray=(acc++its).toArray:=by simp
  have e2:(acc++its)++(List.replicate k its).flatten=acc++(List.replicate (k+1) its).flatten:=by
   rw [List.replicate_succ,List.flatten_cons,List.append_assoc]
  rw [<- e2,<- Zdk its k (acc++its),<- e,List.replicate_succ,List.foldl_cons]
section
variable {X:Cx} {pins:List (Addr×Obj)} {σ:St} {H:Hp} {s:Shared} {l b:Addr} {xs ys zs:List V}
theorem Inv.lset {its its':List Value} {n:Nat} {f:Array Value->Array Value} {t':Nat} (I:Inv X pins σ H s) (hH:H l=some (.lst xs))
  (e:s.heap.get? l=some { cls:=.type "list",data:=.seq its.toArray n }) (hf:f its.toArray=its'.toArray) (hv:Vals ys its') (hz:ys.length<=sizeLine) :
  Inv X pins σ (upd H l (.lst ys)) { s with heap:=s.heap.update l (Obj.mapSeq f),toks:=t' }:=by
 have q:=PySem.IsL.update e f
 rw [hf] at q
 refine I.write (x:=l) (e:=l) (by rw [hH]; exact trivial) (.inl rfl) (λb' u hb hu=>(Heap.get?_update_other s.heap (Obj.mapSeq f) (Ne.symm hb)).trans hu) ⟨_,q⟩ ?_
 exact ⟨hz,its',_,hv,q⟩
theorem Inv.lnew {its:List Value} {t':Nat} (I:Inv X pins σ H s) (hv:Vals ys its) (hz:ys.length<=sizeLine) :
  Inv X pins σ (upd H s.heap.objs.size (.lst ys)) { s with heap:=s.heap.push { cls:=.type "list",data:=.seq its.toArray },toks:=t' } :=
 I.laid (λ_ _ q=>Heap.get?_push_of_some _ q) (Nat.le_refl _) ⟨hz,its,0,hv,Heap.get?_push_size _ rfl⟩
theorem Inv.fresh (I:Inv X pins σ H s):H s.heap.objs.size=none:=I.hok.fresh (Nat.le_refl _)
theorem Inv.lstM (I:Inv X pins σ H s) (hH:H l=some (.lst xs)):xs.length<=sizeLine/\∃ (its:List Value) (n:Nat),Vals xs its/\xs.length=its.length/\s.heap.get? l=some { cls:=.type "list",data:=.seq its.toArray n }:=by
 obtain ⟨z,its,n,r,e⟩:=I.hok l _ hH
 exact ⟨z,its,n,r,r.length,e⟩
theorem Zh3 {n:Nat} (h:n<=sizeLine):Builtin.List.listTooLong n=false:=by
 unfold Builtin.List.listTooLong
 exact decide_eq_false (by omega)
end
section
variable {X:Cx}
noncomputable def Zb0:V->List V->Hp->VK->Prop:=λx vs H Q=>∃ l xs y,x=.ref l/\vs=[y]/\H l=some (.lst xs)/\xs.length < sizeLine/\Q .non (upd H l (.lst (xs++[y])))
theorem jO:MtM X "list.append" Zb0:=by
 intro pins s σ H x vs v us Q I rx rv h
 obtain ⟨l,xs,y,rfl,rfl,hH,hz,q⟩:=h
 cases rx
 obtain ⟨u,rfl,ru⟩:=rv.one
 obtain ⟨z,its,n,r,hl,e⟩:=I.lstM hH
 refine call_meets F.slot_list_append ⟨_,e,rfl⟩ F.entry_list_append (F.args_list_append_2 _ _) (PySem.list_append l its.toArray n u (by rw [List.size_toArray]; omega)) ⟨e,?_⟩
 refine ⟨.non,_,I.lset (its':=its++[u]) hH e (by simp) (r.append (.cons ru .nil)) ?_,rfl,q⟩
 rw [List.length_append,List.length_singleton]
 omega
noncomputable def ZbL:V->List V->Hp->VK->Prop:=λx vs H Q=>∃ l xs,x=.ref l/\vs=[]/\H l=some (.lst xs)/\Q .non (upd H l (.lst xs.reverse))
theorem pV:MtM X "list.reverse" ZbL:=by
 intro pins s σ H x vs v us Q I rx rv h
 obtain ⟨l,xs,rfl,rfl,hH,q⟩:=h
 cases rx
 have hus:=rv.zero
 subst hus
 obtain ⟨z,its,n,r,hl,e⟩:=I.lstM hH
 refine call_meets F.slot_list_reverse ⟨_,e,rfl⟩ F.entry_list_reverse (F.args_list_reverse_1 _) (AutoSeq1.list_reverse_list_0 l its.toArray n (by rw [List.size_toArray]; omega)) ⟨e,?_⟩
 refine ⟨.non,_,I.lset (its':=its.reverse) hH e (by simp) r.reverse ?_,rfl,q⟩
 rw [List.length_reverse]
 omega
noncomputable def ZbZ:R2:=λx y H Q=>∃ l b xs zs,x=.ref l/\y=.ref b/\H l=some (.lst xs)/\H b=some (.lst zs)/\xs.length+zs.length<=sizeLine/\∀ p,H p=none->Q (.ref p) (upd H p (.lst (xs++zs)))
theorem ZhV:OpR X (binaryOp .Add) ZbZ:=by
 intro pins s σ H x y v u Q I rx ry h
 obtain ⟨l,b,xs,zs,rfl,rfl,hH,hB,hz,q⟩:=h
 cases rx
 cases ry
 obtain ⟨z,its,n,r,hl,e⟩:=I.lstM hH
 obtain ⟨z2,its2,n2,r2,hl2,e2⟩:=I.lstM hB
 refine PySem.P.add_list e e2 ?_ (by rw [List.size_toArray,List.size_toArray]; omega)
 have ea:its.toArray++its2.toArray=(its++its2).toArray:=by simp
 rw [ea]
 exact ⟨.ref _,_,I.lnew (t':=s.toks) (r.append r2) (by rw [List.length_append]; omega),rfl,q _ I.fresh⟩
noncomputable def o9:R2:=λx y H Q=>∃ l k xs,x=.ref l/\y=.int k/\H l=some (.lst xs)/\-(2 ^ 63)<=k/\k < 2 ^ 63/\xs.length * k.toNat<=sizeLine /\
 ∀ p,H p=none->Q (.ref p) (upd H p (.lst (List.replicate k.toNat xs).flatten))
theorem Zit {α:Type} (xs:List α) (k:Nat):(List.replicate k xs).flatten.length=k * xs.length:=by
 induction k with
 | zero=>simp
 | succ k ih=>rw [List.replicate_succ,List.flatten_cons,List.length_append,ih,Nat.succ_mul,Nat.add_comm]
theorem Zcn:OpR X (binaryOp .Mult) o9:=by
 intro pins s σ H x y v u Q I rx ry h
 obtain ⟨l,k,xs,rfl,rfl,hH,h1,h2,hz,q⟩:=h
 cases rx
 obtain ⟨t,rfl⟩:=ry
 obtain ⟨z,its,n,r,hl,e⟩:=I.lstM hH
 have hlen:its.toArray.size * k.toNat<=sizeLine:=by rw [List.size_toArray,<- hl]; exact hz
 have hcap:¬ its.toArray.size * k.toNat > (2 ^ 63 - 1) / 8:=by
  have:(sizeLine:Nat)<=(2 ^ 63 - 1) / 8:=by decide
  omega
 have hfit:¬ (!Builtin.List.listFitsIndex k)=true:=by
  rw [fitsIndex_both h1 h2]
  exact Bool.false_ne_true
 have hlong:¬ Builtin.List.listTooLong (its.toArray.size * k.toNat)=true:=by
  rw [Zh3 hlen]
  exact Bool.false_ne_true
 have hnew:List.foldl (λx1 x2=>x1++x2) #[] (List.replicate (if its.toArray.isEmpty=true then 0 else k.toNat) its.toArray)=(List.replicate k.toNat its).flatten.toArray:=by
  have f0:∀ m:Nat,List.foldl (λx1 x2=>x1++x2) #[] (List.replicate m its.toArray)=(List.replicate m its).flatten.toArray:=λm=>by
   have:=Zdk its m []
   rw [List.nil_append] at this
   exact this
  rw [f0]
  cases its with
  | nil=>simp
  | cons a r'=>rw [if_neg (by simp)]
 refine wpAny_binaryOp_repeat_ref (T:="list") (U:="int") (by decide) ⟨_,e,rfl⟩ (λs'=>typeIs_int s' k t) noFill_list_mul F.fills_int_mul F.slot_int_rmul repeat_list F.slot_int_index.lookup
  (call_meets F.slot_int_rmul (typeIs_int s k t) F.entry_int_rmul (F.args_int_rmul_2 _ _) (int___rmul___int_list k t l its.toArray n)
   ⟨e,rfl,⟨_,e,rfl⟩,call_meets F.slot_list_mul ⟨_,e,rfl⟩ F.entry_list_mul (F.args_list_mul_2 _ _) (AutoListH.list___mul___list_int_3 l its.toArray n k t hfit hcap hlong) ⟨e,?_⟩⟩)
 rw [hnew]
 exact ⟨.ref _,_,I.lnew (t':=s.toks) (r.rep k.toNat) (by rw [Zit,Nat.mul_comm]; exact hz),rfl,q _ I.fresh⟩
end
section
variable {prog:Program} {w:World} {A:Around} {E:Value->Shared->Prop} {s:Shared}
end
section
variable {X:Cx}
end
section
variable {κ:Type} [DecidableEq κ]
noncomputable def dY (kvs:List (κ×V)) (k:κ):Option V:=(kvs.find? λkv=>decide (kv.1=k)).map (·.2)
noncomputable def fG (kvs:List (κ×V)) (k:κ) (v:V):List (κ×V) :=
 if (kvs.any λkv=>decide (kv.1=k))=true then kvs.map (λkv=>if kv.1=k then (kv.1,v) else kv) else kvs++[(k,v)]
theorem nX {p:κ×V} {r:List (κ×V)} {k:κ} (e:p.1=k):dY (p::r) k=some p.2:=by simp [dY,List.find?_cons,e]
theorem Zar {p:κ×V} {r:List (κ×V)} {k:κ} (e:¬ p.1=k):dY (p::r) k=dY r k:=by simp [dY,List.find?_cons,e]
theorem ZcJ (kvs:List (κ×V)) (k:κ) (v:V):(fG kvs k v).length<=kvs.length+1:=by
 unfold fG
 split
 ·rw [List.length_map]; omega
 ·rw [List.length_append,List.length_cons,List.length_nil]; omega
theorem KV.val {kvs:List (κ×V)} {vs:List (κ×Value)} (r:KV kvs vs) (k:κ):RelO (dY kvs k) (valueAt vs k):=by
 unfold KV at r
 induction r with
 | nil=>exact True.intro
 | @cons p q ps qs h t ih =>
  obtain ⟨h1,h2⟩:=h
  by_cases e:p.1=k
  ·have e':q.1=k:=h1.symm.trans e
   have b:valueAt (q::qs) k=some q.2:=by simp [valueAt,List.find?_cons,e']
   rw [nX e,b]; exact h2
  ·have e':¬ q.1=k:=λz=>e (h1.trans z)
   have b:valueAt (q::qs) k=valueAt qs k:=by simp [valueAt,List.find?_cons,e']
   rw [Zar e,b]; exact ih
theorem KV.any {kvs:List (κ×V)} {vs:List (κ×Value)} (r:KV kvs vs) (k:κ):(kvs.any λkv=>decide (kv.1=k))=vs.any λkv=>decide (kv.1=k):=by
 unfold KV at r
 induction r with
 | nil=>rfl
 | cons h t ih=>rw [List.any_cons,List.any_cons,ih,h.1]
theorem KV.repl {kvs:List (κ×V)} {vs:List (κ×Value)} (r:KV kvs vs) (k:κ) {y:V} {u:Value} (ry:RelV y u) :
  KV (kvs.map λkv=>if kv.1=k then (kv.1,y) else kv) (vs.map λkv=>if kv.1=k then (kv.1,u) else kv):=by
 unfold KV at r ⊢
 induction r with
 | nil=>exact .nil
 | @cons p q ps qs h t ih =>
  rw [List.map_cons,List.map_cons]
  refine .cons ?_ ih
  obtain ⟨h1,h2⟩:=h
  by_cases e:p.1=k
  ·rw [if_pos e,if_pos (h1.symm.trans e)]; exact ⟨h1,ry⟩
  ·rw [if_neg e,if_neg (λz=>e (h1.trans z))]; exact ⟨h1,h2⟩
theorem KV.put {kvs:List (κ×V)} {vs:List (κ×Value)} (r:KV kvs vs) (k:κ) {y:V} {u:Value} (ry:RelV y u):KV (fG kvs k y) (stored vs k u):=by
 unfold fG stored
 rw [r.any k]
 by_cases e:(vs.any λkv=>decide (kv.1=k))=true
 ·rw [if_pos e,if_pos e]; exact r.repl k ry
 ·rw [if_neg e,if_neg e]; exact Paired.snoc r ⟨rfl,ry⟩
end
theorem Zc0 {P:Program} {w:World} {k:bb} {u:Value} (r:RelV (kV k) u):(cK P w).is k u=true:=by
 cases k with
 | inl i=>obtain ⟨t,e⟩:=(show ∃ t,u=Value.int i t from r); subst e; exact Zcu P w i t
 | inr x=>obtain ⟨t,e⟩:=(show ∃ t,u=Value.str x t from r); subst e; exact Zia P w x t
theorem Zc4 {P:Program} {w:World}:∀ {ks:List bb} {us:List Value},Vals (ks.map kV) us->ItemsAre (cK P w) ks us
 | [],_,r=>by rw [List.map_nil] at r; cases r; exact .nil
 | k::ks,_,r=>by
  rw [List.map_cons] at r
  cases r with
  | cons h t=>exact .cons (Zc0 h) (Zc4 t)
noncomputable abbrev KT (H:Hp):List (List bb×V)->List (List bb×Addr×Value)->Prop:=Paired λp q=>p.1=q.1/\H q.2.1=some (.tup (p.1.map kV))/\RelV p.2 q.2.2
theorem KT.val {H:Hp} {kvs:List (List bb×V)} {xs:List (List bb×Addr×Value)} (r:KT H kvs xs) (k:List bb):RelO (dY kvs k) ((atKey xs k).map (·.2)):=by
 induction r with
 | nil=>exact True.intro
 | @cons p q ps qs h t ih =>
  obtain ⟨h1,_,h2⟩:=h
  by_cases e:p.1=k
  ·have e':q.1=k:=h1.symm.trans e
   have b:atKey (q::qs) k=some q.2:=by simp [atKey,List.find?_cons,e']
   rw [nX e,b]; exact h2
  ·have e':¬ q.1=k:=λz=>e (h1.trans z)
   have b:atKey (q::qs) k=atKey qs k:=by simp [atKey,List.find?_cons,e']
   rw [Zar e,b]; exact ih
section
variable {P:Program} {w:World} {H:Hp} {h:Heap} {a:Addr}
theorem ZbF {u:HO} (ok:HOk P w H h) (e:Rd H a u):ObjOk P w H h a u:=e.ok ok
theorem ZdU {kvs:List (bb×V)} (ok:HOk P w H h) (e:Rd H a (.dK kvs)):kvs.length<=sizeLine/\(a == sysModules)=false/\∃ vs,KV kvs vs/\h.DictOf (cK P w) a vs :=
 show ObjOk P w H h a (.dK kvs) from ZbF ok e
theorem ZcY {ks:List bb} (ok:HOk P w H h) (e:H a=some (.tup (ks.map kV))):(tupleKind (cK P w)).is h ks a:=by
 obtain ⟨_,its,r,o,h1,h2,n,h3⟩:=(show ObjOk P w H h a (.tup (ks.map kV)) from ok a _ e)
 exact ⟨o,its.toArray,n,h1,h2,h3,by simpa using Zc4 r⟩
theorem ZdO {kvs:List (List bb×V)} (ok:HOk P w H h) (e:Rd H a (.dT kvs)):kvs.length<=sizeLine/\(a == sysModules)=false /\
  ∃ xs,KT H kvs xs/\h.DictOfH (tupleKind (cK P w)) a xs:=by
 obtain ⟨z,y,xs,r,o,es,ep,h1,h2,h3,h4,h5⟩:=(show ObjOk P w H h a (.dT kvs) from ZbF ok e)
 refine ⟨z,y,xs,r,o,es,ep,h1,h2,h3,h4,λx hx=>?_,h5⟩
 have all:∀ {l:List (List bb×V)} {m:List (List bb×Addr×Value)},KT H l m->∀ x∈m,(tupleKind (cK P w)).is h x.1 x.2.1:=by
  intro l m q
  induction q with
  | nil=>intro x hx; exact nomatch hx
  | @cons p q ps qs hq t ih =>
   intro x hx
   rcases List.mem_cons.mp hx with e | hx
   ·subst e
    exact ZcY ok (by rw [<- hq.1]; exact hq.2.1)
   ·exact ih x hx
 exact all r x hx
end
noncomputable def rK (H:Hp) (a:Addr) (y:V) (r:Option V):Prop :=
 (∃ kvs k,Rd H a (.dK kvs)/\y=kV k/\r=dY kvs k)\/∃ kvs k b,Rd H a (.dT kvs)/\y=.ref b/\H b=some (.tup (k.map kV))/\r=dY kvs k
section
variable {X:Cx} {pins:List (Addr×Obj)} {σ:St} {H:Hp} {s:Shared} {a:Addr} {y v:V} {u r:Value} {o:Option V} {A:Around} {E:Value->Shared->Prop}
theorem Inv.big (I:Inv X pins σ H s):sysModules < s.heap.objs.size:=by
 have h:mainGlobals < s.heap.objs.size:=(I.mod.glob.keeps I.bk).lt
 exact Nat.lt_trans (by decide) h
theorem Zmt {Q:Value->Shared->Prop} (hu:A.units+1 < cLine) (I:Inv X pins σ H s) (g:rK H a y (some v)) (ry:RelV y u) (h:∀ w' s',Inv X pins σ H s'->RelV v w'->Q w' s') :
  wpAny (model X.prog X.w) A (getItem (.ref a) u) Q E s:=by
 rcases g with ⟨kvs,k,e,ey,l⟩ | ⟨kvs,k,b,e,ey,eb,l⟩
 ·subst ey
  obtain ⟨z,hd,vs,rel,dd⟩:=ZdU I.hok e
  obtain ⟨w',hw,rw'⟩:=RelO.some_of (v:=v) (o:=valueAt vs k) (by rw [l]; exact rel.val k)
  exact wpAny_getItem_of (Zc0 ry) dd.mapOf hw (h w' _ (I.tok _) rw')
 ·subst ey
  cases (show u=Value.ref b from ry)
  obtain ⟨z,hd,xs,rel,dd⟩:=ZdO I.hok e
  obtain ⟨w',hw,rw'⟩:=RelO.some_of (v:=v) (o:=(atKey xs k).map (·.2)) (by rw [l]; exact rel.val k)
  obtain ⟨p,hp,hp2⟩:=Option.map_eq_some_iff.mp hw
  refine wpAny_getItem_heap (tupleKind_room_in1 hu) (ZcY I.hok eb) dd hp ?_
  rw [hp2]
  exact h w' _ (I.tok _) rw'
end
section
variable {X:Cx} {pins:List (Addr×Obj)} {σ:St} {H:Hp} {s:Shared} {a:Addr} {kvs:List (bb×V)} {k:bb} {u:Value} {A:Around} {E:Value->Shared->Prop}
end
noncomputable def Zfe (i:Expr):Prop:=∀ ov iv,subscripted i false ov iv=operate [ov,iv] (getItem ov iv)
theorem Zga {prog:Program} {w:World} {A:Around} {E:Value->Shared->Prop} {s:Shared} {env:Env} {value slice:Expr} {pos:Pos} {T id:String} {Q:Value->Shared->Prop}
  (hl:typeLookup (.type T) "__getitem__"=pure (some (.builtin id))) (hs:Zfe slice)
  (h:wpAny (model prog w) A (eval value env) (λo s₁=>wpAny (model prog w) A (eval slice env) (λi s₂=>s₂.TypeIs o T/\wpAny (model prog w) A (getItem o i) Q E s₂) E s₁) E s) :
  wpAny (model prog w) A (eval (.Subscript value slice pos) env) Q E s:=by
 refine Subscript_ (wpAny_mono h (λo s₁ h₁=>wpAny_mono h₁ (λi s₂ h₂=>?_) λ_ _ x=>x) λ_ _ x=>x)
 obtain ⟨hT,h₂⟩:=h₂
 unfold subscriptTail
 refine wpAny_bind ?_
 rw [getitemInPython_of_ne hT.not_modules]
 refine wpAny_bind (wpAny_specialOf hT hl ?_)
 have fin:wpAny (model prog w) A (subscripted slice false o i) (λr s₃=>wpAny (model prog w) A (letTemporaryGo value o r >>= λ_=>pure r) Q E s₃) E s₂:=by
  rw [hs o i]
  exact wpAny_operating (wpAny_mono h₂ (λr s₃ h₃=>wpAny_bind (wpAny_letTemporaryGo (wpAny_pure h₃))) λ_ _ x=>x)
 first
  | exact wpAny_pure (wpAny_bind fin)
  | exact wpAny_bind (wpAny_pure (wpAny_bind fin))
  | exact wpAny_bind fin
theorem Zl9 {X:Cx} {pins:List (Addr×Obj)} {σ:St} {H:Hp} {s:Shared} {a:Addr} {y:V} {o:Option V} (I:Inv X pins σ H s) (g:rK H a y o):s.TypeIs (.ref a) "dict":=by
 rcases g with ⟨kvs,k,e,_,_⟩ | ⟨kvs,k,b,e,_,_,_⟩
 ·obtain ⟨_,_,vs,_,dd⟩:=ZdU I.hok e
  exact dd.typeIs
 ·obtain ⟨_,_,xs,_,dd⟩:=ZdO I.hok e
  exact dd.typeIs
noncomputable def ZaC (td ty:TE):TE:=λσ H Q=>td σ H λx H1=>ty σ H1 λy H2=>∃ a v,x=.ref a/\rK H2 a y (some v)/\Q v H2
section
variable {X:Cx} {o i e value:Expr} {pos pos' tpos:Pos} {td ty tv:TE}
theorem Zcd (hu:X.A.units+1 < cLine) (ho:PE X o td) (hi:PE X i ty) (hs:Zfe i):PE X (.Subscript o i pos) (ZaC td ty):=by
 intro pins s σ H Q I h
 refine Zga PySem.F.slot_dict_getitem.lookup hs (thn (ho pins s σ H _ I h) λu s1 ⟨x,H1,I1,rx,q1⟩=>thn (hi pins s1 σ H1 _ I1 q1) λiv s2 hz0=>?_)
 obtain ⟨y,H2,I2,ry,a,v,ex,g,q2⟩:=hz0
 subst ex
 obtain rfl:u=Value.ref a:=rx
 exact ⟨Zl9 I2 g,Zmt hu I2 g ry λw' s3 I3 rw'=>⟨v,H2,I3,rw',q2⟩⟩
end
section
variable {X:Cx} {pos:Pos}
end
section
variable {X:Cx} {pins:List (Addr×Obj)} {σ:St} {H:Hp} {s:Shared} {a:Addr} {y d:V} {u r:Value} {o:Option V} {A:Around} {E:Value->Shared->Prop}
end
section
variable {X:Cx} {o e f:Expr} {apos cpos:Pos} {td ty tx:TE}
end
section
variable {X:Cx} {pins:List (Addr×Obj)} {σ:St} {H:Hp} {s:Shared} {a:Addr} {kvs:List (bb×V)} {A:Around} {E:Value->Shared->Prop}
end
section
variable {X:Cx} {pins:List (Addr×Obj)} {σ:St} {H:Hp} {s:Shared} {a:Addr} {y:V} {u:Value} {A:Around} {E:Value->Shared->Prop}
end
end L2
namespace Att
open PySem PySem.W PySem.Calls PyProof.Rows
theorem ints_of_wellAll {P:Params} {h:Heap}:∀ (ns:List Int) (vs:List Value),WellAll P h vs (ns.map WData.int)->IntsAre vs ns:=by
 intro ns
 induction ns with
 | nil =>
  intro vs w
  rw [List.map_nil] at w
  cases w
  exact .nil
 | cons n ns ih =>
  intro vs w
  rw [List.map_cons] at w
  cases w with
  | cons a b =>
   cases a
   exact .cons _ _ (ih _ b)
theorem script_of {l:OpenLaw} {n:Nat} (hn:l.most=some n) {P:Params} {h:Heap} {args:List WData} {vals:List Value}
  (hpre:l.row.toRowW.claim.pre args=true) (hwl:WellAll P h vals args) :
  ∃ a vs ns,vals=[Value.ref a]/\args=[WData.list (ns.map WData.int)]/\h.get? a=some { cls:=.type "list",data:=.seq vs.toArray }/\IntsAre vs ns/\ns.length<=n:=by
 have hsh:WShape.hasAll [] args [.list .int]=true:=(pre_splitW hpre).1
 have hc:l.pre.holds [] { args:=args }=true:=(pre_splitW hpre).2
 obtain ⟨d,r,rfl,h1,h2⟩:=hasAllW_cons hsh
 obtain rfl:=hasAllW_nil h2
 obtain ⟨xs,rfl,h3⟩:=hasW_list h1
 obtain ⟨ns,rfl⟩:=items_int h3
 have hlen:ns.length<=n:=by
  unfold OpenLaw.pre at hc
  have h4:(WTm.not (.lt (.lit (.int (n:Int))) (.len (.arg 0)))).holds [] { args:=[.list (ns.map .int)] }=true:=by
   have h4:=(holds_andW hc).1
   rw [hn] at h4
   exact h4
  have h5:=condW_of h4 (w_not (w_lt w_lit (w_len_list (w_arg rfl))))
  rw [List.length_map] at h5
  refine Nat.le_of_not_lt λq=>?_
  have q':(n:Int) < ((ns.length:Nat):Int):=by omega
  first
   | (rw [decide_eq_true q'] at h5; exact absurd h5 (by decide))
   | (simp at h5; omega)
 cases hwl with
 | cons w1 w2 =>
  cases w2
  cases w1 with
  | list ho hall=>exact ⟨_,_,ns,rfl,rfl,ho,ints_of_wellAll ns _ hall,hlen⟩
theorem post_true (l:OpenLaw) (args:List WData):l.row.toRowW.claim.post args (.bool true) args=true :=
 postW_of (r:=l.row.toRowW) (X:=(true == true))
  (show WShape.has [] (.bool true) .bool=true by first | rfl | decide | simp [WShape.has,WShape.arms,WShape.armsAll])
  (show (WTm.eq .res (.lit (.bool true))).value [] { args:=args,res:=some (.bool true),after:=args }=some (.bool (true == true)) from w_eq_bool (w_res rfl) w_lit) rfl
theorem attach_call {l:OpenLaw} {n:Nat} {q:Program} {loose:List Str} {XP:(Str->Option Value)->Heap->Prop} {YP:World->Heap->Prop} {d:DefRec}
  (hn:l.most=some n) (hdf:d.params.defaults=[])
  (call:∀ (w:World) (s₀ s₁:Shared) (mg mb:Str->Option Value) (fa:Addr) (o:Obj) (pm cd doc:Value) (a:Addr) (vs:List Value) (ns:List Int),
   Ground q loose [] XP w s₀ mg mb s₁.heap->YP w s₁.heap ->
   s₁.heap.get? fa=some o->o.data=.func (docDef d.name d.params d.body d.scope pm cd doc)->s₁.heap.CodeRec cd d.name->mg d.name=some (.ref fa) ->
   s₁.heap.get? a=some { cls:=.type "list",data:=.seq vs.toArray }->IntsAre vs ns->ns.length<=n->s₁.gens=#[] ->
   codeAny (model l.prog w) callerA (.call (.ref fa) ⟨[.ref a],[]⟩) (λr s'=>r=.ok (.ret (.bool true))/\OldK s₁.heap s'.heap/\s'.os=s₁.os/\AllBare s'.gens) s₁) :
  WalkO q loose XP YP l.row.toRowW d [] (λf vs=>PySem.call f vs):=by
 intro w s₀ s₁ mg mb G Y fa o pm cd doc dV kV ho hd hcd hD hmg hg args vals as hpre hlay hrd hwl hlo
 obtain rfl:dV=.none:=Dflts.none hD hdf
 obtain rfl:kV=.none:=Dflts.noKw hD
 obtain ⟨a,vs,ns,rfl,rfl,hobj,hints,hlen⟩:=script_of hn hpre hwl
 refine enter_call (codeAny_mono (call w s₀ s₁ mg mb fa o pm cd doc a vs ns G Y ho (fd_plain hd) hcd hmg hobj hints hlen hg) λr s' hq=>?_)
 obtain ⟨rfl,h2,h3,h4⟩:=hq
 exact ⟨.inl ⟨.bool true,.bool true,[],rfl,λ_=>rfl,.bool true,post_true l _,λ_=>⟨List.Pairwise.nil,λ_ hm=>(nomatch hm)⟩⟩,h2,h3,h4⟩
section
variable {prog:Program} {w:World} {A:Around} {E:Value->Shared->Prop} {s:Shared} {K:Frag}
end
end Att
namespace L2
open PySem PySem.Spec PyProof.Rows
theorem Zfw {vs:List Value} {ns:List Int} (h:IntsAre vs ns):Vals (ns.map V.int) vs:=by
 induction h with
 | nil=>exact .nil
 | cons n t h ih=>exact .cons ⟨t,rfl⟩ ih
noncomputable def nu (H:Hp):Prop:=∀ b,H b=none\/∃ o xs,H b=some (.frz o (.lst xs))
theorem Ziz {P:Program} {w:World} {K:PySem.W.Frag} {mg mb:Str->Option Value} {CX:dX} {k:Nat} {fa a:Addr} {fd:FuncData} {x:Str} {sp:Sp} {s₁:Shared} {vs:List Value} {ns:List Int}
  (KX:K.In s₁.heap) (hns:s₁.heap.Ns mainGlobals mg) (hb:s₁.heap.Ns builtinsNs mb) (hbb:∀ x:Str,x≠"__name__"->mb x=bootBuiltins x) (hlim:s₁.heap.NoLimit) (hdig:s₁.heap.NoDigits) (hg:s₁.gens=#[])
  (ha:s₁.heap.get? a=some { cls:=.type "list",data:=.seq vs.toArray }) (hi:IntsAre vs ns) (hl:ns.length<=sizeLine) (hr:Room k callerA)
  (F:∀ base:Heap,K.In base->base.Ns mainGlobals mg->FnOk P w K mg base CX k fa fd [x] sp) (hbind:∀ (s:Shared) (u:Value),BindsTo s fd ⟨[u],[]⟩ [(x,u)])
  (hsp:∀ H:Hp,nu H->SqL K H a (ns.map V.int)->sp [.ref a] H (λv _=>v=.bl true) λ_ _ _=>False)
  (hCX:∀ H e s',CX [] H s₁ (λ_ _ _=>False) e s'->False) :
  codeAny (model P w) callerA (.call (.ref fa) ⟨[.ref a],[]⟩) (λr s'=>r=.ok (.ret (.bool true))/\OldK s₁.heap s'.heap/\s'.os=s₁.os/\AllBare s'.gens) s₁:=by
 have rv:=Zfw hi
 have lenV:=hi.length
 -- from an abstract heap in which nothing but the script may be tracked
 have core:∀ H:Hp,nu H->SqL K H a (ns.map V.int)->HOk P w H s₁.heap->(∀ b,H b≠none->b=a)->(H a≠none->K.lookup a=none) ->
   codeAny (model P w) callerA (.call (.ref fa) ⟨[.ref a],[]⟩) (λr s'=>r=.ok (.ret (.bool true))/\OldK s₁.heap s'.heap/\s'.os=s₁.os/\AllBare s'.gens) s₁:=by
  intro H hO hS hok hA hK
  have base_of:∀ {b:Addr} {o:Obj},s₁.heap.get? b=some o->H b=none->(fS s₁.heap H).get? b=some o:=λe n=>ZiY e n
  have noA:∀ {b:Addr} {o:Obj} {es:Array DictEntry} {ep:Nat},s₁.heap.get? b=some o->o.data=.dict es ep->H b=none:=λ{b o es ep} e d=>by
   cases q:H b with
   | none=>rfl
   | some u =>
    have e':b=a:=hA b (by rw [q]; simp)
    subst e'
    rw [ha] at e; cases e
    have d':Data.seq vs.toArray _=Data.dict es ep:=d
    cases d'
  have nsK:∀ {b:Addr} {m:Str->Option Value},s₁.heap.Ns b m->(fS s₁.heap H).Ns b m:=λ{b m} hz0=>by
   obtain ⟨o,es,ep,e,d,r⟩:=hz0
   exact ⟨o,es,ep,base_of e (noA e d),d,r⟩
  have hKb:K.In (fS s₁.heap H):=λb o e=>base_of (KX b o e) (by
   cases q:H b with
   | none=>rfl
   | some u =>
    have e':b=a:=hA b (by rw [q]; simp)
    subst e'
    rw [hK (by rw [q]; simp)] at e; cases e)
  have hM:Mod K mg (fS s₁.heap H):=⟨hKb,nsK hns,⟨mb,nsK hb,hbb⟩,let ⟨mc,h1,h2⟩:=hlim; ⟨mc,nsK h1,h2⟩,let ⟨mc,h1,h2⟩:=hdig; ⟨mc,nsK h1,h2⟩⟩
  have e0:Env0 P w K mg (fS s₁.heap H) callerA [] s₁ H:=⟨rfl,hM,λb o e=>Zh0 e,Nat.le_of_eq (ZiX _ _),trivial,λb hb=>absurd (show b∈([]:List Addr) from hb) (by simp),hok,.of_eq hg⟩
  refine codeAny_mono ((F _ hKb (nsK hns)).run callerA [] s₁ H ⟨[.ref a],[]⟩ [.ref a] [.ref a] _ _ hr e0 (hbind s₁ (.ref a)) (.cons rfl .nil) (hsp H hO hS)) λr s' h=>?_
  cases r with
  | error e=>exact (hCX H e s' h).elim
  | ok fl =>
   cases fl with
   | next=>exact False.elim h
   | brk=>exact False.elim h
   | cont=>exact False.elim h
   | ret u =>
    obtain ⟨v,H',os,bare,un,hok',r',q⟩:=h
    have q':v=.bl true:=q
    subst q'
    obtain rfl:u=Value.bool true:=r'
    refine ⟨rfl,OldK.of_keep λb o e=>?_,os,bare⟩
    cases q:H b with
    | none=>exact un.keep b o e q (by intro z; exact absurd (show b∈([]:List Addr) from z) (by simp)) (by simp)
    | some u =>
     rcases hO b with z | ⟨ob,xs,z⟩
     ·rw [q] at z; cases z
     ·have z2:=un.frzs b ob _ z
      obtain ⟨e1,_⟩:=hok b _ z
      obtain ⟨e2,_⟩:=hok' b _ z2
      rw [e] at e1; cases e1
      exact e2
 cases hk:K.lookup a with
 | some o =>
  -- the script is one of the module's own objects
  have e:=KX a o hk
  rw [ha] at e
  cases e
  refine core (λ_=>none) (λ_=>.inl rfl) (.inr ⟨_,vs.toArray,_,hk,rfl,rfl,rfl,by rw [List.size_toArray,lenV]; exact hl,by simpa using rv⟩) (λb u z=>by have z':(none:Option HO)=some u:=z; cases z') (λb z=>absurd rfl z) λz=>absurd rfl z
 | none =>
  refine core (λb=>if b=a then some (.frz { cls:=.type "list",data:=.seq vs.toArray } (.lst (ns.map V.int))) else none) (λb=>?_) (.inl (.inr ⟨{ cls:=.type "list",data:=.seq vs.toArray },if_pos rfl⟩)) (λb u z=>?_) (λb z=>?_) λ_=>hk
  ·by_cases hb:b=a
   ·exact .inr ⟨_,_,if_pos hb⟩
   ·exact .inl (if_neg hb)
  ·by_cases hb:b=a
   ·have z':=(if_pos hb).symm.trans z
    cases z'
    subst hb
    exact ⟨ha,by rw [List.length_map]; exact hl,vs,_,rv,ha⟩
   ·have z':=(if_neg hb).symm.trans z
    cases z'
  ·by_cases hb:b=a
   ·exact hb
   ·exact absurd (if_neg hb) z
noncomputable abbrev KOf {K:PySem.W.Frag} {h:Heap} (_:K.In h):PySem.W.Frag:=K
theorem Zfr {l:PySem.W.OpenLaw} {n k:Nat} {q:Program} {loose:List Str} {XP:(Str->Option Value)->Heap->Prop} {YP:World->Heap->Prop} {d:DefRec} {K:Params->PySem.W.Frag} {CX:World->dX} {sp:World->Sp} {x:Str}
  (hn:l.most=some n) (hn2:n<=sizeLine) (hdf:d.params.defaults=[]) (hr:Room k callerA)
  (hY:∀ (w:World) (h:Heap),YP w h->(K w.params).In h)
  (F:∀ (w:World) (mg:Str->Option Value) (fa:Addr) (h:Heap),(K w.params).In h->h.Ns mainGlobals mg->mg d.name=some (.ref fa) ->
   ∃ fd:FuncData,(∀ (s:Shared) (u:Value),BindsTo s fd ⟨[u],[]⟩ [(x,u)]) /\
    ∀ base:Heap,(K w.params).In base->base.Ns mainGlobals mg->FnOk l.prog w (K w.params) mg base (CX w) k fa fd [x] (sp w))
  (hsp:∀ (w:World) (H:Hp) (a:Addr) (ns:List Int),ns.length<=n->nu H->SqL (K w.params) H a (ns.map V.int)->sp w [.ref a] H (λv _=>v=.bl true) λ_ _ _=>False)
  (hCX:∀ (w:World) (H:Hp) (s:Shared) (e:Value) (s':Shared),CX w [] H s (λ_ _ _=>False) e s'->False) :
  PySem.W.WalkO q loose XP YP l.row.toRowW d [] (λf vs=>PySem.call f vs):=by
 refine Att.attach_call hn hdf λw s₀ s₁ mg mb fa o pm cd doc a vs ns G Y ho hd hcd hmg hobj hints hlen hg=>?_
 have KX:=hY w _ Y
 obtain ⟨fd,hb,hF⟩:=F w mg fa _ KX G.T.g hmg
 exact Ziz KX G.T.g G.T.b G.T.builtins G.T.nolimit G.T.nodigits hg hobj hints (Nat.le_trans hlen hn2) hr hF hb (λH hO hS=>hsp w H a ns hlen hO hS) λH e s'=>hCX w H s₁ e s'
theorem Zfq {l:PySem.W.OpenLaw} {n k:Nat} {q:Program} {loose:List Str} {XP:(Str->Option Value)->Heap->Prop} {YP:World->Heap->Prop} {d:DefRec} {K:Params->PySem.W.Frag} {CX:dX} {sp:PySem.W.Frag->Sp} {x:Str}
  (hn:l.most=some n) (hn2:n<=sizeLine) (hdf:d.params.defaults=[]) (hr:Room k callerA)
  (hY:∀ (w:World) (h:Heap),YP w h->(K w.params).In h)
  (F:∀ (w:World) (mg:Str->Option Value) (fa:Addr) (h:Heap),(K w.params).In h->h.Ns mainGlobals mg->mg d.name=some (.ref fa) ->
   ∃ fd:FuncData,(∀ (s:Shared) (u:Value),BindsTo s fd ⟨[u],[]⟩ [(x,u)]) /\
    ∀ base:Heap,(K w.params).In base->base.Ns mainGlobals mg->FnOk l.prog w (K w.params) mg base CX k fa fd [x] (sp (K w.params)))
  (hsp:∀ (K:PySem.W.Frag) (H:Hp) (a:Addr) (ns:List Int),ns.length<=n->nu H->SqL K H a (ns.map V.int)->sp K [.ref a] H (λv _=>v=.bl true) λ_ _ _=>False)
  (hCX:∀ (H:Hp) (s:Shared) (e:Value) (s':Shared),CX [] H s (λ_ _ _=>False) e s'->False) :
  PySem.W.WalkO q loose XP YP l.row.toRowW d [] (λf vs=>PySem.call f vs) :=
 Zfr (K:=K) (CX:=λ_=>CX) (sp:=λw=>sp (K w.params)) hn hn2 hdf hr hY F (λw H a ns h1 h2 h3=>hsp (K w.params) H a ns h1 h2 h3) λ_ H s e s'=>hCX H s e s'
noncomputable def iT (s:Stmt):Arguments:=match s with
 | .FunctionDef _ a _ _ _ _ _ _ _ _=>a
 | _=>{ posonlyargs:=[],args:=[],vararg:=none,kwonlyargs:=[],kw_defaults:=[],kwarg:=none,defaults:=[] }
noncomputable def fV (s:Stmt):List Stmt:=match s with
 | .FunctionDef _ _ b _ _ _ _ _ _ _=>b
 | _=>[]
noncomputable def aG (s:Stmt):Scope:=match s with
 | .FunctionDef _ _ _ _ _ _ sc _ _ _=>sc
 | _=>{ kind:=.function,names:=[],isGenerator:=false,isCoroutine:=false }
noncomputable abbrev gI:dX:=λ_ _ _ _ _ _=>False
noncomputable abbrev E0:XK:=λ_ _ _=>False
theorem ZhK {X:Cx}:rE gI X E0:=λ_ _ _ _ _ _ _ h=>h.elim
structure Fun (K:PySem.W.Frag) (x qual:Str) (st:Stmt) (f:Addr) (fd:FuncData):Prop where
 ex:∃ (oc:Value) (od:Option Addr) (kV doc pm:Value) (an:Option Addr) (cdv ct:Value) (osl:Array (Option Value)),
  fd=PySem.W.fnOf x qual (iT st) (fV st) (aG st) .none kV doc pm an cdv ct/\K.lookup f=some ⟨oc,od,.func fd,osl⟩/\PySem.W.codeIn K cdv qual=true
 kp:PySem.W.keepIn K (.ref f)=true
section
variable {P:Program} {w:World} {K:PySem.W.Frag} {mg:Str->Option Value} {base:Heap}
theorem Fun.ok {x qual:Str} {st:Stmt} {f:Addr} {fd:FuncData} {N ps:List Str} {k:Nat} {sp:Sp} (F:Fun K x qual st f fd) (S:FnScope N ps (aG st)) (len:∀ vs H Q E,sp vs H Q E->vs.length=ps.length)
  (hbody:∀ (cdv:Value) (A:Around) (outer:List Env) (s:Shared) (H:Hp) (vs:List V) (Q:VK) (E:XK),Room k (A.deeper (envOfC qual (aG st) s.heap.objs.size f cdv))->sp vs H Q E ->
   ∃ t,PSs (gA gI P w K mg base N qual (aG st) f cdv A outer s H E).nox (fV st) t/\t { nx:=λ_ H'=>Q .non H',rt:=Q } (start N vs) H):FnOk P w K mg base gI (k+1) f fd ps sp:=by
 obtain ⟨oc,od,kV,doc,pm,an,cdv,ct,osl,rfl,lk,hcd⟩:=F.ex
 refine Zjl lk hcd S len λA outer s H vs Q E hr hsp=>?_
 obtain ⟨t,h,q⟩:=hbody cdv A outer s H vs Q E hr hsp
 exact ⟨t,h.nox,q⟩
theorem Fun.binds {x qual:Str} {st:Stmt} {f:Addr} {fd:FuncData} {ps:List Str} (F:Fun K x qual st f fd)
  (h:∀ (kV doc pm:Value) (an:Option Addr) (cdv ct:Value) (us:List Value),us.length=ps.length->bindArgs (PySem.W.fnOf x qual (iT st) (fV st) (aG st) .none kV doc pm an cdv ct) ⟨us,[]⟩=pure (ps.zip us)):Binds K fd ps []:=by
 obtain ⟨oc,od,kV,doc,pm,an,cdv,ct,osl,rfl,lk,hcd⟩:=F.ex
 exact .all (h kV doc pm an cdv ct)
theorem Zjj {x qual:Str} {st:Stmt} {f:Addr} {oc:Value} {od an:Option Addr} {osl:Array (Option Value)} {kV doc pm cdv ct:Value} (l:K.lookup f=some ⟨oc,od,.func (PySem.W.fnOf x qual (iT st) (fV st) (aG st) .none kV doc pm an cdv ct),osl⟩)
  (c:PySem.W.codeIn K cdv qual=true) (k:PySem.W.keepIn K (.ref f)=true):Fun K x qual st f (PySem.W.fnOf x qual (iT st) (fV st) (aG st) .none kV doc pm an cdv ct):=⟨⟨oc,od,kV,doc,pm,an,cdv,ct,osl,rfl,l,c⟩,k⟩
end
theorem kb {A:Around} {k:Nat} (hr:Room k A):A.units+1 < cLine:=Nat.lt_of_le_of_lt (Nat.add_le_add_left (by decide:1<=64) _) hr.units
section
variable {X:Cx}
theorem pv (i:Nat) {x:Str} {pos:Pos} (hN:X.N[i]?=some x:=by rfl) (hv:no X.env.scope x:=by first | exact Or.inl rfl | exact Or.inr (Or.inl rfl) | exact Or.inr (Or.inr rfl)) (hd:(x == ("__debug__":Str))=false:=by decide)
  (hcd:(x == ("__classdict__":Str))=false:=by decide):PE X (.Name x pos) (eO i):=Zhz hN hv hd hcd
end
theorem mz {c A B:Prop} [Decidable c] (h1:c->A) (h2:¬ c->B):if c then A else B:=by
 by_cases h:c
 ·rw [if_pos h]
  exact h1 h
 ·rw [if_neg h]
  exact h2 h
noncomputable def Same (H H':Hp):Prop:=∀ b o,H b=some o->H' b=some o
theorem Same.refl (H:Hp):Same H H:=λ_ _ h=>h
theorem Same.free {H H':Hp} (e:Same H H') {l:Addr} (h:H' l=Option.none):H l=Option.none:=by
 cases q:H l with
 | none=>rfl
 | some o =>
  rw [e l o q] at h
  cases h
structure Blk where
 cl:List (Str×Addr)
 C:Addr
 s:Shared
 H:Hp
 fp:List Addr
 pn:List (Addr×Obj)
noncomputable def aY (X:Cx) (N:List Str) (scope:Scope) (b:Blk):Cx where
 prog:=X.prog
 w:=X.w
 K:=X.K
 mg:=X.mg
 base:=X.base
 A:=X.A
 N:=N
 s₀:=b.s
 H₀:=b.H
 env:=compEnvC scope b.cl b.C X.env
 outer:=X.stack
 stack:=X.stack
 ex:=b.fp
 fn:=λx=>scope.names.lookup x == some .cell
 calm:=X.calm
 pn:=b.pn
 xe:=λ_ _=>False
noncomputable def bN (Nx ts:List Str) (ix:List Nat):List Str:=ts++ix.map λj=>(Nx[j]?).getD Str.empty
noncomputable def cy (n:Nat) (ix:List Nat) (σ:St):St:=List.replicate n none++ix.map λj=>(σ[j]?).getD none
structure BlkOk (Nx:List Str) (sc scope:Scope) (ix:List Nat):Prop where
 kind:scope.kind=.function
 cells:∀ y∈scope.names,y.2=.cell->scope.names.lookup y.1=some .cell
 locs:∀ y∈scope.names,y.2=.local->scope.names.lookup y.1=some .local
 frees:∀ y∈scope.names,y.2=.free->sc.names.lookup y.1=some .cell\/sc.names.lookup y.1=some .free
 caps:∀ j∈ix,j < Nx.length/\scope.names.lookup ((Nx[j]?).getD Str.empty)=some .free
theorem qx {env:Env} {f:Str×NameKind->List (Str×Addr)->Sem (ForInStep (List (Str×Addr)))}
  (h1:∀ n k r,k≠NameKind.free->f (n,k) r=pure (.yield r)) (h2:∀ n r c,env.cells.lookup n=some c->f (n,NameKind.free) r=pure (.yield ((n,c)::r))) :
  ∀ (names:List (Str×NameKind)) (acc:List (Str×Addr)),(∀ y∈names,y.2=.free->∃ c,env.cells.lookup y.1=some c)->(∀ x c,acc.lookup x=some c->env.cells.lookup x=some c) ->
   ∃ cl,forIn names acc f=pure cl/\(∀ x c,cl.lookup x=some c->env.cells.lookup x=some c)/\(∀ y∈names,y.2=.free->∃ c,cl.lookup y.1=some c)/\∀ x c,acc.lookup x=some c->∃ c',cl.lookup x=some c'
 | [],acc,_,ha=>⟨acc,rfl,ha,(λ_ h=>nomatch h),λx c h=>⟨c,h⟩⟩
 | (n,k)::names,acc,hn,ha=>by
  have hn':∀ y∈names,y.2=.free->∃ c,env.cells.lookup y.1=some c:=λy hy=>hn y (List.mem_cons_of_mem _ hy)
  by_cases hk:k=.free
  ·subst hk
   obtain ⟨c,hc⟩:=hn (n,.free) List.mem_cons_self rfl
   have ha':∀ x d,((n,c)::acc).lookup x=some d->env.cells.lookup x=some d:=λx d e=>by
    rw [List.lookup_cons] at e
    cases hx:x == n with
    | true =>
     rw [hx] at e
     have hxn:x=n:=by simpa using hx
     subst hxn
     cases e
     exact hc
    | false =>
     rw [hx] at e
     exact ha x d e
   obtain ⟨cl,e,p1,p2,p3⟩:=qx h1 h2 names ((n,c)::acc) hn' ha'
   refine ⟨cl,?_,p1,λy hy hf=>?_,λx d hx=>?_⟩
   ·rw [List.forIn_cons,h2 n acc c hc,pure_bind]
    exact e
   ·rcases List.mem_cons.mp hy with rfl | hy
    ·exact p3 n c (by simp)
    ·exact p2 y hy hf
   ·by_cases e1:x=n
    ·subst e1
     exact p3 x c (by simp)
    ·exact p3 x d (by rw [List.lookup_cons,beq_false_of_ne e1]; exact hx)
  ·obtain ⟨cl,e,p1,p2,p3⟩:=qx h1 h2 names acc hn' ha
   refine ⟨cl,?_,p1,λy hy hf=>?_,p3⟩
   ·rw [List.forIn_cons,h1 n k acc hk,pure_bind]
    exact e
   ·rcases List.mem_cons.mp hy with rfl | hy
    ·exact absurd hf hk
    ·exact p2 y hy hf
theorem ku {scope:Scope} {env:Env} (hn:∀ y∈scope.names,y.2=.free->∃ c,env.cells.lookup y.1=some c) :
  ∃ cl,closureFor scope env=pure cl/\(∀ x c,cl.lookup x=some c->env.cells.lookup x=some c)/\∀ y∈scope.names,y.2=.free->∃ c,cl.lookup y.1=some c:=by
 unfold closureFor
 have key:=qx (env:=env) (f:=λ(x:Str×NameKind) (r:List (Str×Addr))=>match x with
  | (name,kind)=>if (kind == NameKind.free)=true then (do let a <- cellOf env name; pure (ForInStep.yield ((name,a)::r))) else pure (ForInStep.yield r))
  (λn k r hk=>by
   have hb:(k == NameKind.free)=false:=by simpa using hk
   show (if (k == NameKind.free)=true then _ else _)=_
   rw [hb]
   rfl)
  (λn r c hc=>by
   show (do let a <- cellOf env n; pure (ForInStep.yield ((n,a)::r)))=_
   unfold cellOf
   rw [hc]
   rfl) scope.names [] hn (λx c h=>by simp at h)
 obtain ⟨cl,e,p1,p2,_⟩:=key
 refine ⟨cl,?_,p1,p2⟩
 show (forIn scope.names [] _ >>= λr=>pure r)=pure cl
 exact (congrArg (λt=>t >>= λr=>pure r) e).trans (pure_bind _ _)
section
variable {X:Cx} {pins:List (Addr×Obj)} {σ:St} {H:Hp} {s:Shared}
theorem ZbD {scope:Scope} {env:Env} {x:Str} (h:scope.names.lookup x=some .free):(relabel scope env).names.lookup x=some .cell\/(relabel scope env).names.lookup x=some .free:=by
 unfold relabel
 show List.lookup x (scope.names.map _)=_\/List.lookup x (scope.names.map _)=_
 generalize scope.names=l at h
 induction l with
 | nil=>simp at h
 | cons p r ih =>
  obtain ⟨n,k⟩:=p
  rw [List.map_cons]
  cases hx:x == n with
  | true =>
   rw [List.lookup_cons,hx] at h
   have hk:k=.free:=by simpa using h
   subst hk
   by_cases hc:(NameKind.free == NameKind.free && env.scope.kind == .function && env.kindOf n == some .cell)=true
   ·refine .inl ?_
    show List.lookup x ((if (NameKind.free == NameKind.free && env.scope.kind == .function && env.kindOf n == some .cell)=true then (n,NameKind.cell) else (n,NameKind.free))::_)=_
    rw [if_pos hc,List.lookup_cons,hx]
   ·refine .inr ?_
    show List.lookup x ((if (NameKind.free == NameKind.free && env.scope.kind == .function && env.kindOf n == some .cell)=true then (n,NameKind.cell) else (n,NameKind.free))::_)=_
    rw [if_neg hc,List.lookup_cons,hx]
  | false =>
   rw [List.lookup_cons,hx] at h
   have key:∀ q:Str×NameKind,(q=(n,NameKind.cell)\/q=(n,k))->∀ l',List.lookup x (q::l')=List.lookup x l':=λq hq l'=>by
    rcases hq with rfl | rfl <;> rw [List.lookup_cons,hx]
   have hq:(if (k == NameKind.free && env.scope.kind == .function && env.kindOf n == some .cell)=true then (n,NameKind.cell) else (n,k))=(n,NameKind.cell)\/(if (k == NameKind.free && env.scope.kind == .function && env.kindOf n == some .cell)=true then (n,NameKind.cell) else (n,k))=(n,k):=by
    split
    ·exact .inl rfl
    ·exact .inr rfl
   rcases ih h with z | z
   ·exact .inl ((key _ hq _).trans z)
   ·exact .inr ((key _ hq _).trans z)
theorem Zg4 {scope:Scope} {env:Env} {x:Str} (h:(relabel scope env).names.lookup x=some .cell\/(relabel scope env).names.lookup x=some .free):∃ y∈scope.names,y.1=x/\(y.2=.free\/y.2=.cell):=by
 unfold relabel at h
 have h':List.lookup x (scope.names.map λ(n,k)=>if (k == .free && env.scope.kind == .function && env.kindOf n == some .cell) then (n,NameKind.cell) else (n,k))=some .cell\/List.lookup x (scope.names.map λ(n,k)=>if (k == .free && env.scope.kind == .function && env.kindOf n == some .cell) then (n,NameKind.cell) else (n,k))=some .free:=h
 clear h
 generalize scope.names=l at h'
 induction l with
 | nil=>simp at h'
 | cons p r ih =>
  obtain ⟨n,k⟩:=p
  rw [List.map_cons] at h'
  cases hx:x == n with
  | true =>
   have hxn:x=n:=by simpa using hx
   by_cases hk:k=.free
   ·exact ⟨(n,k),List.mem_cons_self,hxn.symm,.inl hk⟩
   ·
    have hb:(k == NameKind.free)=false:=by simpa using hk
    have e:(if (k == NameKind.free && env.scope.kind == .function && env.kindOf n == some .cell)=true then (n,NameKind.cell) else (n,k))=(n,k):=by
     rw [hb]
     rfl
    have h2:List.lookup x ((n,k)::r.map λ(n,k)=>if (k == .free && env.scope.kind == .function && env.kindOf n == some .cell) then (n,NameKind.cell) else (n,k))=some .cell\/List.lookup x ((n,k)::r.map λ(n,k)=>if (k == .free && env.scope.kind == .function && env.kindOf n == some .cell) then (n,NameKind.cell) else (n,k))=some .free:=by
     rw [<- e]
     exact h'
    rw [List.lookup_cons,hx] at h2
    rcases h2 with z | z
    ·exact ⟨(n,k),List.mem_cons_self,hxn.symm,.inr (Option.some.inj z)⟩
    ·exact absurd (Option.some.inj z) hk
  | false =>
   have hq:∀ q:Str×NameKind,(q=(n,NameKind.cell)\/q=(n,k))->∀ l',List.lookup x (q::l')=List.lookup x l':=λq hq l'=>by
    rcases hq with rfl | rfl <;> rw [List.lookup_cons,hx]
   have hqq:(if (k == NameKind.free && env.scope.kind == .function && env.kindOf n == some .cell)=true then (n,NameKind.cell) else (n,k))=(n,NameKind.cell)\/(if (k == NameKind.free && env.scope.kind == .function && env.kindOf n == some .cell)=true then (n,NameKind.cell) else (n,k))=(n,k):=by
    split
    ·exact .inl rfl
    ·exact .inr rfl
   obtain ⟨y,hy,e⟩:=ih (by
    rcases h' with z | z
    ·exact .inl ((hq _ hqq _).symm.trans z)
    ·exact .inr ((hq _ hqq _).symm.trans z))
   exact ⟨y,List.mem_cons_of_mem _ hy,e⟩
theorem qO:∀ (names:List (Str×NameKind)) (h:Heap) (acc:List (Str×Addr)),
  (∀ x c,(cellsFrom h.objs.size names acc).lookup x=some c->acc.lookup x=some c\/(h.objs.size<=c/\(pushCells h names).IsCell c none/\(x,NameKind.cell)∈names)) /\
  (∀ x,((x,NameKind.cell)∈names\/∃ c,acc.lookup x=some c)->∃ c,(cellsFrom h.objs.size names acc).lookup x=some c) /\
  (∀ x c,(x,NameKind.cell)∈names->(cellsFrom h.objs.size names acc).lookup x=some c->h.objs.size<=c) /\
  ((∀ x c,acc.lookup x=some c->c < h.objs.size)->(∀ x y c,acc.lookup x=some c->acc.lookup y=some c->x=y)->∀ x y c,(cellsFrom h.objs.size names acc).lookup x=some c->(cellsFrom h.objs.size names acc).lookup y=some c->x=y):=by
 intro names
 induction names with
 | nil=>intro h acc; exact ⟨λx c e=>.inl e,λx e=>by rcases e with e | e; cases e; exact e,λx c e=>(by cases e),λ_ i=>i⟩
 | cons p r ih =>
  obtain ⟨name,kind⟩:=p
  intro h acc
  unfold cellsFrom pushCells
  by_cases hk:kind=.cell
  ·subst hk
   have hk':((NameKind.cell == NameKind.cell)=true):=rfl
   rw [if_pos hk',if_pos hk']
   have ih':=ih (h.push { cls:=.type "cell",data:=.cell none }) ((name,h.objs.size)::acc)
   rw [Heap.size_push] at ih'
   obtain ⟨i1,i2,i4,i3⟩:=ih'
   refine ⟨λx c e=>?_,λx e=>?_,λx c e1 e2=>?_,λhb hi=>i3 (λx c e=>?_) λx y c e1 e2=>?_⟩
   ·rcases i1 x c e with z | ⟨z1,z2,z3⟩
    ·rw [List.lookup_cons] at z
     cases hx:x == name with
     | true =>
      rw [hx] at z
      have hxn:x=name:=by simpa using hx
      cases z
      exact .inr ⟨Nat.le_refl _,⟨_,pushCells_keeps _ _ _ _ (Heap.get?_push_size _ rfl),rfl⟩,by rw [hxn]; exact List.mem_cons_self⟩
     | false=>rw [hx] at z; exact .inl z
    ·exact .inr ⟨by omega,z2,List.mem_cons_of_mem _ z3⟩
   ·refine i2 x ?_
    by_cases hx:x=name
    ·exact .inr ⟨h.objs.size,by rw [List.lookup_cons,hx]; simp⟩
    ·rcases e with e | ⟨c,e⟩
     ·rcases List.mem_cons.mp e with q | q
      ·exact absurd (congrArg Prod.fst q) hx
      ·exact .inl q
     ·exact .inr ⟨c,by rw [List.lookup_cons,beq_false_of_ne hx]; exact e⟩
   ·rcases i1 x c e2 with z | ⟨z,_,_⟩
    ·rw [List.lookup_cons] at z
     cases hx:x == name with
     | true=>rw [hx] at z; cases z; exact Nat.le_refl _
     | false =>
      have hxn:x≠name:=by simpa using hx
      rcases List.mem_cons.mp e1 with q | q
      ·exact absurd (congrArg Prod.fst q) hxn
      ·exact Nat.le_of_succ_le (i4 x c q e2)
    ·exact Nat.le_of_succ_le z
   ·rw [List.lookup_cons] at e
    cases hx:x == name with
    | true=>rw [hx] at e; cases e; exact Nat.lt_succ_self _
    | false=>rw [hx] at e; exact Nat.lt_succ_of_lt (hb x c e)
   ·rw [List.lookup_cons] at e1 e2
    cases hx:x == name with
    | true =>
     have hxn:x=name:=by simpa using hx
     rw [hx] at e1
     cases e1
     cases hy:y == name with
     | true =>
      have hyn:y=name:=by simpa using hy
      rw [hxn,hyn]
     | false=>rw [hy] at e2; exact absurd (hb y _ e2) (Nat.lt_irrefl _)
    | false =>
     rw [hx] at e1
     cases hy:y == name with
     | true=>rw [hy] at e2; cases e2; exact absurd (hb x _ e1) (Nat.lt_irrefl _)
     | false=>rw [hy] at e2; exact hi x y c e1 e2
  ·have hk':¬ ((kind == NameKind.cell)=true):=by simpa using hk
   rw [if_neg hk',if_neg hk']
   obtain ⟨i1,i2,i4,i3⟩:=ih h acc
   refine ⟨λx c e=>?_,λx e=>i2 x ?_,λx c e1 e2=>?_,i3⟩
   ·rcases i1 x c e with z | ⟨z1,z2,z3⟩
    ·exact .inl z
    ·exact .inr ⟨z1,z2,List.mem_cons_of_mem _ z3⟩
   ·rcases e with e | e
    ·rcases List.mem_cons.mp e with q | q
     ·exact absurd (congrArg Prod.snd q).symm hk
     ·exact .inl q
    ·exact .inr e
   ·rcases List.mem_cons.mp e1 with q | q
    ·exact absurd (congrArg Prod.snd q).symm hk
    ·exact i4 x c q e2
theorem nQ {M:Model} {A:Around} {E:Value->Shared->Prop} {s:Shared} {scope:Scope} {globals:Addr} {cl:List (Str×Addr)} {qual:Str} {outer:Env} {Q:Env->Shared->Prop}
  (h:Q { scope:=scope,locals:=s.heap.objs.size,globals:=globals,cells:=cellsFrom (s.heap.objs.size+1) scope.names cl,qual:=qual,func:=none,code:=outer.code,frame:=outer.frame,builtins:=outer.builtins } { s with heap:=pushCells (s.heap.push { cls:=.type "dict",data:=.dict #[] }) scope.names }) :
  wpAny M A (newFunctionEnv scope globals cl [] qual none .none (some outer)) Q E s:=by
 simp only [newFunctionEnv,Option.isSome_some,if_true]
 refine wpAny_bind (wpAny_alloc ?_)
 refine wpAny_bind (wpAny_layCells _ (λname kind cells=>by cases hkc:kind == NameKind.cell <;> simp [hkc]) _ _ _ _ ?_)
 rw [show ({ s with heap:=s.heap.push { cls:=.type "dict",data:=.dict #[] } }:Shared).heap.objs.size=s.heap.objs.size+1 from Heap.size_push ..]
 rw [List.forIn_nil]
 exact wpAny_bind (wpAny_pure (wpAny_pure h))
theorem Znz {Nx ts:List Str} {ix:List Nat} {i:Nat} {x:Str} (h:(bN Nx ts ix)[i]?=some x) (hi:ts.length<=i):∃ j,ix[i - ts.length]?=some j/\x=(Nx[j]?).getD Str.empty:=by
 unfold bN at h
 rw [List.getElem?_append_right hi,List.getElem?_map] at h
 cases e:ix[i - ts.length]? with
 | none=>rw [e] at h; cases h
 | some j=>rw [e] at h; exact ⟨j,rfl,(Option.some.inj h).symm⟩
theorem qo {scope:Scope} {cl:List (Str×Addr)} {fp:List Addr} {C:Addr} {h3:Heap} {tk:Nat} {m:Str->Option Value} {Nx ts:List Str} {ix:List Nat}
  (I:Inv X pins σ H s) (hNx:X.N=Nx) (ok:BlkOk Nx X.env.scope scope ix) (cs1:∀ x c,cl.lookup x=some c->X.env.cells.lookup x=some c\/(C < c/\h3.IsCell c none/\(x,NameKind.cell)∈scope.names)) (csI:∀ x y c,cl.lookup x=some c->cl.lookup y=some c->x=y) (cl2:∀ y∈scope.names,(y.2=.free\/y.2=.cell)->∃ c,cl.lookup y.1=some c) (csA:∀ x c,(x,NameKind.cell)∈scope.names->cl.lookup x=some c->C<=c)
  (hf:∀ b∈fp,eM X pins H b) (hfs:∀ b∈fp,b < s.heap.objs.size) (hC:s.heap.objs.size<=C) (kp:∀ b o,s.heap.get? b=some o->h3.get? b=some o) (hns:h3.Ns C m) :
  Inv (aY X (bN Nx ts ix) scope ⟨cl,C,s,H,fp,X.pn++pins⟩) [] (cy ts.length ix σ) H { s with heap:=h3,toks:=tk }:=by
 have below:∀ {b:Addr},b < s.heap.objs.size->b≠C:=λhb=>Nat.ne_of_lt (Nat.lt_of_lt_of_le hb hC)
 have nstk:∀ b,b≠X.env.locals->b ∉ X.fs->b ∉ frs X.stack:=λb h1 h2 hb=>by
  rcases List.mem_cons.mp (I.stkSub b hb) with z | z
  ·exact h1 z
  ·exact h2 z
 refine ⟨⟨I.ok.mod,?_,I.ok.glob,I.ok.blt,hC,csI,λx hx=>?_,λx c hfn e=>Nat.le_trans hC (csA x c (PySem.mem_of_lookup (eq_of_beq hfn)) e),I.ok.hd,I.ok.frames,.inl rfl,λb hb=>⟨below (hfs b hb),λx c e=>by
  rcases cs1 x c e with z | ⟨z,_,_⟩
  ·exact (hf b hb).2.2.2.2.1 x c z
  ·exact Nat.ne_of_gt (Nat.lt_of_lt_of_le (hfs b hb) (Nat.le_trans hC (Nat.le_of_lt z)))⟩,I.bs,Nat.le_trans I.ok.bsz I.sz,λb o e hb=>?_,λb hb=>nstk b (hf b hb).2.1 (hf b hb).2.2.1,I.stack,I.stkFree⟩,
  rfl,I.bare,Un.kept kp,⟨m,hns,λi x v h1 h2 h3'=>?_⟩,λx c e=>?_,I.hok.fresh hC,λx c e=>by
  rcases cs1 x c e with z | ⟨z,_,_⟩
  ·exact I.freeC x c z
  ·exact I.hok.fresh (Nat.le_trans hC (Nat.le_of_lt z)),λp hp=>?_,I.hok.kept kp,?_⟩
 ·exact ok.kind
 ·have hx':(relabel scope X.env).names.lookup x=some .cell\/(relabel scope X.env).names.lookup x=some .free:=hx
  obtain ⟨y,hy,e1,e2⟩:=Zg4 hx'
  obtain ⟨c,hc⟩:=cl2 y hy e2
  exact ⟨c,by rw [<- e1]; exact hc⟩
 ·rcases (hf b hb).2.2.2.1 with z | z
  ·exact I.ok.noex b o e z
  ·exact absurd (Nat.lt_of_lt_of_le (Heap.lt_size e) (Nat.le_trans I.ok.bsz z)) (Nat.lt_irrefl _)
 ·have hi:ts.length<=i:=by
   rcases Nat.lt_or_ge i ts.length with z | z
   ·exfalso
    have h2':(cy ts.length ix σ)[i]?=some (some v):=h2
    unfold cy at h2'
    rw [List.getElem?_append_left (by simpa using z),List.getElem?_replicate] at h2'
    split at h2' <;> cases h2'
   ·exact z
  obtain ⟨j,hj,ex⟩:=Znz h1 hi
  have h2':(cy ts.length ix σ)[i]?=some (some v):=h2
  unfold cy at h2'
  rw [List.getElem?_append_right (by simpa using hi),List.getElem?_map,List.length_replicate,hj] at h2'
  have hσ:σ[j]?=some (some v):=by
   have q:(σ[j]?).getD none=some v:=Option.some.inj h2'
   cases e:σ[j]? with
   | none=>rw [e] at q; cases q
   | some w=>rw [e] at q; exact congrArg some q
  obtain ⟨hjl,hfree⟩:=ok.caps j (List.mem_of_getElem? hj)
  have hNj:X.N[j]?=some x:=by
   rw [hNx,ex,List.getElem?_eq_getElem hjl]
   rfl
  rw [<- ex] at hfree
  obtain ⟨c,hc⟩:=cl2 (x,.free) (PySem.mem_of_lookup hfree) (.inl rfl)
  have cl1:X.env.cells.lookup x=some c:=by
   rcases cs1 x c hc with z | ⟨_,_,z⟩
   ·exact z
   ·have:=ok.cells _ z rfl
    rw [hfree] at this
    cases this
  have kx:=ok.frees (x,.free) (PySem.mem_of_lookup hfree) rfl
  obtain ⟨m0,hn0,hl0⟩:=I.loc
  obtain ⟨u,ru,look⟩:=hl0 j x v hNj hσ (by rcases kx with z | z; exact .inr (.inl z); exact .inr (.inr z))
  refine ⟨u,ru,.inr ⟨ZbD hfree,c,hc,?_⟩⟩
  rcases look with ⟨k1,_⟩ | ⟨_,c',hc',z⟩
  ·have k1':X.env.scope.names.lookup x=some .local:=k1
   rcases kx with z | z
   ·rw [k1'] at z; cases z
   ·rw [k1'] at z; cases z
  ·have e:=cl1
   rw [hc'] at e
   cases e
   obtain ⟨o,ho,hd⟩:=z
   exact ⟨o,kp _ _ ho,hd⟩
 ·rcases cs1 x c e with z | ⟨_,z,_⟩
  ·obtain ⟨v,o,ho,hd⟩:=I.cell x c z
   exact ⟨v,o,kp _ _ ho,hd⟩
  ·exact ⟨_,z⟩
 ·have hp':p∈X.pn++pins:=by simpa [aY] using hp
  obtain ⟨e,n,ne,nf,d⟩:=I.pin p hp'
  exact ⟨kp _ _ e,n,below (Heap.lt_size e),nstk _ ne nf,d⟩
 ·show (cy ts.length ix σ).length=(bN Nx ts ix).length
  unfold cy bN
  simp
theorem Inv.track {D:Addr} {ys:List V} {its:List Value} {n:Nat} (I:Inv X pins σ H s) (hD:H D=none) (ho:s.heap.get? D=some { cls:=.type "list",data:=.seq its.toArray n }) (r:Vals ys its) (hz:ys.length<=sizeLine)
  (hL:D≠X.env.locals) (hs0:X.s₀.heap.objs.size<=D) (hc:∀ x c,X.env.cells.lookup x=some c->c≠D) (hp:∀ p∈X.pn++pins,p.1≠D):Inv X pins σ (upd H D (.lst ys)) s:=by
 have ne:∀ {b:Addr} {o:HO},H b=some o->b≠D:=λe=>cv e hD
 refine I.step (g':=s.gens) (d':=s.drawn) (t':=s.toks) (h':=s.heap) (ch:=[D]) (λb hb=>?_) (λb o _ _ _ e _=>e) (λb o _ _ _ e _=>⟨o.slots,e⟩) (λb o hb e n=>?_) (λb o _ e=>⟨o,e⟩)
  (λb xs e=>by rw [aM (ne e)]; exact e) (λb o u e=>by rw [aM (ne e)]; exact e) (λb ps e=>⟨#[],by rw [aM (ne e),e]; simp⟩) (λm hm=>hm) (λb u e=>?_) I.bare
 ·have e:b=D:=by simpa using hb
  subst e
  exact ⟨.inr hs0,hL,hc,hp⟩
 ·have hb':b≠D:=by simpa using hb
  rw [aM hb']
  exact n
 ·by_cases hb:b=D
  ·subst hb
   rw [bW] at e
   cases e
   exact ⟨hz,its,n,r,ho⟩
  ·rw [aM hb] at e
   exact (I.hok b u e).stay (λc v _ q=>q) (λc q=>by rw [aM (ne q)]; exact q) λc xs q=>by rw [aM (ne q)]; exact q
end
theorem ZmZ {prog:Program} {w:World} {A:Around} {R:Result->Shared->Prop} {s:Shared} {elt target iter:Expr} {scope:Scope} {pos:Pos} {it acc:Value} {env:Env} (J:Nat->Shared->Prop)
  (step:∀ k s0,J k s0->wpAny (model prog w) A (pyNext it) (λgot s1=>match got with
   | none=>R (.ok .next) s1
   | some v=>wpAny (model prog w) A (letOwnedTupleGo target it v) (λ_ s2=>wpAny (model prog w) A (assign target env v) (λ_ s3=>wpAny (model prog w) A (eval elt env) (λy s4 =>
     wpAny (model prog w) A (call (.builtin "list.append") [acc,y]) (λ_ s5=>∃ j,j < k/\J j s5) (λ_ _=>False) s4) (λ_ _=>False) s3) (λ_ _=>False) s2) (λ_ _=>False) s1) (λ_ _=>False) s0)
  (k:Nat) (h:J k s):codeAny (model prog w) A (.compLoop (.ListComp elt [⟨target,iter,[],0⟩] scope pos) 0 it acc env) R s:=by
 refine codeAny_loop rfl J (λk0 s0 hJ=>?_) k h
 show wpAny _ _ ((compTurn (.ListComp elt [⟨target,iter,[],0⟩] scope pos) 0 it acc env).onRaise (λx=>do noteFrame x env; theTreesLotGoes x)) _ _ s0
 apply wpAny_noted
 rw [compTurn_list1]
 refine wpAny_bind (wpAny_standAt (wpAny_bind (wpAny_mono (step k0 s0 hJ) (λgot s1 h1=>?_) λ_ _ z=>z.elim)))
 cases got with
 | none=>exact wpAny_pure h1
 | some v =>
  refine wpAny_bind (wpAny_mono h1 (λ_ s2 h2=>?_) λ_ _ z=>z.elim)
  refine wpAny_bind (wpAny_mono h2 (λ_ s3 h3=>?_) λ_ _ z=>z.elim)
  refine wpAny_bind (wpAny_bind (wpAny_mono h3 (λy s4 h4=>?_) λ_ _ z=>z.elim))
  exact wpAny_bind (wpAny_mono h4 (λ_ s5 h5=>wpAny_pure (wpAny_pure ⟨rfl,h5⟩)) λ_ _ z=>z.elim)
noncomputable def ie (wi:TI) (n:Nat) (ix:List Nat) (g:Blk->TG) (te:Blk->TE):TE:=λσ H Q=>wi σ H λJ H1=>∀ b:Blk,∃ W:Nat->Nat->St->List V->Hp->Prop,(∃ m,W 0 m (cy n ix σ) [] H1)/\∀ i m τ ys H2,W i m τ ys H2 ->
 (J.stop i H2/\∀ p v H',H2 p=none->v=V.ref p->H'=upd H2 p (.lst ys)->Q v H') \/
 (J.go i H2/\ys.length < sizeLine/\∀ x H3,J.yld i H2 x H3->g b x τ H3 λτ2 H4=>te b τ2 H4 λy H5=>∃ m',m' < m/\W (i+1) m' τ2 (ys++[y]) H5)
section
variable {X:Cx} {pins:List (Addr×Obj)} {σ:St} {H:Hp} {s:Shared}
theorem ZcQ {elt target iter:Expr} {scope:Scope} {pos:Pos} {Nx ts:List Str} {ix:List Nat} {g:Blk->TG} {te:Blk->TE} {cl:List (Str×Addr)} {s2:Shared} {itv:Value} {R:Value->Addr->Result->Shared->Prop}
  {E:Value->Shared->Prop} {Q:VK}
  (hc:X.calm=true) (hg:∀ b,PG (aY X (bN Nx ts ix) scope b) target (g b)) (he:∀ b,PE (aY X (bN Nx ts ix) scope b) elt (te b))
  (hNx:X.N=Nx) (ok:BlkOk Nx X.env.scope scope ix) (cl1:∀ x c,cl.lookup x=some c->X.env.cells.lookup x=some c) (cl2:∀ y∈scope.names,y.2=.free->∃ c,cl.lookup y.1=some c)
  (h2:kM X pins σ target (λJ H1=>∀ b:Blk,∃ W:Nat->Nat->St->List V->Hp->Prop,(∃ m,W 0 m (cy ts.length ix σ) [] H1)/\∀ i m τ ys H2,W i m τ ys H2 ->
   (J.stop i H2/\∀ p v H',H2 p=none->v=V.ref p->H'=upd H2 p (.lst ys)->Q v H') \/
   (J.go i H2/\ys.length < sizeLine/\∀ x H3,J.yld i H2 x H3->g b x τ H3 λτ2 H4=>te b τ2 H4 λy H5=>∃ m',m' < m/\W (i+1) m' τ2 (ys++[y]) H5)) itv s2)
  (hR:∀ (D C:Addr) (H':Hp) (s':Shared) (v:V),Inv X pins σ H' s'->v=.ref D->Q v H'->(∃ m,s'.heap.Ns C m)->H' C=none->C≠X.env.locals->X.s₀.heap.objs.size<=C->(∀ x c,X.env.cells.lookup x=some c->c≠C)->(∀ p∈X.pn++pins,p.1≠C) ->
   R (.ref D) C (.ok .next) s') :
  wpAny (model X.prog X.w) X.A (newList []) (λacc s₃=>wpAny (model X.prog X.w) X.A (newFunctionEnv scope X.env.globals cl [] X.env.qual none .none (some X.env)) (λcenv s₄ =>
   codeAny (model X.prog X.w) X.A (.compStart (.ListComp elt [⟨target,iter,[],0⟩] scope pos) 0 itv acc { cenv with scope:=relabel scope X.env }) (R acc cenv.locals) s₄) E s₃) E s2:=by
 obtain ⟨it,fp,tn,J,H1,e,I2,T,st2,f2,q2⟩:=h2
 subst e
 refine wpAny_newObj_type (nQ ?_)
 dsimp only
 generalize hG:s2.heap.push { cls:=.type "list",dict:=none,data:=.seq ([]:List Value).toArray }=G
 have hGs:G.objs.size=s2.heap.objs.size+1:=by rw [<- hG,Heap.size_push]
 have hfs:∀ b∈fp,b < s2.heap.objs.size:=λb hb=>let ⟨o,e,_⟩:=T.obj _ _ st2 b hb; Heap.lt_size e
 have kpG:∀ b o,G.get? b=some o->(pushCells (G.push { cls:=.type "dict",data:=.dict #[] }) scope.names).get? b=some o:=λb o e=>pushCells_keeps _ _ _ _ (Heap.get?_push_of_some _ e)
 have hns3:(pushCells (G.push { cls:=.type "dict",data:=.dict #[] }) scope.names).Ns G.objs.size (λ_=>none):=(Heap.Ns.new G (.type "dict")).keeps (pushCells_keeps _ _)
 obtain ⟨sp1,sp2,sp4,sp3⟩:=qO scope.names (G.push { cls:=.type "dict",data:=.dict #[] }) cl
 rw [Heap.size_push] at sp1 sp2 sp3 sp4
 generalize hh3:pushCells (G.push { cls:=.type "dict",data:=.dict #[] }) scope.names=h3 at kpG hns3 sp1 ⊢
 have kp:∀ b o,s2.heap.get? b=some o->h3.get? b=some o:=λb o e=>kpG b o (by rw [<- hG]; exact Heap.get?_push_of_some _ e)
 have hD3:h3.get? s2.heap.objs.size=some { cls:=.type "list",data:=.seq ([]:List Value).toArray }:=kpG _ _ (by rw [<- hG]; exact Heap.get?_push_size _ rfl)
 have clB:∀ x c,cl.lookup x=some c->c < G.objs.size+1:=λx c e=>by
  obtain ⟨v,q⟩:=I2.cell x c (cl1 x c e)
  exact Nat.lt_succ_of_lt (Nat.lt_of_lt_of_le q.lt (by rw [hGs]; exact Nat.le_succ _))
 have csI:=sp3 clB λx y c e1 e2=>I2.ok.inj x y c (cl1 x c e1) (cl1 y c e2)
 have cs1:∀ x c,(cellsFrom (G.objs.size+1) scope.names cl).lookup x=some c->X.env.cells.lookup x=some c\/(G.objs.size < c/\h3.IsCell c none/\(x,NameKind.cell)∈scope.names):=λx c e=>by
  rcases sp1 x c e with z | ⟨z1,z2,z3⟩
  ·exact .inl (cl1 x c z)
  ·exact .inr ⟨by omega,z2,z3⟩
 have cs2:∀ y∈scope.names,(y.2=.free\/y.2=.cell)->∃ c,(cellsFrom (G.objs.size+1) scope.names cl).lookup y.1=some c:=λy hy hk=>by
  refine sp2 y.1 ?_
  rcases hk with z | z
  ·exact .inr (cl2 y hy z)
  ·exact .inl (by rw [<- z]; exact hy)
 have csA:∀ x c,(x,NameKind.cell)∈scope.names->(cellsFrom (G.objs.size+1) scope.names cl).lookup x=some c->G.objs.size<=c:=λx c e1 e2=>Nat.le_of_succ_le (sp4 x c e1 e2)
 generalize hcs:cellsFrom (G.objs.size+1) scope.names cl=cs at csI cs1 cs2 csA ⊢
 generalize hCe:G.objs.size=C at hns3 cs1 csA ⊢
 have hC:s2.heap.objs.size<=C:=by omega
 have hDC:s2.heap.objs.size≠C:=by omega
 let B:Blk:=⟨cs,C,s2,H1,fp,X.pn++pins⟩
 have I3:Inv (aY X (bN Nx ts ix) scope B) [] (cy ts.length ix σ) H1 { s2 with heap:=h3 }:=qo I2 hNx ok cs1 csI cs2 csA f2 hfs hC kp hns3
 have fC:H1 s2.heap.objs.size=none:=I2.hok.fresh (Nat.le_refl _)
 have cellIn:∀ x c,cs.lookup x=some c->c≠s2.heap.objs.size:=λx c e=>by
  rcases cs1 x c e with z | ⟨z,_,_⟩
  ·obtain ⟨v,q⟩:=I2.cell x c z
   exact Nat.ne_of_lt q.lt
  ·exact Nat.ne_of_gt (Nat.lt_of_le_of_lt hC z)
 have pinIn:∀ p∈X.pn++pins,p.1 < s2.heap.objs.size:=λp hp=>Heap.lt_size (I2.pin p hp).1
 have nofrs:s2.heap.objs.size ∉ frs X.stack:=λhb=>by
  rcases List.mem_cons.mp (I2.stkSub _ hb) with z | z
  ·exact absurd I2.lt (by rw [<- z]; exact Nat.lt_irrefl _)
  ·exact I2.nofs (Nat.le_refl _) z
 -- a state with the list at its place,pinned
 have pinD:∀ {τ:St} {H':Hp} {s':Shared} {ob:Obj},Inv (aY X (bN Nx ts ix) scope B) [] τ H' s'->s'.heap.get? s2.heap.objs.size=some ob->H' s2.heap.objs.size=none->(∀ v,ob.data≠.cell v)->Inv (aY X (bN Nx ts ix) scope B) [(s2.heap.objs.size,ob)] τ H' s' :=
  λ{τ H' s' ob} I' ho hn hd=>I'.pins_of λp hp=>by
   have e:p=(s2.heap.objs.size,ob):=by simpa using hp
   subst e
   exact ⟨ho,hn,hDC,nofrs,hd⟩
 obtain ⟨W,⟨m0,w0⟩,turn⟩:=q2 B
 have stat:∀ {H':Hp} {ob:Obj},(∀ b∈fp,H' b=none)->∀ b∈fp,eM (aY X (bN Nx ts ix) scope B) [(s2.heap.objs.size,ob)] H' b:=λ{H' ob} hn b hb=>by
  refine ⟨hn b hb,Nat.ne_of_lt (Nat.lt_of_lt_of_le (hfs b hb) hC),λz=>?_,.inl hb,λx c e=>by
   rcases cs1 x c e with z | ⟨z,_,_⟩
   ·exact (f2 b hb).2.2.2.2.1 x c z
   ·exact Nat.ne_of_gt (Nat.lt_of_lt_of_le (hfs b hb) (Nat.le_trans hC (Nat.le_of_lt z))),λp hp=>?_⟩
  ·rcases List.mem_cons.mp (I2.stkSub _ z) with q | q
   ·exact (f2 b hb).2.1 q
   ·exact (f2 b hb).2.2.1 q
  ·rcases List.mem_append.mp hp with z | z
   ·exact (f2 b hb).2.2.2.2.2 p z
   ·have e:p=(s2.heap.objs.size,ob):=by simpa using z
    subst e
    exact Nat.ne_of_gt (hfs b hb)
 have loop:∀ s4:Shared,s4={ s2 with heap:=h3 } ->
   codeAny (model X.prog X.w) X.A (.compLoop (.ListComp elt [⟨target,iter,[],0⟩] scope pos) 0 (.ref it) (.ref s2.heap.objs.size) (compEnvC scope cs C X.env)) (R (.ref s2.heap.objs.size) C) s4:=by
  rintro s4 rfl
  refine ZmZ (λk s'=>∃ i τ ys its n H',Inv (aY X (bN Nx ts ix) scope B) [(s2.heap.objs.size,({ cls:=.type "list",data:=.seq (List.toArray its) n }:Obj))] τ H' s'/\tn i s'.heap/\(∀ b∈fp,H' b=none)/\Vals ys its/\ys.length<=sizeLine/\W i k τ ys H') ?_ m0
   ⟨0,_,[],[],_,H1,pinD I3 hD3 fC (λv z=>by cases z),T.keep _ _ _ st2 λb hb o e=>kp b o e,λb hb=>(f2 b hb).1,.nil,Nat.zero_le _,w0⟩
  rintro k s5 ⟨i,τ,ys,its,n,H5,I5,st5,fr5,rv,hz,w5⟩
  rcases turn i k τ ys H5 w5 with ⟨stop,qn⟩ | ⟨go,hlt,step⟩
  ·refine thn (T.done (aY X (bN Nx ts ix) scope B) rfl rfl rfl hc i _ s5 τ H5 _ I5 (stat fr5) st5 stop) λgot s6 hz0=>?_
   obtain ⟨hr,I6⟩:=hz0
   subst hr
   obtain ⟨ho,hn,_,_,_⟩:=I6.pin (s2.heap.objs.size,({ cls:=.type "list",data:=.seq (List.toArray its) n }:Obj)) (List.mem_append_right _ (by simp))
   have I7:Inv X pins σ H5 s6:=I2.call' (ch:=fp) (H':=H5) (by exact I6.os) I6.base I6.hok I6.bare λb hb=>⟨(f2 b hb).2.2.2.1,(f2 b hb).2.1,(f2 b hb).2.2.2.2.1,(f2 b hb).2.2.2.2.2⟩
   have hs0:X.s₀.heap.objs.size<=s2.heap.objs.size:=I2.sz
   have I8:=I7.track hn ho rv hz (Nat.ne_of_gt I2.lt) hs0 (λx c e z=>by
    obtain ⟨v,q⟩:=I2.cell x c e
    exact absurd q.lt (by rw [z]; exact Nat.lt_irrefl _)) (λp hp=>Nat.ne_of_lt (pinIn p hp))
   obtain ⟨m6,hm6,_⟩:=I6.loc
   refine hR _ C _ s6 _ I8 rfl (qn _ _ _ hn rfl rfl) ⟨m6,hm6⟩ ?_ (λz=>?_) (Nat.le_trans hs0 hC) (λx c e z=>?_) λp hp=>Nat.ne_of_lt (Nat.lt_of_lt_of_le (pinIn p hp) hC)
   ·rw [aM (Ne.symm hDC)]
    exact I6.free
   ·exact absurd (Nat.lt_of_lt_of_le I2.lt hC) (by rw [z]; exact Nat.lt_irrefl _)
   ·obtain ⟨v,q⟩:=I2.cell x c e
    exact absurd (Nat.lt_of_lt_of_le q.lt hC) (by rw [z]; exact Nat.lt_irrefl _)
  ·refine thn (T.item (aY X (bN Nx ts ix) scope B) rfl rfl rfl hc i _ s5 τ H5 _ I5 (stat fr5) st5 go) λgot s6 hz0=>?_
   obtain ⟨u,hr,h6⟩:=hz0
   subst hr
   refine thn h6 λ_ s7 hz0=>?_
   obtain ⟨x,H7,I7,r7,y7,st7,fr7⟩:=hz0
   have I7':=I7.pinned (stat fr7) (T.obj _ _ st7)
   refine thn (hg B _ s7 τ H7 x u _ I7' r7 (step x H7 y7)) λ_ s8 hz0=>?_
   obtain ⟨τ8,H8,I8,q8⟩:=hz0
   refine thn (he B _ s8 τ8 H8 _ I8 q8) λy s9 hz0=>?_
   obtain ⟨vy,H9,I9,r9,m',hm',w9⟩:=hz0
   obtain ⟨ho,hn,_,_,_⟩:=I9.pin (s2.heap.objs.size,({ cls:=.type "list",data:=.seq (List.toArray its) n }:Obj)) (List.mem_append_right _ (List.mem_append_left _ (by simp)))
   have lenv:=rv.length
   refine wpAny_list_append_plain (l:=s2.heap.objs.size) ⟨n,ho⟩ (λh' hpl hsb=>?_) (by rw [List.size_toArray]; omega)
   obtain ⟨n',ho'⟩:=hpl
   have eobj:(its.toArray.push y)=List.toArray (its++[y]):=by simp
   rw [eobj] at ho'
   have I9':Inv (aY X (bN Nx ts ix) scope B) [] τ8 H9 s9:=I9.pins_of λp hp=>absurd hp (by simp)
   have I10:Inv (aY X (bN Nx ts ix) scope B) [] τ8 H9 { s9 with heap:=h' }:=I9'.turned (it:=s2.heap.objs.size) (t':=s9.toks) (λb o hb e=>(hsb.2 b hb).trans e) hn hDC (.inr (Nat.le_refl _)) cellIn (λp hp=>by
    have hp':p∈(X.pn++pins)++[]:=hp
    rw [List.append_nil] at hp'
    exact Nat.ne_of_lt (pinIn p hp'))
   refine ⟨m',hm',i+1,τ8,ys++[vy],its++[y],n',H9,pinD I10 ho' hn (λv z=>by cases z),?_,λb hb=>?_,rv.append (.cons r9 .nil),by rw [List.length_append]; show ys.length+1<=_; omega,w9⟩
   ·refine T.keep _ _ _ st7 λb hb o e=>?_
    have q:=(I9.pin (b,o) (List.mem_append_right _ (List.mem_append_right _ (fj hb e)))).1
    exact (hsb.2 b (Nat.ne_of_lt (hfs b hb))).trans q
   ·obtain ⟨o,e,d⟩:=T.obj _ _ st7 b hb
    exact (I9.pin (b,o) (List.mem_append_right _ (List.mem_append_right _ (fj hb e)))).2.1
 exact codeAny_compStart_list (loop _ rfl) (T.self X.A 0 _ _ _ (T.keep _ _ _ st2 λb hb o e=>kp b o e) (loop _ rfl))
theorem cQ {elt target iter:Expr} {scope:Scope} {pos:Pos} {wi:TI} {g:Blk->TG} {te:Blk->TE} (Nx:List Str) (ts:List Str) (ix:List Nat)
  (hc:X.calm=true) (hi:PI X target iter wi) (hg:∀ b,PG (aY X (bN Nx ts ix) scope b) target (g b)) (he:∀ b,PE (aY X (bN Nx ts ix) scope b) elt (te b))
  (hNx:X.N=Nx) (ok:BlkOk Nx X.env.scope scope ix) (hs:∀ x,foldedSetIterable iter X.env x=pure x:=by intro _; rfl) :
  PE X (.ListComp elt [⟨target,iter,[],0⟩] scope pos) (ie wi ts.length ix g te):=by
 intro pins s σ H Q I h
 obtain ⟨cl,hcl,cl1,cl2⟩:=ku (scope:=scope) (env:=X.env) λy hy hf=>I.ok.has y.1 (ok.frees y hy hf)
 rw [eval_ListComp]
 refine wpAny_comprehension_free (use:=none) rfl hs hcl ok.kind ok.locs (thn (hi pins s σ H _ I h) λv s1 h1=>thn h1 λitv s2 h2=>?_)
 refine ZcQ (R:=λacc C=>compPost (model X.prog X.w) X.A X.xe none (EP X pins σ Q) acc C) hc hg he hNx ok cl1 cl2 h2 ?_
 rintro D C H' s' v I' rfl q ⟨m,hm⟩ hn hL h0 hcl' hp
 exact ⟨m,hm,λh' hsb=>⟨.ref D,H',I'.turned (it:=C) (t':=s'.toks) (λb o hb e=>(hsb.2 b hb).trans e) hn hL (.inr h0) hcl' hp,rfl,q⟩⟩
theorem lH {elt target iter:Expr} {scope:Scope} {pos pos' spos:Pos} {wi:TI} {g:Blk->TG} {te:Blk->TE} {i:Nat} {x:Str} (Nx:List Str) (ts:List Str) (ix:List Nat)
  (hc:X.calm=true) (hN:X.N.Nodup) (hix:X.N[i]?=some x) (hx:X.env.scope.names.lookup x=some .local) (hi:PI X target iter wi) (hg:∀ b,PG (aY X (bN Nx ts ix) scope b) target (g b)) (he:∀ b,PE (aY X (bN Nx ts ix) scope b) elt (te b))
  (hNx:X.N=Nx) (ok:BlkOk Nx X.env.scope scope ix) (hsw:swapsWith (.ListComp elt [⟨target,iter,[],0⟩] scope pos) (some (.Name x pos')) spos.line X.env=pure true) (hs:∀ x,foldedSetIterable iter X.env x=pure x:=by intro _; rfl) :
  PS X (.Assign [.Name x pos'] (.ListComp elt [⟨target,iter,[],0⟩] scope pos) spos) (dJ (ie wi ts.length ix g te) (eA i)):=by
 intro pins s σ H D0 I h
 obtain ⟨cl,hcl,cl1,cl2⟩:=ku (scope:=scope) (env:=X.env) λy hy hf=>I.ok.has y.1 (ok.frees y hy hf)
 rw [exec_Assign_Name_used _ _ _ _ hsw]
 refine wpAny_bind (wpAny_standAt (wpAny_bind ?_))
 show wpAny _ X.A (do let _ <- comprehension (.ListComp elt [⟨target,iter,[],0⟩] scope pos) scope X.env _ (newList []) false (eval iter X.env) (some (assign (.Name x pos') X.env))) _ _ s
 refine wpAny_bind (thn (wpAny_comprehension_free (use:=some (assign (.Name x pos') X.env)) (Q:=λ_ s'=>SP X pins D0 .next s') rfl hs hcl ok.kind ok.locs (thn (hi pins s σ H _ I h) λv s1 h1=>thn h1 λitv s2 h2=>?_)) λ_ s' hq=>wpAny_pure (wpAny_pure hq))
 refine ZcQ (R:=λacc C=>compPost (model X.prog X.w) X.A X.xe (some (assign (.Name x pos') X.env)) (λ_ s'=>SP X pins D0 .next s') acc C) (Q:=λx H1=>eA i x σ H1 D0.nx) hc hg he hNx ok cl1 cl2 h2 ?_
 rintro D C H' s' v I' rfl q ⟨m,hm⟩ hn hL h0 hcl' hp
 show wpAny _ X.A (assign (.Name x pos') X.env (.ref D)) _ _ _
 refine wpAny_assign_Name (oq I' hN hix (.inl hx) (show RelV (.ref D) (.ref D) from rfl) (λs'' I'' hch=>?_) (.inr hx))
 obtain ⟨a,hsb,ha⟩:=hch
 have haC:C≠a:=by
  rcases ha with z | z
  ·rw [z]; exact hL
  ·exact λe=>hcl' _ _ z e.symm
 exact ⟨m,hm.sameBut hsb haC,λh'' hs''=>⟨_,H',I''.turned (it:=C) (t':=s''.toks) (λb o hb e=>(hs''.2 b hb).trans e) hn hL (.inr h0) hcl' hp,q⟩⟩
end
theorem Zg3 {scope:Scope} {env:Env} {x:Str} (h:scope.names.lookup x=some .cell\/scope.names.lookup x=some .free):(relabel scope env).names.lookup x=some .cell\/(relabel scope env).names.lookup x=some .free:=by
 rcases h with h | h
 ·refine .inl ?_
  unfold relabel
  show List.lookup x (scope.names.map _)=_
  generalize scope.names=l at h
  induction l with
  | nil=>simp at h
  | cons p r ih =>
   obtain ⟨n,k⟩:=p
   rw [List.map_cons]
   show List.lookup x ((if (k == NameKind.free && env.scope.kind == .function && env.kindOf n == some .cell)=true then (n,NameKind.cell) else (n,k))::_)=_
   cases hx:x == n with
   | true =>
    rw [List.lookup_cons,hx] at h
    have hk:k=.cell:=by simpa using h
    subst hk
    rw [if_neg (by rw [show (NameKind.cell == NameKind.free)=false from rfl]; simp),List.lookup_cons,hx]
   | false =>
    rw [List.lookup_cons,hx] at h
    split <;> rw [List.lookup_cons,hx] <;> exact ih h
 ·exact ZbD h
theorem BlkOk.nest {Nx:List Str} {sc scope:Scope} {env:Env} {ix:List Nat} (h:BlkOk Nx sc scope ix):BlkOk Nx (relabel sc env) scope ix :=
 ⟨h.kind,h.cells,h.locs,λy hy z=>Zg3 (h.frees y hy z),h.caps⟩
mutual
/-- the value bears the datum -/
inductive Dn (H:Hp):V->PyData->Prop
 | non:Dn H .non .none
 | bl (b:Bool):Dn H (.bl b) (.bool b)
 | int (i:Int):Dn H (.int i) (.int i)
 | str (x:Str):Dn H (.str x) (.str x)
 | tup {a:Addr} {xs:List V} {ds:List PyData}:H a=some (.tup xs)->DnAll H xs ds->Dn H (.ref a) (.tuple ds)
 | lst {a:Addr} {xs:List V} {ds:List PyData}:H a=some (.lst xs)->DnAll H xs ds->Dn H (.ref a) (.list ds)
 | dct {a:Addr} {ks:List (bb×V)} {ds:List PyData}:Rd H a (.dK ks)->DnAll H (ks.map (·.2)) ds->Dn H (.ref a) (.dict ((ks.map λk=>match k.1 with | .inl i=>PyData.int i | .inr x=>PyData.str x).zip ds))
inductive DnAll (H:Hp):List V->List PyData->Prop
 | nil:DnAll H [] []
 | cons {v:V} {vs:List V} {d:PyData} {ds:List PyData}:Dn H v d->DnAll H vs ds->DnAll H (v::vs) (d::ds)
end
mutual
theorem Dn.mono {H H':Hp} (e:∀ b o,H b=some o->H' b=some o):∀ {v:V} {d:PyData},Dn H v d->Dn H' v d
 | _,_,.non=>.non
 | _,_,.bl b=>.bl b
 | _,_,.int i=>.int i
 | _,_,.str x=>.str x
 | _,_,.tup h r=>.tup (e _ _ h) (DnAll.mono e r)
 | _,_,.lst h r=>.lst (e _ _ h) (DnAll.mono e r)
 | _,_,.dct h r=>.dct (h.imp (e _ _) λ⟨o,h⟩=>⟨o,e _ _ h⟩) (DnAll.mono e r)
theorem DnAll.mono {H H':Hp} (e:∀ b o,H b=some o->H' b=some o):∀ {vs:List V} {ds:List PyData},DnAll H vs ds->DnAll H' vs ds
 | _,_,.nil=>.nil
 | _,_,.cons r t=>.cons (Dn.mono e r) (DnAll.mono e t)
end
theorem DnAll.ints {H:Hp}:∀ ns:List Int,DnAll H (ns.map V.int) (ns.map PyData.int)
 | []=>.nil
 | n::ns=>.cons (.int n) (DnAll.ints ns)
theorem DnAll.length {H:Hp} {vs:List V} {ds:List PyData} (h:DnAll H vs ds):vs.length=ds.length:=by
 induction vs generalizing ds with
 | nil=>cases h; rfl
 | cons v vs ih=>cases h with | cons r t=>exact congrArg (·+1) (ih t)
theorem DnAll.append {H:Hp} {vs ws:List V} {ds es:List PyData} (h:DnAll H vs ds) (s:DnAll H ws es):DnAll H (vs++ws) (ds++es):=by
 induction vs generalizing ds with
 | nil=>cases h; exact s
 | cons v vs ih=>cases h with | cons r t=>exact .cons r (ih t)
mutual
/-- data without dicts -/
theorem Dn.reads {P:Program} {w:World} {H:Hp} {h:Heap} (ok:HOk P w H h):∀ {v:V} {d:PyData} {u:Value},Dn H v d->d.hasDict=false->RelV v u->∃ as,Reads h u d as
 | _,_,_,.non,_,r=>by cases r; exact ⟨_,.none⟩
 | _,_,_,.bl b,_,r=>by cases r; exact ⟨_,.bool b⟩
 | _,_,_,.int i,_,r=>by obtain ⟨t,rfl⟩:=r; exact ⟨_,.int i t⟩
 | _,_,_,.str x,_,r=>by obtain ⟨t,rfl⟩:=r; exact ⟨_,.str x t⟩
 | _,_,_,.tup e rs,hd,r=>by
  cases r
  obtain ⟨z,its,rv,o,h1,h2,n,h3⟩:=ok _ _ e
  obtain ⟨as,q⟩:=DnAll.reads ok rs (by simpa [PyData.hasDict] using hd) rv
  exact ⟨_,.tuple h1 h2 h3 (by simpa using q)⟩
 | _,_,_,.lst e rs,hd,r=>by
  cases r
  obtain ⟨z,its,n,rv,h1⟩:=ok _ _ e
  obtain ⟨as,q⟩:=DnAll.reads ok rs (by simpa [PyData.hasDict] using hd) rv
  exact ⟨_,.list h1 rfl rfl (by simpa using q)⟩
 | _,_,_,.dct e rs,hd,r=>by simp [PyData.hasDict] at hd
theorem DnAll.reads {P:Program} {w:World} {H:Hp} {h:Heap} (ok:HOk P w H h):∀ {vs:List V} {ds:List PyData} {us:List Value},DnAll H vs ds->PyData.hasDictAll ds=false->Vals vs us->∃ as,ReadsAll h us ds as
 | _,_,_,.nil,_,r=>by cases r; exact ⟨_,.nil⟩
 | _,_,_,.cons p t,hd,r=>by
  cases r with
  | cons r1 r2 =>
   simp only [PyData.hasDictAll,Bool.or_eq_false_iff] at hd
   obtain ⟨as,q⟩:=Dn.reads ok p hd.1 r1
   obtain ⟨bs,q2⟩:=DnAll.reads ok t hd.2 r2
   exact ⟨_,.cons q q2⟩
end
section
variable {X:Cx}
theorem iV {k:Nat} (hr:Room k X.A):dg X (.builtin "repr") (λxs H Q=>∃ v d,xs=[v]/\Dn H v d/\d.hasDict=false/\d.showable=true/\d.depth<=32/\d.shown.length<=sizeLine/\Q (.str d.shown) H):=by
 intro pins s σ H xs us Q I r h
 obtain ⟨v,d,rfl,hd,hn,hs,hdp,hz,q⟩:=h
 obtain ⟨u,rfl,ru⟩:=eN r
 have hun:=hr.units
 have viaRef:∀ {a:Addr} {as:List Addr},Reads s.heap (.ref a) d as->wpAny (model X.prog X.w) X.A (call (.builtin "repr") [.ref a]) (EP X pins σ Q) X.xe s:=λ{a as} rd =>
  repr_of_reads' rd hs (PyData.noDict_hsm hn) hr.gd (by omega) (λ_ _ e=>e) (λh' u' tk hk=>⟨.str d.shown,H,I.kept hk,⟨_,rfl⟩,q⟩) hz
 obtain ⟨as,rd⟩:=Dn.reads I.hok hd hn ru
 cases rd with
 | none=>exact PySem.P.repr_of_none ⟨.str "None",H,I.tok _,⟨_,rfl⟩,q⟩
 | bool b=>exact PySem.P.repr_of_bool ⟨.str (if b then "True" else "False"),H,I.tok _,⟨_,rfl⟩,q⟩
 | int i t=>exact PySem.P.repr_of_int (by simpa [PyData.showable] using hs) ⟨.str (toString i),H,I.tok _,⟨_,rfl⟩,q⟩
 | str x t=>exact PySem.P.repr_of_str ⟨.str (reprText x),H,I.tok _,⟨_,rfl⟩,q⟩ hz
 | list h1 h2 h3 h4=>exact viaRef (.list h1 h2 h3 h4)
 | tuple h1 h2 h3 h4=>exact viaRef (.tuple h1 h2 h3 h4)
 | dict h1 h2 h3 h4 h5=>simp [PyData.hasDict] at hn
theorem ZhR {k:Nat} (hr:Room k X.A):OpR X (compareOp .Eq) (λx y H Q=>∃ d e,Dn H x d/\Dn H y e/\SeqAt.shaped d=true/\SeqAt.shaped e=true/\Q (.bl (PyData.eqv d e)) H):=by
 intro pins s σ H x y v u Q I rx ry h
 obtain ⟨d,e,hd,he,sd,se,q⟩:=h
 obtain ⟨as,r1⟩:=Dn.reads I.hok hd (PyData.hasDict_of_canLay _ (SeqAt.canLay_of_shaped sd)) rx
 obtain ⟨bs,r2⟩:=Dn.reads I.hok he (PyData.hasDict_of_canLay _ (SeqAt.canLay_of_shaped se)) ry
 exact SeqAt.compareEq_shaped r1 r2 sd se hr.units ⟨.bl _,H,I,rfl,q⟩
theorem ZhM {k:Nat} (hr:Room k X.A):OpR X (compareOp .NotEq) (λx y H Q=>∃ d e,Dn H x d/\Dn H y e/\SeqAt.shaped d=true/\SeqAt.shaped e=true/\Q (.bl (!PyData.eqv d e)) H):=by
 intro pins s σ H x y v u Q I rx ry h
 obtain ⟨d,e,hd,he,sd,se,q⟩:=h
 obtain ⟨as,r1⟩:=Dn.reads I.hok hd (PyData.hasDict_of_canLay _ (SeqAt.canLay_of_shaped sd)) rx
 obtain ⟨bs,r2⟩:=Dn.reads I.hok he (PyData.hasDict_of_canLay _ (SeqAt.canLay_of_shaped se)) ry
 exact SeqAt.compareNe_shaped r1 r2 sd se hr.units ⟨.bl _,H,I,rfl,q⟩
theorem Zel:dg X (.type "range") (λxs H Q=>∃ i j:Int,xs=[.int i,.int j]/\∀ p,H p=none->Q (.ref p) (upd H p (.rng i j))):=by
 intro pins s σ H xs us Q I r h
 obtain ⟨i,j,rfl,q⟩:=h
 cases r with
 | cons r1 rr =>
  cases rr with
  | cons r2 rr =>
   cases rr
   obtain ⟨t,rfl⟩:=r1
   obtain ⟨u,rfl⟩:=r2
   refine call_range_2 ?_
   exact ⟨.ref s.heap.objs.size,_,I.laid (t':=s.toks+1) (λb o e=>Heap.get?_push_of_some _ e) (Nat.le_refl _) (show ObjOk X.prog X.w _ _ _ (.rng i j) from ⟨t,u,s.toks,Heap.get?_push_size _ rfl⟩),rfl,q _ (I.hok.fresh (Nat.le_refl _))⟩
noncomputable def eP (lo:Int) (n:Nat):List V:=(List.range n).map λ(k:Nat)=>V.int (lo+(k:Int))
theorem Zfv (lo:Int):∀ (n:Nat) (l:List Value),l.length=n->(∀ (j:Nat) (v:Value),l[j]?=some v->∃ t,v=Value.int (lo+(j:Int)) t)->Vals (eP lo n) l:=by
 intro n
 unfold eP
 induction n with
 | zero =>
  intro l hl _
  have e:l=[]:=List.length_eq_zero_iff.mp hl
  subst e
  exact .nil
 | succ n ih =>
  intro l hl hl2
  obtain ⟨l',x,rfl⟩:∃ l' x,l=l'++[x]:=⟨l.dropLast,l.getLast (by intro e; rw [e] at hl; cases hl),(List.dropLast_concat_getLast _).symm⟩
  have hl':l'.length=n:=by rw [List.length_append] at hl; simpa using hl
  rw [List.range_succ,List.map_append]
  refine Vals.append (ih l' hl' λj v hv=>hl2 j v (by rw [List.getElem?_append_left (List.getElem?_eq_some_iff.mp hv).1]; exact hv)) (.cons ?_ .nil)
  obtain ⟨t,e⟩:=hl2 n x (by rw [List.getElem?_append_right (by omega),hl',Nat.sub_self]; rfl)
  exact ⟨t,e⟩
end
end L2
set_option Elab.async false
set_option linter.all false
set_option maxRecDepth 100000
namespace L2
open PySem PySem.Spec PyProof.Rows
structure Def (K:PySem.W.Frag) (mg:Str->Option Value) (x:Str) (st:Stmt) (ps:List Str):Prop where
 ex:∃ f fd,Fun K x x st f fd/\mg x=some (.ref f)/\Binds K fd ps []
structure Callee (P:Program) (w:World) (K:PySem.W.Frag) (mg:Str->Option Value) (base:Heap) (x:Str) (k:Nat) (ps:List Str) (sp:Sp):Prop where
 ex:∃ f fd,FnOk P w K mg base gI k f fd ps sp/\mg x=some (.ref f)/\PySem.W.keepIn K (.ref f)=true/\Binds K fd ps []
section
variable {P:Program} {w:World} {K:PySem.W.Frag} {mg:Str->Option Value} {base:Heap}
theorem Def.ok {x:Str} {st:Stmt} {N ps:List Str} {k:Nat} {sp:Sp} (D:Def K mg x st ps) (S:FnScope N ps (aG st)) (len:∀ vs H Q E,sp vs H Q E->vs.length=ps.length)
  (hbody:∀ (f:Addr) (cdv:Value) (A:Around) (outer:List Env) (s:Shared) (H:Hp) (vs:List V) (Q:VK) (E:XK),Room k (A.deeper (envOfC x (aG st) s.heap.objs.size f cdv))->sp vs H Q E ->
   ∃ t,PSs (gA gI P w K mg base N x (aG st) f cdv A outer s H E).nox (fV st) t/\t { nx:=λ_ H'=>Q .non H',rt:=Q } (start N vs) H):Callee P w K mg base x (k+1) ps sp:=by
 obtain ⟨f,fd,F,hm,hb⟩:=D.ex
 exact ⟨f,fd,F.ok S len λcdv A outer s H vs Q E hr h=>hbody f cdv A outer s H vs Q E hr h,hm,F.kp,hb⟩
theorem Zma {x:Str} {st:Stmt} {ps:List Str} {h:Heap} {f:Addr} {oc:Value} {od an:Option Addr} {osl:Array (Option Value)} {kV doc pm cdv ct:Value} (X:K.In h) (G:h.Ns mainGlobals mg)
  (a:PySem.W.nsIn K mainGlobals x=some (some (.ref f))) (l:K.lookup f=some ⟨oc,od,.func (PySem.W.fnOf x x (iT st) (fV st) (aG st) .none kV doc pm an cdv ct),osl⟩)
  (c:PySem.W.codeIn K cdv x=true) (k:PySem.W.keepIn K (.ref f)=true)
  (hb:∀ (kV doc pm:Value) (an:Option Addr) (cdv ct:Value) (us:List Value),us.length=ps.length->bindArgs (PySem.W.fnOf x x (iT st) (fV st) (aG st) .none kV doc pm an cdv ct) ⟨us,[]⟩=pure (ps.zip us)):Def K mg x st ps:=by
 have F:=Zjj (st:=st) l c k
 exact ⟨f,_,F,PySem.W.mg_of X G a,F.binds hb⟩
end
section
variable {X:Cx} {x:Str} {k:Nat} {ps:List Str} {sp:Sp} {e:Expr} {es:List Expr} {t:TA} {p pos:Pos}
theorem Zce (C:Callee X.prog X.w X.K X.mg X.base x k ps sp) (hr:Room k X.A) (hg:Gl X x) (ha:PA X (e::es) t) (hdb:(x == ("__debug__":Str))=false:=by decide)
  (he:starEach (e::es) X.env=(false,eval e X.env)::starEach es X.env:=by rfl) (hpl:(backTo pos (starEach es X.env)).any (·.1)=false:=by rfl):PE X (.Call (.Name x p) (e::es) [] pos) (ZaD sp [] E0 t):=by
 obtain ⟨f,fd,F,hm,hk,hb⟩:=C.ex
 exact ZhH F hr hg hm hk hb .nil ZhK ha hdb he hpl
theorem ZhE {i:Int} (hg:Gl X x) (h:∃ t,X.mg x=some (.int i t)) (hd:(x == ("__debug__":Str))=false:=by decide):PE X (.Name x pos) (tC (.int i)):=by
 obtain ⟨t,e⟩:=h
 exact ZhD hg e ⟨t,rfl⟩ hd
end
noncomputable def Zf1 (t:TS):TS:=λD σ H=>∃ J:St->Hp->Prop,t { D with nx:=J } σ H/\∀ σ' H',J σ' H'->D.nx σ' H'
noncomputable def Zf0 (t:TT):TT:=λσ H Q=>∃ J:Bool->Hp->Prop,t σ H J/\∀ b H',J b H'->Q b H'
section
variable {X:Cx} {st:Stmt} {e:Expr}
theorem PS.join {t:TS} (h:PS X st t):PS X st (Zf1 t):=by
 rintro pins s σ H D I ⟨J,q,hJ⟩
 refine thn (h pins s σ H _ I q) λf s' z=>?_
 cases f with
 | next=>obtain ⟨σ',H',I',q'⟩:=z; exact ⟨σ',H',I',hJ _ _ q'⟩
 | brk=>exact z
 | cont=>exact z
 | ret u=>exact z
theorem PT.join {t:TT} (h:PT X e t):PT X e (Zf0 t):=by
 rintro pins s σ H Q I ⟨J,q,hJ⟩
 refine thn (h pins s σ H _ I q) λb s' ⟨H',I',q'⟩=>⟨H',I',hJ _ _ q'⟩
end
section
variable {H:Hp} {p c:Addr} {a l b:Int}
end
noncomputable def Kept (p:Addr) (H H':Hp):Prop:=∀ b o,H b=some o->b≠p->H' b=some o
theorem Kept.refl {p:Addr} {H:Hp}:Kept p H H:=λ_ _ h _=>h
theorem Kept.pen {p:Addr} {H H':Hp} {o:HO} (a:Kept p H H'):Kept p H (upd H' p o):=λc u h n=>by
 rw [aM n]
 exact a c u h n
theorem Same.new {q:Addr} {H H':Hp} {o:HO} (a:Same H H') (hq:H' q=none):Same H (upd H' q o):=λc u h=>by
 have e:=a c u h
 rw [aM (cv e hq)]
 exact e
end L2
set_option Elab.async false
set_option linter.all false
set_option maxRecDepth 100000
namespace L2
open PySem PySem.Spec PyProof.Rows
section
variable {prog:Program} {w:World} {A:Around} {E:Value->Shared->Prop} {s:Shared} {r:Addr} {a b c:Int} {t u v:Tok} {n:Nat}
theorem Zm0 {Q:List Value->Shared->Prop} (hh:A.handled=none) (hr:IsRange s.heap r a b c t u v) (hs:Builtin.Range.small a b c=true) (hn:Builtin.Range.rangeSize a b c=n) (hl:n<=2 ^ 24)
  (hQ:∀ (h':Heap) (tk:Nat) (acc:Array Value),(∀ b o,s.heap.get? b=some o->h'.get? b=some o)->ItemsOf (λi v=>∃ t,v=.int (a+i * c) t) acc n->Q acc.toList { s with heap:=h',toks:=tk }):wpAny (model prog w) A (collect (.ref r)) Q E s:=by
 unfold collect; apply wpAny_bind; apply wpAny_runValue; refine codeAny_builtin F.entry_proto_collect ?_
 rw [Around.under_plainId F.plain_proto_collect _]
 show wpAny _ A.in1 (newList [] >>= λz=>again (.builtin "list.__iadd__" ⟨[z,.ref r],[]⟩)) _ _ s
 refine wpAny_bind (wpAny_newObj_type (wpAny_pure ⟨plainId_quiet F.plain_list_iadd _,codeAny_builtin F.entry_list_iadd ?_⟩))
 rw [Around.under_plainId F.plain_list_iadd _]
 show wpAny _ A.in1 (Builtin.List.listExtendWith (.ref s.heap.objs.size) (.ref r) (.ref s.heap.objs.size)) _ _ { s with heap:=s.heap.push { cls:=.type "list",data:=.seq ([]:List Value).toArray } }
 let R:Result->Shared->Prop:=λz s'=>match z with
  | .ok (.ret v)=>wpAny (model prog w) A (match v with
   | .ref q=>(do match (<- load q).data with
    | .seq xs _=>pure xs.toList
    | _=>unsupported "internal:collect")
   | _=>unsupported "internal:collect") Q E s'
  | .ok _=>False
  | .error e=>E e s'
 refine wpAny_extend_range (R:=R) (s:={ s with heap:=s.heap.push { cls:=.type "list",data:=.seq ([]:List Value).toArray } }) hh (Heap.get?_push_of_some _ hr) hs hn hl _ _ _ (show (s.heap.push { cls:=.type "list",data:=.seq ([]:List Value).toArray }).get? s.heap.objs.size=some { cls:=.type "list",data:=.seq #[] } from Heap.get?_push_size _ rfl) λh' tk acc c' hk hS hacc=>?_
 show wpAny _ A (load s.heap.objs.size >>= _) _ _ { s with heap:=h',toks:=tk }
 exact wpAny_bind (wpAny_load hS (wpAny_pure (hQ h' tk acc (λb o e=>hk b o (Nat.ne_of_lt (Heap.lt_size e)) (Heap.get?_push_of_some _ e)) hacc)))
theorem ZfF {Q:Value->Shared->Prop} (hh:A.handled=none) (hr:IsRange s.heap r a b c t u v) (hs:Builtin.Range.small a b c=true) (hn:Builtin.Range.rangeSize a b c=n) (hl:n<=2 ^ 24)
  (hQ:∀ (h':Heap) (tk:Nat) (acc:Array Value),(∀ b o,s.heap.get? b=some o->h'.get? b=some o)->ItemsOf (λi v=>∃ t,v=.int (a+i * c) t) acc n->Q (.ref h'.objs.size) { s with heap:=h'.push { cls:=.type "tuple",data:=.seq acc },toks:=tk }) :
  wpAny (model prog w) A (call (.type "tuple") [.ref r]) Q E s:=by
 refine callType_codes (Q₁:=λz s1=>s1.TypeIs z "tuple"/\Q z s1) F.called_tuple (F.typeCall_tuple_1 _) F.entry_object_init ?_ λz s1 h1=>?_
 ·apply codeAny_of_tree
  show wpAny _ A.in1.in1 (do checkBuiltinCall "tuple.__new__" ⟨[.type "tuple",.ref r],[]⟩; again (.builtin "tuple.__new__" ⟨[.type "tuple",.ref r],[]⟩)) _ _ s
  refine wpAny_bind (wpAny_of_eq (F.newCall_tuple_1 _) (wpAny_pure ⟨plainId_quiet F.plain_tuple_new _,codeAny_builtin F.entry_tuple_new ?_⟩))
  rw [Around.under_plainId F.plain_tuple_new _]
  have f1:=sub_tuple_self; have f2:=init_tuple_lookup; have f3:=madeHere_tuple
  have fT:s.TypeIs (.ref r) "range":=⟨_,hr,rfl⟩
  wp_walk using wpAny_typeOf fT,Zm0 (A:=A.in1.in1) hh hr hs hn hl
  intro h' tk acc hk hacc
  show wpAny _ _ (Builtin.Tuple.tupleExact acc.toList.toArray >>= λz=>ret z) _ _ _
  unfold Builtin.Tuple.tupleExact
  have e:acc.toList.toArray=acc:=by simp
  rw [e]
  refine wpAny_bind (wpAny_newObj_type (wpAny_pure ⟨⟨_,Heap.get?_push_size _ rfl,rfl⟩,hQ h' tk acc hk hacc⟩) ?_)
  show acc.size<=sizeLine
  rw [hacc.1,sizeLine_eq]
  exact hl
 ·exact ⟨h1.1,F.args_object_init_2 z _,object_init_meets F.called_tuple.init.lookup F.called_tuple.made (by decide) prog w A.in1 _ s1 ⟨h1.1,rfl,h1.2⟩⟩
end
section
variable {X:Cx}
theorem Zm7 (hh:X.A.handled=none):dg X (.type "tuple") (λxs H Q=>∃ a lo hi,xs=[.ref a]/\H a=some (.rng lo hi)/\-(2 ^ 62)<=lo/\lo < 2 ^ 62/\-(2 ^ 62)<=hi/\hi < 2 ^ 62/\(hi - lo).toNat<=1000/\∀ p,H p=none->Q (.ref p) (upd H p (.tup (eP lo (hi - lo).toNat)))):=by
 intro pins s σ H xs us Q I r h
 obtain ⟨a,lo,hi,rfl,ha,b1,b2,b3,b4,hn,q⟩:=h
 obtain ⟨u,rfl,ru⟩:=eN r
 cases ru
 obtain ⟨t,u,v,e⟩:=I.hok a _ ha
 have hsz:Builtin.Range.rangeSize lo hi 1=(((hi - lo).toNat:Nat):Int):=by rw [rangeSize_one]; split <;> omega
 refine ZfF hh (r:=a) (t:=t) (u:=u) (v:=v) e (small_one b1 b2 b3 b4) hsz (by omega) λh' tk acc hk hacc=>?_
 have I1:Inv X pins σ H { s with heap:=h',toks:=tk }:=I.kept hk
 have hv:Vals (eP lo (hi - lo).toNat) acc.toList:=Zfv lo _ _ (by simpa using hacc.1) λj v hv=>by
  obtain ⟨t,e⟩:=hacc.2 j v (by simpa using hv)
  exact ⟨t,by rw [e,Int.mul_one]⟩
 have hz:(eP lo (hi - lo).toNat).length<=sizeLine:=by
  unfold eP
  rw [List.length_map,List.length_range]
  exact Nat.le_trans hn (by decide)
 refine ⟨.ref h'.objs.size,_,I1.laid (h':=h'.push { cls:=.type "tuple",data:=.seq acc }) (t':=tk) (λb o e=>Heap.get?_push_of_some _ e) (Nat.le_refl _) (show ObjOk X.prog X.w _ _ _ (.tup (eP lo (hi - lo).toNat)) from ⟨hz,acc.toList,hv,⟨_,Heap.get?_push_size _ rfl,rfl,0,by simp⟩⟩),rfl,q _ (I1.hok.fresh (Nat.le_refl _))⟩
theorem Zh4:fillsNumberSlot (.type "tuple") "mul"=pure false :=
 PySem.fillsNumberSlot_seq (id:="tuple.__mul__") (r:=some (.builtin "tuple.__rmul__")) PySem.F.slot_tuple_mul.lookup (by decide +kernel) PySem.F.slot_tuple_rmul.lookup (by decide +kernel)
theorem Zg0:seqRepeat? (.type "tuple")=pure (some (.builtin "tuple.__mul__")):=by
 unfold seqRepeat?
 rw [PySem.seqSlot_of (T:="tuple") (name:="__mul__") (id:="tuple.__mul__") PySem.F.slot_tuple_mul.lookup (by decide +kernel),PySem.seqSlot_of (T:="tuple") (name:="__rmul__") (id:="tuple.__rmul__") PySem.F.slot_tuple_rmul.lookup (by decide +kernel)]; rfl
theorem ZgX (x:Int) (t:Tok) (l:Addr) (items:Array Value) (n:Nat) (dd:Option Addr) (sl:Array (Option Value)) :
  Meets (Builtin.«int.__rmul__» ⟨[.int x t,.ref l],[]⟩) (λ_ R s=>s.heap.get? l=some { cls:=.type "tuple",dict:=dd,data:=.seq items n,slots:=sl }/\R (.ok (.ret Value.notImplemented)) s):=by
 refine .of_wp λprog w A R s h=>?_
 obtain ⟨hp,g,d,tk,os⟩:=s
 obtain ⟨hl,h⟩:=h
 wp_walk
 exact ⟨_,rfl,h⟩
theorem Zh9 (x:Int) (t:Tok) (l:Addr) (items:Array Value) (n:Nat) (dd:Option Addr) (sl:Array (Option Value)) (h1:1 < x) (h2:x<=1000) (h3:items.isEmpty=false) (h4:items.size<=1000) :
  Meets (Builtin.«tuple.__mul__» ⟨[.ref l,.int x t],[]⟩) (λ_ R s=>s.heap.get? l=some { cls:=.type "tuple",dict:=dd,data:=.seq items n,slots:=sl } /\
   R (.ok (.ret (.ref s.heap.objs.size))) { s with heap:=s.heap.push { cls:=.type "tuple",data:=.seq ((List.replicate x.toNat items).foldl (·++·) #[]) } }):=by
 refine .of_wp λprog w A R s h=>?_
 obtain ⟨hp,g,d,tk,os⟩:=s
 obtain ⟨hl,h⟩:=h
 have hp0:0<=(items.size:Int) * x:=Int.mul_nonneg (by omega) (by omega)
 have hp1:(items.size:Int) * x<=1000 * 1000:=Int.mul_le_mul (by omega) h2 (by omega) (by omega)
 have hne:items.size≠0:=λe=>by simp [Array.isEmpty,e] at h3
 wp_walk
 refine wpAny_ite_split (λz=>absurd z (by simp; omega)) (λ_=>?_)
 refine wpAny_bind ?_
 unfold Builtin.Tuple.tupleItemsOf
 refine wpAny_bind (wpAny_seqItems hl rfl (wpAny_pure ?_))
 refine wpAny_ite_split (λz=>absurd z (by rw [h3]; simp; omega)) (λ_=>?_)
 refine wpAny_ite_split (λz=>absurd z (by rw [h3]; simp; omega)) (λ_=>?_)
 refine wpAny_ite_split (λz=>absurd z (by omega)) (λ_=>?_)
 refine wpAny_ite_split (λz=>absurd z (by unfold Builtin.Tuple.tupleTooMany; rw [sizeLine_eq]; simp; omega)) (λ_=>?_)
 unfold Builtin.Tuple.tupleExact
 have hlen:∀ k:Nat,((List.replicate k items).foldl (·++·) #[]).size=k * items.size:=λk=>by
  have key:∀ (k:Nat) (acc:Array Value),((List.replicate k items).foldl (·++·) acc).size=acc.size+k * items.size:=by
   intro k
   induction k with
   | zero=>intro acc; simp
   | succ k ih =>
    intro acc
    rw [List.replicate_succ,List.foldl_cons,ih,Array.size_append,Nat.succ_mul]
    omega
  simpa using key k #[]
 refine wpAny_bind (wpAny_newObj_type (wpAny_pure ⟨_,rfl,h⟩) ?_)
 show ((List.replicate x.toNat items).foldl (·++·) #[]).size<=sizeLine
 rw [hlen,sizeLine_eq]
 have hx:x.toNat<=1000:=by omega
 exact Nat.le_trans (Nat.mul_le_mul hx h4) (by decide)
noncomputable def ZbM (K:PySem.W.Frag):R2:=λx y H Q=>∃ a k xs,x=.ref a/\y=.int k/\SqT K H a xs/\1 < k/\k<=1000/\xs≠[]/\xs.length<=1000/\∀ p,H p=none->Q (.ref p) (upd H p (.tup (List.replicate k.toNat xs).flatten))
theorem Zaq {xs:List V} {us:List Value} (r:Vals xs us):∀ k:Nat,Vals (List.replicate k xs).flatten (List.replicate k us).flatten
 | 0=>.nil
 | k+1=>by
  rw [List.replicate_succ,List.replicate_succ,List.flatten_cons,List.flatten_cons]
  exact r.append (Zaq r k)
theorem ZhL:OpR X (binaryOp .Mult) (ZbM X.K):=by
 intro pins s σ H x y v u Q I rx ry h
 obtain ⟨a,k,xs,rfl,rfl,hq,h1,h2,hne,hl,q⟩:=h
 cases rx
 obtain ⟨t,rfl⟩:=ry
 obtain ⟨its,rv,p,hz⟩:=I.tuple hq
 obtain ⟨o,ho,hc,n,hd⟩:=p
 obtain ⟨oc,od,odd,osl⟩:=o
 have hc':oc=.type "tuple":=hc
 have hd':odd=.seq its.toArray n:=hd
 subst hc' hd'
 have hlen:=rv.length
 have hemp:its.toArray.isEmpty=false:=by
  cases its with
  | nil=>cases rv; exact absurd rfl hne
  | cons i r=>rfl
 have efl:(List.replicate k.toNat its.toArray).foldl (·++·) #[]=(List.replicate k.toNat its).flatten.toArray:=by
  have key:∀ (k:Nat) (acc:Array Value),(List.replicate k its.toArray).foldl (·++·) acc=acc++(List.replicate k its).flatten.toArray:=by
   intro k
   induction k with
   | zero=>intro acc; simp
   | succ k ih =>
    intro acc
    rw [List.replicate_succ,List.foldl_cons,ih,List.replicate_succ,List.flatten_cons]
    simp
  simpa using key k.toNat #[]
 refine wpAny_binaryOp_repeat_ref (T:="tuple") (U:="int") (by decide) ⟨_,ho,rfl⟩ (λs'=>typeIs_int s' k t) Zh4 PySem.F.fills_int_mul PySem.F.slot_int_rmul Zg0 PySem.F.slot_int_index.lookup ?_
 refine call_meets PySem.F.slot_int_rmul (typeIs_int s k t) PySem.F.entry_int_rmul (PySem.F.args_int_rmul_2 _ _) (ZgX k t a its.toArray n od osl) ⟨ho,rfl,⟨_,ho,rfl⟩,?_⟩
 refine call_meets PySem.F.slot_tuple_mul ⟨_,ho,rfl⟩ PySem.F.entry_tuple_mul (PySem.F.args_tuple_mul_2 _ _) (Zh9 k t a its.toArray n od osl h1 h2 hemp (by rw [List.size_toArray]; omega)) ⟨ho,?_⟩
 rw [efl]
 have hzz:(List.replicate k.toNat xs).flatten.length<=sizeLine:=by
  have hx:k.toNat<=1000:=by omega
  have e:(List.replicate k.toNat xs).flatten.length=k.toNat * xs.length:=by simp
  rw [e,sizeLine_eq]
  exact Nat.le_trans (Nat.mul_le_mul hx hl) (by decide)
 exact ⟨.ref s.heap.objs.size,_,I.laid (t':=s.toks) (λb o e=>Heap.get?_push_of_some _ e) (Nat.le_refl _) (show ObjOk X.prog X.w _ _ _ (.tup (List.replicate k.toNat xs).flatten) from ⟨hzz,_,Zaq rv k.toNat,IsTup.new _ _⟩),rfl,q _ (I.hok.fresh (Nat.le_refl _))⟩
end
end L2
set_option Elab.async false
set_option linter.all false
set_option maxRecDepth 100000
namespace L2
open PySem PySem.Spec PyProof.Rows
theorem ZcF {n:Nat} (h:n < 2 ^ 1900):n.log2 < 1900:=by
 by_cases h0:n=0
 ·rw [h0]; decide
 ·exact (Nat.log2_lt h0).mpr h
theorem Zgq {i:Int} (h:i.natAbs < 2 ^ 1900):(PyData.int i).shown.length<=1901:=by
 have e:=int_text_length_le (k:=1900) (by decide) (ZcF h)
 have q:(Str.ofString (toString i)).length<=1901:=by rw [PySem.ofString_length]; exact e
 simpa [PyData.shown] using q
theorem ZaY:∀ (ns:List Int),(∀ n∈ns,n.natAbs < 2 ^ 1900)->((PyData.shownAll (ns.map PyData.int)).map (·.length)).sum<=ns.length * 1901/\(PyData.shownAll (ns.map PyData.int)).length=ns.length
 | [],_=>⟨by simp [PyData.shownAll],rfl⟩
 | n::r,h=>by
  obtain ⟨h1,h2⟩:=ZaY r λx hx=>h x (List.mem_cons_of_mem _ hx)
  have h3:=Zgq (h n List.mem_cons_self)
  rw [List.map_cons,PyData.shownAll,List.map_cons,List.sum_cons,List.length_cons,List.length_cons,h2,Nat.succ_mul]
  exact ⟨by omega,rfl⟩
theorem ZaZ:∀ (ns:List Int),(∀ n∈ns,n.natAbs < 2 ^ 1900)->PyData.showableAll (ns.map PyData.int)=true
 | [],_=>rfl
 | n::r,h=>by
  rw [List.map_cons,PyData.showableAll,ZaZ r λx hx=>h x (List.mem_cons_of_mem _ hx),Bool.and_true]
  have q:=ZcF (h n List.mem_cons_self)
  simp only [PyData.showable,decide_eq_true_eq]
  omega
noncomputable def aI (lo:Int) (n:Nat):List Int:=(List.range n).map λ(k:Nat)=>lo+(k:Int)
theorem Zg9 (lo:Int) (n:Nat):eP lo n=(aI lo n).map V.int:=by
 unfold eP aI
 rw [List.map_map]
 rfl
theorem eQ (lo:Int) (n:Nat):(aI lo n).length=n:=by
 unfold aI
 rw [List.length_map,List.length_range]
theorem lx {lo x:Int} {n:Nat} (h:x∈aI lo n):lo<=x/\x < lo+n:=by
 unfold aI at h
 obtain ⟨k,hk,rfl⟩:=List.mem_map.mp h
 have:=List.mem_range.mp hk
 omega
end L2
set_option Elab.async false
set_option linter.all false
set_option maxRecDepth 100000
namespace L2
open PySem PySem.Spec PyProof.Rows
noncomputable def CMulG (i j:Int):Prop:=i.natAbs < 2 ^ 8000/\j.natAbs < 2 ^ 8000
noncomputable def Zfk (i j:Int):Prop:=j≠0/\j.natAbs < 2 ^ 8000
theorem ZeG {x:Int} (h:x.natAbs < 2 ^ 8000):Builtin.Int.intBits x<=8000:=by
 unfold Builtin.Int.intBits
 split
 ·exact Nat.zero_le _
 ·rename_i hx
  have h0:x.natAbs≠0:=by
   intro z
   have e:x=0:=Int.natAbs_eq_zero.mp z
   rw [e] at hx
   exact hx rfl
  exact (Nat.log2_lt h0).mpr h
theorem CMulG.ok {i j:Int} (h:CMulG i j):IntMulOk i j:=by
 have h1:=ZeG h.1
 have h2:=ZeG h.2
 unfold IntMulOk
 have e:Builtin.Int.intTooBig ((Builtin.Int.intBits i+Builtin.Int.intBits j:Nat):Int)=false:=by
  unfold Builtin.Int.intTooBig
  refine decide_eq_false ?_
  have hb:((16000:Nat):Int)<=(bitsLine:Int):=by decide
  omega
 intro z
 rw [Bool.and_eq_true] at z
 have z2:Builtin.Int.intTooBig ((Builtin.Int.intBits i+Builtin.Int.intBits j:Nat):Int)=true:=z.2
 rw [e] at z2
 cases z2
section
variable {X:Cx}
theorem ZhO:OpR X (binaryOp .Mult) (rI CMulG λi j=>.int (i * j)):=gk λ_ _ _ _ _ _ _ hc q=>mul_int q hc.ok
theorem jK:OpR X (binaryOp .FloorDiv) (rI Zfk λi j=>.int (i.fdiv j)):=gk λi j _ _ _ _ _ hc q=>by
 refine floordiv_int hc.1 q (.inl (PyProof.noPylong_of_log2 ?_))
 by_cases h0:j.natAbs=0
 ·exact absurd (Int.natAbs_eq_zero.mp h0) hc.1
 ·exact Nat.lt_trans ((Nat.log2_lt h0).mpr hc.2) (by decide)
end
end L2
set_option Elab.async false
set_option linter.all false
set_option maxRecDepth 100000
namespace Gc
noncomputable def gu (a b:Int):Int:=((Nat.gcd a.natAbs b.natAbs:Nat):Int)
noncomputable def den (t b:Int):Int:=if b < 0 then -gu t b else gu t b
noncomputable def bT (t b:Int):Int:=t.fdiv (den t b)
noncomputable def bH (t b:Int):Int:=b.fdiv (den t b)
theorem qv {t b:Int} (h:b≠0):0 < Nat.gcd t.natAbs b.natAbs:=Nat.gcd_pos_of_pos_right _ (by omega)
theorem km {t b:Int} (h:b≠0):den t b≠0:=by
 have:=qv (t:=t) h
 unfold den gu
 split <;> omega
theorem qI (t b:Int):(den t b).natAbs=Nat.gcd t.natAbs b.natAbs:=by
 unfold den gu
 split <;> omega
theorem j7 {t b:Int} (h:b≠0):t=den t b * bT t b/\b=den t b * bH t b/\0 < bH t b/\Nat.gcd (bT t b).natAbs (bH t b).natAbs=1:=by
 have hd:=km (t:=t) h
 have ha:=qI t b
 have hg:=qv (t:=t) h
 have d1:den t b ∣ t:=Int.natAbs_dvd_natAbs.mp (by rw [ha]; exact Nat.gcd_dvd_left _ _)
 have d2:den t b ∣ b:=Int.natAbs_dvd_natAbs.mp (by rw [ha]; exact Nat.gcd_dvd_right _ _)
 obtain ⟨x,hx⟩:=d1
 obtain ⟨y,hy⟩:=d2
 have e1:bT t b=x:=by
  show t.fdiv (den t b)=x
  generalize den t b=d at hd hx
  rw [hx]
  exact Int.mul_fdiv_cancel_left _ hd
 have e2:bH t b=y:=by
  show b.fdiv (den t b)=y
  generalize den t b=d at hd hy
  rw [hy]
  exact Int.mul_fdiv_cancel_left _ hd
 rw [e1,e2]
 refine ⟨hx,hy,?_,?_⟩
 ·have hb:(0 < b/\0 < den t b)\/(b < 0/\den t b < 0):=by
   unfold den gu
   split <;> omega
  rcases hb with ⟨p,q⟩ | ⟨p,q⟩
  ·rcases (show 0 < y\/y<=0 by omega) with z | z
   ·exact z
   ·exfalso
    have:=Int.mul_nonneg (Int.le_of_lt q) (show 0<=-y by omega)
    rw [Int.mul_neg,<- hy] at this
    omega
  ·rcases (show 0 < y\/y<=0 by omega) with z | z
   ·exact z
   ·exfalso
    have:=Int.mul_nonneg (show 0<=-den t b by omega) (show 0<=-y by omega)
    rw [Int.neg_mul_neg,<- hy] at this
    omega
 ·have h1:t.natAbs=Nat.gcd t.natAbs b.natAbs * x.natAbs:=by
   have:=congrArg Int.natAbs hx
   rw [Int.natAbs_mul,ha] at this
   exact this
  have h2:b.natAbs=Nat.gcd t.natAbs b.natAbs * y.natAbs:=by
   have:=congrArg Int.natAbs hy
   rw [Int.natAbs_mul,ha] at this
   exact this
  have h3:Nat.gcd t.natAbs b.natAbs=Nat.gcd t.natAbs b.natAbs * Nat.gcd x.natAbs y.natAbs:=by
   rw [<- Nat.gcd_mul_left,<- h1,<- h2]
  have h4:Nat.gcd t.natAbs b.natAbs * 1=Nat.gcd t.natAbs b.natAbs * Nat.gcd x.natAbs y.natAbs:=by rw [Nat.mul_one]; exact h3
  exact (Nat.eq_of_mul_eq_mul_left hg h4).symm
theorem qa {t b:Int} (h:b≠0):(bT t b).natAbs<=t.natAbs/\(bH t b).natAbs<=b.natAbs:=by
 obtain ⟨h1,h2,_,_⟩:=j7 (t:=t) h
 have hg:=qv (t:=t) h
 have ha:=qI t b
 constructor
 ·have e:=congrArg Int.natAbs h1
  rw [Int.natAbs_mul,ha] at e
  rw [e]
  exact Nat.le_mul_of_pos_left _ hg
 ·have e:=congrArg Int.natAbs h2
  rw [Int.natAbs_mul,ha] at e
  rw [e]
  exact Nat.le_mul_of_pos_left _ hg
theorem Zip {t b u c:Int} (hb:0 < b) (hc:0 < c) (g1:Nat.gcd t.natAbs b.natAbs=1) (g2:Nat.gcd u.natAbs c.natAbs=1) (h:t * c=u * b):t=u/\b=c:=by
 have k1:b.natAbs ∣ c.natAbs:=by
  have d:b.natAbs ∣ t.natAbs * c.natAbs:=⟨u.natAbs,by rw [<- Int.natAbs_mul,h,Int.natAbs_mul,Nat.mul_comm]⟩
  exact Nat.Coprime.dvd_of_dvd_mul_left (show Nat.Coprime b.natAbs t.natAbs by unfold Nat.Coprime; rw [Nat.gcd_comm]; exact g1) d
 have k2:c.natAbs ∣ b.natAbs:=by
  have d:c.natAbs ∣ u.natAbs * b.natAbs:=⟨t.natAbs,by rw [<- Int.natAbs_mul,<- h,Int.natAbs_mul,Nat.mul_comm]⟩
  exact Nat.Coprime.dvd_of_dvd_mul_left (show Nat.Coprime c.natAbs u.natAbs by unfold Nat.Coprime; rw [Nat.gcd_comm]; exact g2) d
 have e:b=c:=by
  have:=Nat.dvd_antisymm k1 k2
  omega
 subst e
 exact ⟨Int.eq_of_mul_eq_mul_right (by omega) h,rfl⟩
end Gc
set_option Elab.async false
set_option linter.all false
set_option maxRecDepth 100000
namespace L2
open PySem PySem.Spec PyProof.Rows
end L2
set_option Elab.async false
set_option linter.all false
set_option maxRecDepth 100000
namespace L2
open PySem PySem.Spec PyProof.Rows
end L2
set_option Elab.async false
set_option linter.all false
set_option maxRecDepth 100000
namespace L2
open PySem PySem.Spec PyProof.Rows
inductive Tr (α:Type) where
 | ret (a:α)
 | draw (n:Int) (k:Int->Tr α)
 | fail
namespace Tr
variable {α β γ:Type}
noncomputable def bind:Tr α->(α->Tr β)->Tr β
 | .ret a,f=>f a
 | .draw n k,f=>.draw n λr=>(k r).bind f
 | .fail,_=>.fail
@[simp] theorem ret_bind (a:α) (f:α->Tr β):(Tr.ret a).bind f=f a:=rfl
@[simp] theorem draw_bind (n:Int) (k:Int->Tr α) (f:α->Tr β):(Tr.draw n k).bind f=.draw n λr=>(k r).bind f:=rfl
@[simp] theorem fail_bind (f:α->Tr β):(Tr.fail:Tr α).bind f=.fail:=rfl
@[simp] theorem bind_assoc:∀ (t:Tr α) (f:α->Tr β) (g:β->Tr γ),(t.bind f).bind g=t.bind λa=>(f a).bind g
 | .ret a,f,g=>rfl
 | .draw n k,f,g=>by simp only [draw_bind]; congr 1; funext r; exact bind_assoc (k r) f g
 | .fail,f,g=>rfl
noncomputable def of:Option α->Tr α
 | some a=>.ret a
 | none=>.fail
@[simp] theorem of_some (a:α):Tr.of (some a)=.ret a:=rfl
@[simp] theorem of_none:Tr.of (none:Option α)=.fail:=rfl
noncomputable def ok:Tr α->Nat->(Nat->α->Prop)->Prop
 | .ret a,m,Q=>Q m a
 | .draw n k,m,Q=>m < 400000/\0 < n/\n < 1073741824/\∀ r,0<=r->r < n->(k r).ok (m+1) Q
 | .fail,_,_=>False
theorem ok_mono:∀ {t:Tr α} {m:Nat} {Q Q':Nat->α->Prop},t.ok m Q->(∀ m a,Q m a->Q' m a)->t.ok m Q'
 | .ret a,m,_,_,h,hq=>hq m a h
 | .draw n k,m,_,_,⟨h1,h2,h3,h⟩,hq=>⟨h1,h2,h3,λr h0 h1=>ok_mono (h r h0 h1) hq⟩
theorem ok_bind:∀ {t:Tr α} {f:α->Tr β} {m:Nat} {Q:Nat->β->Prop},(t.bind f).ok m Q ↔ t.ok m λm' a=>(f a).ok m' Q
 | .ret a,f,m,Q=>Iff.rfl
 | .draw n k,f,m,Q=>by
  show (_/\_/\_/\∀ r,_) ↔ (_/\_/\_/\∀ r,_)
  refine and_congr_right λ_=>and_congr_right λ_=>and_congr_right λ_=>forall_congr' λr=>forall_congr' λ_=>forall_congr' λ_=>ok_bind
 | .fail,f,m,Q=>Iff.rfl
theorem ok_of {o:Option α} {m:Nat} {Q:Nat->α->Prop} (h:(Tr.of o).ok m Q):∃ a,o=some a/\Q m a:=by
 cases o with
 | none=>exact h.elim
 | some a=>exact ⟨a,rfl,h⟩
noncomputable def all:Tr α->Nat->(α->Prop)->Prop
 | .ret a,_,P=>P a
 | .draw w k,n+1,P=>0 < w/\w < 1073741824/\∀ r,0<=r->r < w->(k r).all n P
 | .draw _ _,0,_=>False
 | .fail,_,_=>False
theorem all_ok:∀ {t:Tr α} {n m:Nat} {P:α->Prop},t.all n P->m+n<=400000->t.ok m λm' a=>m'<=m+n/\P a
 | .ret a,n,m,P,h,hm=>⟨by omega,h⟩
 | .draw w k,n+1,m,P,⟨h1,h2,h⟩,hm=>⟨by omega,h1,h2,λr a b=>ok_mono (all_ok (h r a b) (by omega)) λm' x hz0=>by
  obtain ⟨p,q⟩:=hz0
  exact ⟨by omega,q⟩⟩
theorem all_mono:∀ {t:Tr α} {n n':Nat} {P P':α->Prop},t.all n P->n<=n'->(∀ a,P a->P' a)->t.all n' P'
 | .ret a,n,n',P,P',h,hn,hp=>hp a h
 | .draw w k,n+1,n'+1,P,P',⟨h1,h2,h⟩,hn,hp=>⟨h1,h2,λr a b=>all_mono (h r a b) (by omega) hp⟩
 | .draw w k,n+1,0,P,P',h,hn,hp=>by omega
theorem all_bind:∀ {t:Tr α} {f:α->Tr β} {n n':Nat} {P:α->Prop} {P':β->Prop},t.all n P->(∀ a,P a->(f a).all n' P')->(t.bind f).all (n+n') P'
 | .ret a,f,n,n',P,P',h,hf=>all_mono (hf a h) (by omega) λ_ x=>x
 | .draw w k,f,n+1,n',P,P',⟨h1,h2,h⟩,hf=>by
  have e:n+1+n'=(n+n')+1:=by omega
  rw [e]
  exact ⟨h1,h2,λr a b=>all_bind (h r a b) hf⟩
end Tr
noncomputable abbrev Sub (G H:Hp):Prop:=∀ b o,G b=some o->H b=some o
structure Pk where
 is:HO->Hp->Nat->Prop
 mono:∀ {o:HO} {G G':Hp} {m:Nat},Sub G G'->is o G m->is o G' m
structure Wd (PK:Pk) (pa:Addr) (m:Nat) (G H:Hp):Prop where
 sub:Sub G H
 gpa:G pa=none
 pen:∃ o,H pa=some o/\PK.is o G m
structure Stp (pa:Addr) (G H G' H':Hp):Prop where
 gs:Sub G G'
 gn:∀ b o,G' b=some o->G b=some o\/H b=none
 hk:∀ b o,H b=some o->b≠pa->H' b=some o
theorem Stp.refl {pa:Addr} {G H:Hp}:Stp pa G H G H:=⟨λ_ _ h=>h,λ_ _ h=>.inl h,λ_ _ h _=>h⟩
theorem Stp.trans {pa:Addr} {G H G1 H1 G2 H2:Hp} (a:Stp pa G H G1 H1) (b:Stp pa G1 H1 G2 H2) (hp:∃ o,H1 pa=some o):Stp pa G H G2 H2:=by
 refine ⟨λc o h=>b.gs c o (a.gs c o h),λc o h=>?_,λc o h n=>b.hk c o (a.hk c o h n) n⟩
 rcases b.gn c o h with z | z
 ·exact a.gn c o z
 ·refine .inr ?_
  cases e:H c with
  | none=>rfl
  | some u =>
   by_cases hc:c=pa
   ·subst hc
    obtain ⟨o',z'⟩:=hp
    rw [z'] at z; cases z
   ·rw [a.hk c u e hc] at z; cases z
section
variable {PK:Pk} {pa:Addr} {m:Nat} {G H:Hp}
theorem Wd.some (w:Wd PK pa m G H):∃ o,H pa=some o:=let ⟨o,h,_⟩:=w.pen; ⟨o,h⟩
theorem Wd.ne (w:Wd PK pa m G H) {p:Addr} (hp:H p=none):pa≠p:=λe=>by
 obtain ⟨o,h⟩:=w.some
 rw [e,hp] at h; cases h
theorem Sub.new {p:Addr} {o:HO} (hp:G p=none):Sub G (upd G p o):=λb u h=>by rw [aM (cv h hp)]; exact h
theorem Wd.gnone (w:Wd PK pa m G H) {p:Addr} (hp:H p=none):G p=none:=by
 cases e:G p with
 | none=>rfl
 | some o=>rw [w.sub p o e] at hp; cases hp
theorem Sub.upd2 {p:Addr} {o:HO} (s:Sub G H):Sub (upd G p o) (upd H p o):=λb u h=>by
 by_cases e:b=p
 ·subst e; rw [bW] at h ⊢; exact h
 ·rw [aM e] at h ⊢; exact s b u h
theorem Wd.new (w:Wd PK pa m G H) {p:Addr} {o:HO} (hp:H p=none):Wd PK pa m (upd G p o) (upd H p o)/\Stp pa G H (upd G p o) (upd H p o):=by
 have hg:=w.gnone hp
 have hne:=w.ne hp
 refine ⟨⟨w.sub.upd2,by rw [aM hne]; exact w.gpa,?_⟩,⟨Sub.new hg,λb u h=>?_,λb u h _=>by rw [aM (cv h hp)]; exact h⟩⟩
 ·obtain ⟨u,h,q⟩:=w.pen
  exact ⟨u,by rw [aM hne]; exact h,PK.mono (Sub.new hg) q⟩
 ·by_cases e:b=p
  ·subst e; exact .inr hp
  ·rw [aM e] at h; exact .inl h
theorem Wd.own (w:Wd PK pa m G H) {p:Addr} {o:HO} (hp:H p=none):Wd PK pa m G (upd H p o)/\Stp pa G H G (upd H p o):=by
 have hne:=w.ne hp
 refine ⟨⟨λb u h=>by rw [aM (cv (w.sub b u h) hp)]; exact w.sub b u h,w.gpa,?_⟩,⟨λ_ _ h=>h,λ_ _ h=>.inl h,λb u h _=>by rw [aM (cv h hp)]; exact h⟩⟩
 obtain ⟨u,h,q⟩:=w.pen
 exact ⟨u,by rw [aM hne]; exact h,q⟩
theorem Wd.freeze (w:Wd PK pa m G H) {p:Addr} {o:HO} (hp:H p=Option.some o) (hg:G p=none) (hne:pa≠p):Wd PK pa m (upd G p o) H:=by
 refine ⟨λb u h=>?_,by rw [aM hne]; exact w.gpa,?_⟩
 ·by_cases e:b=p
  ·subst e; rw [bW] at h; rw [hp]; exact h
  ·rw [aM e] at h; exact w.sub b u h
 ·obtain ⟨u,h,q⟩:=w.pen
  exact ⟨u,h,PK.mono (Sub.new hg) q⟩
noncomputable def Kn (PK:Pk) (pa:Addr) (m:Nat) (G H:Hp) (x:PyData) (Q:VK):Prop:=∀ v G' H',Stp pa G H G' H'->Wd PK pa m G' H'->Dn G' v x->Q v H'
variable {x:PyData} {Q:VK} {v:V} {vs:List V} {ds:List PyData} {p:Addr}
theorem Kn.here (k:Kn PK pa m G H x Q) (w:Wd PK pa m G H) (d:Dn G v x):Q v H:=k v G H .refl w d
theorem Kn.tup (k:Kn PK pa m G H (.tuple ds) Q) (w:Wd PK pa m G H) (d:DnAll G vs ds) (hp:H p=none):Q (.ref p) (upd H p (.tup vs)):=by
 obtain ⟨w1,s1⟩:=w.new (o:=.tup vs) hp
 exact k _ _ _ s1 w1 (.tup bW (DnAll.mono s1.gs d))
theorem Kn.lst (k:Kn PK pa m G H (.list ds) Q) (w:Wd PK pa m G H) (d:DnAll G vs ds) (hp:H p=none):Q (.ref p) (upd H p (.lst vs)):=by
 obtain ⟨w1,s1⟩:=w.new (o:=.lst vs) hp
 exact k _ _ _ s1 w1 (.lst bW (DnAll.mono s1.gs d))
theorem Kn.later {G1 H1:Hp} (k:Kn PK pa m G H x Q) (s:Stp pa G H G1 H1) (hp:∃ o,H1 pa=Option.some o):Kn PK pa m G1 H1 x Q:=λv G' H' s' w d=>k v G' H' (s.trans s' hp) w d
end
inductive Sl where
 | un | d (x:PyData) | own (xs:List PyData) | pen | dic (kvs:List (Int×PyData))
inductive KD (G:Hp):List (bb×V)->List (Int×PyData)->Prop
 | nil:KD G [] []
 | cons {i:Int} {v:V} {d:PyData} {ks:List (bb×V)} {kvs:List (Int×PyData)}:Dn G v d->KD G ks kvs->KD G ((.inl i,v)::ks) ((i,d)::kvs)
theorem KD.mono {G G':Hp} (s:Sub G G') {ks:List (bb×V)} {kvs:List (Int×PyData)} (h:KD G ks kvs):KD G' ks kvs:=by
 induction h with
 | nil=>exact .nil
 | cons h _ ih=>exact .cons (h.mono s) ih
inductive SlOk (pa:Addr) (H₀ G H:Hp):Option V->Sl->Prop
 | un {o:Option V}:SlOk pa H₀ G H o .un
 | d {v:V} {x:PyData}:Dn G v x->SlOk pa H₀ G H (some v) (.d x)
 | own {p:Addr} {vs:List V} {xs:List PyData}:H p=some (.lst vs)->G p=none->H₀ p=none->DnAll G vs xs->SlOk pa H₀ G H (some (.ref p)) (.own xs)
 | pen:SlOk pa H₀ G H (some (.ref pa)) .pen
 | dic {p:Addr} {ks:List (bb×V)} {kvs:List (Int×PyData)}:H p=some (.dK ks)->G p=none->H₀ p=none->KD G ks kvs->SlOk pa H₀ G H (some (.ref p)) (.dic kvs)
structure Rl (PK:Pk) (pa:Addr) (G₀ H₀:Hp) (m:Nat) (σ:St) (ρ:List Sl) (G H:Hp):Prop where
 wd:Wd PK pa m G H
 st:Stp pa G₀ H₀ G H
 p0:∃ o,H₀ pa=some o
 sl:∀ (i:Nat) (s:Sl),ρ[i]?=some s->∃ o,σ[i]?=some o/\SlOk pa H₀ G H o s
 len:ρ.length=σ.length
 dj:∀ (i j:Nat) (xs ys:List PyData),i≠j->ρ[i]?=some (.own xs)->ρ[j]?=some (.own ys)->σ[i]?≠σ[j]?
 dj2:∀ (i j:Nat) (xs ys:List (Int×PyData)),i≠j->ρ[i]?=some (.dic xs)->ρ[j]?=some (.dic ys)->σ[i]?≠σ[j]?
section
variable {PK:Pk} {pa:Addr} {G₀ H₀ G H:Hp} {m:Nat} {σ:St} {ρ:List Sl}
theorem lb {α:Type} {l:List α} {k i:Nat} {x y:α} (h:(l.set k x)[i]?=some y) (hn:x≠y):k≠i/\l[i]?=some y:=by
 have hi:k≠i:=λe=>by
  subst e
  have hl:k < l.length:=by
   have:=(List.getElem?_eq_some_iff.mp h).1
   rwa [List.length_set] at this
  rw [List.getElem?_set_self hl] at h
  exact hn (Option.some.inj h)
 rw [List.getElem?_set_ne hi] at h
 exact ⟨hi,h⟩
theorem ZdW {α:Type} {T:α->Sl} {k:Nat} {x:Sl} {v:Option V} (dj:∀ (i j:Nat) (a b:α),i≠j->ρ[i]?=some (T a)->ρ[j]?=some (T b)->σ[i]?≠σ[j]?) (hn:∀ a,x≠T a) :
  ∀ (i j:Nat) (a b:α),i≠j->(ρ.set k x)[i]?=some (T a)->(ρ.set k x)[j]?=some (T b)->(σ.set k v)[i]?≠(σ.set k v)[j]?:=λi j a b hij h1 h2=>by
 obtain ⟨hi,h1⟩:=lb h1 (hn a)
 obtain ⟨hj,h2⟩:=lb h2 (hn b)
 rw [List.getElem?_set_ne hi,List.getElem?_set_ne hj]
 exact dj i j a b hij h1 h2
theorem ZdV {α:Type} {T:α->Sl} {k:Nat} {x:Sl} (dj:∀ (i j:Nat) (a b:α),i≠j->ρ[i]?=some (T a)->ρ[j]?=some (T b)->σ[i]?≠σ[j]?) (hn:∀ a,x≠T a) :
  ∀ (i j:Nat) (a b:α),i≠j->(ρ.set k x)[i]?=some (T a)->(ρ.set k x)[j]?=some (T b)->σ[i]?≠σ[j]?:=λi j a b hij h1 h2 =>
 dj i j a b hij (lb h1 (hn a)).2 (lb h2 (hn b)).2
theorem SlOk.step {G' H':Hp} {o:Option V} {s:Sl} (k:SlOk pa H₀ G H o s) (hp0:∃ o,H₀ pa=some o) (st:Stp pa G H G' H'):SlOk pa H₀ G' H' o s:=by
 cases k with
 | un=>exact .un
 | d h=>exact .d (h.mono st.gs)
 | pen=>exact .pen
 | @own p vs xs h1 h2 h3 h4 =>
  have hne:p≠pa:=λe=>by
   obtain ⟨u,hu⟩:=hp0
   rw [<- e,h3] at hu; cases hu
  refine .own (st.hk _ _ h1 hne) ?_ h3 (DnAll.mono st.gs h4)
  cases e:G' p with
  | none=>rfl
  | some u =>
   rcases st.gn p u e with z | z
   ·rw [h2] at z; cases z
   ·rw [h1] at z; cases z
 | @dic p ks kvs h1 h2 h3 h4 =>
  have hne:p≠pa:=λe=>by
   obtain ⟨u,hu⟩:=hp0
   rw [<- e,h3] at hu; cases hu
  refine .dic (st.hk _ _ h1 hne) ?_ h3 (h4.mono st.gs)
  cases e:G' p with
  | none=>rfl
  | some u =>
   rcases st.gn p u e with z | z
   ·rw [h2] at z; cases z
   ·rw [h1] at z; cases z
theorem Rl.step {G' H':Hp} {m':Nat} (r:Rl PK pa G₀ H₀ m σ ρ G H) (s:Stp pa G H G' H') (w:Wd PK pa m' G' H'):Rl PK pa G₀ H₀ m' σ ρ G' H' :=
 ⟨w,r.st.trans s r.wd.some,r.p0,λi sl h=>let ⟨o,h1,h2⟩:=r.sl i sl h; ⟨o,h1,h2.step r.p0 s⟩,r.len,r.dj,r.dj2⟩
theorem Rl.set (r:Rl PK pa G₀ H₀ m σ ρ G H) {v:V} {x:PyData} (d:Dn G v x) (k:Nat):Rl PK pa G₀ H₀ m (σ.set k (some v)) (ρ.set k (.d x)) G H:=by
 refine ⟨r.wd,r.st,r.p0,λi s h=>?_,by rw [List.length_set,List.length_set]; exact r.len,λi j xs ys hij h1 h2=>?_,ZdW r.dj2 λa h=>by cases h⟩
 ·by_cases e:k=i
  ·subst e
   have hl:k < ρ.length:=by
    have:=(List.getElem?_eq_some_iff.mp h).1
    rwa [List.length_set] at this
   rw [List.getElem?_set_self hl] at h
   cases h
   exact ⟨_,List.getElem?_set_self (by rw [<- r.len]; exact hl),.d d⟩
  ·rw [List.getElem?_set_ne e] at h ⊢
   exact r.sl i s h
 ·have hi:k≠i:=λe=>by
   subst e
   have hl:k < ρ.length:=by
    have:=(List.getElem?_eq_some_iff.mp h1).1
    rwa [List.length_set] at this
   rw [List.getElem?_set_self hl] at h1; cases h1
  have hj:k≠j:=λe=>by
   subst e
   have hl:k < ρ.length:=by
    have:=(List.getElem?_eq_some_iff.mp h2).1
    rwa [List.length_set] at this
   rw [List.getElem?_set_self hl] at h2; cases h2
  rw [List.getElem?_set_ne hi] at h1 ⊢
  rw [List.getElem?_set_ne hj] at h2 ⊢
  exact r.dj i j xs ys hij h1 h2
theorem Rl.setO (r:Rl PK pa G₀ H₀ m σ ρ G H) {p:Addr} {vs:List V} {xs:List PyData} (h1:H p=some (.lst vs)) (h2:G p=none) (h3:H₀ p=none) (h4:DnAll G vs xs)
  (hd:∀ (i:Nat) (ys:List PyData),ρ[i]?=some (.own ys)->σ[i]?≠some (some (.ref p))) (k:Nat):Rl PK pa G₀ H₀ m (σ.set k (some (.ref p))) (ρ.set k (.own xs)) G H:=by
 have up:∀ {i:Nat} {s:Sl},(ρ.set k (.own xs))[i]?=some s->i=k->s=.own xs/\(σ.set k (some (V.ref p)))[i]?=some (some (.ref p)):=λ{i s} h e=>by
  subst e
  have hl:i < ρ.length:=by
   have:=(List.getElem?_eq_some_iff.mp h).1
   rwa [List.length_set] at this
  rw [List.getElem?_set_self hl] at h
  cases h
  exact ⟨rfl,List.getElem?_set_self (by rw [<- r.len]; exact hl)⟩
 refine ⟨r.wd,r.st,r.p0,λi s h=>?_,by rw [List.length_set,List.length_set]; exact r.len,λi j ys zs hij e1 e2=>?_,ZdW r.dj2 λa h=>by cases h⟩
 ·by_cases e:i=k
  ·obtain ⟨e1,e2⟩:=up h e
   subst e1
   exact ⟨_,e2,.own h1 h2 h3 h4⟩
  ·rw [List.getElem?_set_ne (Ne.symm e)] at h ⊢
   exact r.sl i s h
 ·by_cases ei:i=k
  ·have q:=(up e1 ei).2
   have hj:k≠j:=λe=>hij (ei.trans e)
   rw [q]
   rw [List.getElem?_set_ne hj] at e2 ⊢
   exact λz=>hd j zs e2 z.symm
  ·rw [List.getElem?_set_ne (Ne.symm ei)] at e1 ⊢
   by_cases ej:j=k
   ·rw [(up e2 ej).2]
    exact hd i ys e1
   ·rw [List.getElem?_set_ne (Ne.symm ej)] at e2 ⊢
    exact r.dj i j ys zs hij e1 e2
theorem Rl.h0 (r:Rl PK pa G₀ H₀ m σ ρ G H) {p:Addr} (hp:H p=none):H₀ p=none:=by
 cases e:H₀ p with
 | none=>rfl
 | some u =>
  by_cases hc:p=pa
  ·subst hc
   obtain ⟨o,h⟩:=r.wd.some
   rw [hp] at h; cases h
  ·rw [r.st.hk p u e hc] at hp; cases hp
theorem Rl.apart (r:Rl PK pa G₀ H₀ m σ ρ G H) {p:Addr} (hp:H p=none) (i:Nat) (ys:List PyData) (h:ρ[i]?=some (.own ys)):σ[i]?≠some (some (.ref p)):=λe=>by
 obtain ⟨o,h1,h2⟩:=r.sl i _ h
 rw [e] at h1
 cases h1
 cases h2 with
 | own a _ _ _=>rw [hp] at a; cases a
theorem Rl.change (r:Rl PK pa G₀ H₀ m σ ρ G H) {k:Nat} {xs ys:List PyData} {p:Addr} {ws:List V} (hk:ρ[k]?=some (.own xs)) (hσ:σ[k]?=some (some (.ref p))) (d:DnAll G ws ys) :
  Rl PK pa G₀ H₀ m σ (ρ.set k (.own ys)) G (upd H p (.lst ws)):=by
 obtain ⟨o,h1,h2⟩:=r.sl k _ hk
 rw [hσ] at h1
 cases h1
 cases h2 with
 | @own _ vs _ a1 a2 a3 a4 =>
  have hne:pa≠p:=λe=>by
   obtain ⟨u,hu⟩:=r.p0
   rw [e,a3] at hu; cases hu
  have hl:k < ρ.length:=(List.getElem?_eq_some_iff.mp hk).1
  refine ⟨⟨λb o h=>?_,r.wd.gpa,?_⟩,⟨r.st.gs,r.st.gn,λb o h hb=>?_⟩,r.p0,λi s h=>?_,by rw [List.length_set]; exact r.len,λi j us ws hij e1 e2=>?_,ZdV r.dj2 λa h=>by cases h⟩
  ·rw [aM (λe=>by subst e; rw [a2] at h; cases h)]
   exact r.wd.sub b o h
  ·obtain ⟨u,h,q⟩:=r.wd.pen
   exact ⟨u,by rw [aM hne]; exact h,q⟩
  ·rw [aM (λe=>by subst e; rw [a3] at h; cases h)]
   exact r.st.hk b o h hb
  ·by_cases e:k=i
   ·subst e
    rw [List.getElem?_set_self hl] at h
    cases h
    exact ⟨_,hσ,.own bW a2 a3 d⟩
   ·rw [List.getElem?_set_ne e] at h
    obtain ⟨o,q1,q2⟩:=r.sl i s h
    refine ⟨o,q1,?_⟩
    cases q2 with
    | un=>exact .un
    | d z=>exact .d z
    | pen=>exact .pen
    | dic b1 b2 b3 b4=>exact .dic (by rw [aM (λe2=>by subst e2; rw [a1] at b1; cases b1)]; exact b1) b2 b3 b4
    | own b1 b2 b3 b4 =>
     refine .own ?_ b2 b3 b4
     rw [aM]
     ·exact b1
     ·intro e2
      subst e2
      exact r.dj k i _ _ e hk h (by rw [hσ,q1])
  ·by_cases ei:k=i
   ·subst ei
    rw [List.getElem?_set_ne hij] at e2
    exact r.dj k j _ _ hij hk e2
   ·rw [List.getElem?_set_ne ei] at e1
    by_cases ej:k=j
    ·subst ej
     exact r.dj i k _ _ hij e1 hk
    ·rw [List.getElem?_set_ne ej] at e2
     exact r.dj i j _ _ hij e1 e2
noncomputable def fz (k:Nat) (ρ:List Sl):List Sl:=match ρ[k]? with
 | some (.own xs)=>ρ.set k (.d (.list xs))
 | _=>ρ
theorem Rl.freeze (r:Rl PK pa G₀ H₀ m σ ρ G H) (k:Nat):∃ G',Sub G G'/\Rl PK pa G₀ H₀ m σ (fz k ρ) G' H:=by
 unfold fz
 split
 ·rename_i xs hk
  obtain ⟨o,h1,h2⟩:=r.sl k _ hk
  cases h2 with
  | @own p vs _ a1 a2 a3 a4 =>
   have hne:pa≠p:=λe=>by
    obtain ⟨u,hu⟩:=r.p0
    rw [e,a3] at hu; cases hu
   have hl:k < ρ.length:=(List.getElem?_eq_some_iff.mp hk).1
   have sb:Sub G (upd G p (.lst vs)):=Sub.new a2
   refine ⟨upd G p (.lst vs),sb,r.wd.freeze a1 a2 hne,⟨λb o h=>sb b o (r.st.gs b o h),λb o h=>?_,r.st.hk⟩,r.p0,λi s h=>?_,by rw [List.length_set]; exact r.len,λi j us ws hij e1 e2=>?_,ZdV r.dj2 λa h=>by cases h⟩
   ·by_cases e:b=p
    ·subst e; exact .inr a3
    ·rw [aM e] at h; exact r.st.gn b o h
   ·by_cases e:k=i
    ·subst e
     rw [List.getElem?_set_self hl] at h
     cases h
     exact ⟨_,h1,.d (.lst bW (DnAll.mono sb a4))⟩
    ·rw [List.getElem?_set_ne e] at h
     obtain ⟨o,q1,q2⟩:=r.sl i s h
     refine ⟨o,q1,?_⟩
     cases q2 with
     | un=>exact .un
     | d z=>exact .d (z.mono sb)
     | pen=>exact .pen
     | dic b1 b2 b3 b4=>exact .dic b1 (by rw [aM (λe2=>by subst e2; rw [a1] at b1; cases b1)]; exact b2) b3 (b4.mono sb)
     | own b1 b2 b3 b4 =>
      refine .own b1 ?_ b3 (DnAll.mono sb b4)
      rw [aM]
      ·exact b2
      ·intro e2
       subst e2
       exact r.dj k i _ _ e hk h (by rw [h1,q1])
   ·have hi:k≠i:=λe=>by subst e; rw [List.getElem?_set_self hl] at e1; cases e1
    have hj:k≠j:=λe=>by subst e; rw [List.getElem?_set_self hl] at e2; cases e2
    rw [List.getElem?_set_ne hi] at e1
    rw [List.getElem?_set_ne hj] at e2
    exact r.dj i j _ _ hij e1 e2
 ·exact ⟨G,λ_ _ h=>h,r⟩
end
end L2
set_option Elab.async false
set_option linter.all false
set_option maxRecDepth 100000
namespace L2
open PySem PySem.Spec PyProof.Rows
noncomputable def TAe (PK:Pk) (i:List Sl->Tr PyData):TE:=λσ H Q=>∃ pa G₀ H₀ m ρ G,Rl PK pa G₀ H₀ m σ ρ G H/\(i ρ).ok m λm' x=>Kn PK pa m' G H x Q
noncomputable def TAt (PK:Pk) (i:List Sl->Tr Bool):TT:=λσ H Q=>∃ pa G₀ H₀ m ρ G,Rl PK pa G₀ H₀ m σ ρ G H/\(i ρ).ok m λm' b=>∀ G' H',Stp pa G H G' H'->Wd PK pa m' G' H'->Q b H'
noncomputable def TAd (PK:Pk) (i:List Sl->Tr (List PyData)):TA:=λσ H Q=>∃ pa G₀ H₀ m ρ G,Rl PK pa G₀ H₀ m σ ρ G H/\(i ρ).ok m λm' xs=>∀ vs G' H',Stp pa G H G' H'->Wd PK pa m' G' H'->DnAll G' vs xs->Q vs H'
noncomputable def Ko1 (PK:Pk) (pa:Addr) (m:Nat) (G H:Hp) (xs:List PyData) (Q:VK):Prop:=∀ p vs G' H',Stp pa G H G' H'->Wd PK pa m G' H'->H p=none->G' p=none->H' p=some (.lst vs)->DnAll G' vs xs->Q (.ref p) H'
noncomputable def fb (PK:Pk) (i:List Sl->Tr (List PyData)):TE:=λσ H Q=>∃ pa G₀ H₀ m ρ G,Rl PK pa G₀ H₀ m σ ρ G H/\(i ρ).ok m λm' xs=>Ko1 PK pa m' G H xs Q
inductive ArOk (pa:Addr) (G:Hp):V->Sl->Prop
 | d {v:V} {x:PyData}:Dn G v x->ArOk pa G v (.d x)
 | pen:ArOk pa G (.ref pa) .pen
inductive ArsOk (pa:Addr) (G:Hp):List V->List Sl->Prop
 | nil:ArsOk pa G [] []
 | cons {v:V} {vs:List V} {s:Sl} {ss:List Sl}:ArOk pa G v s->ArsOk pa G vs ss->ArsOk pa G (v::vs) (s::ss)
theorem ArsOk.length {pa:Addr} {G:Hp} {vs:List V} {ss:List Sl} (h:ArsOk pa G vs ss):vs.length=ss.length:=by
 induction h with
 | nil=>rfl
 | cons h t ih=>exact congrArg (·+1) ih
noncomputable def TAa (PK:Pk) (i:List Sl->Tr (List Sl)):TA:=λσ H Q=>∃ pa G₀ H₀ m ρ G,Rl PK pa G₀ H₀ m σ ρ G H/\(i ρ).ok m λm' as=>∀ vs G' H',Stp pa G H G' H'->Wd PK pa m' G' H'->ArsOk pa G' vs as->Q vs H'
inductive Re where
 | d (x:PyData) | own (xs:List PyData)
noncomputable def Re.val:Re->PyData
 | .d x=>x
 | .own xs=>.list xs
@[simp] theorem Re.val_d (x:PyData):(Re.d x).val=x:=rfl
@[simp] theorem Re.val_own (xs:List PyData):(Re.own xs).val=.list xs:=rfl
inductive Ou where
 | next (ρ:List Sl) | ret (r:Re) | brk (ρ:List Sl) | cont (ρ:List Sl)
noncomputable def Zn9 (H₀ G H:Hp) (v:V):Re->Prop
 | .d x=>Dn G v x
 | .own xs=>∃ p vs,v=.ref p/\H p=some (.lst vs)/\G p=none/\H₀ p=none/\DnAll G vs xs
noncomputable def Kr (PK:Pk) (pa:Addr) (m:Nat) (G₀ H₀:Hp) (r:Re) (Q:VK):Prop:=∀ v G H,Stp pa G₀ H₀ G H->Wd PK pa m G H->Zn9 H₀ G H v r->Q v H
noncomputable def Ko (PK:Pk) (pa:Addr) (G₀ H₀ Gs:Hp) (D:Ends) (m:Nat):Ou->Prop
 | .next ρ=>∀ σ G H,Sub Gs G->Rl PK pa G₀ H₀ m σ ρ G H->D.nx σ H
 | .ret r=>Kr PK pa m G₀ H₀ r D.rt
 | .brk ρ=>∀ σ G H,Sub Gs G->Rl PK pa G₀ H₀ m σ ρ G H->D.bk σ H
 | .cont ρ=>∀ σ G H,Sub Gs G->Rl PK pa G₀ H₀ m σ ρ G H->D.ct σ H
noncomputable def bw (PK:Pk) (i:List Sl->Tr Ou):TS:=λD σ H=>∃ pa G₀ H₀ m ρ G,Rl PK pa G₀ H₀ m σ ρ G H/\(i ρ).ok m (Ko PK pa G₀ H₀ G D)
theorem PE.imp {X:Cx} {e:Expr} {t t':TE} (h:PE X e t) (q:∀ σ H Q,t' σ H Q->t σ H Q):PE X e t':=λpins s σ H Q I z=>h pins s σ H Q I (q σ H Q z)
theorem PT.imp {X:Cx} {e:Expr} {t t':TT} (h:PT X e t) (q:∀ σ H Q,t' σ H Q->t σ H Q):PT X e t':=λpins s σ H Q I z=>h pins s σ H Q I (q σ H Q z)
theorem PW.imp {X:Cx} {e:Expr} {t t':TT} (h:PW X e t) (q:∀ σ H Q,t' σ H Q->t σ H Q):PW X e t':=λwh pins s σ H Q I z=>h wh pins s σ H Q I (q σ H Q z)
theorem PA.imp {X:Cx} {e:List Expr} {t t':TA} (h:PA X e t) (q:∀ σ H Q,t' σ H Q->t σ H Q):PA X e t':=λpos pins s σ H Q I z=>h pos pins s σ H Q I (q σ H Q z)
theorem PS.imp {X:Cx} {e:Stmt} {t t':TS} (h:PS X e t) (q:∀ D σ H,t' D σ H->t D σ H):PS X e t':=λpins s σ H D I z=>h pins s σ H D I (q D σ H z)
theorem PSs.imp {X:Cx} {e:List Stmt} {t t':TS} (h:PSs X e t) (q:∀ D σ H,t' D σ H->t D σ H):PSs X e t':=λpins s σ H D I z=>h pins s σ H D I (q D σ H z)
variable {PK:Pk} {X:Cx} {a b c e:Expr} {es:List Expr} {pos:Pos} {i j l:List Sl->Tr PyData}
theorem TAe.then {σ:St} {H:Hp} {β:Type} {k:PyData->Tr β} {Z:Nat->β->Prop} {Q:VK} {pa:Addr} {G₀ H₀ G:Hp} {m:Nat} {ρ:List Sl} (R:Rl PK pa G₀ H₀ m σ ρ G H) (h:((i ρ).bind k).ok m Z)
  (hq:∀ m1 x v G1 H1,Stp pa G H G1 H1->Wd PK pa m1 G1 H1->Rl PK pa G₀ H₀ m1 σ ρ G1 H1->Dn G1 v x->(k x).ok m1 Z->Q v H1):TAe PK i σ H Q:=by
 refine ⟨pa,G₀,H₀,m,ρ,G,R,Tr.ok_mono (Tr.ok_bind.mp h) λm1 x hx v G1 H1 s1 w1 d1=>?_⟩
 exact hq m1 x v G1 H1 s1 w1 (R.step s1 w1) d1 hx
noncomputable def aa (k:Nat):List Sl->Tr PyData:=λρ=>match ρ[k]? with
 | some (.d x)=>.ret x
 | _=>.fail
noncomputable def aC (d:PyData):List Sl->Tr PyData:=λ_=>.ret d
theorem ac {k:Nat} (h:PE X e (eO k)):PE X e (TAe PK (aa k)):=h.imp λσ H Q hz0=>by
 obtain ⟨pa,G₀,H₀,m,ρ,G,R,q⟩:=hz0
 unfold aa at q
 split at q
 ·rename_i x hx
  obtain ⟨o,h1,h2⟩:=R.sl k _ hx
  cases h2 with
  | d z=>exact ⟨_,h1,Kn.here q R.wd z⟩
 ·exact q.elim
theorem rh {v:V} {d:PyData} (h:PE X e (tC v)) (hd:∀ G,Dn G v d):PE X e (TAe PK (aC d)):=h.imp λσ H Q hz0=>by
 obtain ⟨pa,G₀,H₀,m,ρ,G,R,q⟩:=hz0
 exact Kn.here q R.wd (hd G)
theorem al {n:Int} {k pos}:PE X (.Constant (.int n) k pos) (TAe PK (aC (.int n))):=rh bL λ_=>.int n
theorem kD {n:Bool} {k pos}:PE X (.Constant (.bool n) k pos) (TAe PK (aC (.bool n))):=rh ZhI λ_=>.bl n
theorem cF {x:Str} {n:Int} (hg:Gl X x) (h:∃ t,X.mg x=some (.int n t)) (hd:(x == ("__debug__":Str))=false:=by decide):PE X (.Name x pos) (TAe PK (aC (.int n))):=rh (ZhE hg h hd) λ_=>.int n
noncomputable def cH (r:R2) (f:PyData->PyData->Option PyData):Prop:=∀ (PK:Pk) (pa:Addr) (m:Nat) (G H:Hp) (x y:V) (dx dy dz:PyData) (Q:VK),Wd PK pa m G H->Dn G x dx->Dn G y dy->f dx dy=some dz->Kn PK pa m G H dz Q->r x y H Q
noncomputable def ag (f:PyData->PyData->Option PyData) (i j:List Sl->Tr PyData):List Sl->Tr PyData:=λρ=>(i ρ).bind λx=>(j ρ).bind λy=>Tr.of (f x y)
theorem nj {r:R2} {f:PyData->PyData->Option PyData} (hv:cH r f):∀ σ H Q,TAe PK (ag f i j) σ H Q->gM r (TAe PK i) (TAe PK j) σ H Q:=by
 rintro σ H Q ⟨pa,G₀,H₀,m,ρ,G,R,q⟩
 refine TAe.then R q λm1 x v G1 H1 s1 w1 R1 d1 q1=>?_
 refine TAe.then R1 q1 λm2 y u G2 H2 s2 w2 R2 d2 q2=>?_
 obtain ⟨z,hz,k⟩:=Tr.ok_of q2
 exact hv PK pa m2 G2 H2 v u x y z Q w2 (d1.mono s2.gs) d2 hz (Kn.later k (s1.trans s2 w1.some) w2.some)
theorem aq {op:Operator} {r:R2} {f:PyData->PyData->Option PyData} (ho:OpR X (binaryOp op) r) (hv:cH r f) (ha:PE X a (TAe PK i)) (hb:PE X b (TAe PK j)):PE X (.BinOp a op b pos) (TAe PK (ag f i j)) :=
 (ce ho ha hb).imp (nj hv)
theorem Ze6 {op:CmpOp} {r:R2} {f:PyData->PyData->Option PyData} (ho:OpR X (compareOp op) r) (hv:cH r f) (ha:PE X a (TAe PK i)) (hb:PE X b (TAe PK j)) (hm:behindInMarks op b=false):PE X (.Compare a [op] [b] pos) (TAe PK (ag f i j)) :=
 (ZhG ho ha hb hm).imp (nj hv)
theorem bi {r:R2} {f:PyData->PyData->Option PyData} (hr:IxR X r) (hv:cH r f) (ha:PE X a (TAe PK i)) (hb:PE X b (TAe PK j)) (hs:rD b):PE X (.Subscript a b pos) (TAe PK (ag f i j)) :=
 (eR hr ha hb hs).imp (nj hv)
noncomputable def kZ:PyData->Option Bool
 | .bool b=>some b
 | _=>none
@[simp] theorem Zow (b:Bool):kZ (.bool b)=some b:=rfl
noncomputable def df (i:List Sl->Tr PyData):List Sl->Tr Bool:=λρ=>(i ρ).bind λx=>Tr.of (kZ x)
theorem Zn0:∀ σ H Q,TAt PK (df i) σ H Q->k7 (TAe PK i) σ H Q:=by
 rintro σ H Q ⟨pa,G₀,H₀,m,ρ,G,R,q⟩
 refine TAe.then R q λm1 x v G1 H1 s1 w1 R1 d1 q1=>?_
 obtain ⟨b,hb,k⟩:=Tr.ok_of q1
 cases d1 <;> simp only [kZ] at hb <;> cases hb
 exact ⟨_,rfl,k G1 H1 s1 w1⟩
theorem ZfO {t t':TE} (h:∀ σ H Q,t' σ H Q->t σ H Q):∀ σ H Q,k7 t' σ H Q->k7 t σ H Q:=λσ H Q z=>h σ H _ z
theorem dS {op:CmpOp} {r:R2} {f:PyData->PyData->Option PyData} (ho:OpR X (compareOp op) r) (hv:cH r f) (ha:PE X a (TAe PK i)) (hb:PE X b (TAe PK j)) (hm:behindInMarks op b=false):PT X (.Compare a [op] [b] pos) (TAt PK (df (ag f i j))) :=
 (jD ho ha hb hm).imp λσ H Q z=>ZfO (nj hv) σ H Q (Zn0 σ H Q z)
noncomputable def Zav:PyData->Option Bool
 | .bool b=>some b
 | .int n=>some (n != 0)
 | .none=>some false
 | .list xs=>some (!xs.isEmpty)
 | .tuple xs=>some (!xs.isEmpty)
 | _=>none
noncomputable def i7 (i:List Sl->Tr PyData):List Sl->Tr Bool:=λρ=>(i ρ).bind λx=>Tr.of (Zav x)
theorem DnAll.isEmpty {H:Hp} {vs:List V} {ds:List PyData} (h:DnAll H vs ds):vs.isEmpty=ds.isEmpty:=by
 cases h <;> rfl
theorem mS (h:PE X e (TAe PK i)) (he:∀ whole,isTrue e X.env whole=(do let v <- whole; standAt e.pos; holding [v] (truthy v)):=by intro _; rfl):PT X e (TAt PK (i7 i)):=(Zhl h he).imp λσ H Q hz0=>by
 obtain ⟨pa,G₀,H₀,m,ρ,G,R,q⟩:=hz0
 refine TAe.then R q λm1 x v G1 H1 s1 w1 R1 d1 q1=>?_
 obtain ⟨b,hb,k⟩:=Tr.ok_of q1
 have fin:=k G1 H1 s1 w1
 cases d1 with
 | non=>cases hb; exact ⟨_,rfl,fin⟩
 | bl b=>cases hb; exact ⟨_,rfl,fin⟩
 | int n=>cases hb; exact ⟨_,rfl,fin⟩
 | str _=>cases hb
 | tup h1 h2=>cases hb; exact ⟨_,.inr (.inl ⟨_,SqT.of (w1.sub _ _ h1),rfl⟩),by rw [h2.isEmpty]; exact fin⟩
 | lst h1 h2=>cases hb; exact ⟨_,.inl ⟨_,SqL.of (w1.sub _ _ h1),rfl⟩,by rw [h2.isEmpty]; exact fin⟩
 | dct _ _=>cases hb
noncomputable def rp (i j:List Sl->Tr Bool):List Sl->Tr Bool:=λρ=>(i ρ).bind λx=>if x=true then .ret true else j ρ
noncomputable def kH (i:List Sl->Tr Bool):List Sl->Tr Bool:=λρ=>(i ρ).bind λx=>.ret (!x)
variable {p q:List Sl->Tr Bool} {rest:List Expr}
theorem TAt.then {σ:St} {H:Hp} {β:Type} {k:Bool->Tr β} {Z:Nat->β->Prop} {Q:Bool->Hp->Prop} {pa:Addr} {G₀ H₀ G:Hp} {m:Nat} {ρ:List Sl} (R:Rl PK pa G₀ H₀ m σ ρ G H) (h:((p ρ).bind k).ok m Z)
  (hq:∀ m1 x G1 H1,Stp pa G H G1 H1->Wd PK pa m1 G1 H1->Rl PK pa G₀ H₀ m1 σ ρ G1 H1->(k x).ok m1 Z->Q x H1):TAt PK p σ H Q:=by
 refine ⟨pa,G₀,H₀,m,ρ,G,R,Tr.ok_mono (Tr.ok_bind.mp h) λm1 x hx G1 H1 s1 w1=>?_⟩
 exact hq m1 x G1 H1 s1 w1 (R.step s1 w1) hx
theorem ZnD {G₀ H₀ G H G1 H1:Hp} {m:Nat} {σ:St} {ρ:List Sl} {pa:Addr} {Q:Bool->Hp->Prop} (R1:Rl PK pa G₀ H₀ m σ ρ G1 H1) (s1:Stp pa G H G1 H1) (h:(q ρ).ok m λm' b=>∀ G' H',Stp pa G H G' H'->Wd PK pa m' G' H'->Q b H'):TAt PK q σ H1 Q :=
 ⟨pa,G₀,H₀,m,ρ,G1,R1,Tr.ok_mono h λm2 b k G2 H2 s2 w2=>k G2 H2 (s1.trans s2 R1.wd.some) w2⟩
theorem Ze4 {G₀ H₀ G H G1 H1:Hp} {m:Nat} {σ:St} {ρ:List Sl} {pa:Addr} {Q:VK} (R1:Rl PK pa G₀ H₀ m σ ρ G1 H1) (s1:Stp pa G H G1 H1) (h:(i ρ).ok m λm' x=>Kn PK pa m' G H x Q):TAe PK i σ H1 Q :=
 ⟨pa,G₀,H₀,m,ρ,G1,R1,Tr.ok_mono h λm2 b k=>Kn.later k s1 R1.wd.some⟩
theorem ZnA (ha:PT X a (TAt PK p)):PW X (.BoolOp .Or [a] pos) (TAt PK p):=Zhh ha
theorem ZnB (ha:PT X a (TAt PK p)) (hb:PW X (.BoolOp .Or (b::rest) pos) (TAt PK q)):PW X (.BoolOp .Or (a::b::rest) pos) (TAt PK (rp p q)):=(Zhi ha hb).imp λσ H Q hz0=>by
 obtain ⟨pa,G₀,H₀,m,ρ,G,R,z⟩:=hz0
 refine TAt.then R z λm1 x G1 H1 s1 w1 R1 q1=>?_
 cases x with
 | true=>rw [if_pos rfl] at q1 ⊢; exact q1 G1 H1 s1 w1
 | false=>rw [if_neg Bool.false_ne_true] at q1 ⊢; exact ZnD R1 s1 q1
theorem ZnC (h:PW X e (TAt PK p)):PT X e (TAt PK p):=h.pt
theorem qX (ha:PT X a (TAt PK p)):PT X (.UnaryOp .Not a pos) (TAt PK (kH p)):=(Zhm ha).imp λσ H Q hz0=>by
 obtain ⟨pa,G₀,H₀,m,ρ,G,R,z⟩:=hz0
 refine TAt.then R z λm1 x G1 H1 s1 w1 R1 q1=>?_
 exact q1 G1 H1 s1 w1
noncomputable def rz (p:List Sl->Tr Bool) (i j:List Sl->Tr PyData):List Sl->Tr PyData:=λρ=>(p ρ).bind λx=>if x=true then i ρ else j ρ
theorem ZnU (hc:PT X c (TAt PK p)) (ha:PE X a (TAe PK i)) (hb:PE X b (TAe PK j)):PE X (.IfExp c a b pos) (TAe PK (rz p i j)):=(ZhC hc ha hb).imp λσ H Q hz0=>by
 obtain ⟨pa,G₀,H₀,m,ρ,G,R,z⟩:=hz0
 refine TAt.then R z λm1 x G1 H1 s1 w1 R1 q1=>?_
 cases x with
 | true=>rw [if_pos rfl] at q1 ⊢; exact Ze4 R1 s1 q1
 | false=>rw [if_neg Bool.false_ne_true] at q1 ⊢; exact Ze4 R1 s1 q1
variable {is:List Sl->Tr (List PyData)}
noncomputable def au:List Sl->Tr (List PyData):=λ_=>.ret []
noncomputable def ai (i:List Sl->Tr PyData) (is:List Sl->Tr (List PyData)):List Sl->Tr (List PyData):=λρ=>(i ρ).bind λx=>(is ρ).bind λxs=>.ret (x::xs)
theorem aw:PA X [] (TAd PK au):=cu.imp λσ H Q hz0=>by
 obtain ⟨pa,G₀,H₀,m,ρ,G,R,z⟩:=hz0
 exact z [] G H .refl R.wd .nil
theorem TAd.then {σ:St} {H:Hp} {β:Type} {k:List PyData->Tr β} {Z:Nat->β->Prop} {Q:List V->Hp->Prop} {pa:Addr} {G₀ H₀ G:Hp} {m:Nat} {ρ:List Sl} (R:Rl PK pa G₀ H₀ m σ ρ G H) (h:((is ρ).bind k).ok m Z)
  (hq:∀ m1 xs vs G1 H1,Stp pa G H G1 H1->Wd PK pa m1 G1 H1->Rl PK pa G₀ H₀ m1 σ ρ G1 H1->DnAll G1 vs xs->(k xs).ok m1 Z->Q vs H1):TAd PK is σ H Q:=by
 refine ⟨pa,G₀,H₀,m,ρ,G,R,Tr.ok_mono (Tr.ok_bind.mp h) λm1 x hx v G1 H1 s1 w1 d1=>?_⟩
 exact hq m1 x v G1 H1 s1 w1 (R.step s1 w1) d1 hx
theorem aj (ha:PE X e (TAe PK i)) (hr:PA X es (TAd PK is)) (hs:starEach (e::es) X.env=(false,eval e X.env)::starEach es X.env:=by rfl):PA X (e::es) (TAd PK (ai i is)):=(ci ha hr hs).imp λσ H Q hz0=>by
 obtain ⟨pa,G₀,H₀,m,ρ,G,R,z⟩:=hz0
 refine TAe.then R z λm1 x v G1 H1 s1 w1 R1 d1 q1=>?_
 refine TAd.then R1 q1 λm2 xs vs G2 H2 s2 w2 R2 d2 q2=>?_
 exact q2 _ _ _ (s1.trans s2 w1.some) w2 (.cons (d1.mono s2.gs) d2)
noncomputable def small (n:Nat):Bool:=decide (n<=sizeLine)
noncomputable def de (is:List Sl->Tr (List PyData)):List Sl->Tr PyData:=λρ=>(is ρ).bind λxs=>if small xs.length=true then .ret (.tuple xs) else .fail
noncomputable def bJ (is:List Sl->Tr (List PyData)):List Sl->Tr PyData:=λρ=>(is ρ).bind λxs=>.ret (.list xs)
noncomputable def dF (is:List Sl->Tr (List PyData)):List Sl->Tr (List PyData):=λρ=>(is ρ).bind λxs=>if small xs.length=true then .ret xs else .fail
theorem gl {α:Type} {c:Bool} {t:Tr α} {m:Nat} {Q:Nat->α->Prop} (h:(if c=true then t else .fail).ok m Q):c=true/\t.ok m Q:=by
 cases c with
 | true=>exact ⟨rfl,h⟩
 | false=>exact h.elim
theorem dE {x1} (h:PA X es (TAd PK is)):PE X (.Tuple es x1 pos) (TAe PK (de is)):=(ZhB h).imp λσ H Q hz0=>by
 obtain ⟨pa,G₀,H₀,m,ρ,G,R,z⟩:=hz0
 refine TAd.then R z λm1 xs vs G1 H1 s1 w1 R1 d1 q1=>?_
 obtain ⟨hs,k⟩:=gl q1
 exact ⟨by rw [d1.length]; exact of_decide_eq_true hs,λp hp=>(Kn.later k s1 w1.some).tup w1 d1 hp⟩
theorem Ko1.new {pa:Addr} {m:Nat} {G H:Hp} {xs:List PyData} {vs:List V} {Q:VK} {p:Addr} (k:Ko1 PK pa m G H xs Q) (w:Wd PK pa m G H) (d:DnAll G vs xs) (hp:H p=none):Q (.ref p) (upd H p (.lst vs)):=by
 obtain ⟨w1,s1⟩:=w.own (o:=.lst vs) hp
 exact k p vs G _ s1 w1 hp (w.gnone hp) bW d
theorem Ko1.later {pa:Addr} {m:Nat} {G H G1 H1:Hp} {xs:List PyData} {Q:VK} (k:Ko1 PK pa m G H xs Q) (s:Stp pa G H G1 H1) (hp:∃ o,H1 pa=some o):Ko1 PK pa m G1 H1 xs Q:=λp vs G' H' s' w' h1 h2 h3 h4=>by
 refine k p vs G' H' (s.trans s' hp) w' ?_ h2 h3 h4
 cases e:H p with
 | none=>rfl
 | some u =>
  by_cases hc:p=pa
  ·subst hc
   obtain ⟨o,z⟩:=hp
   rw [h1] at z; cases z
  ·rw [s.hk p u e hc] at h1; cases h1
theorem eE (h:PA X es (TAd PK is)):PE X (.List es pos) (fb PK (dF is)):=(Zcc h).imp λσ H Q hz0=>by
 obtain ⟨pa,G₀,H₀,m,ρ,G,R,z⟩:=hz0
 refine TAd.then R z λm1 xs vs G1 H1 s1 w1 R1 d1 q1=>?_
 obtain ⟨hs,k⟩:=gl q1
 exact ⟨by rw [d1.length]; exact of_decide_eq_true hs,λp hp=>(Ko1.later k s1 w1.some).new w1 d1 hp⟩
theorem Ko1.of {pa:Addr} {m:Nat} {G H:Hp} {xs:List PyData} {Q:VK} (k:Kn PK pa m G H (.list xs) Q) (hp:∃ o,H pa=some o):Ko1 PK pa m G H xs Q:=λp vs G' H' s w h1 h2 h3 h4=>by
 have hne:pa≠p:=λe=>by
  obtain ⟨o,z⟩:=hp
  rw [e,h1] at z; cases z
 have sb:Sub G' (upd G' p (.lst vs)):=Sub.new h2
 refine k _ (upd G' p (.lst vs)) H' ⟨λb o h=>sb b o (s.gs b o h),λb o h=>?_,s.hk⟩ (w.freeze h3 h2 hne) (.lst bW (DnAll.mono sb h4))
 by_cases e:b=p
 ·subst e; exact .inr h1
 ·rw [aM e] at h; exact s.gn b o h
theorem cb (h:PE X e (fb PK is)):PE X e (TAe PK (bJ is)):=h.imp λσ H Q hz0=>by
 obtain ⟨pa,G₀,H₀,m,ρ,G,R,z⟩:=hz0
 refine ⟨pa,G₀,H₀,m,ρ,G,R,Tr.ok_mono (Tr.ok_bind.mp z) λm1 xs k=>Ko1.of k R.wd.some⟩
noncomputable def eJ (r:List V->Hp->VK->Prop) (f:List PyData->Option PyData):Prop:=∀ (PK:Pk) (pa:Addr) (m:Nat) (G H:Hp) (vs:List V) (ds:List PyData) (d:PyData) (Q:VK),Wd PK pa m G H->DnAll G vs ds->f ds=some d->Kn PK pa m G H d Q->r vs H Q
noncomputable def ba (f:List PyData->Option PyData) (is:List Sl->Tr (List PyData)):List Sl->Tr PyData:=λρ=>(is ρ).bind λxs=>Tr.of (f xs)
theorem Zn5 {r:List V->Hp->VK->Prop} {f:List PyData->Option PyData} (hv:eJ r f):∀ σ H Q,TAe PK (ba f is) σ H Q->f8 r (TAd PK is) σ H Q:=by
 rintro σ H Q ⟨pa,G₀,H₀,m,ρ,G,R,z⟩
 refine TAd.then R z λm1 xs vs G1 H1 s1 w1 R1 d1 q1=>?_
 obtain ⟨d,hd,k⟩:=Tr.ok_of q1
 exact hv PK pa m1 G1 H1 vs xs d Q w1 d1 hd (Kn.later k s1 w1.some)
theorem bd {t:TA} {r:List V->Hp->VK->Prop} {f:List PyData->Option PyData} (h:PE X e (f8 r (TAd PK is))) (hv:eJ r f):PE X e (TAe PK (ba f is)):=h.imp (Zn5 hv)
variable {as:List Sl->Tr (List Sl)}
noncomputable def ay:List Sl->Tr (List Sl):=λ_=>.ret []
noncomputable def ae (i:List Sl->Tr PyData) (as:List Sl->Tr (List Sl)):List Sl->Tr (List Sl):=λρ=>(i ρ).bind λx=>(as ρ).bind λxs=>.ret (.d x::xs)
noncomputable def cp (k:Nat) (as:List Sl->Tr (List Sl)):List Sl->Tr (List Sl):=λρ=>match ρ[k]? with
 | some .pen=>(as ρ).bind λxs=>.ret (.pen::xs)
 | _=>.fail
theorem aB:PA X [] (TAa PK ay):=cu.imp λσ H Q hz0=>by
 obtain ⟨pa,G₀,H₀,m,ρ,G,R,z⟩:=hz0
 exact z [] G H .refl R.wd .nil
theorem TAa.then {σ:St} {H:Hp} {β:Type} {k:List Sl->Tr β} {Z:Nat->β->Prop} {Q:List V->Hp->Prop} {pa:Addr} {G₀ H₀ G:Hp} {m:Nat} {ρ:List Sl} (R:Rl PK pa G₀ H₀ m σ ρ G H) (h:((as ρ).bind k).ok m Z)
  (hq:∀ m1 xs vs G1 H1,Stp pa G H G1 H1->Wd PK pa m1 G1 H1->Rl PK pa G₀ H₀ m1 σ ρ G1 H1->ArsOk pa G1 vs xs->(k xs).ok m1 Z->Q vs H1):TAa PK as σ H Q:=by
 refine ⟨pa,G₀,H₀,m,ρ,G,R,Tr.ok_mono (Tr.ok_bind.mp h) λm1 x hx v G1 H1 s1 w1 d1=>?_⟩
 exact hq m1 x v G1 H1 s1 w1 (R.step s1 w1) d1 hx
theorem af (ha:PE X e (TAe PK i)) (hr:PA X es (TAa PK as)) (hs:starEach (e::es) X.env=(false,eval e X.env)::starEach es X.env:=by rfl):PA X (e::es) (TAa PK (ae i as)):=(ci ha hr hs).imp λσ H Q hz0=>by
 obtain ⟨pa,G₀,H₀,m,ρ,G,R,z⟩:=hz0
 refine TAe.then R z λm1 x v G1 H1 s1 w1 R1 d1 q1=>?_
 refine TAa.then R1 q1 λm2 xs vs G2 H2 s2 w2 R2 d2 q2=>?_
 exact q2 _ _ _ (s1.trans s2 w1.some) w2 (.cons (.d (d1.mono s2.gs)) d2)
theorem cC {k:Nat} (ha:PE X e (eO k)) (hr:PA X es (TAa PK as)) (hs:starEach (e::es) X.env=(false,eval e X.env)::starEach es X.env:=by rfl):PA X (e::es) (TAa PK (cp k as)):=(ci ha hr hs).imp λσ H Q hz0=>by
 obtain ⟨pa,G₀,H₀,m,ρ,G,R,z⟩:=hz0
 unfold cp at z
 split at z
 ·rename_i hk
  obtain ⟨o,h1,h2⟩:=R.sl k _ hk
  cases h2
  refine ⟨_,h1,?_⟩
  refine TAa.then R z λm2 xs vs G2 H2 s2 w2 R2 d2 q2=>?_
  exact q2 _ _ _ s2 w2 (.cons .pen d2)
 ·exact z.elim
noncomputable def aSp (PK:Pk) (n:Nat) (f:List Sl->Tr Re):Sp:=λvs H Q _=>vs.length=n/\∃ pa m G as,Wd PK pa m G H/\ArsOk pa G vs as/\(f as).ok m λm' r=>Kr PK pa m' G H r Q
noncomputable def az (f:List Sl->Tr Re) (as:List Sl->Tr (List Sl)):List Sl->Tr Re:=λρ=>(as ρ).bind f
noncomputable def aD (f:List Sl->Tr Re):List Sl->Tr PyData:=λρ=>(f ρ).bind λr=>.ret r.val
noncomputable def rC (PK:Pk) (i:List Sl->Tr Re):TE:=λσ H Q=>∃ pa G₀ H₀ m ρ G,Rl PK pa G₀ H₀ m σ ρ G H/\(i ρ).ok m λm' r=>Kr PK pa m' G H r Q
theorem Kr.later {pa:Addr} {m:Nat} {G H G1 H1:Hp} {r:Re} {Q:VK} (k:Kr PK pa m G H r Q) (s:Stp pa G H G1 H1) (hp:∃ o,H1 pa=some o):Kr PK pa m G1 H1 r Q:=λv G' H' s' w' d=>by
 refine k v G' H' (s.trans s' hp) w' ?_
 cases r with
 | d x=>exact d
 | own xs =>
  obtain ⟨p,vs,e,h1,h2,h3,h4⟩:=d
  refine ⟨p,vs,e,h1,h2,?_,h4⟩
  cases e:H p with
  | none=>rfl
  | some u =>
   by_cases hc:p=pa
   ·subst hc
    obtain ⟨o,z⟩:=hp
    rw [h3] at z; cases z
   ·rw [s.hk p u e hc] at h3; cases h3
theorem Kr.of {pa:Addr} {m:Nat} {G H:Hp} {r:Re} {Q:VK} (k:Kn PK pa m G H r.val Q) (hp:∃ o,H pa=some o):Kr PK pa m G H r Q:=λv G' H' s w d=>by
 cases r with
 | d x=>exact k v G' H' s w d
 | own xs =>
  obtain ⟨p,vs,rfl,h1,h2,h3,h4⟩:=d
  exact Ko1.of k hp p vs G' H' s w h3 h2 h1 h4
theorem aE {f:List Sl->Tr Re} (h:PE X e (rC PK f)):PE X e (TAe PK (aD f)):=h.imp (by
 intro σ H Q z
 obtain ⟨pa,G₀,H₀,m,ρ,G,R,z⟩:=z
 exact ⟨pa,G₀,H₀,m,ρ,G,R,Tr.ok_mono (Tr.ok_bind.mp z) λm1 r k=>Kr.of k R.wd.some⟩)
structure ACal (PK:Pk) (P:Program) (w:World) (K:PySem.W.Frag) (mg:Str->Option Value) (base:Heap) (x:Str) (k:Nat) (ps:List Str) (f:List Sl->Tr Re):Prop where
 cal:Callee P w K mg base x k ps (aSp PK ps.length f)
 len:∀ as m Z,(f as).ok m Z->as.length=ps.length
theorem aA {x:Str} {k:Nat} {ps:List Str} {f:List Sl->Tr Re} {pp:Pos} (C:ACal PK X.prog X.w X.K X.mg X.base x k ps f) (hr:Room k X.A) (hg:Gl X x) (ha:PA X (e::es) (TAa PK as))
  (hdb:(x == ("__debug__":Str))=false:=by decide)
  (he:starEach (e::es) X.env=(false,eval e X.env)::starEach es X.env:=by rfl) (hpl:(backTo pos (starEach es X.env)).any (·.1)=false:=by rfl):PE X (.Call (.Name x pp) (e::es) [] pos) (rC PK (az f as)) :=
 (Zce C.cal hr hg ha hdb he hpl).imp λσ H Q hz0=>by
  obtain ⟨pa,G₀,H₀,m,ρ,G,R,z⟩:=hz0
  refine TAa.then R z λm1 xs vs G1 H1 s1 w1 R1 d1 q1=>?_
  show aSp PK ps.length f (vs++[]) H1 Q E0
  rw [List.append_nil]
  exact ⟨by rw [d1.length]; exact C.len _ _ _ q1,pa,m1,G1,xs,w1,d1,Tr.ok_mono q1 λm2 r k=>Kr.later k s1 w1.some⟩
end L2
set_option Elab.async false
set_option linter.all false
set_option maxRecDepth 100000
namespace L2
open PySem PySem.Spec PyProof.Rows
variable {PK:Pk} {X:Cx} {a b c e:Expr} {es:List Expr} {pos:Pos} {i j l:List Sl->Tr PyData} {is:List Sl->Tr (List PyData)} {as:List Sl->Tr (List Sl)} {f:List Sl->Tr Re} {p q:List Sl->Tr Bool} {st:Stmt} {sts:List Stmt} {s t u:List Sl->Tr Ou}
noncomputable def ao (s t:List Sl->Tr Ou):List Sl->Tr Ou:=λρ=>(s ρ).bind λo=>match o with
 | .next ρ'=>t ρ'
 | o=>.ret o
noncomputable def eF:List Sl->Tr Ou:=λρ=>.ret (.next ρ)
theorem Ko.later {pa:Addr} {G₀ H₀ Gs G:Hp} {D:Ends} {m:Nat} {o:Ou} (k:Ko PK pa G₀ H₀ Gs D m o) (sb:Sub Gs G):Ko PK pa G₀ H₀ G D m o:=by
 cases o with
 | next ρ=>exact λσ G' H s R=>k σ G' H (λb o h=>s b o (sb b o h)) R
 | ret r=>exact k
 | brk ρ=>exact λσ G' H s R=>k σ G' H (λb o h=>s b o (sb b o h)) R
 | cont ρ=>exact λσ G' H s R=>k σ G' H (λb o h=>s b o (sb b o h)) R
theorem Sub.refl {G:Hp}:Sub G G:=λ_ _ h=>h
theorem Sub.trans {G G1 G2:Hp} (a:Sub G G1) (b:Sub G1 G2):Sub G G2:=λc o h=>b c o (a c o h)
theorem fq:PSs X [] (bw PK eF):=lG.imp λD σ H hz0=>by
 obtain ⟨pa,G₀,H₀,m,ρ,G,R,z⟩:=hz0
 exact z σ G H .refl R
theorem Zn1:∀ D σ H,bw PK (ao s t) D σ H->ZaA (bw PK s) (bw PK t) D σ H:=by
 rintro D σ H ⟨pa,G₀,H₀,m,ρ,G,R,z⟩
 refine ⟨pa,G₀,H₀,m,ρ,G,R,Tr.ok_mono (Tr.ok_bind.mp z) λm1 o k=>?_⟩
 cases o with
 | next ρ'=>exact λσ' G' H' sb R'=>⟨pa,G₀,H₀,m1,ρ',G',R',Tr.ok_mono k λ_ _ k'=>Ko.later k' sb⟩
 | ret r=>exact k
 | brk ρ'=>exact k
 | cont ρ'=>exact k
theorem av (h1:PS X st (bw PK s)) (h2:PSs X sts (bw PK t)):PSs X (st::sts) (bw PK (ao s t)):=(eh h1 h2).imp Zn1
theorem aQ (h1:PS X st (bw PK s)):PSs X [st] (bw PK s):=iu h1
noncomputable def rq:List Sl->Tr Ou:=λ_=>.fail
theorem ZeZ:PS X st (bw PK rq):=λ_ _ _ _ _ _ h=>by
 obtain ⟨pa,G₀,H₀,m,ρ,G,R,z⟩:=h
 exact z.elim
noncomputable def ni (i:List Sl->Tr PyData):List Sl->Tr Ou:=λρ=>(i ρ).bind λ_=>.ret (.next ρ)
theorem Ze0 (he:PE X e (TAe PK i)) (hs:swapsWith e none pos.line X.env=pure false:=by rfl):PS X (.Expr e pos) (bw PK (ni i)):=(fH he hs).imp λD σ H hz0=>by
 obtain ⟨pa,G₀,H₀,m,ρ,G,R,z⟩:=hz0
 refine TAe.then R z λm1 x v G1 H1 s1 w1 R1 d1 q1=>?_
 exact q1 σ G1 H1 s1.gs R1
noncomputable def bI (i:List Sl->Tr PyData):List Sl->Tr Ou:=λρ=>(i ρ).bind λx=>.ret (.ret (.d x))
theorem bQ (he:PE X e (TAe PK i)):PS X (.Return (some e) pos) (bw PK (bI i)):=(gg he).imp λD σ H hz0=>by
 obtain ⟨pa,G₀,H₀,m,ρ,G,R,z⟩:=hz0
 refine TAe.then R z λm1 x v G1 H1 s1 w1 R1 d1 q1=>?_
 exact q1 v G1 H1 R1.st w1 d1
noncomputable def nc (is:List Sl->Tr (List PyData)):List Sl->Tr Ou:=λρ=>(is ρ).bind λx=>.ret (.ret (.own x))
theorem ZeY (he:PE X e (fb PK is)):PS X (.Return (some e) pos) (bw PK (nc is)):=(gg he).imp λD σ H hz0=>by
 obtain ⟨pa,G₀,H₀,m,ρ,G,R,z⟩:=hz0
 refine ⟨pa,G₀,H₀,m,ρ,G,R,Tr.ok_mono (Tr.ok_bind.mp z) λm1 xs k p vs G1 H1 s1 w1 h1 h2 h3 h4=>?_⟩
 exact k (.ref p) G1 H1 (R.st.trans s1 R.wd.some) w1 ⟨p,vs,rfl,h3,h2,R.h0 h1,h4⟩
noncomputable def jb (f:List Sl->Tr Re):List Sl->Tr Ou:=λρ=>(f ρ).bind λr=>.ret (.ret r)
theorem mV (he:PE X e (rC PK f)):PS X (.Return (some e) pos) (bw PK (jb f)):=(gg he).imp (by
 intro D σ H z
 obtain ⟨pa,G₀,H₀,m,ρ,G,R,z⟩:=z
 exact ⟨pa,G₀,H₀,m,ρ,G,R,Tr.ok_mono (Tr.ok_bind.mp z) λm1 r k=>Kr.later k R.st R.wd.some⟩)
noncomputable def eG (k:Nat):List Sl->Tr Ou:=λρ=>match ρ[k]? with
 | some (.d x)=>.ret (.ret (.d x))
 | some (.own xs)=>.ret (.ret (.own xs))
 | _=>.fail
theorem iY {k:Nat} (he:PE X e (eO k)):PS X (.Return (some e) pos) (bw PK (eG k)):=(gg he).imp λD σ H hz0=>by
 obtain ⟨pa,G₀,H₀,m,ρ,G,R,z⟩:=hz0
 unfold eG at z
 split at z
 ·rename_i x hx
  obtain ⟨o,h1,h2⟩:=R.sl k _ hx
  cases h2 with
  | d d1=>exact ⟨_,h1,z _ G H R.st R.wd d1⟩
 ·rename_i xs hx
  obtain ⟨o,h1,h2⟩:=R.sl k _ hx
  cases h2 with
  | own a1 a2 a3 a4=>exact ⟨_,h1,z _ G H R.st R.wd ⟨_,_,rfl,a1,a2,a3,a4⟩⟩
 ·exact z.elim
noncomputable def eI (p:List Sl->Tr Bool) (s t:List Sl->Tr Ou):List Sl->Tr Ou:=λρ=>(p ρ).bind λx=>if x=true then s ρ else t ρ
theorem fr {xs ys:List Stmt} (hc:PT X c (TAt PK p)) (ha:PSs X xs (bw PK s)) (hb:PSs X ys (bw PK t)):PS X (.If c xs ys pos) (bw PK (eI p s t)):=(lK hc ha hb).imp λD σ H hz0=>by
 obtain ⟨pa,G₀,H₀,m,ρ,G,R,z⟩:=hz0
 refine TAt.then R z λm1 x G1 H1 s1 w1 R1 q1=>?_
 cases x with
 | true=>rw [if_pos rfl] at q1 ⊢; exact ⟨pa,G₀,H₀,m1,ρ,G1,R1,Tr.ok_mono q1 λ_ _ k'=>Ko.later k' s1.gs⟩
 | false=>rw [if_neg Bool.false_ne_true] at q1 ⊢; exact ⟨pa,G₀,H₀,m1,ρ,G1,R1,Tr.ok_mono q1 λ_ _ k'=>Ko.later k' s1.gs⟩
noncomputable def aT (k:Nat) (i:List Sl->Tr PyData):List Sl->Tr Ou:=λρ=>(i ρ).bind λx=>.ret (.next (ρ.set k (.d x)))
theorem aZ {k:Nat} (h:PS X st (dJ (TAe PK i) (eA k))):PS X st (bw PK (aT k i)):=h.imp λD σ H hz0=>by
 obtain ⟨pa,G₀,H₀,m,ρ,G,R,z⟩:=hz0
 refine TAe.then R z λm1 x v G1 H1 s1 w1 R1 d1 q1=>?_
 exact q1 _ G1 H1 s1.gs (R1.set d1 k)
noncomputable def ft (k:Nat) (is:List Sl->Tr (List PyData)):List Sl->Tr Ou:=λρ=>(is ρ).bind λx=>.ret (.next (ρ.set k (.own x)))
theorem hU {k:Nat} (h:PS X st (dJ (fb PK is) (eA k))):PS X st (bw PK (ft k is)):=h.imp λD σ H hz0=>by
 obtain ⟨pa,G₀,H₀,m,ρ,G,R,z⟩:=hz0
 refine ⟨pa,G₀,H₀,m,ρ,G,R,Tr.ok_mono (Tr.ok_bind.mp z) λm1 xs k' p vs G1 H1 s1 w1 h1 h2 h3 h4=>?_⟩
 exact k' _ G1 H1 s1.gs ((R.step s1 w1).setO h3 h2 (R.h0 h1) h4 (λn ys e=>R.apart h1 n ys e) k)
noncomputable def hZ (f:PyData->PyData->Option PyData) (k:Nat) (i:List Sl->Tr PyData):List Sl->Tr Ou:=λρ=>(aa k ρ).bind λx=>(i ρ).bind λy=>(Tr.of (f x y)).bind λz=>.ret (.next (ρ.set k (.d z)))
theorem mX {k:Nat} {r:R2} {g:PyData->PyData->Option PyData} (hv:cH r g) (h:PS X st (ZaH k (TAe PK i) r)):PS X st (bw PK (hZ g k i)):=h.imp λD σ H hz0=>by
 obtain ⟨pa,G₀,H₀,m,ρ,G,R,z⟩:=hz0
 unfold hZ aa at z
 split at z
 ·rename_i x hx
  obtain ⟨o,h1,h2⟩:=R.sl k _ hx
  cases h2 with
  | d d0 =>
   refine ⟨_,h1,?_⟩
   refine TAe.then R z λm1 y v G1 H1 s1 w1 R1 d1 q1=>?_
   rw [Tr.ok_bind] at q1
   obtain ⟨w,hw,q1⟩:=Tr.ok_of q1
   refine hv PK pa m1 G1 H1 _ v x y w _ w1 (d0.mono s1.gs) d1 hw λu G2 H2 s2 w2 d2=>?_
   exact q1 _ G2 H2 (s1.gs.trans s2.gs) ((R1.step s2 w2).set d2 k)
 ·exact z.elim
noncomputable def gE (k:Nat) (i:List Sl->Tr PyData):List Sl->Tr Ou:=λρ=>match ρ[k]? with
 | some (.own xs)=>(i ρ).bind λx=>if small (xs.length+1)=true then .ret (.next (ρ.set k (.own (xs++[x])))) else .fail
 | _=>.fail
theorem DnAll.snoc {H:Hp} {vs:List V} {ds:List PyData} {v:V} {d:PyData} (h:DnAll H vs ds) (h1:Dn H v d):DnAll H (vs++[v]) (ds++[d]):=h.append (.cons h1 .nil)
theorem kA {k:Nat} {K:PySem.W.Frag} {st:Stmt} (h:PS X st (og (tBM K "list" Zb0 (eO k) (fc (TAe PK i) aS)))):PS X st (bw PK (gE k i)):=h.imp λD σ H hz0=>by
 obtain ⟨pa,G₀,H₀,m,ρ,G,R,z⟩:=hz0
 unfold gE at z
 split at z
 ·rename_i xs hx
  obtain ⟨o,h1,h2⟩:=R.sl k _ hx
  cases h2 with
  | @own p vs _ a1 a2 a3 a4 =>
   refine ⟨_,h1,.inl ⟨rfl,_,SqL.of a1⟩,?_⟩
   refine TAe.then R z λm1 x v G1 H1 s1 w1 R1 d1 q1=>?_
   obtain ⟨hs,q1⟩:=gl q1
   obtain ⟨o,h1',h2⟩:=R1.sl k _ hx
   rw [h1] at h1'
   cases h1'
   cases h2 with
   | @own _ vs1 _ b1 b2 b3 b4 =>
    have hs':xs.length+1<=sizeLine:=of_decide_eq_true hs
    refine ⟨p,vs1,v,rfl,rfl,b1,by rw [b4.length]; omega,?_⟩
    exact q1 σ G1 _ s1.gs (R1.change hx h1 (b4.snoc d1))
 ·exact z.elim
theorem DnAll.set {H:Hp}:∀ {vs:List V} {ds:List PyData} {v:V} {d:PyData} (n:Nat),DnAll H vs ds->Dn H v d->DnAll H (vs.set n v) (ds.set n d)
 | _,_,_,_,_,.nil,_=>.nil
 | _,_,_,_,0,.cons _ t,h=>.cons h t
 | _,_,_,_,n+1,.cons g t,h=>.cons g (DnAll.set n t h)
noncomputable def kG (k:Nat) (n i:List Sl->Tr PyData):List Sl->Tr Ou:=λρ=>(i ρ).bind λx=>match ρ[k]? with
 | some (.own xs)=>(n ρ).bind λy=>match y with
  | .int y=>(Tr.of (c7 xs.length y)).bind λt=>.ret (.next (ρ.set k (.own (xs.set t x))))
  | _=>.fail
 | _=>.fail
theorem ZeX {k:Nat} {n:List Sl->Tr PyData} (h:PS X st (dJ (TAe PK i) (Zdh (eO k) (TAe PK n) o8))):PS X st (bw PK (kG k n i)):=h.imp λD σ H hz0=>by
 obtain ⟨pa,G₀,H₀,m,ρ,G,R,z⟩:=hz0
 refine TAe.then R z λm1 x v G1 H1 s1 w1 R1 d1 q1=>?_
 split at q1
 ·rename_i xs hx
  obtain ⟨o,h1,h2⟩:=R1.sl k _ hx
  cases h2 with
  | @own p vs _ a1 a2 a3 a4 =>
   refine ⟨_,h1,?_⟩
   refine TAe.then R1 q1 λm2 y u G2 H2 s2 w2 R2 d2 q2=>?_
   obtain ⟨o,h1',h2⟩:=R2.sl k _ hx
   rw [h1] at h1'
   cases h1'
   cases h2 with
   | @own _ vs2 _ b1 b2 b3 b4 =>
    cases d2 with
    | int y =>
     rw [Tr.ok_bind] at q2
     obtain ⟨n',hn,q2⟩:=Tr.ok_of q2
     refine ⟨p,vs2,y,n',rfl,rfl,b1,by rw [b4.length]; exact hn,?_⟩
     exact q2 σ G2 _ (s1.gs.trans s2.gs) (R2.change hx h1 (b4.set n' (d1.mono s2.gs)))
    | _=>exact q2.elim
 ·exact q1.elim
theorem DnAll.reverse {H:Hp} {vs:List V} {ds:List PyData} (h:DnAll H vs ds):DnAll H vs.reverse ds.reverse:=by
 induction vs generalizing ds with
 | nil=>cases h; exact .nil
 | cons v vs ih=>cases h with | cons r t=>rw [List.reverse_cons,List.reverse_cons]; exact DnAll.append (ih t) (.cons r .nil)
noncomputable def i9 (k:Nat):List Sl->Tr Ou:=λρ=>match ρ[k]? with
 | some (.own xs)=>.ret (.next (ρ.set k (.own xs.reverse)))
 | _=>.fail
theorem q9 {k:Nat} {K:PySem.W.Frag} (h:PS X st (og (ZaE K "list" ZbL (eO k)))):PS X st (bw PK (i9 k)):=h.imp λD σ H hz0=>by
 obtain ⟨pa,G₀,H₀,m,ρ,G,R,z⟩:=hz0
 unfold i9 at z
 split at z
 ·rename_i xs hx
  obtain ⟨o,h1,h2⟩:=R.sl k _ hx
  cases h2 with
  | @own p vs _ a1 a2 a3 a4 =>
   refine ⟨_,h1,.inl ⟨rfl,_,SqL.of a1⟩,p,vs,rfl,rfl,a1,?_⟩
   exact z σ G _ .refl (R.change hx h1 a4.reverse)
 ·exact z.elim
noncomputable def hW (k:Nat) (s:List Sl->Tr Ou):List Sl->Tr Ou:=λρ=>s (fz k ρ)
theorem kz {k:Nat} (h:PS X st (bw PK s)):PS X st (bw PK (hW k s)):=h.imp λD σ H hz0=>by
 obtain ⟨pa,G₀,H₀,m,ρ,G,R,z⟩:=hz0
 obtain ⟨G',sb,R'⟩:=R.freeze k
 exact ⟨pa,G₀,H₀,m,_,G',R',Tr.ok_mono z λ_ _ k'=>Ko.later k' sb⟩
noncomputable def dH (PK:Pk) (g:PyData->List Sl->Option (List Sl)):TG:=λv σ H Q=>∃ pa G₀ H₀ m ρ G x ρ',Rl PK pa G₀ H₀ m σ ρ G H/\Dn G v x/\g x ρ=some ρ'/\∀ σ',Rl PK pa G₀ H₀ m σ' ρ' G H->Q σ' H
noncomputable def np (PK:Pk) (g:List PyData->List Sl->Option (List Sl)):fZ:=λvs σ H Q=>∃ pa G₀ H₀ m ρ G xs ρ',Rl PK pa G₀ H₀ m σ ρ G H/\DnAll G vs xs/\g xs ρ=some ρ'/\∀ σ',Rl PK pa G₀ H₀ m σ' ρ' G H->Q σ' H
theorem PG.imp {tg:Expr} {t t':TG} (h:PG X tg t) (q:∀ v σ H Q,t' v σ H Q->t v σ H Q):PG X tg t':=λpins s σ H v u Q I r z=>h pins s σ H v u Q I r (q v σ H Q z)
theorem PGs.imp {tg:List Expr} {t t':fZ} (h:PGs X tg t) (q:∀ v σ H Q,t' v σ H Q->t v σ H Q):PGs X tg t':=λpins s σ H v u Q I r z=>h pins s σ H v u Q I r (q v σ H Q z)
noncomputable def ah (k:Nat):PyData->List Sl->Option (List Sl):=λx ρ=>some (ρ.set k (.d x))
theorem aP {k:Nat} (h:PG X e (eA k)):PG X e (dH PK (ah k)):=h.imp λv σ H Q hz0=>by
 obtain ⟨pa,G₀,H₀,m,ρ,G,x,ρ',R,d,e,q⟩:=hz0
 cases e
 exact q _ (R.set d k)
noncomputable def aW:List PyData->List Sl->Option (List Sl):=λxs ρ=>match xs with
 | []=>some ρ
 | _=>none
noncomputable def ak (g:PyData->List Sl->Option (List Sl)) (gs:List PyData->List Sl->Option (List Sl)):List PyData->List Sl->Option (List Sl):=λxs ρ=>match xs with
 | x::xs=>(g x ρ).bind λρ'=>gs xs ρ'
 | []=>none
theorem cA:PGs X [] (np PK aW):=Zhw.imp λvs σ H Q hz0=>by
 obtain ⟨pa,G₀,H₀,m,ρ,G,xs,ρ',R,d,e,q⟩:=hz0
 cases d with
 | nil=>cases e; exact ⟨rfl,q _ R⟩
 | cons _ _=>cases e
theorem bq {g:PyData->List Sl->Option (List Sl)} {gs:List PyData->List Sl->Option (List Sl)} (h1:PG X e (dH PK g)) (h2:PGs X es (np PK gs))
  (hs:(assignEach (e::es) X.env).map (·.2)=assign e X.env::(assignEach es X.env).map (·.2):=by rfl):PGs X (e::es) (np PK (ak g gs)):=(Zhx h1 h2 hs).imp λvs σ H Q hz0=>by
 obtain ⟨pa,G₀,H₀,m,ρ,G,xs,ρ',R,d,e,q⟩:=hz0
 cases d with
 | nil=>cases e
 | cons d1 d2 =>
  have e':(g _ ρ).bind (λρ'=>gs _ ρ')=some ρ':=e
  cases h:g _ ρ with
  | none=>rw [h] at e'; cases e'
  | some ρ1 =>
   rw [h] at e'
   exact ⟨_,_,rfl,pa,G₀,H₀,m,ρ,G,_,ρ1,R,d1,h,λσ1 R1=>⟨pa,G₀,H₀,m,ρ1,G,_,ρ',R1,d2,e',q⟩⟩
noncomputable def aX (gs:List PyData->List Sl->Option (List Sl)):PyData->List Sl->Option (List Sl):=λx ρ=>match x with
 | .tuple xs=>gs xs ρ
 | _=>none
noncomputable def mE (n:Nat) (gs:List PyData->List Sl->Option (List Sl)):Prop:=∀ xs ρ ρ',gs xs ρ=some ρ'->xs.length=n
theorem cx:mE 0 aW:=λxs ρ ρ' h=>by cases xs with | nil=>rfl | cons _ _=>cases h
theorem bn {n:Nat} {g:PyData->List Sl->Option (List Sl)} {gs:List PyData->List Sl->Option (List Sl)} (h:mE n gs):mE (n+1) (ak g gs):=λxs ρ ρ' e=>by
 cases xs with
 | nil=>cases e
 | cons x xs =>
  have e':(g x ρ).bind (λρ'=>gs xs ρ')=some ρ':=e
  cases h1:g x ρ with
  | none=>rw [h1] at e'; cases e'
  | some ρ1 =>
   rw [h1] at e'
   exact congrArg (·+1) (h xs ρ1 ρ' e')
theorem cB {k:Nat} {gs:List PyData->List Sl->Option (List Sl)} {n:Nat} (hc:X.calm=true) (h:PGs X es (np PK gs)) (hl:mE n gs)
  (hn:(assignEach es X.env).length=n:=by rfl) (hst:(assignEach es X.env).findIdx? (·.1)=none:=by rfl):PG X (.Tuple es k pos) (dH PK (aX gs)):=(Zhy hc h hn hst).imp λv σ H Q hz0=>by
 obtain ⟨pa,G₀,H₀,m,ρ,G,x,ρ',R,d,e,q⟩:=hz0
 cases d with
 | tup h1 h2=>exact ⟨_,_,rfl,SqT.of (R.wd.sub _ _ h1),by rw [h2.length]; exact hl _ _ _ e,pa,G₀,H₀,m,ρ,G,_,ρ',R,h2,e,q⟩
 | _=>cases e
noncomputable def je (g:PyData->List Sl->Option (List Sl)) (i:List Sl->Tr PyData):List Sl->Tr Ou:=λρ=>(i ρ).bind λx=>(Tr.of (g x ρ)).bind λρ'=>.ret (.next ρ')
theorem mY {g:PyData->List Sl->Option (List Sl)} (h:PS X st (dJ (TAe PK i) (dH PK g))):PS X st (bw PK (je g i)):=h.imp λD σ H hz0=>by
 obtain ⟨pa,G₀,H₀,m,ρ,G,R,z⟩:=hz0
 refine TAe.then R z λm1 x v G1 H1 s1 w1 R1 d1 q1=>?_
 rw [Tr.ok_bind] at q1
 obtain ⟨ρ',hg,q1⟩:=Tr.ok_of q1
 exact ⟨pa,G₀,H₀,m1,ρ,G1,x,ρ',R1,d1,hg,λσ' R'=>q1 σ' G1 H1 s1.gs R'⟩
noncomputable def hV (k n:Nat) (is:List Sl->Tr (List PyData)):List Sl->Tr Ou:=λρ=>(is ρ).bind λxs=>match xs with
 | [x,y]=>.ret (.next ((ρ.set k (.d x)).set n (.d y)))
 | _=>.fail
theorem mW {k n:Nat} (h:PS X st (ZaB k n (TAd PK is))):PS X st (bw PK (hV k n is)):=h.imp λD σ H hz0=>by
 obtain ⟨pa,G₀,H₀,m,ρ,G,R,z⟩:=hz0
 refine TAd.then R z λm1 xs vs G1 H1 s1 w1 R1 d1 q1=>?_
 split at q1
 ·cases d1 with
  | cons e1 d1 =>
   cases d1 with
   | cons e2 d1 =>
    cases d1
    exact ⟨_,_,rfl,q1 _ G1 H1 s1.gs ((R1.set e1 k).set e2 n)⟩
 ·exact q1.elim
noncomputable def gG (PK:Pk) (pa:Addr) (J:It) (G:Hp) (xs:List PyData):Prop:=∀ m G2 H2,Sub G G2->Wd PK pa m G2 H2 ->
 (∀ (n:Nat) (d:PyData),xs[n]?=some d->J.go n H2/\∀ x H3,J.yld n H2 x H3->∃ G3,Stp pa G2 H2 G3 H3/\Wd PK pa m G3 H3/\Dn G3 x d)/\J.stop xs.length H2
noncomputable def cP (PK:Pk) (is:List Sl->Tr (List PyData)):TI:=λσ H R=>∃ pa G₀ H₀ m ρ G,Rl PK pa G₀ H₀ m σ ρ G H/\(is ρ).ok m λm' xs=>∀ J G' H',Stp pa G H G' H'->Wd PK pa m' G' H'->gG PK pa J G' xs->R J H'
theorem PI.imp {tg iter:Expr} {t t':TI} (h:PI X tg iter t) (q:∀ σ H R,t' σ H R->t σ H R):PI X tg iter t':=λpins s σ H R I z=>h pins s σ H R I (q σ H R z)
noncomputable def cj (g:PyData->List Sl->Option (List Sl)) (s:List Sl->Tr Ou):List PyData->List Sl->Tr Ou
 | [],ρ=>.ret (.next ρ)
 | x::xs,ρ=>(Tr.of (g x ρ)).bind λρ1=>(s ρ1).bind λo=>match o with
  | .next ρ2=>cj g s xs ρ2
  | .cont ρ2=>cj g s xs ρ2
  | .brk ρ2=>.ret (.next ρ2)
  | .ret r=>.ret (.ret r)
noncomputable def dG (is:List Sl->Tr (List PyData)) (g:PyData->List Sl->Option (List Sl)) (s:List Sl->Tr Ou):List Sl->Tr Ou:=λρ=>(is ρ).bind λxs=>cj g s xs ρ
theorem eD {tg iter:Expr} {body:List Stmt} {g:PyData->List Sl->Option (List Sl)} (hp:PassesOwn (model X.prog X.w) X.A X.env X.xe) (hc:X.calm=true) (hi:PI X tg iter (cP PK is)) (hg:PG X tg (dH PK g)) (hb:PSs X body (bw PK s))
  (hs:∀ x,foldedSetIterable iter X.env x=pure x:=by intro _; rfl):PS X (.For tg iter body [] pos) (bw PK (dG is g s)):=(Zhq hp hc hi hg hb hs).imp λD σ H hz0=>by
 obtain ⟨pa,G₀,H₀,m,ρ,G,R,z⟩:=hz0
 refine ⟨pa,G₀,H₀,m,ρ,G,R,Tr.ok_mono (Tr.ok_bind.mp z) λm1 xs k J G1 H1 s1 w1 jo=>?_⟩
 let W:Nat->Nat->St->Hp->Prop:=λn mm σ H=>mm=xs.length - n/\n<=xs.length/\∃ m ρ G,Sub G1 G/\Rl PK pa G₀ H₀ m σ ρ G H/\(cj g s (xs.drop n) ρ).ok m (Ko PK pa G₀ H₀ G1 D)
 refine ⟨W,⟨xs.length,rfl,Nat.zero_le _,m1,ρ,G1,λ_ _ h=>h,R.step s1 w1,Tr.ok_mono k λ_ _ k'=>Ko.later k' s1.gs⟩,?_⟩
 rintro n mm σ2 H2 ⟨rfl,hn,m2,ρ2,G2,sb,R2,k2⟩
 obtain ⟨j1,j2⟩:=jo m2 G2 H2 sb R2.wd
 by_cases hlt:n < xs.length
 ·have hx:xs[n]?=some xs[n]:=by simp [hlt]
  obtain ⟨jg,jy⟩:=j1 n _ hx
  refine .inr ⟨jg,W (n+1) (xs.length - (n+1)),λσ' H' h'=>⟨_,by omega,h'⟩,λx H3 y=>?_⟩
  obtain ⟨G3,s3,w3,d3⟩:=jy x H3 y
  rw [List.drop_eq_getElem_cons hlt] at k2
  unfold cj at k2
  rw [Tr.ok_bind] at k2
  obtain ⟨ρ3,hg3,k3⟩:=Tr.ok_of k2
  refine ⟨pa,G₀,H₀,m2,ρ2,G3,_,ρ3,R2.step s3 w3,d3,hg3,λσ4 R4=>?_⟩
  refine ⟨pa,G₀,H₀,m2,ρ3,G3,R4,Tr.ok_mono (Tr.ok_bind.mp k3) λm5 o ko=>?_⟩
  have again:∀ ρ5,(cj g s (xs.drop (n+1)) ρ5).ok m5 (Ko PK pa G₀ H₀ G1 D)->∀ σ5 G5 H5,Sub G3 G5->Rl PK pa G₀ H₀ m5 σ5 ρ5 G5 H5->W (n+1) (xs.length - (n+1)) σ5 H5:=λρ5 k5 σ5 G5 H5 sb5 R5 =>
   ⟨rfl,hlt,m5,ρ5,G5,(sb.trans s3.gs).trans sb5,R5,k5⟩
  cases o with
  | next ρ5=>exact again ρ5 ko
  | cont ρ5=>exact again ρ5 ko
  | brk ρ5=>exact λσ5 G5 H5 sb5 R5=>ko σ5 G5 H5 ((sb.trans s3.gs).trans sb5) R5
  | ret r=>exact ko
 ·have e:n=xs.length:=by omega
  subst e
  refine .inl ⟨j2,?_⟩
  rw [List.drop_length] at k2
  exact k2 σ2 G2 H2 sb R2
end L2
set_option Elab.async false
set_option linter.all false
set_option maxRecDepth 100000
namespace L2
open PySem PySem.Spec PyProof.Rows
variable {PK:Pk} {X:Cx} {a b c e:Expr} {es:List Expr} {pos:Pos} {i j l:List Sl->Tr PyData} {is:List Sl->Tr (List PyData)} {as:List Sl->Tr (List Sl)} {f:List Sl->Tr Re} {p q:List Sl->Tr Bool} {st:Stmt} {sts:List Stmt} {s t u:List Sl->Tr Ou}
noncomputable def dt (p:List Sl->Tr Bool) (s:List Sl->Tr Ou):Nat->List Sl->Tr Ou
 | 0,_=>.fail
 | n+1,ρ=>(p ρ).bind λb=>if b=true then (s ρ).bind λo=>match o with
   | .next ρ2=>dt p s n ρ2
   | .cont ρ2=>dt p s n ρ2
   | .brk ρ2=>.ret (.next ρ2)
   | .ret r=>.ret (.ret r)
  else .ret (.next ρ)
theorem ZeW {body:List Stmt} (n:Nat) (hp:PassesOwn (model X.prog X.w) X.A X.env X.xe) (hc:PT X c (TAt PK p)) (hb:PSs X body (bw PK s)):PS X (.While c body [] pos) (bw PK (dt p s n)):=(Zho hp hc hb).imp λD σ H hz0=>by
 obtain ⟨pa,G₀,H₀,m,ρ,G,R,z⟩:=hz0
 let W:Nat->St->Hp->Prop:=λn σ H=>∃ m ρ G1,Sub G G1/\Rl PK pa G₀ H₀ m σ ρ G1 H/\(dt p s n ρ).ok m (Ko PK pa G₀ H₀ G D)
 refine ⟨W,⟨n,m,ρ,G,.refl,R,z⟩,?_⟩
 rintro n σ2 H2 ⟨m2,ρ2,G2,sb,R2,k2⟩
 cases n with
 | zero=>exact k2.elim
 | succ n =>
  unfold dt at k2
  refine TAt.then R2 k2 λm3 x G3 H3 s3 w3 R3 k3=>?_
  cases x with
  | false =>
   rw [if_neg Bool.false_ne_true] at k3 ⊢
   exact k3 σ2 G3 H3 (sb.trans s3.gs) R3
  | true =>
   rw [if_pos rfl] at k3 ⊢
   refine ⟨W n,λσ' H' h=>⟨n,by omega,h⟩,pa,G₀,H₀,m3,ρ2,G3,R3,Tr.ok_mono (Tr.ok_bind.mp k3) λm4 o ko=>?_⟩
   have again:∀ ρ5,(dt p s n ρ5).ok m4 (Ko PK pa G₀ H₀ G D)->∀ σ5 G5 H5,Sub G3 G5->Rl PK pa G₀ H₀ m4 σ5 ρ5 G5 H5->W n σ5 H5:=λρ5 k5 σ5 G5 H5 sb5 R5 =>
    ⟨m4,ρ5,G5,(sb.trans s3.gs).trans sb5,R5,k5⟩
   cases o with
   | next ρ5=>exact again ρ5 ko
   | cont ρ5=>exact again ρ5 ko
   | brk ρ5=>exact λσ5 G5 H5 sb5 R5=>ko σ5 G5 H5 ((sb.trans s3.gs).trans sb5) R5
   | ret r=>exact ko
noncomputable def qU:Sl->Sl
 | .own _=>.un
 | .dic _=>.un
 | s=>s
noncomputable def blk (n:Nat) (ix:List Nat) (ρ:List Sl):List Sl:=List.replicate n .un++ix.map λj=>qU ((ρ[j]?).getD .un)
theorem Rl.blk {pa:Addr} {G₀ H₀ G H:Hp} {m:Nat} {σ:St} {ρ:List Sl} (R:Rl PK pa G₀ H₀ m σ ρ G H) (n:Nat) (ix:List Nat):Rl PK pa G₀ H₀ m (cy n ix σ) (blk n ix ρ) G H:=by
 have key:∀ (k:Nat) (s:Sl),(L2.blk n ix ρ)[k]?=some s->(∃ o,(cy n ix σ)[k]?=some o/\SlOk pa H₀ G H o s)/\(∀ xs,s≠.own xs)/\∀ xs,s≠.dic xs:=λk s h=>by
  unfold L2.blk at h
  unfold cy
  by_cases hk:k < n
  ·rw [List.getElem?_append_left (by simpa using hk),List.getElem?_replicate,if_pos hk] at h
   rw [List.getElem?_append_left (by simpa using hk),List.getElem?_replicate,if_pos hk]
   cases h
   exact ⟨⟨_,rfl,.un⟩,(λxs h=>by cases h),λxs h=>by cases h⟩
  ·rw [List.getElem?_append_right (by simpa using Nat.le_of_not_lt hk),List.length_replicate,List.getElem?_map] at h
   rw [List.getElem?_append_right (by simpa using Nat.le_of_not_lt hk),List.length_replicate,List.getElem?_map]
   cases hj:ix[k - n]? with
   | none=>rw [hj] at h; cases h
   | some j =>
    rw [hj] at h
    have h':qU ((ρ[j]?).getD .un)=s:=Option.some.inj h
    subst h'
    show (∃ o,some ((σ[j]?).getD none)=some o/\_)/\_
    cases hr:ρ[j]? with
    | none=>exact ⟨⟨_,rfl,.un⟩,(λxs h=>by cases h),λxs h=>by cases h⟩
    | some s' =>
     obtain ⟨o,h1,h2⟩:=R.sl j s' hr
     rw [h1]
     cases h2 with
     | un=>exact ⟨⟨_,rfl,.un⟩,(λxs h=>by cases h),λxs h=>by cases h⟩
     | d z=>exact ⟨⟨_,rfl,.d z⟩,(λxs h=>by cases h),λxs h=>by cases h⟩
     | own _ _ _ _=>exact ⟨⟨_,rfl,.un⟩,(λxs h=>by cases h),λxs h=>by cases h⟩
     | dic _ _ _ _=>exact ⟨⟨_,rfl,.un⟩,(λxs h=>by cases h),λxs h=>by cases h⟩
     | pen=>exact ⟨⟨_,rfl,.pen⟩,(λxs h=>by cases h),λxs h=>by cases h⟩
 refine ⟨R.wd,R.st,R.p0,λk s h=>(key k s h).1,?_,λk n' xs ys _ h1 _=>absurd rfl ((key k _ h1).2.1 xs),λk n' xs ys _ h1 _=>absurd rfl ((key k _ h1).2.2 xs)⟩
 unfold L2.blk cy
 simp
noncomputable def eK (n:Nat) (g:PyData->List Sl->Option (List Sl)):Prop:=∀ x ρ ρ',g x ρ=some ρ'->ρ'.length=ρ.length/\∀ k,n<=k->ρ'[k]?=ρ[k]?
noncomputable def nq (n:Nat) (g:List PyData->List Sl->Option (List Sl)):Prop:=∀ x ρ ρ',g x ρ=some ρ'->ρ'.length=ρ.length/\∀ k,n<=k->ρ'[k]?=ρ[k]?
theorem bv {n k:Nat} (h:k < n):eK n (ah k):=λx ρ ρ' e=>by
 cases e
 exact ⟨List.length_set,λj hj=>List.getElem?_set_ne (by omega)⟩
theorem dP {n:Nat}:nq n aW:=λx ρ ρ' e=>by
 cases x with
 | nil=>cases e; exact ⟨rfl,λ_ _=>rfl⟩
 | cons _ _=>cases e
theorem bX {n:Nat} {g:PyData->List Sl->Option (List Sl)} {gs:List PyData->List Sl->Option (List Sl)} (h1:eK n g) (h2:nq n gs):nq n (ak g gs):=λx ρ ρ' e=>by
 cases x with
 | nil=>cases e
 | cons x xs =>
  have e':(g x ρ).bind (λρ'=>gs xs ρ')=some ρ':=e
  cases h:g x ρ with
  | none=>rw [h] at e'; cases e'
  | some ρ1 =>
   rw [h] at e'
   obtain ⟨a1,a2⟩:=h1 x ρ ρ1 h
   obtain ⟨b1,b2⟩:=h2 xs ρ1 ρ' e'
   exact ⟨b1.trans a1,λk hk=>(b2 k hk).trans (a2 k hk)⟩
theorem dO {n:Nat} {gs:List PyData->List Sl->Option (List Sl)} (h2:nq n gs):eK n (aX gs):=λx ρ ρ' e=>by
 cases x with
 | tuple xs=>exact h2 xs ρ ρ' e
 | _=>cases e
noncomputable def aU (h:PyData->Tr PyData):List PyData->Tr (List PyData)
 | []=>.ret []
 | x::xs=>(h x).bind λy=>(aU h xs).bind λys=>.ret (y::ys)
noncomputable def bZ (is:List Sl->Tr (List PyData)) (n:Nat) (ix:List Nat) (g:PyData->List Sl->Option (List Sl)) (el:List Sl->Tr PyData):List Sl->Tr (List PyData):=λρ =>
 (is ρ).bind λxs=>if small xs.length=true then aU (λx=>(Tr.of (g x (blk n ix ρ))).bind el) xs else .fail
theorem Rl.weak {pa:Addr} {G₀ H₀ G H:Hp} {m:Nat} {σ:St} {ρ ρ':List Sl} (R:Rl PK pa G₀ H₀ m σ ρ' G H) (hl:ρ'.length=ρ.length) (h:∀ (k:Nat) (s:Sl),ρ[k]?=some s->s=.un\/ρ'[k]?=some s):Rl PK pa G₀ H₀ m σ ρ G H:=by
 refine ⟨R.wd,R.st,R.p0,λk s hk=>?_,hl.symm.trans R.len,λk n xs ys hkn h1 h2=>?_,λk n xs ys hkn h1 h2=>?_⟩
 ·rcases h k s hk with e | e
  ·subst e
   have hlt:k < σ.length:=by
    rw [<- R.len,hl]
    exact (List.getElem?_eq_some_iff.mp hk).1
   exact ⟨σ[k],by simp [hlt],.un⟩
  ·exact R.sl k s e
 ·rcases h k _ h1 with e | e
  ·cases e
  ·rcases h n _ h2 with e' | e'
   ·cases e'
   ·exact R.dj k n xs ys hkn e e'
 ·rcases h k _ h1 with e | e
  ·cases e
  ·rcases h n _ h2 with e' | e'
   ·cases e'
   ·exact R.dj2 k n xs ys hkn e e'
theorem qe {n:Nat} {ix:List Nat} {g:PyData->List Sl->Option (List Sl)} (hn:eK n g):∀ σ H Q,fb PK (bZ is n ix g i) σ H Q->ie (cP PK is) n ix (λ_=>dH PK g) (λ_=>TAe PK i) σ H Q:=by
 rintro σ H Q ⟨pa,G₀,H₀,m,ρ,G,R,z⟩
 refine ⟨pa,G₀,H₀,m,ρ,G,R,Tr.ok_mono (Tr.ok_bind.mp z) λm1 xs k J G1 H1 s1 w1 jo=>λB=>?_⟩
 obtain ⟨hs,k⟩:=gl k
 have hs:xs.length<=sizeLine:=of_decide_eq_true hs
 let el:PyData->Tr PyData:=λx=>(Tr.of (g x (blk n ix ρ))).bind i
 let W:Nat->Nat->St->List V->Hp->Prop:=λk mm τ ys H2=>mm=xs.length - k/\k<=xs.length/\ys.length=k/\∃ m G2 ds,Sub G1 G2/\Stp pa G H G2 H2/\Rl PK pa G₀ H₀ m τ (blk n ix ρ) G2 H2 /\
  DnAll G2 ys ds/\(aU el (xs.drop k)).ok m λm' zs=>Ko1 PK pa m' G H (ds++zs) Q
 refine ⟨W,⟨xs.length,rfl,Nat.zero_le _,rfl,m1,G1,[],.refl,s1,(R.step s1 w1).blk n ix,.nil,k⟩,?_⟩
 rintro k mm τ ys H2 ⟨rfl,hk,hy,m2,G2,ds,sb,st2,R2,dn,k2⟩
 obtain ⟨j1,j2⟩:=jo m2 G2 H2 sb R2.wd
 by_cases hlt:k < xs.length
 ·have hx:xs[k]?=some xs[k]:=by simp [hlt]
  obtain ⟨jg,jy⟩:=j1 k _ hx
  refine .inr ⟨jg,by omega,λx H3 y=>?_⟩
  obtain ⟨G3,s3,w3,d3⟩:=jy x H3 y
  rw [List.drop_eq_getElem_cons hlt] at k2
  unfold aU at k2
  rw [Tr.ok_bind,Tr.ok_bind] at k2
  obtain ⟨ρ3,hg3,k3⟩:=Tr.ok_of k2
  refine ⟨pa,G₀,H₀,m2,_,G3,_,ρ3,R2.step s3 w3,d3,hg3,λτ4 R4=>?_⟩
  refine ⟨pa,G₀,H₀,m2,ρ3,G3,R4,Tr.ok_mono k3 λm5 yd k5=>?_⟩
  intro v G5 H5 s5 w5 d5
  have s35:=s3.trans s5 w3.some
  obtain ⟨pl,pk⟩:=hn _ _ _ hg3
  refine ⟨xs.length - (k+1),by omega,rfl,hlt,by rw [List.length_append,hy]; rfl,m5,G5,ds++[yd],sb.trans s35.gs,st2.trans s35 R2.wd.some,?_,(DnAll.mono s35.gs dn).snoc d5,?_⟩
  ·refine (R4.step s5 w5).weak pl λq sl hq=>?_
   by_cases hqn:q < n
   ·left
    unfold blk at hq
    rw [List.getElem?_append_left (by simpa using hqn),List.getElem?_replicate,if_pos hqn] at hq
    cases hq
    rfl
   ·right
    rw [pk q (Nat.le_of_not_lt hqn)]
    exact hq
  ·refine Tr.ok_mono (Tr.ok_bind.mp k5) λm6 zs k6=>?_
   rw [List.append_assoc]
   exact k6
 ·have e:k=xs.length:=by omega
  subst e
  refine .inl ⟨j2,λp v H' hp ev eH=>?_⟩
  subst ev eH
  rw [List.drop_length] at k2
  have k2':Ko1 PK pa m2 G H (ds++[]) Q:=k2
  rw [List.append_nil] at k2'
  exact (Ko1.later k2' st2 R2.wd.some).new R2.wd dn hp
theorem cU {n:Nat} {ix:List Nat} {g:PyData->List Sl->Option (List Sl)} (h:PE X e (ie (cP PK is) n ix (λ_=>dH PK g) (λ_=>TAe PK i))) (hn:eK n g):PE X e (fb PK (bZ is n ix g i)):=h.imp (qe hn)
theorem oh {te te':TE} {g:TG} (h:∀ σ H Q,te' σ H Q->te σ H Q):∀ D σ H,dJ te' g D σ H->dJ te g D σ H:=λD σ H z=>h σ H _ z
theorem ZnG {n k:Nat} {ix:List Nat} {g:PyData->List Sl->Option (List Sl)} (h:PS X st (dJ (ie (cP PK is) n ix (λ_=>dH PK g) (λ_=>TAe PK i)) (eA k))) (hn:eK n g):PS X st (bw PK (ft k (bZ is n ix g i))) :=
 hU (h.imp (oh (qe hn)))
noncomputable def mG:Ou->Tr Re
 | .next _=>.ret (.d .none)
 | .ret r=>.ret r
 | _=>.fail
noncomputable def bj (n k:Nat) (s:List Sl->Tr Ou):List Sl->Tr Re:=λas=>if decide (as.length=n)=true then (s (as++List.replicate k .un)).bind mG else .fail
theorem Rl.start {pa:Addr} {G H:Hp} {m:Nat} {N:List Str} {vs:List V} {as:List Sl} {k:Nat} (w:Wd PK pa m G H) (ar:ArsOk pa G vs as) (hk:N.length - vs.length=k):Rl PK pa G H m (L2.start N vs) (as++List.replicate k .un) G H:=by
 have key:∀ {vs:List V} {as:List Sl},ArsOk pa G vs as->∀ (q:Nat) (s:Sl),as[q]?=some s->(∃ o,(vs.map some)[q]?=some o/\SlOk pa H G H o s)/\(∀ xs,s≠.own xs)/\∀ xs,s≠.dic xs:=by
  intro vs as h
  induction h with
  | nil=>intro q s h; simp at h
  | cons h1 h2 ih =>
   intro q s h
   cases q with
   | zero =>
    simp at h
    subst h
    cases h1 with
    | d z=>exact ⟨⟨_,rfl,.d z⟩,(λxs h=>by cases h),λxs h=>by cases h⟩
    | pen=>exact ⟨⟨_,rfl,.pen⟩,(λxs h=>by cases h),λxs h=>by cases h⟩
   | succ q =>
    obtain ⟨⟨o,p1,p2⟩,p3⟩:=ih q s (by simpa using h)
    exact ⟨⟨o,by simpa using p1,p2⟩,p3⟩
 have hl:=ar.length
 have key2:∀ (q:Nat) (s:Sl),(as++List.replicate k .un)[q]?=some s->(∃ o,(L2.start N vs)[q]?=some o/\SlOk pa H G H o s)/\(∀ xs,s≠.own xs)/\∀ xs,s≠.dic xs:=λq s h=>by
  unfold L2.start
  by_cases hq:q < as.length
  ·rw [List.getElem?_append_left hq] at h
   rw [List.getElem?_append_left (by rw [List.length_map,hl]; exact hq)]
   exact key ar q s h
  ·rw [List.getElem?_append_right (by omega),List.getElem?_replicate] at h
   rw [List.getElem?_append_right (by rw [List.length_map]; omega),List.getElem?_replicate,List.length_map,hl]
   split at h
   ·rename_i hq2
    cases h
    rw [if_pos (by omega)]
    exact ⟨⟨_,rfl,.un⟩,(λxs h=>by cases h),λxs h=>by cases h⟩
   ·cases h
 refine ⟨w,.refl,w.some,λq s h=>(key2 q s h).1,?_,λq n xs ys _ h1 _=>absurd rfl ((key2 q _ h1).2.1 xs),λq n xs ys _ h1 _=>absurd rfl ((key2 q _ h1).2.2 xs)⟩
 unfold L2.start
 simp [hl,hk]
 omega
theorem bC {P:Program} {w:World} {K:PySem.W.Frag} {mg:Str->Option Value} {base:Heap} {x:Str} {N ps:List Str} {kk k:Nat} (D:Def K mg x st ps) (S:FnScope N ps (aG st)) (hk:N.length - ps.length=k)
  (hbody:∀ (f:Addr) (cdv:Value) (A:Around) (outer:List Env) (sh:Shared) (H:Hp) (E:XK),Room kk (A.deeper (envOfC x (aG st) sh.heap.objs.size f cdv)) ->
   PSs (gA gI P w K mg base N x (aG st) f cdv A outer sh H E).nox (fV st) (bw PK s)):ACal PK P w K mg base x (kk+1) ps (bj ps.length k s):=by
 have len:∀ as m Z,(bj ps.length k s as).ok m Z->as.length=ps.length:=λas m Z h=>by
  unfold bj at h
  exact of_decide_eq_true (gl h).1
 refine ⟨D.ok S (λvs H Q E h=>h.1) λf cdv A outer sh H vs Q E hr hsp=>?_,len⟩
 obtain ⟨hv,pa,m,G,as,wd,ar,z⟩:=hsp
 refine ⟨_,hbody f cdv A outer sh H E hr,?_⟩
 unfold bj at z
 obtain ⟨_,z⟩:=gl z
 refine ⟨pa,G,H,m,_,G,Rl.start wd ar (by rw [hv]; exact hk),Tr.ok_mono (Tr.ok_bind.mp z) λm1 o ko=>?_⟩
 cases o with
 | next ρ=>exact λσ G1 H1 sb R1=>ko .non G1 H1 R1.st R1.wd .non
 | ret r=>exact ko
 | brk ρ=>exact ko.elim
 | cont ρ=>exact ko.elim
theorem Zhv {tg l:Expr} {tl:TE} (hl:PE X l tl):PI X tg l (λσ H R=>tl σ H λx H1=>∃ a,x=.ref a/\((∃ xs,SqL X.K H1 a xs/\R (rH X.K a) H1)\/(∃ xs,SqT X.K H1 a xs/\R (rG X.K a) H1))):=by
 intro pins s σ H R I h
 refine thn (hl pins s σ H _ I h) λv s1 hz0=>?_
 obtain ⟨x,H1,I1,r1,q1⟩:=hz0
 obtain ⟨a,e,q⟩:=q1
 subst e
 cases r1
 rcases q with ⟨xs,hq,q⟩ | ⟨xs,hq,q⟩
 ·obtain ⟨its,rv,p,hz⟩:=I1.list hq
  refine wpAny_pyIter_list p.isList ?_
  refine ⟨s1.heap.objs.size,[s1.heap.objs.size],_,_,H1,rfl,I1.kept (t':=s1.toks) λb o e=>Heap.get?_push_of_some _ e,ZfD a _,⟨_,Heap.get?_push_size _ rfl,rfl,rfl⟩,λb hb=>?_,q⟩
  have e:b=s1.heap.objs.size:=by simpa using hb
  subst e
  exact I1.fpOk (Nat.le_refl _) (I1.hok.fresh (Nat.le_refl _))
 ·obtain ⟨its,rv,p,hz⟩:=I1.tuple hq
  refine wpAny_pyIter_tuple (show s1.heap.IsTuple a its.toArray from p) ?_
  refine ⟨s1.heap.objs.size,[s1.heap.objs.size],_,_,H1,rfl,I1.kept (t':=s1.toks) λb o e=>Heap.get?_push_of_some _ e,ZfA a _,⟨_,Heap.get?_push_size _ rfl,rfl,rfl⟩,λb hb=>?_,q⟩
  have e:b=s1.heap.objs.size:=by simpa using hb
  subst e
  exact I1.fpOk (Nat.le_refl _) (I1.hok.fresh (Nat.le_refl _))
theorem DnAll.get {H:Hp}:∀ {vs:List V} {ds:List PyData} (n:Nat) {d:PyData},DnAll H vs ds->ds[n]?=some d->∃ v,vs[n]?=some v/\Dn H v d
 | _,_,_,_,.nil,e=>by simp at e
 | _,_,0,_,.cons g t,e=>by simp at e; subst e; exact ⟨_,rfl,g⟩
 | _,_,n+1,_,.cons g t,e=>by
  obtain ⟨v,h1,h2⟩:=DnAll.get n t (by simpa using e)
  exact ⟨v,by simpa using h1,h2⟩
theorem ZiQ {K:PySem.W.Frag} {pa a:Addr} {G:Hp} {vs:List V} {xs:List PyData} (h:G a=some (.lst vs)) (d:DnAll G vs xs):gG PK pa (rH K a) G xs:=λm G2 H2 sb w=>by
 have hq:SqL K H2 a vs:=SqL.of (w.sub _ _ (sb _ _ h))
 refine ⟨λn x hx=>?_,vs,hq,by rw [d.length]; exact Nat.le_refl _⟩
 obtain ⟨v,hv,dv⟩:=d.get n hx
 refine ⟨⟨vs,v,hq,hv⟩,λy H3 hz0=>?_⟩
 obtain ⟨e,hy⟩:=hz0
 subst e
 have:=hy vs hq
 rw [hv] at this
 cases this
 exact ⟨G2,.refl,w,dv.mono sb⟩
theorem ZiO {K:PySem.W.Frag} {pa a:Addr} {G:Hp} {vs:List V} {xs:List PyData} (h:G a=some (.tup vs)) (d:DnAll G vs xs):gG PK pa (rG K a) G xs:=λm G2 H2 sb w=>by
 have hq:SqT K H2 a vs:=SqT.of (w.sub _ _ (sb _ _ h))
 refine ⟨λn x hx=>?_,vs,hq,by rw [d.length]; exact Nat.le_refl _⟩
 obtain ⟨v,hv,dv⟩:=d.get n hx
 refine ⟨⟨vs,v,hq,hv⟩,λy H3 hz0=>?_⟩
 obtain ⟨e,hy⟩:=hz0
 subst e
 have:=hy vs hq
 rw [hv] at this
 cases this
 exact ⟨G2,.refl,w,dv.mono sb⟩
noncomputable def eV:PyData->Option (List PyData)
 | .list xs=>some xs
 | .tuple xs=>some xs
 | _=>none
@[simp] theorem ZoA (xs:List PyData):eV (.list xs)=some xs:=rfl
@[simp] theorem Zoz (xs:List PyData):eV (.tuple xs)=some xs:=rfl
noncomputable def cW (i:List Sl->Tr PyData):List Sl->Tr (List PyData):=λρ=>(i ρ).bind λx=>Tr.of (eV x)
theorem dr {tg l:Expr} (hl:PE X l (TAe PK i)):PI X tg l (cP PK (cW i)):=(Zhv hl).imp λσ H R0 hz0=>by
 obtain ⟨pa,G₀,H₀,m,ρ,G,R,z⟩:=hz0
 refine TAe.then R z λm1 x v G1 H1 s1 w1 R1 d1 q1=>?_
 obtain ⟨xs,hx,q1⟩:=Tr.ok_of q1
 cases d1 with
 | lst h1 h2=>cases hx; exact ⟨_,rfl,.inl ⟨_,SqL.of (w1.sub _ _ h1),q1 _ G1 H1 s1 w1 (ZiQ h1 h2)⟩⟩
 | tup h1 h2=>cases hx; exact ⟨_,rfl,.inr ⟨_,SqT.of (w1.sub _ _ h1),q1 _ G1 H1 s1 w1 (ZiO h1 h2)⟩⟩
 | _=>cases hx
noncomputable def bc (lo hi:Int):List PyData:=(aI lo (hi - lo).toNat).map PyData.int
theorem Zc2 {pa:Addr} {G:Hp} {lo:Int} {n:Nat}:gG PK pa (h7 lo n) G ((aI lo n).map PyData.int):=λm G2 H2 sb w=>by
 refine ⟨λk x hx=>?_,by show n<=_; rw [List.length_map,eQ]; exact Nat.le_refl _⟩
 have hk:k < n:=by
  have:=(List.getElem?_eq_some_iff.mp hx).1
  rwa [List.length_map,eQ] at this
 refine ⟨hk,λy H3 hz0=>?_⟩
 obtain ⟨e1,e2⟩:=hz0
 subst e1 e2
 have:x=.int (lo+k):=by
  unfold aI at hx
  simp [hk] at hx
  exact hx.symm
 subst this
 exact ⟨G2,.refl,w,.int _⟩
noncomputable def dq (n:Int):Bool:=decide (-(2 ^ 62)<=n/\n < 2 ^ 62)
noncomputable def ip:List PyData->Option (List PyData)
 | [.int n]=>if dq n=true then some (bc 0 n) else none
 | _=>none
noncomputable def io:List PyData->Option (List PyData)
 | [.int k,.int n]=>if (dq k && dq n)=true then some (bc k n) else none
 | _=>none
noncomputable def gD (is:List Sl->Tr (List PyData)):List Sl->Tr (List PyData):=λρ=>(is ρ).bind λxs=>Tr.of (ip xs)
noncomputable def i8 (is:List Sl->Tr (List PyData)):List Sl->Tr (List PyData):=λρ=>(is ρ).bind λxs=>Tr.of (io xs)
theorem Zby {G:Hp} {vs:List V} {xs ys:List PyData} (d:DnAll G vs xs) (h:ip xs=some ys):∃ n:Int,vs=[.int n]/\-(2 ^ 62)<=n/\n < 2 ^ 62/\ys=bc 0 n:=by
 unfold ip at h
 split at h
 ·rename_i n
  split at h
  ·rename_i hn
   cases h
   cases d with
   | cons d1 d2 =>
    cases d2
    cases d1
    have:=of_decide_eq_true hn
    exact ⟨n,rfl,this.1,this.2,rfl⟩
  ·cases h
 ·cases h
theorem Zbx {G:Hp} {vs:List V} {xs ys:List PyData} (d:DnAll G vs xs) (h:io xs=some ys):∃ k n:Int,vs=[.int k,.int n]/\(-(2 ^ 62)<=k/\k < 2 ^ 62/\-(2 ^ 62)<=n/\n < 2 ^ 62)/\ys=bc k n:=by
 unfold io at h
 split at h
 ·rename_i k n
  split at h
  ·rename_i hn
   cases h
   cases d with
   | cons d1 d2 =>
    cases d2 with
    | cons d2 d3 =>
     cases d3
     cases d1
     cases d2
     rw [Bool.and_eq_true] at hn
     have h1:=of_decide_eq_true hn.1
     have h2:=of_decide_eq_true hn.2
     exact ⟨k,n,rfl,⟨h1.1,h1.2,h2.1,h2.2⟩,rfl⟩
  ·cases h
 ·cases h
theorem iZ {tg e:Expr} (h:PI X tg e (Zde (TAd PK is))):PI X tg e (cP PK (gD is)):=h.imp λσ H R0 hz0=>by
 obtain ⟨pa,G₀,H₀,m,ρ,G,R,z⟩:=hz0
 refine TAd.then R z λm1 xs vs G1 H1 s1 w1 R1 d1 q1=>?_
 obtain ⟨ys,hy,q1⟩:=Tr.ok_of q1
 obtain ⟨n,e,h1,h2,rfl⟩:=Zby d1 hy
 refine ⟨n,e,h1,h2,?_⟩
 have q:=q1 (h7 0 n.toNat) G1 H1 s1 w1
 unfold bc at q
 rw [Int.sub_zero] at q
 exact q Zc2
theorem rc {tg e:Expr} (h:PI X tg e (Zdd (TAd PK is))):PI X tg e (cP PK (i8 is)):=h.imp λσ H R0 hz0=>by
 obtain ⟨pa,G₀,H₀,m,ρ,G,R,z⟩:=hz0
 refine TAd.then R z λm1 xs vs G1 H1 s1 w1 R1 d1 q1=>?_
 obtain ⟨ys,hy,q1⟩:=Tr.ok_of q1
 obtain ⟨k,n,e,h1,rfl⟩:=Zbx d1 hy
 exact ⟨k,n,e,h1,q1 (h7 k (n - k).toNat) G1 H1 s1 w1 Zc2⟩
end L2
set_option Elab.async false
set_option linter.all false
set_option maxRecDepth 100000
namespace L2
open PySem PySem.Spec PyProof.Rows
variable {PK:Pk} {X:Cx} {a b c e:Expr} {es:List Expr} {pos:Pos} {i j l:List Sl->Tr PyData} {is:List Sl->Tr (List PyData)}
noncomputable def fit (n:Int):Bool:=decide (n.natAbs < 2 ^ 8000)
noncomputable def bf:PyData->PyData->Option PyData
 | .int m,.int n=>some (.int (m+n))
 | .tuple xs,.tuple ys=>if (!xs.isEmpty && small (xs.length+ys.length))=true then some (.tuple (xs++ys)) else none
 | .list xs,.list ys=>if small (xs.length+ys.length)=true then some (.list (xs++ys)) else none
 | _,_=>none
noncomputable def pd (K:PySem.W.Frag):R2:=λx y H Q=>dN (λi j=>.int (i+j)) x y H Q\/ZbX K x y H Q\/ZbZ x y H Q
theorem bG:OpR X (binaryOp .Add) (pd X.K):=gS.or (ZhT.or ZhV)
theorem bF {K:PySem.W.Frag}:cH (pd K) bf:=λPK pa m G H x y dx dy dz Q w hx hy hz k=>by
 unfold bf at hz
 split at hz
 ·cases hz; cases hx; cases hy
  exact .inl ⟨_,_,rfl,rfl,k.here w (.int _)⟩
 ·rename_i xs ys
  split at hz
  ·rename_i hc
   rw [Bool.and_eq_true] at hc
   have h1:xs.isEmpty=false:=by simpa using hc.1
   have h2:xs.length+ys.length<=sizeLine:=of_decide_eq_true hc.2
   cases hz
   cases hx with
   | tup a1 a2 =>
    cases hy with
    | tup b1 b2 =>
     refine .inr (.inl ⟨_,_,_,_,rfl,rfl,SqT.of (w.sub _ _ a1),SqT.of (w.sub _ _ b1),?_,by rw [a2.length,b2.length]; exact h2,λe=>?_,λe p hp=>k.tup w (a2.append b2) hp⟩)
     ·intro e
      rw [<- a2.isEmpty,e] at h1
      cases h1
     ·subst e
      cases b2
      refine k.here w ?_
      rw [List.append_nil]
      exact .tup a1 a2
  ·cases hz
 ·rename_i xs ys
  split at hz
  ·rename_i hc
   have h2:xs.length+ys.length<=sizeLine:=of_decide_eq_true hc
   cases hz
   cases hx with
   | lst a1 a2 =>
    cases hy with
    | lst b1 b2=>exact .inr (.inr ⟨_,_,_,_,rfl,rfl,w.sub _ _ a1,w.sub _ _ b1,by rw [a2.length,b2.length]; exact h2,λp hp=>k.lst w (a2.append b2) hp⟩)
  ·cases hz
 ·cases hz
noncomputable def cI:PyData->PyData->Option PyData
 | .int m,.int n=>some (.int (m - n))
 | _,_=>none
theorem di:cH (dN λi j=>.int (i - j)) cI:=λPK pa m G H x y dx dy dz Q w hx hy hz k=>by
 unfold cI at hz
 split at hz
 ·cases hz; cases hx; cases hy
  exact ⟨_,_,rfl,rfl,k.here w (.int _)⟩
 ·cases hz
theorem DnAll.rep {H:Hp} {vs:List V} {ds:List PyData} (h:DnAll H vs ds):∀ k:Nat,DnAll H (List.replicate k vs).flatten (List.replicate k ds).flatten
 | 0=>.nil
 | k+1=>by
  rw [List.replicate_succ,List.replicate_succ,List.flatten_cons,List.flatten_cons]
  exact h.append (h.rep k)
noncomputable def ZbP (K:PySem.W.Frag):R2:=λx y H Q=>rI CMulG (λi j=>.int (i * j)) x y H Q\/ZbM K x y H Q\/o9 x y H Q
theorem bM:OpR X (binaryOp .Mult) (ZbP X.K):=ZhO.or (ZhL.or Zcn)
noncomputable def bA:PyData->PyData->Option PyData
 | .int m,.int n=>if (fit m && fit n)=true then some (.int (m * n)) else none
 | .tuple xs,.int n=>if (decide (1 < n) && decide (n<=1000) && !xs.isEmpty && decide (xs.length<=1000))=true then some (.tuple (List.replicate n.toNat xs).flatten) else none
 | .list xs,.int n=>if (decide (-(2 ^ 63)<=n) && decide (n < 2 ^ 63) && small (xs.length * n.toNat))=true then some (.list (List.replicate n.toNat xs).flatten) else none
 | _,_=>none
theorem bK {K:PySem.W.Frag}:cH (ZbP K) bA:=λPK pa m G H x y dx dy dz Q w hx hy hz k=>by
 unfold bA at hz
 split at hz
 ·split at hz
  ·rename_i hc
   rw [Bool.and_eq_true] at hc
   cases hz; cases hx; cases hy
   exact .inl ⟨_,_,rfl,rfl,⟨of_decide_eq_true hc.1,of_decide_eq_true hc.2⟩,k.here w (.int _)⟩
  ·cases hz
 ·split at hz
  ·rename_i hc
   simp only [Bool.and_eq_true,decide_eq_true_eq,Bool.not_eq_true'] at hc
   cases hz; cases hy
   cases hx with
   | tup a1 a2 =>
    refine .inr (.inl ⟨_,_,_,rfl,rfl,SqT.of (w.sub _ _ a1),hc.1.1.1,hc.1.1.2,?_,by rw [a2.length]; exact hc.2,λp hp=>k.tup w (a2.rep _) hp⟩)
    intro e
    have:=hc.1.2
    rw [<- a2.isEmpty,e] at this
    cases this
  ·cases hz
 ·split at hz
  ·rename_i hc
   simp only [Bool.and_eq_true,decide_eq_true_eq] at hc
   cases hz; cases hy
   cases hx with
   | lst a1 a2=>exact .inr (.inr ⟨_,_,_,rfl,rfl,w.sub _ _ a1,hc.1.1,hc.1.2,by rw [a2.length]; exact of_decide_eq_true hc.2,λp hp=>k.lst w (a2.rep _) hp⟩)
  ·cases hz
 ·cases hz
noncomputable def fm:PyData->PyData->Option PyData
 | .int m,.int n=>if (decide (n≠0) && fit n)=true then some (.int (m.fdiv n)) else none
 | _,_=>none
theorem jj:cH (rI Zfk λi j=>.int (i.fdiv j)) fm:=λPK pa m G H x y dx dy dz Q w hx hy hz k=>by
 unfold fm at hz
 split at hz
 ·split at hz
  ·rename_i hc
   rw [Bool.and_eq_true] at hc
   cases hz; cases hx; cases hy
   exact ⟨_,_,rfl,rfl,⟨of_decide_eq_true hc.1,of_decide_eq_true hc.2⟩,k.here w (.int _)⟩
  ·cases hz
 ·cases hz
noncomputable def fh:PyData->PyData->Option PyData
 | .int m,.int n=>if decide (n≠0)=true then some (.int (m.fmod n)) else none
 | _,_=>none
theorem kW:cH (rI (λ_ j=>j≠0) λi j=>.int (i.fmod j)) fh:=λPK pa m G H x y dx dy dz Q w hx hy hz k=>by
 unfold fh at hz
 split at hz
 ·split at hz
  ·rename_i hc
   cases hz; cases hx; cases hy
   exact ⟨_,_,rfl,rfl,of_decide_eq_true hc,k.here w (.int _)⟩
  ·cases hz
 ·cases hz
noncomputable def lM:PyData->PyData->Option PyData
 | .int m,.int n=>if (decide (0<=n) && decide (n<=1000000) && decide (m.natAbs < 2 ^ 64))=true then some (.int (m ^ n.toNat)) else none
 | _,_=>none
theorem Zft:cH (rI Zfj λi j=>.int (i ^ j.toNat)) lM:=λPK pa m G H x y dx dy dz Q w hx hy hz k=>by
 unfold lM at hz
 split at hz
 ·split at hz
  ·rename_i hc
   simp only [Bool.and_eq_true,decide_eq_true_eq] at hc
   cases hz; cases hx; cases hy
   exact ⟨_,_,rfl,rfl,⟨hc.1.1,hc.1.2,hc.2⟩,k.here w (.int _)⟩
  ·cases hz
 ·cases hz
noncomputable def eZ (i:List Sl->Tr PyData):List Sl->Tr PyData:=λρ=>(i ρ).bind λx=>match x with
 | .int n=>.ret (.int (-n))
 | _=>.fail
theorem gC (ha:PE X a (TAe PK i)):PE X (.UnaryOp .USub a pos) (TAe PK (eZ i)):=(ZhA Zfx ha).imp λσ H Q hz0=>by
 obtain ⟨pa,G₀,H₀,m,ρ,G,R,z⟩:=hz0
 refine TAe.then R z λm1 x v G1 H1 s1 w1 R1 d1 q1=>?_
 cases d1 with
 | int n=>exact ⟨n,rfl,(Kn.later q1 s1 w1.some).here w1 (.int _)⟩
 | _=>exact q1.elim
noncomputable def eC (f:Int->Int->Bool):PyData->PyData->Option PyData
 | .int m,.int n=>some (.bool (f m n))
 | _,_=>none
theorem fw {f:Int->Int->Bool}:cH (dN λi j=>.bl (f i j)) (eC f):=λPK pa m G H x y dx dy dz Q w hx hy hz k=>by
 unfold eC at hz
 split at hz
 ·cases hz; cases hx; cases hy
  exact ⟨_,_,rfl,rfl,k.here w (.bl _)⟩
 ·cases hz
noncomputable def gx:PyData->PyData->Option PyData
 | .str m,.str n=>some (.bool (m == n))
 | x,y=>if (SeqAt.shaped x && SeqAt.shaped y)=true then some (.bool (PyData.eqv x y)) else none
noncomputable def jL:PyData->PyData->Option PyData
 | .str m,.str n=>some (.bool (!(m == n)))
 | x,y=>if (SeqAt.shaped x && SeqAt.shaped y)=true then some (.bool (!PyData.eqv x y)) else none
noncomputable def ZbV:R2:=λx y H Q=>rEq x y H Q\/∃ d e,Dn H x d/\Dn H y e/\SeqAt.shaped d=true/\SeqAt.shaped e=true/\Q (.bl (PyData.eqv d e)) H
noncomputable def ZbN:R2:=λx y H Q=>rNe x y H Q\/∃ d e,Dn H x d/\Dn H y e/\SeqAt.shaped d=true/\SeqAt.shaped e=true/\Q (.bl (!PyData.eqv d e)) H
theorem lR {k:Nat} (hr:Room k X.A):OpR X (compareOp .Eq) ZbV:=ZhS.or (ZhR hr)
theorem Zco {k:Nat} (hr:Room k X.A):OpR X (compareOp .NotEq) ZbN:=ZhN.or (ZhM hr)
theorem kX:cH ZbV gx:=λPK pa m G H x y dx dy dz Q w hx hy hz k=>by
 unfold gx at hz
 split at hz
 ·cases hz; cases hx; cases hy
  exact .inl ⟨rfl,by rw [mO]; exact k.here w (.bl _)⟩
 ·split at hz
  ·rename_i hc
   rw [Bool.and_eq_true] at hc
   cases hz
   exact .inr ⟨_,_,hx.mono w.sub,hy.mono w.sub,hc.1,hc.2,k.here w (.bl _)⟩
  ·cases hz
theorem Zak:cH ZbN jL:=λPK pa m G H x y dx dy dz Q w hx hy hz k=>by
 unfold jL at hz
 split at hz
 ·cases hz; cases hx; cases hy
  exact .inl ⟨rfl,by rw [mO]; exact k.here w (.bl _)⟩
 ·split at hz
  ·rename_i hc
   rw [Bool.and_eq_true] at hc
   cases hz
   exact .inr ⟨_,_,hx.mono w.sub,hy.mono w.sub,hc.1,hc.2,k.here w (.bl _)⟩
  ·cases hz
noncomputable def aK:PyData->PyData->Option PyData
 | .list xs,.int n=>bp xs n
 | .tuple xs,.int n=>bp xs n
 | _,_=>none
theorem DnAll.at {H:Hp} {vs:List V} {ds:List PyData} {n:Int} {d:PyData} (h:DnAll H vs ds) (e:bp ds n=some d):∃ v,bp vs n=some v/\Dn H v d:=by
 unfold bp at e ⊢
 rw [<- h.length] at e
 cases hn:c7 vs.length n with
 | none=>rw [hn] at e; cases e
 | some j =>
  rw [hn] at e
  exact h.get j e
theorem bg {K:PySem.W.Frag}:cH (rIx K) aK:=λPK pa m G H x y dx dy dz Q w hx hy hz k=>by
 unfold aK at hz
 split at hz
 ·cases hy
  cases hx with
  | lst a1 a2 =>
   obtain ⟨v,h1,h2⟩:=a2.at hz
   exact .inl ⟨_,_,_,v,rfl,rfl,SqL.of (w.sub _ _ a1),h1,k.here w h2⟩
 ·cases hy
  cases hx with
  | tup a1 a2 =>
   obtain ⟨v,h1,h2⟩:=a2.at hz
   exact .inr (.inl ⟨_,_,_,v,rfl,rfl,SqT.of (w.sub _ _ a1),h1,k.here w h2⟩)
 ·cases hz
noncomputable def dA:List PyData->Option PyData
 | [.list xs]=>some (.int xs.length)
 | [.tuple xs]=>some (.int xs.length)
 | _=>none
theorem ic {K:PySem.W.Frag}:eJ (λxs H Q=>∃ p ys,xs=[.ref p]/\(SqL K H p ys\/SqT K H p ys)/\Q (.int ys.length) H) dA:=λPK pa m G H vs ds d Q w hv hd k=>by
 unfold dA at hd
 split at hd
 ·cases hd
  cases hv with
  | cons h1 h2 =>
   cases h2
   cases h1 with
   | lst a1 a2=>exact ⟨_,_,rfl,.inl (SqL.of (w.sub _ _ a1)),by rw [a2.length]; exact k.here w (.int _)⟩
 ·cases hd
  cases hv with
  | cons h1 h2 =>
   cases h2
   cases h1 with
   | tup a1 a2=>exact ⟨_,_,rfl,.inr (SqT.of (w.sub _ _ a1)),by rw [a2.length]; exact k.here w (.int _)⟩
 ·cases hd
noncomputable def m9 (n:Int):Int:=if n < 0 then -n else n
noncomputable def i6:List PyData->Option PyData
 | [.int n]=>some (.int (m9 n))
 | _=>none
theorem nW:eJ (λxs H Q=>∃ i,xs=[.int i]/\Q (.int (if i < 0 then -i else i)) H) i6:=λPK pa m G H vs ds d Q w hv hd k=>by
 unfold i6 at hd
 split at hd
 ·cases hd
  cases hv with
  | cons h1 h2=>cases h2; cases h1; exact ⟨_,rfl,k.here w (.int _)⟩
 ·cases hd
noncomputable def cE (m n:Int):Int:=if n > m then n else m
noncomputable def fi (m n:Int):Int:=if n < m then n else m
noncomputable def jQ:List PyData->Option PyData
 | [.int m,.int n]=>some (.int (cE m n))
 | _=>none
noncomputable def jP:List PyData->Option PyData
 | [.int m,.int n]=>some (.int (fi m n))
 | _=>none
theorem Zap:eJ (λxs H Q=>∃ i j,xs=[.int i,.int j]/\Q (.int (if j > i then j else i)) H) jQ:=λPK pa m G H vs ds d Q w hv hd k=>by
 unfold jQ at hd
 split at hd
 ·cases hd
  cases hv with
  | cons h1 h2=>cases h2 with | cons h2 h3=>cases h3; cases h1; cases h2; exact ⟨_,_,rfl,k.here w (.int _)⟩
 ·cases hd
theorem Zao:eJ (λxs H Q=>∃ i j,xs=[.int i,.int j]/\Q (.int (if j < i then j else i)) H) jP:=λPK pa m G H vs ds d Q w hv hd k=>by
 unfold jP at hd
 split at hd
 ·cases hd
  cases hv with
  | cons h1 h2=>cases h2 with | cons h2 h3=>cases h3; cases h1; cases h2; exact ⟨_,_,rfl,k.here w (.int _)⟩
 ·cases hd
noncomputable def cY:List PyData->Option PyData
 | [.list xs]=>some (.tuple xs)
 | [.tuple xs]=>some (.tuple xs)
 | _=>none
theorem dI {K:PySem.W.Frag}:eJ (λxs H Q=>∃ p ys,xs=[.ref p]/\((SqL K H p ys/\∀ l,H l=none->Q (.ref l) (upd H l (.tup ys)))\/(SqT K H p ys/\Q (.ref p) H))) cY:=λPK pa m G H vs ds d Q w hv hd k=>by
 unfold cY at hd
 split at hd
 ·cases hd
  cases hv with
  | cons h1 h2 =>
   cases h2
   cases h1 with
   | lst a1 a2=>exact ⟨_,_,rfl,.inl ⟨SqL.of (w.sub _ _ a1),λp hp=>k.tup w a2 hp⟩⟩
 ·cases hd
  cases hv with
  | cons h1 h2 =>
   cases h2
   cases h1 with
   | tup a1 a2=>exact ⟨_,_,rfl,.inr ⟨SqT.of (w.sub _ _ a1),k.here w (.tup a1 a2)⟩⟩
 ·cases hd
noncomputable def jw (d:PyData):Bool:=!d.hasDict && d.showable && decide (d.depth<=32) && decide (d.shown.length<=sizeLine)
noncomputable def ff:List PyData->Option PyData
 | [d]=>if jw d=true then some (.str d.shown) else none
 | _=>none
theorem ib:eJ (λxs H Q=>∃ v d,xs=[v]/\Dn H v d/\d.hasDict=false/\d.showable=true/\d.depth<=32/\d.shown.length<=sizeLine/\Q (.str d.shown) H) ff:=λPK pa m G H vs ds d Q w hv hd k=>by
 unfold ff at hd
 split at hd
 ·split at hd
  ·rename_i hc
   unfold jw at hc
   simp only [Bool.and_eq_true,decide_eq_true_eq,Bool.not_eq_true'] at hc
   cases hd
   cases hv with
   | cons h1 h2=>cases h2; exact ⟨_,_,rfl,h1.mono w.sub,hc.1.1.1,hc.1.1.2,hc.1.2,hc.2,k.here w (.str _)⟩
  ·cases hd
 ·cases hd
noncomputable def dC (xs:List PyData) (lo hi:Option Int):List PyData:=(xs.drop (HT.aJ xs.length 0 lo)).take (HT.aJ xs.length xs.length hi - HT.aJ xs.length 0 lo)
theorem DnAll.take {H:Hp}:∀ {vs:List V} {ds:List PyData} (n:Nat),DnAll H vs ds->DnAll H (vs.take n) (ds.take n)
 | _,_,0,_=>.nil
 | _,_,_+1,.nil=>.nil
 | _,_,n+1,.cons r t=>.cons r (DnAll.take n t)
theorem DnAll.drop {H:Hp}:∀ {vs:List V} {ds:List PyData} (n:Nat),DnAll H vs ds->DnAll H (vs.drop n) (ds.drop n)
 | _,_,0,r=>r
 | _,_,_+1,.nil=>.nil
 | _,_,n+1,.cons r t=>DnAll.drop n t
theorem DnAll.cut {H:Hp} {vs:List V} {ds:List PyData} (h:DnAll H vs ds) (lo hi:Option Int):DnAll H (eB vs lo hi) (dC ds lo hi):=by
 unfold eB dC
 rw [h.length]
 exact (h.drop _).take _
noncomputable abbrev eY:=List Sl->Tr (Option Int)
noncomputable def cO:eY:=λ_=>.ret none
noncomputable def cG (i:List Sl->Tr PyData):eY:=λρ=>(i ρ).bind λx=>match x with
 | .int n=>.ret (some n)
 | _=>.fail
noncomputable def TAp (PK:Pk) (i:eY):TO:=λσ H Q=>∃ pa G₀ H₀ m ρ G,Rl PK pa G₀ H₀ m σ ρ G H/\(i ρ).ok m λm' x=>∀ G' H',Stp pa G H G' H'->Wd PK pa m' G' H'->Q x H'
theorem PO.imp {e:Option Expr} {t t':TO} (h:PO X e t) (q:∀ σ H Q,t' σ H Q->t σ H Q):PO X e t':=λpins s σ H Q I z=>h pins s σ H Q I (q σ H Q z)
theorem db:PO X none (TAp PK cO):=Zb9.imp λσ H Q hz0=>by
 obtain ⟨pa,G₀,H₀,m,ρ,G,R,z⟩:=hz0
 exact z G H .refl R.wd
theorem c9 (h:PE X e (TAe PK i)):PO X (some e) (TAp PK (cG i)):=(Zb8 h).imp λσ H Q hz0=>by
 obtain ⟨pa,G₀,H₀,m,ρ,G,R,z⟩:=hz0
 refine TAe.then R z λm1 x v G1 H1 s1 w1 R1 d1 q1=>?_
 cases d1 with
 | int n=>exact ⟨n,rfl,q1 G1 H1 s1 w1⟩
 | _=>exact q1.elim
theorem Zi1 {prog:Program} {w:World} {A:Around} {E:Value->Shared->Prop} {s:Shared} {t sl:Addr} {items:Array Value} {vl vu:Value} {lo hi:Option Int} {Q:Value->Shared->Prop} (ht:IsTup s.heap t items) (hs:s.heap.IsSliceOf sl vl vu .none) (pl:IsPart vl lo) (pu:IsPart vu hi)
  (hw:HT.aJ items.size 0 lo=0/\HT.aJ items.size items.size hi=items.size) (h:Q (.ref t) s):wpAny (model prog w) A (getItem (.ref t) (.ref sl)) Q E s:=by
 obtain ⟨os,hos,hcs,hds⟩:=id hs
 have hTs:s.TypeIs (.ref sl) "slice":=⟨os,hos,hcs⟩
 unfold getItem
 try with_reducible refine wpAny_holding ?_
 first | refine wpAny_bind (wpAny_pure ?_) | skip
 refine wpAny_bind (wpAny_sequenceKey ht.typeIs (by decide) ?_)
 refine wpAny_bind (wpAny_callSpecial?_slot (name:=Str.ofString "__getitem__") ht.typeIs PyProof.Rows.slot_tuple_getitem
  (wpAny_call_entry PyProof.Rows.slot_tuple_getitem ht.typeIs entry_tuple_getitem ?_ (args_tuple_getitem _ _)))
 show wpAny _ _ (Builtin.Tuple.tupleItemsOf (.ref t) >>= _) _ _ s
 refine wpAny_bind (tupleItemsOf_ ht ?_)
 refine wpAny_bind (wpAny_typeOf hTs ?_)
 rw [if_pos (by decide)]
 refine wpAny_bind (HT.ZaU hs pl pu ?_)
 have hyes:(((HT.aJ items.size 0 lo:Nat):Int) == 0 && (1:Int) == 1 && (HT.aJ items.size items.size hi - HT.aJ items.size 0 lo) == items.size)=true:=by
  rw [hw.1,hw.2]
  simp
 show wpAny _ _ (if (((HT.aJ items.size 0 lo:Nat):Int) == 0 && (1:Int) == 1 && (HT.aJ items.size items.size hi - HT.aJ items.size 0 lo) == items.size)=true then _ else _) _ _ s
 rw [if_pos hyes]
 refine wpAny_bind (m:=Builtin.Tuple.tupleIsExact (.ref t)) ?_
 unfold Builtin.Tuple.tupleIsExact
 refine wpAny_bind (wpAny_typeOf ht.typeIs ?_)
 refine wpAny_pure ?_
 rw [if_pos (by decide)]
 refine wpAny_bind (wpAny_rule ?_)
 exact wpAny_pure ⟨_,rfl,wpAny_pure h⟩
noncomputable def ZbI (K:PySem.W.Frag):V->Option Int->Option Int->Hp->VK->Prop:=λx lo hi H Q=>∃ a xs,x=.ref a/\SqT K H a xs/\(HT.aJ xs.length 0 lo=0/\HT.aJ xs.length xs.length hi=xs.length)/\Q (.ref a) H
theorem Zgf:SlR X (ZbI X.K):=by
 intro pins s σ H x v vl vu lo hi sl Q I rx hs pl pu h
 obtain ⟨a,xs,rfl,hx,hw,q⟩:=h
 cases rx
 obtain ⟨its,r,ht,hz⟩:=I.tuple hx
 have hlen:its.toArray.size=xs.length:=by rw [List.size_toArray]; exact r.length.symm
 refine ⟨"tuple",_,PyProof.Rows.slot_tuple_getitem.lookup,ht.typeIs,?_⟩
 exact Zi1 ht hs pl pu (by rw [hlen]; exact hw) ⟨.ref a,H,I,rfl,q⟩
noncomputable def Zha (K:PySem.W.Frag):V->Option Int->Option Int->Hp->VK->Prop:=λx lo hi H Q=>ZbK K x lo hi H Q\/ZbJ K x lo hi H Q\/ZbI K x lo hi H Q
theorem Zgh:SlR X (Zha X.K):=ZaV.or (Zgg.or Zgf)
noncomputable def ZaT (x:PyData) (lo hi:Option Int):Option PyData:=match x with
 | .list xs=>some (.list (dC xs lo hi))
 | .tuple xs=>some (.tuple (dC xs lo hi))
 | _=>none
noncomputable def cN (i:List Sl->Tr PyData) (p q:eY):List Sl->Tr PyData:=λρ=>(i ρ).bind λx=>(p ρ).bind λlo=>(q ρ).bind λhi=>Tr.of (ZaT x lo hi)
theorem TAp.then {p:eY} {σ:St} {H:Hp} {β:Type} {k:Option Int->Tr β} {Z:Nat->β->Prop} {Q:Option Int->Hp->Prop} {pa:Addr} {G₀ H₀ G:Hp} {m:Nat} {ρ:List Sl} (R:Rl PK pa G₀ H₀ m σ ρ G H) (h:((p ρ).bind k).ok m Z)
  (hq:∀ m1 x G1 H1,Stp pa G H G1 H1->Wd PK pa m1 G1 H1->Rl PK pa G₀ H₀ m1 σ ρ G1 H1->(k x).ok m1 Z->Q x H1):TAp PK p σ H Q:=by
 refine ⟨pa,G₀,H₀,m,ρ,G,R,Tr.ok_mono (Tr.ok_bind.mp h) λm1 x hx G1 H1 s1 w1=>?_⟩
 exact hq m1 x G1 H1 s1 w1 (R.step s1 w1) hx
theorem dc {p q:eY} {lo hi:Option Expr} {p2:Pos} (he:PE X e (TAe PK i)) (hl:PO X lo (TAp PK p)) (hu:PO X hi (TAp PK q)):PE X (.Subscript e (.Slice lo hi none p2) pos) (TAe PK (cN i p q)):=(Zcb Zgh he hl hu).imp λσ H Q hz0=>by
 obtain ⟨pa,G₀,H₀,m,ρ,G,R,z⟩:=hz0
 refine TAe.then R z λm1 x v G1 H1 s1 w1 R1 d1 q1=>?_
 refine TAp.then R1 q1 λm2 lo G2 H2 s2 w2 R2 q2=>?_
 refine TAp.then R2 q2 λm3 hi G3 H3 s3 w3 R3 q3=>?_
 obtain ⟨d,hd,k⟩:=Tr.ok_of q3
 have s13:=(s1.trans s2 w1.some).trans s3 w2.some
 have k':=Kn.later k s13 w3.some
 have d3:=d1.mono (s2.gs.trans s3.gs)
 cases d3 with
 | lst a1 a2=>cases hd; exact .inl ⟨_,_,rfl,SqL.of (w3.sub _ _ a1),λp hp=>k'.lst w3 (a2.cut lo hi) hp⟩
 | @tup a xs ds a1 a2 =>
  cases hd
  by_cases hw:HT.aJ xs.length 0 lo=0/\HT.aJ xs.length xs.length hi=xs.length
  ·refine .inr (.inr ⟨_,_,rfl,SqT.of (w3.sub _ _ a1),hw,k'.here w3 ?_⟩)
   have e:dC ds lo hi=ds:=by
    unfold dC
    rw [<- a2.length,hw.1,hw.2]
    simp
    rw [a2.length]
    exact List.take_length
   rw [e]
   exact .tup a1 a2
  ·exact .inr (.inl ⟨_,_,rfl,SqT.of (w3.sub _ _ a1),hw,λp hp=>k'.tup w3 (a2.cut lo hi) hp⟩)
 | _=>cases hd
theorem DnAll.range {H:Hp} (lo:Int) (n:Nat):DnAll H (eP lo n) ((aI lo n).map PyData.int):=by
 rw [Zg9]
 exact DnAll.ints _
noncomputable def jv (lo hi:Int):Bool:=dq lo && dq hi && decide ((hi - lo).toNat<=1000)
noncomputable def ju:List PyData->Option (List PyData)
 | [.int lo,.int hi]=>if jv lo hi=true then some (bc lo hi) else none
 | _=>none
theorem ZgW {G:Hp} {vs:List V} {xs ys:List PyData} (d:DnAll G vs xs) (h:ju xs=some ys):∃ k n:Int,vs=[.int k,.int n]/\(-(2 ^ 62)<=k/\k < 2 ^ 62/\-(2 ^ 62)<=n/\n < 2 ^ 62/\(n - k).toNat<=1000)/\ys=bc k n:=by
 unfold ju at h
 split at h
 ·split at h
  ·rename_i hn
   cases h
   cases d with
   | cons d1 d2 =>
    cases d2 with
    | cons d2 d3 =>
     cases d3
     cases d1
     cases d2
     unfold jv at hn
     rw [Bool.and_eq_true,Bool.and_eq_true] at hn
     have h1:=of_decide_eq_true hn.1.1
     have h2:=of_decide_eq_true hn.1.2
     exact ⟨_,_,rfl,⟨h1.1,h1.2,h2.1,h2.2,of_decide_eq_true hn.2⟩,rfl⟩
  ·cases h
 ·cases h
noncomputable def ZfQ (t:TA):TE:=f8 (λxs H Q=>∃ a lo hi,xs=[.ref a]/\H a=some (.rng lo hi)/\-(2 ^ 62)<=lo/\lo < 2 ^ 62/\-(2 ^ 62)<=hi/\hi < 2 ^ 62/\(hi - lo).toNat<=1000/\∀ p,H p=none->Q (.ref p) (upd H p (.tup (eP lo (hi - lo).toNat))))
 (fc (f8 (λxs H Q=>∃ i j:Int,xs=[.int i,.int j]/\∀ p,H p=none->Q (.ref p) (upd H p (.rng i j))) t) aS)
noncomputable def rj (is:List Sl->Tr (List PyData)):List Sl->Tr PyData:=λρ=>(is ρ).bind λxs=>(Tr.of (ju xs)).bind λys=>.ret (.tuple ys)
theorem ZnS (h:PE X e (ZfQ (TAd PK is))):PE X e (TAe PK (rj is)):=h.imp λσ H Q hz0=>by
 obtain ⟨pa,G₀,H₀,m,ρ,G,R,z⟩:=hz0
 refine TAd.then R z λm1 xs vs G1 H1 s1 w1 R1 d1 q1=>?_
 rw [Tr.ok_bind] at q1
 obtain ⟨ys,hy,k⟩:=Tr.ok_of q1
 obtain ⟨lo,hi,rfl,⟨b1,b2,b3,b4,b5⟩,rfl⟩:=ZgW d1 hy
 refine ⟨lo,hi,rfl,λp hp=>?_⟩
 obtain ⟨w2,s2⟩:=w1.own (o:=.rng lo hi) hp
 refine ⟨p,lo,hi,rfl,bW,b1,b2,b3,b4,b5,λq hq=>?_⟩
 exact (Kn.later k (s1.trans s2 w1.some) w2.some).tup w2 (DnAll.range _ _) hq
noncomputable def ints?:List PyData->Option (List Int)
 | []=>some []
 | .int n::xs=>(ints? xs).bind λns=>some (n::ns)
 | _=>none
@[simp] theorem ints?_map:∀ ns:List Int,ints? (ns.map PyData.int)=some ns
 | []=>rfl
 | n::ns=>by rw [List.map_cons,ints?,ints?_map ns]; rfl
theorem DnAll.ints_inv {H:Hp} {vs:List V} {ds:List PyData} {ns:List Int} (a:DnAll H vs ds) (h:ints? ds=some ns):vs=ns.map V.int/\ds=ns.map PyData.int:=by
 induction vs generalizing ds ns with
 | nil=>cases a; cases h; exact ⟨rfl,rfl⟩
 | cons v vs ih =>
  cases a with
  | cons g t =>
   cases g with
   | int n =>
    unfold ints? at h
    rename_i ds
    cases e:ints? ds with
    | none=>rw [e] at h; cases h
    | some ms =>
     rw [e] at h
     cases h
     obtain ⟨h1,h2⟩:=ih t e
     exact ⟨by rw [h1]; rfl,by rw [h2]; rfl⟩
   | _=>unfold ints? at h; cases h
end L2
set_option Elab.async false
set_option linter.all false
set_option maxRecDepth 100000
namespace L2
open PySem PySem.Spec PyProof.Rows
section
variable {prog:Program} {w:World} {A:Around} {E:Value->Shared->Prop} {s:Shared}
noncomputable def ItAt (b:Bool) (h:Heap) (it a:Addr) (k:Nat):Prop:=match b with
 | true=>h.IsListIter it a k
 | false=>h.IsTupleIter it a k
noncomputable def SqAt (b:Bool) (h:Heap) (a:Addr) (items:Array Value):Prop:=match b with
 | true=>h.IsList a items
 | false=>h.IsTuple a items
theorem ItAt.at {b:Bool} {h h':Heap} {it a:Addr} {k:Nat} (x:ItAt b h it a k) (e:∀ o,h.get? it=some o->h'.get? it=some o):ItAt b h' it a k:=by
 cases b with
 | true=>exact Heap.IsListIter.at x e
 | false=>obtain ⟨o,ho,r⟩:=(show h.IsTupleIter it a k from x); exact ⟨o,e o ho,r⟩
theorem SqAt.at {b:Bool} {h h':Heap} {a:Addr} {items:Array Value} (x:SqAt b h a items) (e:∀ o,h.get? a=some o->h'.get? a=some o):SqAt b h' a items:=by
 cases b with
 | true=>exact Heap.IsList.at x e
 | false=>exact Heap.IsTuple.at x e
theorem ItAt.there {b:Bool} {h:Heap} {it a:Addr} {k:Nat} (x:ItAt b h it a k):∃ o,h.get? it=some o/\∀ v,o.data≠.cell v:=by
 cases b with
 | true=>obtain ⟨o,ho,_,hd⟩:=(show h.IsListIter it a k from x); exact ⟨o,ho,λv z=>by rw [hd] at z; cases z⟩
 | false=>obtain ⟨o,ho,_,hd⟩:=(show h.IsTupleIter it a k from x); exact ⟨o,ho,λv z=>by rw [hd] at z; cases z⟩
theorem Zh5 {it l:Addr} {i:Nat} {items:Array Value} {x:Value} {Q:Value->Shared->Prop} (hit:s.heap.IsTupleIter it l i) (hl:s.heap.IsTuple l items) (hx:items[i]?=some x)
  (hQ:∀ h',h'.IsTupleIter it l (i+1)->Heap.SameBut it s.heap h'->Q x { s with heap:=h' }):wpAny (model prog w) A (Builtin.SmallTypes.nextOf (.ref it)) Q E s:=by
 obtain ⟨o,ho,hc,hd⟩:=id hit; obtain ⟨ol,hol,_,nl,hdl⟩:=hl
 unfold Builtin.SmallTypes.nextOf
 refine wpAny_bind (wpAny_callSpecial?_slot (name:=Str.ofString "__next__") hit.typeIs F.slot_tuple_iterator_next (wpAny_call_entry F.slot_tuple_iterator_next hit.typeIs F.entry_tuple_iterator_next ?_ (F.args_tuple_iterator_next_1 _)))
 show wpAny _ _ (field (.ref it) 0 >>= _) _ _ s; refine wpAny_bind (wpAny_field ho hd (x:=.ref l) rfl ?_)
 show wpAny _ _ (if (Value.ref l == Value.none)=true then _ else _) _ _ s; rw [if_neg (show ¬ ((Value.ref l == Value.none)=true) from Bool.false_ne_true)]
 show wpAny _ _ (field (.ref it) 1 >>= _) _ _ s; refine wpAny_bind (wpAny_field ho hd (x:=.int i 0) rfl ?_)
 show wpAny _ _ (seqItems? (.ref l) >>= _) _ _ s; refine wpAny_bind (wpAny_seqItems hol hdl ?_); simp only [Int.toNat_natCast,hx]
 refine wpAny_bind (wpAny_setField ho hd (by simp) (wpAny_pure ⟨x,rfl,wpAny_pure (hQ _ ⟨_,Heap.get?_update_self _ ho (Obj.isFreed_of_fields (Obj.data_mapFields hd _)),(Obj.cls_mapFields ..).trans hc,?_⟩ (Heap.SameBut.update ..))⟩))
 rw [Obj.data_mapFields hd]; simp [rawInt]
theorem Zh6 {it l:Addr} {i:Nat} {items:Array Value} {Q:Value->Shared->Prop} (hh:A.handled=none) (hit:s.heap.IsTupleIter it l i) (hl:s.heap.IsTuple l items) (hx:items[i]?=none)
  (hE:∀ h' e,Heap.ExtBut it s.heap h'->(∃ o,h'.get? e=some o/\o.cls=.type "StopIteration")->E (.ref e) { s with heap:=h' }):wpAny (model prog w) A (Builtin.SmallTypes.nextOf (.ref it)) Q E s:=by
 obtain ⟨o,ho,hc,hd⟩:=id hit; obtain ⟨ol,hol,_,nl,hdl⟩:=hl
 unfold Builtin.SmallTypes.nextOf
 refine wpAny_bind (wpAny_callSpecial?_slot (name:=Str.ofString "__next__") hit.typeIs F.slot_tuple_iterator_next (wpAny_call_entry F.slot_tuple_iterator_next hit.typeIs F.entry_tuple_iterator_next ?_ (F.args_tuple_iterator_next_1 _)))
 show wpAny _ _ (field (.ref it) 0 >>= _) _ _ s; refine wpAny_bind (wpAny_field ho hd (x:=.ref l) rfl ?_)
 show wpAny _ _ (if (Value.ref l == Value.none)=true then _ else _) _ _ s; rw [if_neg (show ¬ ((Value.ref l == Value.none)=true) from Bool.false_ne_true)]
 show wpAny _ _ (field (.ref it) 1 >>= _) _ _ s; refine wpAny_bind (wpAny_field ho hd (x:=.int i 0) rfl ?_)
 show wpAny _ _ (seqItems? (.ref l) >>= _) _ _ s; refine wpAny_bind (wpAny_seqItems hol hdl ?_); simp only [Int.toNat_natCast,hx]
 refine wpAny_bind (wpAny_rule (wpAny_bind (wpAny_setField ho hd (by simp) ?_))); show wpAny _ _ (newExc (.type "StopIteration") [] >>= _) _ _ _
 refine wpAny_bind ?_; simp only [newExc,newTuple]; refine wpAny_bind (wpAny_newObj_type ?_ (by size_fits))
 refine wpAny_bind (m:=firstArgMember _ _) (wpAny_of_eq (a:=Value.none) (by first | rfl | (simp only [firstArgMember]; rfl)) ?_); refine wpAny_newObj_type ?_ (by size_fits); simp only [raiseNew]
 refine wpAny_bind (wpAny_handled ?_); first | rw [show A.in1.handled=none from hh] | rw [hh]
 refine wpAny_bind (wpAny_pure (wpAny_throw (hE _ _ (((Heap.SameBut.update ..).extBut.push _).push _) ⟨_,Heap.get?_push_size _ rfl,rfl⟩)))
theorem lT {b:Bool} {it l:Addr} {i:Nat} {items:Array Value} {x:Value} {Q:Value->Shared->Prop} (hit:ItAt b s.heap it l i) (hl:SqAt b s.heap l items) (hx:items[i]?=some x)
  (hQ:∀ h',ItAt b h' it l (i+1)->Heap.SameBut it s.heap h'->Q x { s with heap:=h' }):wpAny (model prog w) A (Builtin.SmallTypes.nextOf (.ref it)) Q E s:=by
 cases b with
 | true=>exact wpAny_nextOf_list_item hit hl hx hQ
 | false=>exact Zh5 hit hl hx hQ
theorem pS {b:Bool} {it l:Addr} {i:Nat} {items:Array Value} {Q:Value->Shared->Prop} (hh:A.handled=none) (hit:ItAt b s.heap it l i) (hl:SqAt b s.heap l items) (hx:items[i]?=none)
  (hE:∀ h' e,Heap.ExtBut it s.heap h'->(∃ o,h'.get? e=some o/\o.cls=.type "StopIteration")->E (.ref e) { s with heap:=h' }):wpAny (model prog w) A (Builtin.SmallTypes.nextOf (.ref it)) Q E s:=by
 cases b with
 | true=>exact wpAny_nextOf_list_end hh hit hl hx hE
 | false=>exact Zh6 hh hit hl hx hE
theorem ItAt.bt {b:Bool} {h h':Heap} {it a c:Addr} {k:Nat} (x:ItAt b h it a k) (e:Heap.ExtBut c h h') (n:it≠c):ItAt b h' it a k:=x.at λo q=>e it o n q
theorem SqAt.bt {b:Bool} {h h':Heap} {a c:Addr} {items:Array Value} (x:SqAt b h a items) (e:Heap.ExtBut c h h') (n:a≠c):SqAt b h' a items:=x.at λo q=>e a o n q
theorem Zfl {b1 b2:Bool} {z TI TO i1 i2 l1 l2:Addr} {k1 k2:Nat} {xs ys:Array Value} {x y a b:Value} {Q:Value->Shared->Prop} (D:ZipApart z TI TO i1 i2 l1 l2)
  (hz:IsZip s.heap z TI TO .none) (hTI:IsPair s.heap TI (.ref i1) (.ref i2)) (hTO:IsPair s.heap TO a b) (h1:ItAt b1 s.heap i1 l1 k1) (h2:ItAt b2 s.heap i2 l2 k2) (hl1:SqAt b1 s.heap l1 xs) (hl2:SqAt b2 s.heap l2 ys) (hx:xs[k1]?=some x) (hy:ys[k2]?=some y)
  (hQ:∀ h',IsZip h' z TI TO (rawInt s.heap.objs.size)->IsPair h' TO x y->ItAt b1 h' i1 l1 (k1+1)->ItAt b2 h' i2 l2 (k2+1)->IsPair h' s.heap.objs.size x y ->
   (∀ c o,c≠z->c≠TO->c≠i1->c≠i2->s.heap.get? c=some o->h'.get? c=some o)->Q (.ref s.heap.objs.size) { s with heap:=h' }) :
  wpAny (model prog w) A (Builtin.«zip.__next__» ⟨[.ref z],[]⟩) (λfin s'=>∃ v,fin=.done (.ret v)/\Q v s') E s:=by
 show wpAny _ _ (field (.ref z) 2 >>= _) _ _ _; refine wpAny_bind (wpAny_field hz rfl (x:=.bool false) rfl ?_)
 show wpAny _ _ (field (.ref z) 3 >>= _) _ _ _; refine wpAny_bind (wpAny_field hz rfl (x:=.ref TI) rfl ?_); refine wpAny_bind (wpAny_seqItems hTI rfl ?_)
 show wpAny _ _ (Builtin.SmallTypes.ownedTupleIsFree (.ref z) >>= _) _ _ _; refine wpAny_bind ?_; unfold Builtin.SmallTypes.ownedTupleIsFree
 refine wpAny_bind (wpAny_field hz rfl (x:=.none) rfl (wpAny_pure ?_)); simp only [if_true]; refine wpAny_bind (wpAny_rule ?_); refine wpAny_bind (wpAny_field hz rfl (x:=.ref TO) rfl ?_)
 refine wpAny_bind (wpAny_setField_rec hz (by simp) λg1 hz1 e1=>?_); replace hz1:IsZip g1 z TI TO .ellipsis:=hz1
 refine wpAny_bind ?_; simp only [List.zipIdx_cons,List.zipIdx_nil,List.forIn_cons,List.forIn_nil]; refine wpAny_bind (wpAny_bind (wpAny_onRaise ?_))
 show wpAny _ _ (Builtin.SmallTypes.nextOf (.ref i1) >>= _) _ _ _; refine wpAny_bind (lT (h1.bt e1.extBut D.i1z) (hl1.bt e1.extBut D.l1z) hx λg2 t1 e2=>wpAny_pure ?_)
 have p2:IsPair g2 TO a b:=e2.extBut _ _ D.TOi1 (e1.extBut _ _ D.TOz hTO)
 refine wpAny_bind (wpAny_seqItems p2 rfl ?_); refine wpAny_bind (wpAny_updateSeq_pair p2 λg3 p3 e3=>?_); replace p3:IsPair g3 TO x b:=p3
 refine wpAny_bind (wpAny_letGo (wpAny_pure ?_)); refine wpAny_bind (wpAny_bind (wpAny_onRaise ?_))
 show wpAny _ _ (Builtin.SmallTypes.nextOf (.ref i2) >>= _) _ _ _
 refine wpAny_bind (lT (((h2.bt e1.extBut D.i2z).bt e2.extBut D.i12.symm).bt e3.extBut D.TOi2.symm) (((hl2.bt e1.extBut D.l2z).bt e2.extBut D.l2i1).bt e3.extBut D.l2TO) hy λg4 t2 e4=>wpAny_pure ?_)
 have p4:IsPair g4 TO x b:=e4.extBut _ _ D.TOi2 p3
 refine wpAny_bind (wpAny_seqItems p4 rfl ?_); refine wpAny_bind (wpAny_updateSeq_pair p4 λg5 p5 e5=>?_); replace p5:IsPair g5 TO x y:=p5
 refine wpAny_bind (wpAny_letGo (wpAny_pure (wpAny_pure ?_))); refine wpAny_bind (wpAny_seqItems p5 rfl ?_); refine wpAny_bind (wpAny_newTuple ?_)
 have hsz:g5.objs.size=s.heap.objs.size:=by rw [e5.1,e4.1,e3.1,e2.1,e1.1]
 have z5:IsZip g5 z TI TO .ellipsis:=e5.extBut _ _ D.TOz.symm (e4.extBut _ _ D.i2z.symm (e3.extBut _ _ D.TOz.symm (e2.extBut _ _ D.i1z.symm hz1)))
 have k5:∀ c o,c≠z->c≠TO->c≠i1->c≠i2->s.heap.get? c=some o->g5.get? c=some o:=λc o c1 c2 c3 c4 q=>e5.extBut _ _ c2 (e4.extBut _ _ c4 (e3.extBut _ _ c2 (e2.extBut _ _ c3 (e1.extBut _ _ c1 q))))
 have u1:ItAt b1 g5 i1 l1 (k1+1):=((t1.bt e3.extBut D.TOi1.symm).bt e4.extBut D.i12).bt e5.extBut D.TOi1.symm
 have u2:ItAt b2 g5 i2 l2 (k2+1):=t2.bt e5.extBut D.TOi2.symm
 have zlt:z < g5.objs.size:=Heap.lt_size z5
 show wpAny _ _ (Builtin.SmallTypes.ownedTupleHandOut (.ref z) (.ref g5.objs.size) >>= _) _ _ _; refine wpAny_bind ?_; unfold Builtin.SmallTypes.ownedTupleHandOut
 have z6:IsZip (g5.push { cls:=.type "tuple",data:=.seq #[x,y] }) z TI TO .ellipsis:=Heap.get?_push_of_some _ z5
 refine wpAny_bind (wpAny_setField_rec z6 (by simp) λg7 z7 e7=>?_); replace z7:IsZip g7 z TI TO (rawInt g5.objs.size):=z7
 refine wpAny_setField_rec z7 (by simp) λg8 z8 e8=>?_; replace z8:IsZip g8 z TI TO (rawInt g5.objs.size):=z8
 have up:∀ c o,c≠z->g5.get? c=some o->g8.get? c=some o:=λc o c1 q=>e8.extBut _ _ c1 (e7.extBut _ _ c1 (Heap.get?_push_of_some _ q))
 have t8:IsPair g8 g5.objs.size x y:=e8.extBut _ _ (Nat.ne_of_gt zlt) (e7.extBut _ _ (Nat.ne_of_gt zlt) (Heap.get?_push_size _ rfl))
 rw [hsz] at z8 t8
 refine wpAny_pure ⟨_,rfl,?_⟩; show Q (.ref g5.objs.size) _; rw [hsz]
 exact hQ g8 z8 (up _ _ D.TOz p5) (u1.at λo q=>up _ o D.i1z q) (u2.at λo q=>up _ o D.i2z q) t8 λc o c1 c2 c3 c4 q=>up c o c1 (k5 c o c1 c2 c3 c4 q)
theorem Zfm {b1 b2:Bool} {z TI TO i1 i2 l1 l2:Addr} {k1 k2:Nat} {xs ys:Array Value} {a b:Value} {Q:Fin->Shared->Prop} (hh:A.handled=none) (D:ZipApart z TI TO i1 i2 l1 l2)
  (hz:IsZip s.heap z TI TO .none) (hTI:IsPair s.heap TI (.ref i1) (.ref i2)) (hTO:IsPair s.heap TO a b) (h1:ItAt b1 s.heap i1 l1 k1) (h2:ItAt b2 s.heap i2 l2 k2) (hl1:SqAt b1 s.heap l1 xs) (hl2:SqAt b2 s.heap l2 ys) (hend:xs[k1]?=none\/ys[k2]?=none)
  (hE:∀ h' e,(∀ c o,c≠z->c≠TO->c≠i1->c≠i2->s.heap.get? c=some o->h'.get? c=some o)->(∃ o,h'.get? e=some o/\o.cls=.type "StopIteration")->E (.ref e) { s with heap:=h' }) :
  wpAny (model prog w) A (Builtin.«zip.__next__» ⟨[.ref z],[]⟩) Q E s:=by
 show wpAny _ _ (field (.ref z) 2 >>= _) _ _ _; refine wpAny_bind (wpAny_field hz rfl (x:=.bool false) rfl ?_)
 show wpAny _ _ (field (.ref z) 3 >>= _) _ _ _; refine wpAny_bind (wpAny_field hz rfl (x:=.ref TI) rfl ?_); refine wpAny_bind (wpAny_seqItems hTI rfl ?_)
 show wpAny _ _ (Builtin.SmallTypes.ownedTupleIsFree (.ref z) >>= _) _ _ _; refine wpAny_bind ?_; unfold Builtin.SmallTypes.ownedTupleIsFree
 refine wpAny_bind (wpAny_field hz rfl (x:=.none) rfl (wpAny_pure ?_)); simp only [if_true]; refine wpAny_bind (wpAny_rule ?_); refine wpAny_bind (wpAny_field hz rfl (x:=.ref TO) rfl ?_)
 refine wpAny_bind (wpAny_setField_rec hz (by simp) λg1 hz1 e1=>?_); replace hz1:IsZip g1 z TI TO .ellipsis:=hz1
 refine wpAny_bind ?_; simp only [List.zipIdx_cons,List.zipIdx_nil,List.forIn_cons,List.forIn_nil]; refine wpAny_bind (wpAny_bind (wpAny_onRaise ?_))
 show wpAny _ _ (Builtin.SmallTypes.nextOf (.ref i1) >>= _) _ _ _
 cases hx:xs[k1]? with
 | none =>
  refine wpAny_bind (pS hh (h1.bt e1.extBut D.i1z) (hl1.bt e1.extBut D.l1z) hx λg2 e e2 he=>?_)
  obtain ⟨oe,hoe,hce⟩:=he
  have z2:IsZip g2 z TI TO .ellipsis:=e2 _ _ D.i1z.symm hz1
  have ne:e≠z:=λq=>by subst q; rw [z2] at hoe; cases hoe; simp at hce
  exact wpAny_setField_rec z2 (by simp) λg3 _ e3=>hE g3 e (λc o c1 _ c3 _ q=>e3.extBut _ _ c1 (e2 _ _ c3 (e1.extBut _ _ c1 q))) ⟨oe,e3.extBut _ _ ne hoe,hce⟩
 | some x =>
  have hy:ys[k2]?=none:=by rcases hend with h | h; rw [hx] at h; cases h; exact h
  refine wpAny_bind (lT (h1.bt e1.extBut D.i1z) (hl1.bt e1.extBut D.l1z) hx λg2 t1 e2=>wpAny_pure ?_)
  have p2:IsPair g2 TO a b:=e2.extBut _ _ D.TOi1 (e1.extBut _ _ D.TOz hTO)
  refine wpAny_bind (wpAny_seqItems p2 rfl ?_); refine wpAny_bind (wpAny_updateSeq_pair p2 λg3 p3 e3=>?_)
  refine wpAny_bind (wpAny_letGo (wpAny_pure ?_)); refine wpAny_bind (wpAny_bind (wpAny_onRaise ?_))
  show wpAny _ _ (Builtin.SmallTypes.nextOf (.ref i2) >>= _) _ _ _
  refine wpAny_bind (pS hh (((h2.bt e1.extBut D.i2z).bt e2.extBut D.i12.symm).bt e3.extBut D.TOi2.symm) (((hl2.bt e1.extBut D.l2z).bt e2.extBut D.l2i1).bt e3.extBut D.l2TO) hy λg4 e e4 he=>?_)
  obtain ⟨oe,hoe,hce⟩:=he
  have z4:IsZip g4 z TI TO .ellipsis:=e4 _ _ D.i2z.symm (e3.extBut _ _ D.TOz.symm (e2.extBut _ _ D.i1z.symm hz1))
  have ne:e≠z:=λq=>by subst q; rw [z4] at hoe; cases hoe; simp at hce
  exact wpAny_setField_rec z4 (by simp) λg5 _ e5=>hE g5 e (λc o c1 c2 c3 c4 q=>e5.extBut _ _ c1 (e4 _ _ c4 (e3.extBut _ _ c2 (e2.extBut _ _ c3 (e1.extBut _ _ c1 q))))) ⟨oe,e5.extBut _ _ ne hoe,hce⟩
noncomputable def dB (b:Bool) (l:Addr):Obj:=match b with
 | true=>{ cls:=.type "list_iterator",data:=.fields #[.ref l,.int 0 0] }
 | false=>{ cls:=.type "tuple_iterator",data:=.fields #[.ref l,.int 0 0] }
theorem ge {b:Bool} {l:Addr} {items:Array Value} {Q:Value->Shared->Prop} (hl:SqAt b s.heap l items) (hQ:Q (.ref s.heap.objs.size) { s with heap:=s.heap.push (dB b l) }):wpAny (model prog w) A (pyIter (.ref l)) Q E s:=by
 cases b with
 | true=>exact wpAny_pyIter_list hl hQ
 | false=>exact wpAny_pyIter_tuple hl hQ
theorem SqAt.push {b:Bool} {h:Heap} {l:Addr} {items:Array Value} (x:SqAt b h l items) (o:Obj):SqAt b (h.push o) l items:=x.at λ_ q=>Heap.get?_push_of_some _ q
theorem iO {b:Bool} {h:Heap} {it l:Addr} (e:h.get? it=some (dB b l)):ItAt b h it l 0:=by
 cases b with
 | true=>exact ⟨_,e,rfl,rfl⟩
 | false=>exact ⟨_,e,rfl,rfl⟩
noncomputable abbrev zA (b1:Bool) (h:Heap) (l1:Addr):Heap:=h.push (dB b1 l1)
noncomputable abbrev zB (b1 b2:Bool) (h:Heap) (l1 l2:Addr):Heap:=(zA b1 h l1).push (dB b2 l2)
noncomputable abbrev zC (b1 b2:Bool) (h:Heap) (l1 l2:Addr):Heap:=(zB b1 b2 h l1 l2).push { cls:=.type "tuple",data:=.seq #[.ref h.objs.size,.ref (zA b1 h l1).objs.size] }
noncomputable abbrev zD (b1 b2:Bool) (h:Heap) (l1 l2:Addr):Heap:=(zC b1 b2 h l1 l2).push { cls:=.type "tuple",data:=.seq #[.none,.none] }
noncomputable abbrev zH (b1 b2:Bool) (h:Heap) (l1 l2:Addr):Heap:=(zD b1 b2 h l1 l2).push { cls:=.type "zip",data:=.fields #[.none,.bool false,.bool false,.ref (zB b1 b2 h l1 l2).objs.size,.ref (zC b1 b2 h l1 l2).objs.size] }
theorem Zie (b1 b2:Bool) (l1 l2:Addr) (xs ys:Array Value) :
  Meets (Builtin.«zip.__new__» ⟨[.type "zip",.ref l1,.ref l2],[]⟩) (λ_ R s=>SqAt b1 s.heap l1 xs/\SqAt b2 s.heap l2 ys/\R (.ok (.ret (.ref (zD b1 b2 s.heap l1 l2).objs.size))) { s with heap:=zH b1 b2 s.heap l1 l2 }) :=
 .of_wp λprog w A R s h=>by
  obtain ⟨hp,g,d,tk,os⟩:=s
  obtain ⟨hl1,hl2,h⟩:=h
  have hsub:=sub_zip
  have q1:SqAt b1 (Shared.heap ⟨hp,g,d,tk,os⟩) l1 xs:=hl1
  have q2:SqAt b2 (Shared.heap ⟨hp.push (dB b1 l1),g,d,tk,os⟩) l2 ys:=hl2.push _
  wp_walk using ge q1,ge q2
  exact ⟨_,rfl,h⟩
theorem Zm6 {b1 b2:Bool} {l1 l2:Addr} {xs ys:Array Value} {Q:Value->Shared->Prop} (hl1:SqAt b1 s.heap l1 xs) (hl2:SqAt b2 s.heap l2 ys)
  (h:∀ h',IsZip h' (s.heap.objs.size+4) (s.heap.objs.size+2) (s.heap.objs.size+3) .none->IsPair h' (s.heap.objs.size+2) (.ref s.heap.objs.size) (.ref (s.heap.objs.size+1))->IsPair h' (s.heap.objs.size+3) .none .none ->
   ItAt b1 h' s.heap.objs.size l1 0->ItAt b2 h' (s.heap.objs.size+1) l2 0->(∀ c o,s.heap.get? c=some o->h'.get? c=some o)->Q (.ref (s.heap.objs.size+4)) { s with heap:=h' }) :
  wpAny (model prog w) A (call (.type "zip") [.ref l1,.ref l2]) Q E s:=by
 refine callType_new F.called_zip (by decide) (F.typeCall_zip_2 _ _) (F.newCall_zip_2 _ _) (λobj=>F.args_object_init_3 obj _ _) F.entry_zip_new (Zie b1 b2 l1 l2 xs ys) ⟨hl1,hl2,?_⟩
 have n1:(zA b1 s.heap l1).objs.size=s.heap.objs.size+1:=Heap.size_push ..
 have n2:(zB b1 b2 s.heap l1 l2).objs.size=s.heap.objs.size+2:=(Heap.size_push ..).trans (by rw [n1])
 have n3:(zC b1 b2 s.heap l1 l2).objs.size=s.heap.objs.size+3:=(Heap.size_push ..).trans (by rw [n2])
 have n4:(zD b1 b2 s.heap l1 l2).objs.size=s.heap.objs.size+4:=(Heap.size_push ..).trans (by rw [n3])
 have a5:IsZip (zH b1 b2 s.heap l1 l2) (zD b1 b2 s.heap l1 l2).objs.size (zB b1 b2 s.heap l1 l2).objs.size (zC b1 b2 s.heap l1 l2).objs.size .none:=Heap.get?_push_size _ rfl
 have a4:IsPair (zH b1 b2 s.heap l1 l2) (zC b1 b2 s.heap l1 l2).objs.size .none .none:=Heap.get?_push_of_some _ (Heap.get?_push_size _ rfl)
 have a3:IsPair (zH b1 b2 s.heap l1 l2) (zB b1 b2 s.heap l1 l2).objs.size (.ref s.heap.objs.size) (.ref (zA b1 s.heap l1).objs.size):=Heap.get?_push_of_some _ (Heap.get?_push_of_some _ (Heap.get?_push_size _ rfl))
 have a2:(zH b1 b2 s.heap l1 l2).get? (zA b1 s.heap l1).objs.size=some (dB b2 l2):=Heap.get?_push_of_some _ (Heap.get?_push_of_some _ (Heap.get?_push_of_some _ (Heap.get?_push_size _ (by cases b2 <;> rfl))))
 have a1:(zH b1 b2 s.heap l1 l2).get? s.heap.objs.size=some (dB b1 l1):=Heap.get?_push_of_some _ (Heap.get?_push_of_some _ (Heap.get?_push_of_some _ (Heap.get?_push_of_some _ (Heap.get?_push_size _ (by cases b1 <;> rfl)))))
 rw [n2,n3,n4] at a5
 rw [n3] at a4
 rw [n1,n2] at a3
 rw [n1] at a2
 show _/\_
 rw [n4]
 exact ⟨⟨_,a5,rfl⟩,h _ a5 a3 a4 (iO a1) (iO a2) λc o x=>Heap.get?_push_of_some _ (Heap.get?_push_of_some _ (Heap.get?_push_of_some _ (Heap.get?_push_of_some _ (Heap.get?_push_of_some _ x))))⟩
theorem Zhd {b1 b2:Bool} {z TI TO i1 i2 l1 l2:Addr} {k1 k2:Nat} {xs ys:Array Value} {x y a b:Value} {Q:Option Value->Shared->Prop} (D:ZipApart z TI TO i1 i2 l1 l2)
  (hz:IsZip s.heap z TI TO .none) (hTI:IsPair s.heap TI (.ref i1) (.ref i2)) (hTO:IsPair s.heap TO a b) (h1:ItAt b1 s.heap i1 l1 k1) (h2:ItAt b2 s.heap i2 l2 k2) (hl1:SqAt b1 s.heap l1 xs) (hl2:SqAt b2 s.heap l2 ys) (hx:xs[k1]?=some x) (hy:ys[k2]?=some y)
  (hQ:∀ h',IsZip h' z TI TO (rawInt s.heap.objs.size)->IsPair h' TO x y->ItAt b1 h' i1 l1 (k1+1)->ItAt b2 h' i2 l2 (k2+1)->IsPair h' s.heap.objs.size x y ->
   (∀ c o,c≠z->c≠TO->c≠i1->c≠i2->s.heap.get? c=some o->h'.get? c=some o)->Q (some (.ref s.heap.objs.size)) { s with heap:=h' }):wpAny (model prog w) A (pyNext (.ref z)) Q E s:=by
 have hT:s.TypeIs (.ref z) "zip":=⟨_,hz,rfl⟩
 unfold pyNext
 exact wpAny_bind (wpAny_attempt (wpAny_callSpecial?_slot (name:=Str.ofString "__next__") hT F.slot_zip_next (wpAny_call_entry F.slot_zip_next hT F.entry_zip_next (Zfl D hz hTI hTO h1 h2 hl1 hl2 hx hy λh' a1 a2 a3 a4 a5 a6=>wpAny_pure (hQ h' a1 a2 a3 a4 a5 a6)) (F.args_zip_next_1 _))))
theorem Zhe {b1 b2:Bool} {z TI TO i1 i2 l1 l2:Addr} {k1 k2:Nat} {xs ys:Array Value} {a b:Value} {Q:Option Value->Shared->Prop} (hh:A.handled=none) (D:ZipApart z TI TO i1 i2 l1 l2)
  (hz:IsZip s.heap z TI TO .none) (hTI:IsPair s.heap TI (.ref i1) (.ref i2)) (hTO:IsPair s.heap TO a b) (h1:ItAt b1 s.heap i1 l1 k1) (h2:ItAt b2 s.heap i2 l2 k2) (hl1:SqAt b1 s.heap l1 xs) (hl2:SqAt b2 s.heap l2 ys) (hend:xs[k1]?=none\/ys[k2]?=none)
  (hQ:∀ h',(∀ c o,c≠z->c≠TO->c≠i1->c≠i2->s.heap.get? c=some o->h'.get? c=some o)->Q none { s with heap:=h' }):wpAny (model prog w) A (pyNext (.ref z)) Q E s:=by
 have hT:s.TypeIs (.ref z) "zip":=⟨_,hz,rfl⟩
 unfold pyNext
 refine wpAny_bind (wpAny_attempt (wpAny_callSpecial?_slot (name:=Str.ofString "__next__") hT F.slot_zip_next (wpAny_call_entry F.slot_zip_next hT F.entry_zip_next (Zfm hh D hz hTI hTO h1 h2 hl1 hl2 hend λh' e hk he=>?_) (F.args_zip_next_1 _))))
 obtain ⟨o,ho,hc⟩:=he
 exact wpAny_bind (wpAny_isInstance (T:="StopIteration") (b:=true) ⟨o,ho,hc⟩ isSubtype_stop (wpAny_pure (hQ _ hk)))
end
section
variable {X:Cx} {pins:List (Addr×Obj)} {σ:St} {H:Hp} {s:Shared} {h':Heap}
theorem Inv.turns {t':Nat} {ch:List Addr} (I:Inv X pins σ H s) (k:∀ b o,b ∉ ch->s.heap.get? b=some o->h'.get? b=some o) (hf:∀ b∈ch,eM X pins H b):Inv X pins σ H { s with heap:=h',toks:=t' }:=by
 have nit:∀ b u,H b=some u->b ∉ ch:=λb u e z=>by rw [(hf b z).1] at e; cases e
 refine I.step (g':=s.gens) (d':=s.drawn) (ch:=ch) (λb hb=>?_) (λb o _ _ hc e _=>k b o hc e) (λb o _ _ hc e _=>⟨o.slots,k b o hc e⟩) (λ_ _ _ _ n=>n)
  (λb o hc e=>⟨o,k b o hc e⟩) (λ_ _ e=>e) (λ_ _ _ e=>e) (λb ps e=>⟨#[],by rw [e]; simp⟩) (λm hm=>?_) (λb u e=>?_) I.bare
 ·obtain ⟨_,f1,_,f3,f4,f5⟩:=hf b hb
  exact ⟨f3,f1,f4,f5⟩
 ·obtain ⟨o,es,ep,ho,r⟩:=hm
  exact ⟨o,es,ep,k _ o (λz=>(hf _ z).2.1 rfl) ho,r⟩
 ·refine (I.hok b u e).stay (λc v hc q=>k c v ?_ q) (λ_ q=>q) λ_ _ q=>q
  rcases hc with z | z
  ·rw [z]; exact nit b u e
  ·exact nit c _ z
theorem Inv.pair {T:Addr} {x y:V} {u v:Value} (I:Inv X pins σ H s) (hT:H T=none) (ho:IsPair s.heap T u v) (r1:RelV x u) (r2:RelV y v)
  (hL:T≠X.env.locals) (hs0:X.s₀.heap.objs.size<=T) (hc:∀ x c,X.env.cells.lookup x=some c->c≠T) (hp:∀ p∈X.pn++pins,p.1≠T):Inv X pins σ (upd H T (.tup [x,y])) s:=by
 have ne:∀ {b:Addr} {o:HO},H b=some o->b≠T:=λe=>cv e hT
 refine I.step (g':=s.gens) (d':=s.drawn) (t':=s.toks) (h':=s.heap) (ch:=[T]) (λb hb=>?_) (λb o _ _ _ e _=>e) (λb o _ _ _ e _=>⟨o.slots,e⟩) (λb o hb e n=>?_) (λb o _ e=>⟨o,e⟩)
  (λb xs e=>by rw [aM (ne e)]; exact e) (λb o u e=>by rw [aM (ne e)]; exact e) (λb ps e=>⟨#[],by rw [aM (ne e),e]; simp⟩) (λm hm=>hm) (λb u e=>?_) I.bare
 ·have e:b=T:=by simpa using hb
  subst e
  exact ⟨.inr hs0,hL,hc,hp⟩
 ·have hb':b≠T:=by simpa using hb
  rw [aM hb']
  exact n
 ·by_cases hb:b=T
  ·subst hb
   rw [bW] at e
   cases e
   exact ⟨by show 2<=sizeLine; decide,[_,_],.cons r1 (.cons r2 .nil),⟨_,ho,rfl,_,rfl⟩⟩
  ·rw [aM hb] at e
   exact (I.hok b u e).stay (λc v _ q=>q) (λc q=>by rw [aM (ne q)]; exact q) λc xs q=>by rw [aM (ne q)]; exact q
end
noncomputable def a9 (b:Bool) (xs:List V):HO:=match b with
 | true=>.lst xs
 | false=>.tup xs
theorem cZ {P:Program} {w:World} {H:Hp} {h:Heap} (ok:HOk P w H h) {b:Bool} {a:Addr} {xs:List V} (e:H a=some (a9 b xs)):∃ its:List Value,Vals xs its/\SqAt b h a its.toArray:=by
 cases b with
 | true=>obtain ⟨_,its,n,r,q⟩:=ok a _ e; exact ⟨its,r,⟨_,q,rfl,n,rfl⟩⟩
 | false=>obtain ⟨_,its,r,q⟩:=ok a _ e; exact ⟨its,r,q⟩
noncomputable def gH (b1 b2:Bool) (l1 l2:Addr):It :=
 ⟨λi H=>∃ xs ys x y,H l1=some (a9 b1 xs)/\H l2=some (a9 b2 ys)/\xs[i]?=some x/\ys[i]?=some y,
  λi H v H'=>∃ xs ys x y p,H l1=some (a9 b1 xs)/\H l2=some (a9 b2 ys)/\xs[i]?=some x/\ys[i]?=some y/\H p=none/\v=.ref p/\H'=upd H p (.tup [x,y]),
  λi H=>∃ xs ys,H l1=some (a9 b1 xs)/\H l2=some (a9 b2 ys)/\(xs[i]?=none\/ys[i]?=none)⟩
noncomputable def ZSt (b1 b2:Bool) (z TI TO i1 i2 l1 l2:Addr) (i:Nat) (h:Heap):Prop :=
 IsZip h z TI TO .none/\IsPair h TI (.ref i1) (.ref i2)/\(∃ a b,IsPair h TO a b)/\ItAt b1 h i1 l1 i/\ItAt b2 h i2 l2 i
theorem Zfz {P:Program} {w:World} {K:PySem.W.Frag} {elts:List Expr} {x1:Nat} {pos:Pos} {b1 b2:Bool} {l1 l2:Addr} (z TI TO i1 i2:Addr)
  (d:TI≠z/\TO≠z/\i1≠z/\i2≠z/\TI≠TO/\TI≠i1/\TI≠i2/\TO≠i1/\TO≠i2/\i1≠i2) :
  Turn P w K (.Tuple elts x1 pos) (gH b1 b2 l1 l2) [z,TI,TO,i1,i2] z (ZSt b1 b2 z TI TO i1 i2 l1 l2) where
 mem:=by simp
 obj:=λi h st b hb=>by
  obtain ⟨hz,hTI,⟨a,c,hTO⟩,h1,h2⟩:=st
  simp at hb
  rcases hb with rfl | rfl | rfl | rfl | rfl
  ·exact ⟨_,hz,λv q=>by cases q⟩
  ·exact ⟨_,hTI,λv q=>by cases q⟩
  ·exact ⟨_,hTO,λv q=>by cases q⟩
  ·exact h1.there
  ·exact h2.there
 keep:=λi h h' st k=>by
  obtain ⟨hz,hTI,⟨a,c,hTO⟩,h1,h2⟩:=st
  exact ⟨k _ (by simp) _ hz,k _ (by simp) _ hTI,⟨a,c,k _ (by simp) _ hTO⟩,h1.at λo e=>k _ (by simp) o e,h2.at λo e=>k _ (by simp) o e⟩
 item:=by
  intro X hP hw hK hc i pins s σ H E I hf st hg
  subst hP hw hK
  obtain ⟨xs,ys,x,y,e1,e2,hx,hy⟩:=hg
  obtain ⟨hz,hTI,⟨a,c,hTO⟩,h1,h2⟩:=st
  obtain ⟨us,r1,q1⟩:=cZ I.hok e1
  obtain ⟨vs,r2,q2⟩:=cZ I.hok e2
  obtain ⟨u,hu,ru⟩:=r1.get hx
  obtain ⟨v,hv,rv⟩:=r2.get hy
  have n1:∀ b∈[z,TI,TO,i1,i2],l1≠b/\l2≠b:=λb hb=>⟨cv e1 (hf b hb).1,cv e2 (hf b hb).1⟩
  obtain ⟨d1,d2,d3,d4,d5,d6,d7,d8,d9,d10⟩:=d
  have D:ZipApart z TI TO i1 i2 l1 l2:=⟨d1,d2,d3,d4,d5,d6,d7,d8,d9,d10,(n1 z (by simp)).1,(n1 TO (by simp)).1,(n1 i1 (by simp)).1,(n1 i2 (by simp)).1,(n1 z (by simp)).2,(n1 TO (by simp)).2,(n1 i1 (by simp)).2,(n1 i2 (by simp)).2⟩
  refine Zhd D hz hTI hTO h1 h2 q1 q2 (by simpa using hu) (by simpa using hv) λh' z' p' t1 t2 pr kk=>?_
  refine ⟨_,rfl,wpAny_letOwnedTupleGo_zip z' λh2' z2 sb=>?_⟩
  have lt:∀ {b:Addr} {o:Obj},s.heap.get? b=some o->s.heap.objs.size≠b:=λq=>Nat.ne_of_gt (Heap.lt_size q)
  have zlt:=lt hz
  have I1:Inv X pins σ H { s with heap:=h2' }:=I.turns (ch:=[z,TI,TO,i1,i2]) (t':=s.toks) (λb o hb e=>by
   simp at hb
   exact sb.extBut _ _ hb.1 (kk b o hb.1 hb.2.2.1 hb.2.2.2.1 hb.2.2.2.2 e)) hf
  have hTn:H s.heap.objs.size=none:=I.hok.fresh (Nat.le_refl _)
  have I2:=I1.pair (T:=s.heap.objs.size) (x:=x) (y:=y) hTn (sb.extBut _ _ zlt pr) ru rv (Nat.ne_of_gt I.lt) I.sz
   (λq cc e hq=>by obtain ⟨vv,zz⟩:=I.cell q cc e; exact absurd zz.lt (by rw [hq]; exact Nat.lt_irrefl _)) (λp hp hq=>absurd (Heap.lt_size (I.pin p hp).1) (by rw [hq]; exact Nat.lt_irrefl _))
  refine ⟨.ref s.heap.objs.size,_,I2,rfl,⟨xs,ys,x,y,_,e1,e2,hx,hy,hTn,rfl,rfl⟩,⟨z2,sb.extBut _ _ d1 (kk _ _ d1 d5 d6 d7 hTI),⟨u,v,sb.extBut _ _ d2 p'⟩,t1.at λo e=>sb.extBut _ _ d3 e,t2.at λo e=>sb.extBut _ _ d4 e⟩,λb hb=>?_⟩
  have hbn:b≠s.heap.objs.size:=by
   simp at hb
   obtain ⟨o1,g1,_⟩:=h1.there
   obtain ⟨o2,g2,_⟩:=h2.there
   rcases hb with rfl | rfl | rfl | rfl | rfl
   ·exact (lt hz).symm
   ·exact (lt hTI).symm
   ·exact (lt hTO).symm
   ·exact (lt g1).symm
   ·exact (lt g2).symm
  rw [aM hbn]
  exact (hf b hb).1
 done:=by
  intro X hP hw hK hc i pins s σ H E I hf st hg
  subst hP hw hK
  obtain ⟨xs,ys,e1,e2,hend⟩:=hg
  obtain ⟨hz,hTI,⟨a,c,hTO⟩,h1,h2⟩:=st
  obtain ⟨us,r1,q1⟩:=cZ I.hok e1
  obtain ⟨vs,r2,q2⟩:=cZ I.hok e2
  have n1:∀ b∈[z,TI,TO,i1,i2],l1≠b/\l2≠b:=λb hb=>⟨cv e1 (hf b hb).1,cv e2 (hf b hb).1⟩
  obtain ⟨d1,d2,d3,d4,d5,d6,d7,d8,d9,d10⟩:=d
  have D:ZipApart z TI TO i1 i2 l1 l2:=⟨d1,d2,d3,d4,d5,d6,d7,d8,d9,d10,(n1 z (by simp)).1,(n1 TO (by simp)).1,(n1 i1 (by simp)).1,(n1 i2 (by simp)).1,(n1 z (by simp)).2,(n1 TO (by simp)).2,(n1 i1 (by simp)).2,(n1 i2 (by simp)).2⟩
  refine Zhe (I.ok.hd hc) D hz hTI hTO h1 h2 q1 q2 (hend.imp (λq=>by simpa using r1.none_of q) (λq=>by simpa using r2.none_of q)) λh' kk=>⟨rfl,?_⟩
  exact I.turns (ch:=[z,TI,TO,i1,i2]) (t':=s.toks) (λb o hb e=>by
   simp at hb
   exact kk b o hb.1 hb.2.2.1 hb.2.2.2.1 hb.2.2.2.2 e) hf
 self:=λ_ _ _ _ _ st h=>wpAny_pyIter_zip st.1 h
end L2
set_option Elab.async false
set_option linter.all false
set_option maxRecDepth 100000
namespace L2
open PySem PySem.Spec PyProof.Rows
open AutoSeq1 (wpAny_loadPart')
section
variable {X:Cx} {tg:Expr} {PK:Pk} {a b:Expr} {i j:List Sl->Tr PyData} {p pos:Pos}
noncomputable def Zdc (ta tb:TE):TI:=λσ H R=>ta σ H λx H1=>tb σ H1 λy H2=>∃ b1 b2 l1 l2 xs ys,x=.ref l1/\y=.ref l2/\H2 l1=some (a9 b1 xs)/\H2 l2=some (a9 b2 ys)/\R (gH b1 b2 l1 l2) H2
theorem pD {elts:List Expr} {x1:Nat} {tpos:Pos} {ta tb:TE} (hc:X.calm=true) (hg:Gl X "zip") (hm:X.mg "zip"=none) (ha:PE X a ta) (hb:PE X b tb)
  (hs:starEach [a,b] X.env=[(false,eval a X.env),(false,eval b X.env)]:=by rfl) (hs2:starEach [b] X.env=[(false,eval b X.env)]:=by rfl):PI X (.Tuple elts x1 tpos) (.Call (.Name "zip" p) [a,b] [] pos) (Zdc ta tb):=by
 intro pins s σ H R I h
 have hab:PA X [a,b] (fc ta (fc tb aS)):=ci ha (ci hb cu (by rw [hs2]; rfl)) (by rw [hs,hs2])
 refine Call_ (gW I hg hm boot_zip (PyProof.Rows.callWith_type1 (thn (hab pos pins s σ H (λvs H2=>∃ b1 b2 l1 l2 xs ys,vs=[.ref l1,.ref l2]/\H2 l1=some (a9 b1 xs)/\H2 l2=some (a9 b2 ys)/\R (gH b1 b2 l1 l2) H2) I ?_) λus s1 ⟨vs,H1,I1,r1,q1⟩=>?_) (by rw [hs,hs2]) (by rw [hs2]; rfl)))
 ·refine (show ta σ H _ from ?_)
  have h':ta σ H λx H1=>tb σ H1 λy H2=>∃ b1 b2 l1 l2 xs ys,x=.ref l1/\y=.ref l2/\H2 l1=some (a9 b1 xs)/\H2 l2=some (a9 b2 ys)/\R (gH b1 b2 l1 l2) H2:=h
  have e:(λ(x:V) (H1:Hp)=>tb σ H1 λy H2=>∃ b1 b2 l1 l2 xs ys,x=.ref l1/\y=.ref l2/\H2 l1=some (a9 b1 xs)/\H2 l2=some (a9 b2 ys)/\R (gH b1 b2 l1 l2) H2) =
    λx H1=>fc tb aS σ H1 λxs H2=>∃ b1 b2 l1 l2 us ys,x::xs=[.ref l1,.ref l2]/\H2 l1=some (a9 b1 us)/\H2 l2=some (a9 b2 ys)/\R (gH b1 b2 l1 l2) H2:=by
   funext x H1
   show _=tb σ H1 _
   congr 1
   funext y H2
   show _=(∃ b1 b2 l1 l2 us ys,[x,y]=[.ref l1,.ref l2]/\H2 l1=some (a9 b1 us)/\H2 l2=some (a9 b2 ys)/\R (gH b1 b2 l1 l2) H2)
   apply propext
   constructor
   ·rintro ⟨b1,b2,l1,l2,xs,ys,rfl,rfl,q⟩; exact ⟨b1,b2,l1,l2,xs,ys,rfl,q⟩
   ·rintro ⟨b1,b2,l1,l2,xs,ys,e,q⟩
    have e1:x=V.ref l1/\y=V.ref l2:=by simpa using e
    exact ⟨b1,b2,l1,l2,xs,ys,e1.1,e1.2,q⟩
  rw [e] at h'
  exact h'
 ·obtain ⟨b1,b2,l1,l2,xs,ys,rfl,e1,e2,q⟩:=q1
  obtain ⟨u1,u2,rfl,r1,r2⟩:=kY r1
  cases r1
  cases r2
  obtain ⟨us,ru,q1⟩:=cZ I1.hok e1
  obtain ⟨vs,rv,q2⟩:=cZ I1.hok e2
  refine Zm6 q1 q2 λh' z pTI pTO t1 t2 kk=>?_
  have I2:Inv X pins σ H1 { s1 with heap:=h' }:=I1.kept (t':=s1.toks) kk
  have na:∀ n k:Nat,n≠k->(s1.heap.objs.size+n:Nat)≠s1.heap.objs.size+k:=λn k h e=>h (by omega)
  refine wpAny_pyIter_zip z ⟨s1.heap.objs.size+4,[s1.heap.objs.size+4,s1.heap.objs.size+2,s1.heap.objs.size+3,s1.heap.objs.size,s1.heap.objs.size+1],_,_,H1,rfl,I2,Zfz _ _ _ _ _ ⟨na 2 4 (by decide),na 3 4 (by decide),na 0 4 (by decide),na 1 4 (by decide),na 2 3 (by decide),na 2 0 (by decide),na 2 1 (by decide),na 3 0 (by decide),na 3 1 (by decide),na 0 1 (by decide)⟩,⟨z,pTI,⟨_,_,pTO⟩,t1,t2⟩,λb hb=>?_,q⟩
  have hle:s1.heap.objs.size<=b:=by
   simp at hb
   rcases hb with rfl | rfl | rfl | rfl | rfl <;> first | exact Nat.le_add_right _ _ | exact Nat.le_refl _
  exact I1.fpOk hle (I1.hok.fresh hle)
noncomputable def dh (xs ys:List PyData):List PyData:=(xs.zip ys).map λ(x,y)=>.tuple [x,y]
theorem kc {G:Hp} {v:V} {x:PyData} {xs:List PyData} (d:Dn G v x) (h:eV x=some xs):∃ b a vs,v=.ref a/\G a=some (a9 b vs)/\DnAll G vs xs:=by
 cases d with
 | lst h1 h2=>cases h; exact ⟨true,_,_,rfl,h1,h2⟩
 | tup h1 h2=>cases h; exact ⟨false,_,_,rfl,h1,h2⟩
 | _=>cases h
theorem mD {b:Bool} {xs ys:List V} (h:some (a9 b xs)=some (a9 b ys)):xs=ys:=by
 cases b <;> (cases h; rfl)
theorem ZiN {pa:Addr} {G:Hp} {b1 b2:Bool} {l1 l2:Addr} {us vs:List V} {xs ys:List PyData} (h1:G l1=some (a9 b1 us)) (h2:G l2=some (a9 b2 vs)) (d1:DnAll G us xs) (d2:DnAll G vs ys):gG PK pa (gH b1 b2 l1 l2) G (dh xs ys):=λm G2 H2 sb w=>by
 have e1:H2 l1=some (a9 b1 us):=w.sub _ _ (sb _ _ h1)
 have e2:H2 l2=some (a9 b2 vs):=w.sub _ _ (sb _ _ h2)
 refine ⟨λn d hd=>?_,us,vs,e1,e2,?_⟩
 ·unfold dh at hd
  rw [List.getElem?_map] at hd
  cases hz:(xs.zip ys)[n]? with
  | none=>rw [hz] at hd; cases hd
  | some xy =>
   rw [hz] at hd
   cases hd
   have hxy:=List.getElem?_zip_eq_some.mp hz
   obtain ⟨u,hu,du⟩:=d1.get n hxy.1
   obtain ⟨v,hv,dv⟩:=d2.get n hxy.2
   refine ⟨⟨us,vs,u,v,e1,e2,hu,hv⟩,λx H3 hz0=>?_⟩
   obtain ⟨us',vs',u',v',p,f1,f2,hu',hv',hp,ex,eH⟩:=hz0
   rw [e1] at f1
   rw [e2] at f2
   have:=mD f1
   have:=mD f2
   subst us' vs'
   rw [hu] at hu'
   rw [hv] at hv'
   cases hu'
   cases hv'
   subst ex eH
   obtain ⟨w3,s3⟩:=w.new (o:=.tup [u,v]) hp
   exact ⟨_,s3,w3,.tup bW (.cons ((du.mono sb).mono s3.gs) (.cons ((dv.mono sb).mono s3.gs) .nil))⟩
 ·unfold dh
  rw [List.length_map,List.length_zip,d1.length.symm,d2.length.symm]
  rcases Nat.le_total us.length vs.length with hle | hle
  ·left
   rw [Nat.min_eq_left hle]
   simp
  ·right
   rw [Nat.min_eq_right hle]
   simp
noncomputable def kF (i j:List Sl->Tr PyData):List Sl->Tr (List PyData):=λρ=>(i ρ).bind λx=>(j ρ).bind λy=>(Tr.of (eV x)).bind λxs=>(Tr.of (eV y)).bind λys=>.ret (dh xs ys)
theorem rb {iter:Expr} (h:PI X tg iter (Zdc (TAe PK i) (TAe PK j))):PI X tg iter (cP PK (kF i j)):=h.imp λσ H R0 hz0=>by
 obtain ⟨pa,G₀,H₀,m,ρ,G,R,z⟩:=hz0
 refine TAe.then R z λm1 x v G1 H1 s1 w1 R1 d1 q1=>?_
 refine TAe.then R1 q1 λm2 y u G2 H2 s2 w2 R2 d2 q2=>?_
 rw [Tr.ok_bind] at q2
 obtain ⟨xs,hx,q2⟩:=Tr.ok_of q2
 rw [Tr.ok_bind] at q2
 obtain ⟨ys,hy,q2⟩:=Tr.ok_of q2
 obtain ⟨b1,l1,us,rfl,e1,f1⟩:=kc (d1.mono s2.gs) hx
 obtain ⟨b2,l2,vs,rfl,e2,f2⟩:=kc d2 hy
 exact ⟨b1,b2,l1,l2,us,vs,rfl,rfl,w2.sub _ _ e1,w2.sub _ _ e2,q2 _ G2 H2 (s1.trans s2 w1.some) w2 (ZiN e1 e2 f1 f2)⟩
end
theorem ZdP {prog:Program} {w:World} {A:Around} (hh:A.handled=none) (b:Bool) (it l:Addr) (hne:l≠it) (items:Array Value):Draws prog w A it [it,l] items.size (λi v=>items[i]?=some v) (λi h=>ItAt b h it l i/\SqAt b h l items) where
 live:=λ_ _ st=>let ⟨o,ho,_⟩:=st.1.there; ⟨o,ho⟩
 frame:=λ_ _ _ st hk=>⟨st.1.at λo e=>hk it (by simp) o e,st.2.at λo e=>hk l (by simp) o e⟩
 item:=λi s Q E hi st hQ=>lT st.1 st.2 (x:=items[i]) (by simp [hi]) λh' hit' hs'=>hQ _ h' s.toks (by simp [hi]) ⟨hit',st.2.bt hs'.extBut hne⟩ hs'
 done:=λs Q E st hE=>pS hh st.1 st.2 (by simp) hE
theorem Zih (b:Bool) (l:Addr) (items:Array Value) :
  Meets (Builtin.«enumerate.__new__» ⟨[.type "enumerate",.ref l],[]⟩) (λ_ R s=>SqAt b s.heap l items /\
   R (.ok (.ret (.ref (s.heap.push (dB b l)).objs.size))) { s with heap:=(s.heap.push (dB b l)).push { cls:=.type "enumerate",data:=.fields #[.none,.bool false,.ref s.heap.objs.size,rawInt 0,.none,.none] } }) :=
 .of_wp λprog w A R s h=>by
  obtain ⟨hp,g,d,tk,os⟩:=s
  obtain ⟨hl,h⟩:=h
  have hsub:=sub_enumerate
  have q:SqAt b (Shared.heap ⟨hp,g,d,tk,os⟩) l items:=hl
  have ho:∃ ob,hp.get? l=some ob:=by
   cases b with
   | true=>obtain ⟨ob,e,_⟩:=hl; exact ⟨ob,e⟩
   | false=>obtain ⟨ob,e,_⟩:=hl; exact ⟨ob,e⟩
  obtain ⟨ob,ho⟩:=ho
  wp_walk using wpAny_loadPart' ho
  refine wpAny_stack_any λst=>wpAny_pure ?_
  split
  ·rename_i c _ _ _ _ _
   cases (c == Value.type "enumerate")
   ·wp_walk using wpAny_loadPart' ho,ge q
    exact ⟨_,rfl,h⟩
   ·wp_walk using wpAny_loadPart' ho,ge q
    exact ⟨_,rfl,h⟩
  ·wp_walk using wpAny_loadPart' ho,ge q
   exact ⟨_,rfl,h⟩
section
variable {prog:Program} {w:World} {A:Around} {E:Value->Shared->Prop} {s:Shared}
theorem Znc {b:Bool} {l:Addr} {items:Array Value} {Q:Value->Shared->Prop} (hl:SqAt b s.heap l items)
  (h:∀ h',IsEnum h' (s.heap.objs.size+1) s.heap.objs.size 0 .none->ItAt b h' s.heap.objs.size l 0->(∀ c o,s.heap.get? c=some o->h'.get? c=some o)->Q (.ref (s.heap.objs.size+1)) { s with heap:=h' }) :
  wpAny (model prog w) A (call (.type "enumerate") [.ref l]) Q E s:=by
 refine callType_new F.called_enumerate (by decide) (F.typeCall_enumerate_1 _) (F.newCall_enumerate_1 _) (λobj=>F.args_object_init_2 obj _) F.entry_enumerate_new (Zih b l items) ⟨hl,?_⟩
 have n1:(s.heap.push (dB b l)).objs.size=s.heap.objs.size+1:=Heap.size_push ..
 have a2:IsEnum ((s.heap.push (dB b l)).push { cls:=.type "enumerate",data:=.fields #[.none,.bool false,.ref s.heap.objs.size,rawInt 0,.none,.none] }) (s.heap.push (dB b l)).objs.size s.heap.objs.size 0 .none:=Heap.get?_push_size _ rfl
 have a1:((s.heap.push (dB b l)).push { cls:=.type "enumerate",data:=.fields #[.none,.bool false,.ref s.heap.objs.size,rawInt 0,.none,.none] }).get? s.heap.objs.size=some (dB b l):=Heap.get?_push_of_some _ (Heap.get?_push_size _ (by cases b <;> rfl))
 rw [n1] at a2
 show _/\_
 rw [n1]
 exact ⟨⟨_,a2,rfl⟩,h _ a2 (iO a1) λc o x=>Heap.get?_push_of_some _ (Heap.get?_push_of_some _ x)⟩
end
noncomputable def h8 (b:Bool) (l:Addr):It :=
 ⟨λi H=>∃ xs x,H l=some (a9 b xs)/\xs[i]?=some x,
  λi H v H'=>∃ xs x p,H l=some (a9 b xs)/\xs[i]?=some x/\H p=none/\v=.ref p/\H'=upd H p (.tup [.int i,x]),
  λi H=>∃ xs,H l=some (a9 b xs)/\xs.length=i⟩
theorem ZfE {P:Program} {w:World} {K:PySem.W.Frag} {elts:List Expr} {x1:Nat} {pos:Pos} {b:Bool} {l:Addr} (e it:Addr) (hne:e≠it) :
  Turn P w K (.Tuple elts x1 pos) (h8 b l) [e,it] e (λi h=>(∃ old,IsEnum h e it i old)/\ItAt b h it l i) where
 mem:=by simp
 obj:=λi h st c hb=>by
  obtain ⟨⟨old,he⟩,h1⟩:=st
  simp at hb
  rcases hb with rfl | rfl
  ·exact ⟨_,he,λv q=>by cases q⟩
  ·exact h1.there
 keep:=λi h h' st k=>by
  obtain ⟨⟨old,he⟩,h1⟩:=st
  exact ⟨⟨old,k _ (by simp) _ he⟩,h1.at λo q=>k _ (by simp) o q⟩
 item:=by
  intro X hP hw hK hc i pins s σ H E I hf st hg
  subst hP hw hK
  obtain ⟨xs,x,e1,hx⟩:=hg
  obtain ⟨⟨old,he⟩,h1⟩:=st
  obtain ⟨us,r1,q1⟩:=cZ I.hok e1
  obtain ⟨u,hu,ru⟩:=r1.get hx
  have nl:∀ c∈[e,it],l≠c:=λc hc=>cv e1 (hf c hc).1
  have hlt:i < us.toArray.size:=by
   have:=(List.getElem?_eq_some_iff.mp hu).1
   simpa using this
  refine wpAny_pyNext_enum_itemD (ZdP (A:=X.A.in1) (show X.A.in1.handled=none from I.ok.hd hc) b it l (nl it (by simp)) us.toArray) he ⟨h1,q1⟩ hlt hne (by simp only [List.mem_cons,List.not_mem_nil,or_false,not_or]; exact ⟨hne,(nl e (by simp)).symm⟩) λx' h' tk hP' ho st' hT hsz kk=>?_
  have hxu:x'=u:=by
   have q:us[i]?=some x':=by simpa using hP'
   rw [hu] at q
   cases q
   rfl
  subst hxu
  refine ⟨_,rfl,wpAny_letOwnedTupleGo_enum ho λh2' z2 sb=>?_⟩
  have lt:∀ {c:Addr} {o:Obj},s.heap.get? c=some o->s.heap.objs.size≠c:=λq=>Nat.ne_of_gt (Heap.lt_size q)
  have I1:Inv X pins σ H { s with heap:=h2',toks:=tk+1 }:=I.turns (ch:=[e,it]) (λc o hb q=>by
   simp at hb
   exact sb.extBut _ _ hb.1 (kk c o hb.1 hb.2 q)) hf
  have hTn:H s.heap.objs.size=none:=I.hok.fresh (Nat.le_refl _)
  have I2:=I1.pair (T:=s.heap.objs.size) (x:=.int i) (y:=x) hTn (sb.extBut _ _ (lt he) hT) ⟨tk,rfl⟩ ru (Nat.ne_of_gt I.lt) I.sz
   (λq cc ee hq=>by obtain ⟨vv,zz⟩:=I.cell q cc ee; exact absurd zz.lt (by rw [hq]; exact Nat.lt_irrefl _)) (λp hp hq=>absurd (Heap.lt_size (I.pin p hp).1) (by rw [hq]; exact Nat.lt_irrefl _))
  refine ⟨.ref s.heap.objs.size,_,I2,rfl,⟨xs,x,_,e1,hx,hTn,rfl,rfl⟩,⟨⟨_,z2⟩,st'.1.at λo q=>sb.extBut _ _ (Ne.symm hne) q⟩,λc hb=>?_⟩
  have hbn:c≠s.heap.objs.size:=by
   simp at hb
   obtain ⟨o1,g1,_⟩:=h1.there
   rcases hb with rfl | rfl
   ·exact (lt he).symm
   ·exact (lt g1).symm
  rw [aM hbn]
  exact (hf c hb).1
 done:=by
  intro X hP hw hK hc i pins s σ H E I hf st hg
  subst hP hw hK
  obtain ⟨xs,e1,hend⟩:=hg
  obtain ⟨⟨old,he⟩,h1⟩:=st
  obtain ⟨us,r1,q1⟩:=cZ I.hok e1
  have nl:∀ c∈[e,it],l≠c:=λc hc=>cv e1 (hf c hc).1
  have hsz:us.toArray.size=i:=by rw [List.size_toArray,<- r1.length]; exact hend
  subst hsz
  refine wpAny_pyNext_enum_endD (ZdP (A:=X.A.in1) (show X.A.in1.handled=none from I.ok.hd hc) b it l (nl it (by simp)) us.toArray) he ⟨h1,q1⟩ λh' eb=>⟨rfl,?_⟩
  exact I.turns (ch:=[e,it]) (t':=s.toks) (λc o hb q=>by
   simp at hb
   exact eb c o hb.2 q) hf
 self:=λ_ _ _ _ _ st h=>by
  obtain ⟨⟨old,he⟩,_⟩:=st
  exact wpAny_pyIter_enum he h
section
variable {X:Cx} {tg:Expr} {PK:Pk} {a b:Expr} {i j:List Sl->Tr PyData} {p pos:Pos}
noncomputable def Zdf (ta:TE):TI:=λσ H R=>ta σ H λx H1=>∃ b l xs,x=.ref l/\H1 l=some (a9 b xs)/\R (h8 b l) H1
theorem gh {elts:List Expr} {x1:Nat} {tpos:Pos} {ta:TE} (hc:X.calm=true) (hg:Gl X "enumerate") (hm:X.mg "enumerate"=none) (ha:PE X a ta)
  (hs:starEach [a] X.env=[(false,eval a X.env)]:=by rfl):PI X (.Tuple elts x1 tpos) (.Call (.Name "enumerate" p) [a] [] pos) (Zdf ta):=by
 intro pins s σ H R I h
 have hab:PA X [a] (fc ta aS):=ci ha cu (by rw [hs]; rfl)
 have h':fc ta aS σ H λvs H1=>∃ x,vs=[x]/\∃ b l xs,x=.ref l/\H1 l=some (a9 b xs)/\R (h8 b l) H1:=by
  have e:(λ(x:V) (H1:Hp)=>∃ b l xs,x=.ref l/\H1 l=some (a9 b xs)/\R (h8 b l) H1)=λx H1=>aS σ H1 λxs H2=>∃ y,x::xs=[y]/\∃ b l xs,y=.ref l/\H2 l=some (a9 b xs)/\R (h8 b l) H2:=by
   funext x H1
   apply propext
   constructor
   ·exact λq=>⟨x,rfl,q⟩
   ·rintro ⟨y,e,q⟩
    have e':x=y:=by simpa using e
    subst e'
    exact q
  have h0:ta σ H λx H1=>∃ b l xs,x=.ref l/\H1 l=some (a9 b xs)/\R (h8 b l) H1:=h
  rw [e] at h0
  exact h0
 refine Call_ (gW I hg hm boot_enumerate (PyProof.Rows.callWith_type1 (thn (hab pos pins s σ H _ I h') λus s1 hz0=>?_) (by rw [hs]; rfl) rfl))
 obtain ⟨vs,H1,I1,r1,q1⟩:=hz0
 obtain ⟨x,rfl,b,l,xs,rfl,e1,q⟩:=q1
 obtain ⟨u,rfl,ru⟩:=eN r1
 cases ru
 obtain ⟨us,ru,q1⟩:=cZ I1.hok e1
 refine Znc q1 λh' z t1 kk=>?_
 have I2:Inv X pins σ H1 { s1 with heap:=h' }:=I1.kept (t':=s1.toks) kk
 refine wpAny_pyIter_enum z ⟨s1.heap.objs.size+1,[s1.heap.objs.size+1,s1.heap.objs.size],_,_,H1,rfl,I2,ZfE _ _ (λq=>absurd (show (s1.heap.objs.size+1:Nat)=s1.heap.objs.size from q) (by omega)),⟨⟨_,z⟩,t1⟩,λc hb=>?_,q⟩
 have hle:s1.heap.objs.size<=c:=by
  simp at hb
  rcases hb with rfl | rfl <;> first | exact Nat.le_add_right _ _ | exact Nat.le_refl _
 exact I1.fpOk hle (I1.hok.fresh hle)
noncomputable def ck (xs:List PyData):List PyData:=(List.range xs.length).zipWith (λ(n:Nat) x=>.tuple [.int n,x]) xs
theorem ZiR {pa:Addr} {G:Hp} {b:Bool} {l:Addr} {us:List V} {xs:List PyData} (h1:G l=some (a9 b us)) (d1:DnAll G us xs):gG PK pa (h8 b l) G (ck xs):=λm G2 H2 sb w=>by
 have e1:H2 l=some (a9 b us):=w.sub _ _ (sb _ _ h1)
 have hlen:(ck xs).length=xs.length:=by unfold ck; simp
 refine ⟨λn d hd=>?_,us,e1,by rw [hlen,d1.length]⟩
 have hn:n < xs.length:=by rw [<- hlen]; exact (List.getElem?_eq_some_iff.mp hd).1
 have hd':d=.tuple [.int n,xs[n]]:=by
  unfold ck at hd
  rw [List.getElem?_zipWith] at hd
  simp [hn] at hd
  exact hd.symm
 subst hd'
 obtain ⟨u,hu,du⟩:=d1.get n (show xs[n]?=some xs[n] by simp [hn])
 refine ⟨⟨us,u,e1,hu⟩,λx H3 hz0=>?_⟩
 obtain ⟨us',u',p,f1,hu',hp,ex,eH⟩:=hz0
 rw [e1] at f1
 have:=mD f1
 subst us'
 rw [hu] at hu'
 cases hu'
 subst ex eH
 obtain ⟨w3,s3⟩:=w.new (o:=.tup [.int n,u]) hp
 exact ⟨_,s3,w3,.tup bW (.cons (.int n) (.cons ((du.mono sb).mono s3.gs) .nil))⟩
noncomputable def e9 (i:List Sl->Tr PyData):List Sl->Tr (List PyData):=λρ=>(i ρ).bind λx=>(Tr.of (eV x)).bind λxs=>.ret (ck xs)
theorem gB {iter:Expr} (h:PI X tg iter (Zdf (TAe PK i))):PI X tg iter (cP PK (e9 i)):=h.imp λσ H R0 hz0=>by
 obtain ⟨pa,G₀,H₀,m,ρ,G,R,z⟩:=hz0
 refine TAe.then R z λm1 x v G1 H1 s1 w1 R1 d1 q1=>?_
 rw [Tr.ok_bind] at q1
 obtain ⟨xs,hx,q1⟩:=Tr.ok_of q1
 obtain ⟨b1,l1,us,rfl,e1,f1⟩:=kc d1 hx
 exact ⟨b1,l1,us,rfl,w1.sub _ _ e1,q1 _ G1 H1 s1 w1 (ZiR e1 f1)⟩
end
end L2
set_option Elab.async false
set_option linter.all false
set_option maxRecDepth 100000
namespace L2
open PySem PySem.Spec PyProof.Rows
section
variable {prog:Program} {w:World} {A:Around}
theorem nR (hh:A.handled=none) (b:Bool) (I ax:Addr) (hne:ax≠I) (items:Array Value):Walks prog w A I [I,ax] [I] items.size (λi v=>items[i]?=some v) (λi h=>ItAt b h I ax i/\SqAt b h ax items):=by
 cases b with
 | true=>exact Walks.list hh I ax hne items
 | false=>exact Walks.tuple hh I ax hne items
end
theorem qp {ns:List Int} {us:List Value} (r:Vals (ns.map V.int) us) {i:Nat} {v:Value} (h:us[i]?=some v):∃ t,v=.int ((ns[i]?).getD 0) t:=by
 have hi:i < us.length:=(List.getElem?_eq_some_iff.mp h).1
 have hl:us.length=ns.length:=by rw [<- r.length,List.length_map]
 obtain ⟨u,e1,e2⟩:=r.get (i:=i) (x:=V.int ns[i]) (by simp [show i < ns.length by omega])
 rw [h] at e1
 cases e1
 obtain ⟨t,e2⟩:=e2
 exact ⟨t,by simp [show i < ns.length by omega,e2]⟩
theorem Zhs (ns:List Int):preSum (λi=>(ns[i]?).getD 0) ns.length=ns.sum:=by
 have key:∀ k,k<=ns.length->preSum (λi=>(ns[i]?).getD 0) k=(ns.take k).sum:=by
  intro k
  induction k with
  | zero=>intro _; simp [preSum]
  | succ k ih =>
   intro hk
   rw [preSum,ih (by omega),List.take_add_one,List.sum_append]
   simp [show k < ns.length by omega]
 rw [key _ (Nat.le_refl _),List.take_length]
section
variable {X:Cx} {PK:Pk}
theorem fW (hc:X.calm=true):dg X (.builtin "sum") (λxs H Q=>∃ (b:Bool) (l:Addr) (ns:List Int),xs=[.ref l]/\H l=some (a9 b (ns.map V.int))/\Q (.int ns.sum) H):=by
 intro pins s σ H xs us Q I r h
 obtain ⟨b,l,ns,rfl,e1,q⟩:=h
 obtain ⟨u,rfl,ru⟩:=eN r
 cases ru
 obtain ⟨vs,rv,sq⟩:=cZ I.hok e1
 have hlt:l < s.heap.objs.size:=I.hok.lt e1
 refine call_sum_walkG (ge sq ?_)
 refine ⟨s.heap.objs.size,[s.heap.objs.size,l],[s.heap.objs.size],vs.toArray.size,_,_,λi=>(ns[i]?).getD 0,rfl,nR (A:=X.A.in1) (I.ok.hd hc) b _ l (Nat.ne_of_lt hlt) vs.toArray,
  ⟨iO (Heap.get?_push_size _ (by cases b <;> rfl)),sq.push _⟩,λc hc=>?_,λi v hv=>qp rv (by simpa using hv),λh' tk t' hk=>?_⟩
 ·rw [Heap.size_push]
  simp at hc
  rcases hc with rfl | rfl
  ·exact Nat.lt_succ_self _
  ·exact Nat.lt_succ_of_lt hlt
 ·refine ⟨.int ns.sum,H,I.kept (t':=tk) λc o e=>hk c o (λz=>?_) (Heap.get?_push_of_some _ e),⟨t',?_⟩,q⟩
  ·have:c=s.heap.objs.size:=by simpa using z
   subst this
   exact Nat.lt_irrefl _ (Heap.lt_size e)
  ·have e:vs.toArray.size=ns.length:=by rw [List.size_toArray,<- rv.length,List.length_map]
   rw [e,Zhs]
theorem Zg8 (bs:List Bool):((List.range bs.length).all λi=>(bs[i]?).getD true)=bs.all id:=by
 rw [Bool.eq_iff_iff,List.all_eq_true,List.all_eq_true]
 constructor
 ·intro h x hx
  obtain ⟨i,hi,rfl⟩:=List.getElem_of_mem hx
  have:=h i (List.mem_range.mpr hi)
  simpa [hi] using this
 ·intro h i hi
  have hi':=List.mem_range.mp hi
  simpa [hi'] using h _ (List.getElem_mem hi')
theorem Znw {bs:List Bool} {us:List Value} (r:Vals (bs.map V.bl) us) {i:Nat} {v:Value} (h:us[i]?=some v):v=.bool ((bs[i]?).getD true):=by
 have hi:i < us.length:=(List.getElem?_eq_some_iff.mp h).1
 have hl:us.length=bs.length:=by rw [<- r.length,List.length_map]
 obtain ⟨u,e1,e2⟩:=r.get (i:=i) (x:=V.bl bs[i]) (by simp [show i < bs.length by omega])
 rw [h] at e1
 cases e1
 cases e2
 simp [show i < bs.length by omega]
theorem Znd (hc:X.calm=true):dg X (.builtin "all") (λxs H Q=>∃ (b:Bool) (l:Addr) (bs:List Bool),xs=[.ref l]/\H l=some (a9 b (bs.map V.bl))/\Q (.bl (bs.all id)) H):=by
 intro pins s σ H xs us Q I r h
 obtain ⟨b,l,bs,rfl,e1,q⟩:=h
 obtain ⟨u,rfl,ru⟩:=eN r
 cases ru
 obtain ⟨vs,rv,sq⟩:=cZ I.hok e1
 have hlt:l < s.heap.objs.size:=I.hok.lt e1
 refine call_all_walk (ge sq ?_)
 refine ⟨s.heap.objs.size,[s.heap.objs.size,l],[s.heap.objs.size],vs.toArray.size,_,_,λi=>(bs[i]?).getD true,rfl,nR (A:=X.A.in1) (I.ok.hd hc) b _ l (Nat.ne_of_lt hlt) vs.toArray,
  ⟨iO (Heap.get?_push_size _ (by cases b <;> rfl)),sq.push _⟩,λi v s' Q' E' hP hQ=>?_,λh' tk hk=>?_⟩
 ·have e:=Znw rv (i:=i) (v:=v) (by simpa using hP)
  subst e
  exact wpAny_truthy_bool hQ
 ·have e:vs.toArray.size=bs.length:=by rw [List.size_toArray,<- rv.length,List.length_map]
  rw [e,Zg8]
  refine ⟨.bl _,H,I.kept (t':=tk) λc o e=>hk c o (λz=>?_) (Heap.get?_push_of_some _ e),rfl,q⟩
  have:c=s.heap.objs.size:=by simpa using z
  subst this
  exact Nat.lt_irrefl _ (Heap.lt_size e)
noncomputable def bY:List Int->Int
 | []=>0
 | [n]=>n
 | n::m::r=>cE (bY (m::r)) n
theorem gT:∀ {ns:List Int},ns≠[]->bY ns∈ns/\∀ m∈ns,m<=bY ns
 | [],h=>absurd rfl h
 | [n],_=>⟨by simp [bY],by simp [bY]⟩
 | n::m::r,_=>by
  obtain ⟨h1,h2⟩:=gT (ns:=m::r) (by simp)
  unfold bY cE
  split
  ·refine ⟨by simp,λk hk=>?_⟩
   rcases List.mem_cons.mp hk with rfl | hk
   ·exact Int.le_refl _
   ·have:=h2 k hk; omega
  ·refine ⟨List.mem_cons_of_mem _ h1,λk hk=>?_⟩
   rcases List.mem_cons.mp hk with rfl | hk
   ·omega
   ·exact h2 k hk
theorem ZeN (f:Nat->Int):∀ k,argBest (λi j=>decide (f i > f j)) k<=k/\∀ j,j<=k->f j<=f (argBest (λi j=>decide (f i > f j)) k)
 | 0=>⟨Nat.le_refl _,λj hj=>by
  have:j=0:=by omega
  subst this
  exact Int.le_refl _⟩
 | k+1=>by
  obtain ⟨h1,h2⟩:=ZeN f k
  unfold argBest
  by_cases hc:f (k+1) > f (argBest (λi j=>decide (f i > f j)) k)
  ·rw [if_pos (by simpa using hc)]
   refine ⟨Nat.le_refl _,λj hj=>?_⟩
   rcases Nat.lt_or_eq_of_le hj with h | h
   ·have:=h2 j (by omega); omega
   ·subst h; exact Int.le_refl _
  ·rw [if_neg (by simpa using hc)]
   refine ⟨by omega,λj hj=>?_⟩
   rcases Nat.lt_or_eq_of_le hj with h | h
   ·exact h2 j (by omega)
   ·subst h; omega
theorem qP (hc:X.calm=true):dg X (.builtin "max") (λxs H Q=>∃ (b:Bool) (l:Addr) (ns:List Int),xs=[.ref l]/\H l=some (a9 b (ns.map V.int))/\ns≠[]/\Q (.int (bY ns)) H):=by
 intro pins s σ H xs us Q I r h
 obtain ⟨b,l,ns,rfl,e1,hne,q⟩:=h
 obtain ⟨u,rfl,ru⟩:=eN r
 cases ru
 obtain ⟨vs,rv,sq⟩:=cZ I.hok e1
 have hlt:l < s.heap.objs.size:=I.hok.lt e1
 have hsz:vs.toArray.size=ns.length:=by rw [List.size_toArray,<- rv.length,List.length_map]
 have hpos:0 < ns.length:=List.length_pos_iff.mpr hne
 refine call_max_walk (ge sq ?_)
 refine ⟨s.heap.objs.size,[s.heap.objs.size,l],[s.heap.objs.size],vs.toArray.size,_,_,λi j=>decide ((ns[i]?).getD 0 > (ns[j]?).getD 0),rfl,nR (A:=X.A.in1) (I.ok.hd hc) b _ l (Nat.ne_of_lt hlt) vs.toArray,
  ⟨iO (Heap.get?_push_size _ (by cases b <;> rfl)),sq.push _⟩,λc hc=>?_,by omega,CmpOf.ints_gt (λi=>(ns[i]?).getD 0) (λi v hv=>qp rv (by simpa using hv)),λv h' tk hv hk=>?_⟩
 ·rw [Heap.size_push]
  simp at hc
  rcases hc with rfl | rfl
  ·exact Nat.lt_succ_self _
  ·exact Nat.lt_succ_of_lt hlt
 ·obtain ⟨t,rfl⟩:=qp rv (by rw [<- List.getElem?_toArray]; exact hv)
  obtain ⟨b1,b2⟩:=ZeN (λi=>(ns[i]?).getD 0) (vs.toArray.size - 1)
  obtain ⟨m1,m2⟩:=gT hne
  refine ⟨.int (bY ns),H,I.kept (t':=tk) λc o e=>hk c o (λz=>?_) (Heap.get?_push_of_some _ e),⟨t,?_⟩,q⟩
  ·have:c=s.heap.objs.size:=by simpa using z
   subst this
   exact Nat.lt_irrefl _ (Heap.lt_size e)
  ·congr 1
   obtain ⟨i,hi,ei⟩:=List.getElem_of_mem m1
   have h1:=b2 i (by omega)
   simp only [hi,List.getElem?_eq_getElem,Option.getD_some,ei] at h1
   have hb:argBest (λi j=>decide ((ns[i]?).getD 0 > (ns[j]?).getD 0)) (vs.toArray.size - 1) < ns.length:=by omega
   have h2:=m2 _ (List.getElem_mem hb)
   simp only [hb,List.getElem?_eq_getElem,Option.getD_some] at h1 ⊢
   omega
noncomputable def bools?:List PyData->Option (List Bool)
 | []=>some []
 | .bool n::xs=>(bools? xs).bind λns=>some (n::ns)
 | _=>none
@[simp] theorem bools?_map:∀ ns:List Bool,bools? (ns.map PyData.bool)=some ns
 | []=>rfl
 | n::ns=>by rw [List.map_cons,bools?,bools?_map ns]; rfl
theorem DnAll.bools_inv {H:Hp} {vs:List V} {ds:List PyData} {ns:List Bool} (a:DnAll H vs ds) (h:bools? ds=some ns):vs=ns.map V.bl/\ds=ns.map PyData.bool:=by
 induction vs generalizing ds ns with
 | nil=>cases a; cases h; exact ⟨rfl,rfl⟩
 | cons v vs ih =>
  cases a with
  | cons g t =>
   cases g with
   | bl n =>
    unfold bools? at h
    rename_i ds
    cases e:bools? ds with
    | none=>rw [e] at h; cases h
    | some ms =>
     rw [e] at h
     cases h
     obtain ⟨h1,h2⟩:=ih t e
     exact ⟨by rw [h1]; rfl,by rw [h2]; rfl⟩
   | _=>unfold bools? at h; cases h
noncomputable def fg {α:Type} (p:List PyData->Option α) (f:α->Option PyData):List PyData->Option PyData
 | [x]=>(eV x).bind λxs=>(p xs).bind f
 | _=>none
noncomputable def cr:List PyData->Option PyData:=fg ints? λns=>some (.int ns.sum)
noncomputable def fP:List PyData->Option PyData:=fg ints? λns=>if (!ns.isEmpty)=true then some (.int (bY ns)) else none
noncomputable def kB:List PyData->Option PyData:=fg bools? λns=>some (.bool (ns.all id))
theorem pP {α:Type} {p:List PyData->Option α} {f:α->Option PyData} {G:Hp} {vs:List V} {ds:List PyData} {d:PyData} (hv:DnAll G vs ds) (h:fg p f ds=some d):∃ b l us xs y,vs=[.ref l]/\G l=some (a9 b us)/\DnAll G us xs/\p xs=some y/\f y=some d:=by
 unfold fg at h
 split at h
 ·rename_i x
  cases hx:eV x with
  | none=>rw [hx] at h; cases h
  | some xs =>
   rw [hx] at h
   have h':(p xs).bind f=some d:=h
   cases hp:p xs with
   | none=>rw [hp] at h'; cases h'
   | some y =>
    rw [hp] at h'
    cases hv with
    | cons h1 h2 =>
     cases h2
     obtain ⟨b,l,us,rfl,e1,e2⟩:=kc h1 hx
     exact ⟨b,l,us,xs,y,rfl,e1,e2,hp,h'⟩
 ·cases h
theorem fx:eJ (λxs H Q=>∃ (b:Bool) (l:Addr) (ns:List Int),xs=[.ref l]/\H l=some (a9 b (ns.map V.int))/\Q (.int ns.sum) H) cr:=λPK pa m G H vs ds d Q w hv hd k=>by
 obtain ⟨b,l,us,xs,ns,rfl,e1,e2,hp,hf⟩:=pP hv hd
 obtain ⟨rfl,rfl⟩:=e2.ints_inv hp
 cases hf
 exact ⟨b,l,ns,rfl,w.sub _ _ e1,k.here w (.int _)⟩
theorem nV:eJ (λxs H Q=>∃ (b:Bool) (l:Addr) (ns:List Int),xs=[.ref l]/\H l=some (a9 b (ns.map V.int))/\ns≠[]/\Q (.int (bY ns)) H) fP:=λPK pa m G H vs ds d Q w hv hd k=>by
 obtain ⟨b,l,us,xs,ns,rfl,e1,e2,hp,hf⟩:=pP hv hd
 obtain ⟨rfl,rfl⟩:=e2.ints_inv hp
 split at hf
 ·rename_i hc
  cases hf
  exact ⟨b,l,ns,rfl,w.sub _ _ e1,(λz=>by subst z; cases hc),k.here w (.int _)⟩
 ·cases hf
theorem Zfu:eJ (λxs H Q=>∃ (b:Bool) (l:Addr) (bs:List Bool),xs=[.ref l]/\H l=some (a9 b (bs.map V.bl))/\Q (.bl (bs.all id)) H) kB:=λPK pa m G H vs ds d Q w hv hd k=>by
 obtain ⟨b,l,us,xs,ns,rfl,e1,e2,hp,hf⟩:=pP hv hd
 obtain ⟨rfl,rfl⟩:=e2.bools_inv hp
 cases hf
 exact ⟨b,l,ns,rfl,w.sub _ _ e1,k.here w (.bl _)⟩
variable {a b c e:Expr} {pos:Pos} {i j l:List Sl->Tr PyData}
theorem Zc8:OpR X (inplaceOp .Mult) (rI CMulG λi j=>.int (i * j)):=gk λ_ _ _ _ _ _ _ hc q=>imul_int q hc.ok
theorem pip {op:Operator} {r:R2} (h:OpR X (inplaceOp op) r):nr X op r:=h
noncomputable def ka:PyData->PyData->Option PyData
 | .int m,.int n=>some (.int (m+n))
 | _,_=>none
theorem Zam:cH (dN λi j=>.int (i+j)) ka:=λPK pa m G H x y dx dy dz Q w hx hy hz k=>by
 unfold ka at hz
 split at hz
 ·cases hz; cases hx; cases hy
  exact ⟨_,_,rfl,rfl,k.here w (.int _)⟩
 ·cases hz
noncomputable def iP:PyData->PyData->Option PyData
 | .int m,.int n=>if (fit m && fit n)=true then some (.int (m * n)) else none
 | _,_=>none
theorem Zal:cH (rI CMulG λi j=>.int (i * j)) iP:=λPK pa m G H x y dx dy dz Q w hx hy hz k=>by
 unfold iP at hz
 split at hz
 ·split at hz
  ·rename_i hc
   rw [Bool.and_eq_true] at hc
   cases hz; cases hx; cases hy
   exact ⟨_,_,rfl,rfl,⟨of_decide_eq_true hc.1,of_decide_eq_true hc.2⟩,k.here w (.int _)⟩
  ·cases hz
 ·cases hz
end
theorem Zh1 {PK:Pk} {is:List Sl->Tr (List PyData)}:∀ σ H Q,TAe PK (bJ is) σ H Q->fb PK is σ H Q:=by
 intro σ H Q z
 obtain ⟨pa,G₀,H₀,m,ρ,G,R,z⟩:=z
 exact ⟨pa,G₀,H₀,m,ρ,G,R,Tr.ok_mono (Tr.ok_bind.mp z) λm1 xs k=>Ko1.of k R.wd.some⟩
theorem qZ {PK:Pk} {X:Cx} {st:Stmt} {is:List Sl->Tr (List PyData)} {i:List Sl->Tr PyData} {n k:Nat} {ix:List Nat} {g:PyData->List Sl->Option (List Sl)} (h:PS X st (dJ (ie (cP PK is) n ix (λ_=>dH PK g) (λ_=>TAe PK i)) (eA k))) (hn:eK n g):PS X st (bw PK (aT k (bJ (bZ is n ix g i)))) :=
 aZ (h.imp (oh λσ H Q z=>qe hn σ H Q (Zh1 σ H Q z)))
end L2
set_option Elab.async false
set_option linter.all false
set_option maxRecDepth 100000
namespace L2
open PySem PySem.Spec PyProof.Rows
variable {ρ:List Sl} {s t:List Sl->Tr Ou} {i j l:List Sl->Tr PyData} {is:List Sl->Tr (List PyData)} {as:List Sl->Tr (List Sl)} {f:List Sl->Tr Re} {p q:List Sl->Tr Bool} {k n:Nat} {x y d:PyData} {xs ys:List PyData} {sl:Sl}
theorem Zju:aa 0 (.d x::ρ)=.ret x:=rfl
theorem Zjt:aa (k+1) (sl::ρ)=aa k ρ:=rfl
theorem ZlL:aC d ρ=.ret d:=rfl
noncomputable def aV (g:PyData->PyData->Option PyData) (x y:PyData):Tr PyData:=Tr.of (g x y)
noncomputable def ZeM (g:PyData->PyData->Option PyData) (j:List Sl->Tr PyData) (ρ:List Sl) (x:PyData):Tr PyData:=(j ρ).bind (aV g x)
theorem Zlo {g:PyData->PyData->Option PyData}:ag g i j ρ=(i ρ).bind (ZeM g j ρ):=rfl
theorem Zln {g:PyData->PyData->Option PyData}:ZeM g j ρ x=(j ρ).bind (aV g x):=rfl
theorem ZlD (m n:Int):aV bf (.int m) (.int n)=.ret (.int (m+n)):=rfl
theorem ZlB (h1:xs.isEmpty=false) (h2:small (xs.length+ys.length)=true):aV bf (.tuple xs) (.tuple ys)=.ret (.tuple (xs++ys)):=by
 simp [aV,bf,h1,h2]
theorem qD (h2:small (xs.length+ys.length)=true):aV bf (.list xs) (.list ys)=.ret (.list (xs++ys)):=by
 simp [aV,bf,h2]
theorem ZjE (m n:Int):aV cI (.int m) (.int n)=.ret (.int (m - n)):=rfl
theorem Zky {m n:Int} (h1:fit m=true) (h2:fit n=true):aV bA (.int m) (.int n)=.ret (.int (m * n)):=by
 simp [aV,bA,h1,h2]
theorem mM {m n:Int} (h1:n≠0) (h2:fit n=true):aV fm (.int m) (.int n)=.ret (.int (m.fdiv n)):=by
 simp [aV,fm,h1,h2]
theorem mK {m n:Int} (h1:n≠0):aV fh (.int m) (.int n)=.ret (.int (m.fmod n)):=by
 simp [aV,fh,h1]
theorem Zli {g:Int->Int->Bool} (m n:Int):aV (eC g) (.int m) (.int n)=.ret (.bool (g m n)):=rfl
theorem Zla (m n:Int):aV gx (.int m) (.int n)=.ret (.bool (m == n)):=rfl
theorem Zk9 (m n:Str):aV gx (.str m) (.str n)=.ret (.bool (m == n)):=rfl
theorem Zkx (m n:Str):aV jL (.str m) (.str n)=.ret (.bool (!(m == n))):=rfl
theorem ZkO (n:Int):aV aK (.list xs) (.int n)=Tr.of (bp xs n):=rfl
theorem cS (n:Int):aV aK (.tuple xs) (.int n)=Tr.of (bp xs n):=rfl
theorem iX {α:Type} {xs:List α} {n:Int} {v:α} (h0:0<=n) (h:xs[n.toNat]?=some v):bp xs n=some v:=by
 have e:(n.toNat:Int)=n:=Int.toNat_of_nonneg h0
 rw [<- e]
 exact eX h
section
variable {α:Type} {a0 a1 a2 a3 a4 a5 a6 a7 a8:α} {r:List α}
theorem hI:bp (a0::r) 0=some a0:=eX (j:=0) rfl
theorem mT:bp (a0::a1::r) 1=some a1:=eX (j:=1) rfl
theorem qY:bp (a0::a1::a2::r) 2=some a2:=eX (j:=2) rfl
theorem ZeU:bp (a0::a1::a2::a3::r) 3=some a3:=eX (j:=3) rfl
theorem ZeT:bp (a0::a1::a2::a3::a4::r) 4=some a4:=eX (j:=4) rfl
theorem ZeS:bp (a0::a1::a2::a3::a4::a5::r) 5=some a5:=eX (j:=5) rfl
theorem ZeR:bp (a0::a1::a2::a3::a4::a5::a6::r) 6=some a6:=eX (j:=6) rfl
theorem ZeQ:bp (a0::a1::a2::a3::a4::a5::a6::a7::r) 7=some a7:=eX (j:=7) rfl
theorem ZeP:bp (a0::a1::a2::a3::a4::a5::a6::a7::a8::r) 8=some a8:=eX (j:=8) rfl
end
noncomputable def Zct:PyData->Tr PyData
 | .int n=>.ret (.int (-n))
 | _=>.fail
theorem Zkw:eZ i ρ=(i ρ).bind Zct:=by
 unfold eZ
 refine congrArg (Tr.bind (i ρ)) (funext λx=>?_)
 cases x <;> rfl
theorem Zkv (n:Int):Zct (.int n)=.ret (.int (-n)):=rfl
noncomputable def Zau (x:PyData):Tr Bool:=Tr.of (kZ x)
theorem ZjD:df i ρ=(i ρ).bind Zau:=rfl
theorem Zjz (b:Bool):Zau (.bool b)=.ret b:=rfl
noncomputable def n6 (x:PyData):Tr Bool:=Tr.of (Zav x)
theorem ZjC:i7 i ρ=(i ρ).bind n6:=rfl
theorem ZjB (b:Bool):n6 (.bool b)=.ret b:=rfl
theorem ZjA (n:Int):n6 (.int n)=.ret (n != 0):=rfl
noncomputable def or1 (q:List Sl->Tr Bool) (ρ:List Sl) (b:Bool):Tr Bool:=if b=true then .ret true else q ρ
noncomputable def Zcr (b:Bool):Tr Bool:=.ret (!b)
theorem Zkq:rp p q ρ=(p ρ).bind (or1 q ρ):=rfl
theorem Zkt:kH p ρ=(p ρ).bind Zcr:=rfl
theorem Zkp:or1 q ρ false=q ρ:=rfl
theorem Zks (b:Bool):Zcr b=.ret (!b):=rfl
noncomputable def qu (i j:List Sl->Tr PyData) (ρ:List Sl) (b:Bool):Tr PyData:=if b=true then i ρ else j ρ
theorem Zk2:rz p i j ρ=(p ρ).bind (qu i j ρ):=rfl
theorem Zk0:qu i j ρ true=i ρ:=rfl
theorem Zk1:qu i j ρ false=j ρ:=rfl
noncomputable def qN (x:PyData) (xs:List PyData):Tr (List PyData):=.ret (x::xs)
noncomputable def Zei (is:List Sl->Tr (List PyData)) (ρ:List Sl) (x:PyData):Tr (List PyData):=(is ρ).bind (qN x)
theorem Zku:au ρ=.ret []:=rfl
theorem Zlh:ai i is ρ=(i ρ).bind (Zei is ρ):=rfl
theorem Zlg:Zei is ρ x=(is ρ).bind (qN x):=rfl
theorem Zlf:qN x xs=.ret (x::xs):=rfl
noncomputable def n5 (xs:List PyData):Tr PyData:=if small xs.length=true then .ret (.tuple xs) else .fail
theorem Zjy:de is ρ=(is ρ).bind n5:=rfl
theorem Zjx (h:small xs.length=true):n5 xs=.ret (.tuple xs):=by unfold n5; rw [if_pos h]
noncomputable def ZcE (xs:List PyData):Tr PyData:=.ret (.list xs)
theorem ZkC:bJ is ρ=(is ρ).bind ZcE:=rfl
theorem ZkB:ZcE xs=.ret (.list xs):=rfl
noncomputable def qb (xs:List PyData):Tr (List PyData):=if small xs.length=true then .ret xs else .fail
theorem ZkE:dF is ρ=(is ρ).bind qb:=rfl
theorem ZkD (h:small xs.length=true):qb xs=.ret xs:=by unfold qb; rw [if_pos h]
theorem bO {n:Nat} (h:n<=10000):small n=true:=decide_eq_true (Nat.le_trans h (by decide))
noncomputable def bE (g:List PyData->Option PyData) (xs:List PyData):Tr PyData:=Tr.of (g xs)
theorem Zlj {g:List PyData->Option PyData}:ba g is ρ=(is ρ).bind (bE g):=rfl
theorem ZkF:bE dA [.list xs]=.ret (.int xs.length):=rfl
theorem ki:bE dA [.tuple xs]=.ret (.int xs.length):=rfl
theorem ZlE (n:Int):bE i6 [.int n]=.ret (.int (m9 n)):=rfl
theorem ZkA (m n:Int):bE jQ [.int m,.int n]=.ret (.int (cE m n)):=rfl
theorem Zkz (m n:Int):bE jP [.int m,.int n]=.ret (.int (fi m n)):=rfl
theorem Zjw:bE cY [.list xs]=.ret (.tuple xs):=rfl
theorem qB (h:jw x=true):bE ff [x]=.ret (.str x.shown):=by
 simp [bE,ff,h]
theorem mJ (ns:List Int):bE cr [.list (ns.map .int)]=.ret (.int ns.sum):=by
 unfold bE cr fg
 simp
theorem mI (ns:List Int):bE cr [.tuple (ns.map .int)]=.ret (.int ns.sum):=by
 unfold bE cr fg
 simp
theorem Zdr (ns:List Bool):bE kB [.list (ns.map .bool)]=.ret (.bool (ns.all id)):=by
 unfold bE kB fg
 simp
noncomputable def dL (x:PyData) (lo:Option Int) (hi:Option Int):Tr PyData:=Tr.of (ZaT x lo hi)
noncomputable def dZ (q:eY) (ρ:List Sl) (x:PyData) (lo:Option Int):Tr PyData:=(q ρ).bind (dL x lo)
noncomputable def sl1 (p q:eY) (ρ:List Sl) (x:PyData):Tr PyData:=(p ρ).bind (dZ q ρ x)
theorem ZjI {p q:eY}:cN i p q ρ=(i ρ).bind (sl1 p q ρ):=rfl
theorem ZjH {p q:eY}:sl1 p q ρ x=(p ρ).bind (dZ q ρ x):=rfl
theorem ZjG {q:eY} {lo:Option Int}:dZ q ρ x lo=(q ρ).bind (dL x lo):=rfl
theorem ZjF {lo hi:Option Int}:dL (.list xs) lo hi=.ret (.list (dC xs lo hi)):=rfl
theorem Zkm:cO ρ=.ret none:=rfl
noncomputable def pa1:PyData->Tr (Option Int)
 | .int n=>.ret (some n)
 | _=>.fail
theorem Zkl:cG i ρ=(i ρ).bind pa1:=by
 unfold cG
 refine congrArg (Tr.bind (i ρ)) (funext λx=>?_)
 cases x <;> rfl
theorem Zkk (n:Int):pa1 (.int n)=.ret (some n):=rfl
noncomputable def nZ (xs:List PyData):Tr PyData:=(Tr.of (ju xs)).bind λys=>.ret (.tuple ys)
theorem Zjv:rj is ρ=(is ρ).bind nZ:=rfl
theorem Zdn {lo hi:Int} (h:jv lo hi=true):nZ [.int lo,.int hi]=.ret (.tuple (bc lo hi)):=by
 simp [nZ,ju,h]
theorem ZlH:ay ρ=.ret []:=rfl
noncomputable def kE (x:Sl) (xs:List Sl):Tr (List Sl):=.ret (x::xs)
noncomputable def aa1 (as:List Sl->Tr (List Sl)) (ρ:List Sl) (x:PyData):Tr (List Sl):=(as ρ).bind (kE (.d x))
theorem ZlI:ae i as ρ=(i ρ).bind (aa1 as ρ):=rfl
theorem ZlK:aa1 as ρ x=(as ρ).bind (kE (.d x)):=rfl
theorem ZlJ {xs:List Sl}:kE sl xs=.ret (sl::xs):=rfl
noncomputable def iy:Nat->List Sl->Tr Unit
 | 0,.pen::_=>.ret ()
 | k+1,_::ρ=>iy k ρ
 | _,_=>.fail
theorem Zkh:iy 0 (.pen::ρ)=.ret ():=rfl
theorem Zkg:iy (k+1) (sl::ρ)=iy k ρ:=rfl
noncomputable def aap (as:List Sl->Tr (List Sl)) (ρ:List Sl) (_:Unit):Tr (List Sl):=(as ρ).bind (kE .pen)
theorem ZlG:cp k as ρ=(iy k ρ).bind (aap as ρ):=by
 have key:∀ (k:Nat) (σ:List Sl) (as:List Sl->Tr (List Sl)) (ρ:List Sl),(match σ[k]? with | some Sl.pen=>(as ρ).bind λxs=>Tr.ret (Sl.pen::xs) | _=>Tr.fail)=(iy k σ).bind (aap as ρ):=by
  intro k
  induction k with
  | zero =>
   intro σ as ρ
   cases σ with
   | nil=>rfl
   | cons s r=>cases s <;> rfl
  | succ k ih =>
   intro σ as ρ
   cases σ with
   | nil=>rfl
   | cons s r=>exact ih r as ρ
 exact key k ρ as ρ
theorem ZlF (u:Unit):aap as ρ u=(as ρ).bind (kE .pen):=rfl
theorem Zlk:az f as ρ=(as ρ).bind f:=rfl
noncomputable def re1 (r:Re):Tr PyData:=.ret r.val
theorem Zkf:aD f ρ=(f ρ).bind re1:=rfl
theorem Zke (r:Re):re1 r=.ret r.val:=rfl
theorem Zle {as:List Sl} (h:as.length=n):bj n k s as=(s (as++List.replicate k .un)).bind mG:=by
 unfold bj
 rw [if_pos (decide_eq_true h)]
theorem Zk8:mG (.next ρ)=.ret (.d .none):=rfl
theorem Zk7 (r:Re):mG (.ret r)=.ret r:=rfl
noncomputable def oA (t:List Sl->Tr Ou):Ou->Tr Ou
 | .next ρ=>t ρ
 | o=>.ret o
theorem ZjT:ao s t ρ=(s ρ).bind (oA t):=by
 unfold ao
 refine congrArg (Tr.bind (s ρ)) (funext λo=>?_)
 cases o <;> rfl
theorem ZjS:oA t (.next ρ)=t ρ:=rfl
theorem ZjR (r:Re):oA t (.ret r)=.ret (.ret r):=rfl
theorem ZjJ:eF ρ=.ret (.next ρ):=rfl
noncomputable def qq (s t:List Sl->Tr Ou) (ρ:List Sl) (b:Bool):Tr Ou:=if b=true then s ρ else t ρ
theorem ZkV:eI p s t ρ=(p ρ).bind (qq s t ρ):=rfl
theorem ZkT:qq s t ρ true=s ρ:=rfl
theorem ZkU:qq s t ρ false=t ρ:=rfl
noncomputable def ZbC (x:PyData):Tr Ou:=.ret (.ret (.d x))
theorem Zkd:bI i ρ=(i ρ).bind ZbC:=rfl
theorem Zkc:ZbC x=.ret (.ret (.d x)):=rfl
noncomputable def ZbB (xs:List PyData):Tr Ou:=.ret (.ret (.own xs))
theorem Zkb:nc is ρ=(is ρ).bind ZbB:=rfl
theorem Zka:ZbB xs=.ret (.ret (.own xs)):=rfl
noncomputable def ZbA (r:Re):Tr Ou:=.ret (.ret r)
theorem Zj9:jb f ρ=(f ρ).bind ZbA:=rfl
theorem Zj8 (r:Re):ZbA r=.ret (.ret r):=rfl
theorem Zj7:eG 0 (.d x::ρ)=.ret (.ret (.d x)):=rfl
theorem Zj6:eG 0 (.own xs::ρ)=.ret (.ret (.own xs)):=rfl
theorem Zj5:eG (k+1) (sl::ρ)=eG k ρ:=rfl
noncomputable def lc (k:Nat) (ρ:List Sl) (x:PyData):Tr Ou:=.ret (.next (ρ.set k (.d x)))
theorem ZjQ:aT k i ρ=(i ρ).bind (lc k ρ):=rfl
theorem ZjP:lc k ρ x=.ret (.next (ρ.set k (.d x))):=rfl
noncomputable def Za0 (k:Nat) (ρ:List Sl) (x:List PyData):Tr Ou:=.ret (.next (ρ.set k (.own x)))
theorem ZjO:ft k is ρ=(is ρ).bind (Za0 k ρ):=rfl
theorem ZjN:Za0 k ρ xs=.ret (.next (ρ.set k (.own xs))):=rfl
theorem Zio {α:Type} {a b:α} {r:List α}:(a::r).set 0 b=b::r:=rfl
theorem Zin {α:Type} {a b:α} {r:List α}:(a::r).set (k+1) b=a::r.set k b:=rfl
noncomputable def qW (g:PyData->PyData->Option PyData) (k:Nat) (ρ:List Sl) (x y:PyData):Tr Ou:=(aV g x y).bind (lc k ρ)
noncomputable def ZeO (g:PyData->PyData->Option PyData) (k:Nat) (i:List Sl->Tr PyData) (ρ:List Sl) (x:PyData):Tr Ou:=(i ρ).bind (qW g k ρ x)
theorem Zls {g:PyData->PyData->Option PyData}:hZ g k i ρ=(aa k ρ).bind (ZeO g k i ρ):=rfl
theorem Zlr {g:PyData->PyData->Option PyData}:ZeO g k i ρ x=(i ρ).bind (qW g k ρ x):=rfl
theorem Zlq {g:PyData->PyData->Option PyData}:qW g k ρ x y=(aV g x y).bind (lc k ρ):=rfl
theorem Zk3 (m n:Int):aV ka (.int m) (.int n)=.ret (.int (m+n)):=rfl
theorem ZkS {m n:Int} (h1:fit m=true) (h2:fit n=true):aV iP (.int m) (.int n)=.ret (.int (m * n)):=by
 simp [aV,iP,h1,h2]
noncomputable def fL:Nat->List Sl->Tr (List PyData)
 | 0,.own xs::_=>.ret xs
 | k+1,_::ρ=>fL k ρ
 | _,_=>.fail
theorem Zko:fL 0 (.own xs::ρ)=.ret xs:=rfl
theorem Zkn:fL (k+1) (sl::ρ)=fL k ρ:=rfl
theorem lP {β:Type} {g:List PyData->Tr β}:∀ (k:Nat) (σ:List Sl),(match σ[k]? with | some (Sl.own xs)=>g xs | _=>Tr.fail)=(fL k σ).bind g
 | 0,[]=>rfl
 | 0,s::r=>by cases s <;> rfl
 | k+1,[]=>rfl
 | k+1,s::r=>lP k r
noncomputable def mZ (k:Nat) (ρ:List Sl) (xs:List PyData) (x:PyData):Tr Ou:=if small (xs.length+1)=true then .ret (.next (ρ.set k (.own (xs++[x])))) else .fail
noncomputable def Ze3 (k:Nat) (i:List Sl->Tr PyData) (ρ:List Sl) (xs:List PyData):Tr Ou:=(i ρ).bind (mZ k ρ xs)
theorem Zlx:gE k i ρ=(fL k ρ).bind (Ze3 k i ρ):=lP k ρ
theorem Zlw:Ze3 k i ρ xs=(i ρ).bind (mZ k ρ xs):=rfl
theorem Zlv (h:small (xs.length+1)=true):mZ k ρ xs x=.ret (.next (ρ.set k (.own (xs++[x])))):=by unfold mZ; rw [if_pos h]
noncomputable def Zbz (k:Nat) (ρ:List Sl) (xs:List PyData):Tr Ou:=.ret (.next (ρ.set k (.own xs.reverse)))
theorem Zj4:i9 k ρ=(fL k ρ).bind (Zbz k ρ):=lP k ρ
theorem Zj3:Zbz k ρ xs=.ret (.next (ρ.set k (.own xs.reverse))):=rfl
theorem Zk4:hW k s ρ=s (fz k ρ):=rfl
theorem Zjh:fz 0 (.own xs::ρ)=.d (.list xs)::ρ:=rfl
theorem Zji:fz (k+1) (sl::ρ)=sl::fz k ρ:=by
 unfold fz
 rw [List.getElem?_cons_succ]
 cases h:ρ[k]? with
 | none=>rfl
 | some s=>cases s <;> rfl
noncomputable def pQ (ρ:List Sl):Tr Ou:=.ret (.next ρ)
noncomputable def ZeV (g:PyData->List Sl->Option (List Sl)) (ρ:List Sl) (x:PyData):Tr Ou:=(Tr.of (g x ρ)).bind pQ
theorem Zlu {g:PyData->List Sl->Option (List Sl)}:je g i ρ=(i ρ).bind (ZeV g ρ):=rfl
theorem Zlt {g:PyData->List Sl->Option (List Sl)}:ZeV g ρ x=(Tr.of (g x ρ)).bind pQ:=rfl
theorem Zkr:pQ ρ=.ret (.next ρ):=rfl
theorem Zi5:ah k x ρ=some (ρ.set k (.d x)):=rfl
theorem Zi3 {gs:List PyData->List Sl->Option (List Sl)}:aX gs (.tuple xs) ρ=gs xs ρ:=rfl
theorem Zi6:aW [] ρ=some ρ:=rfl
theorem Zi7 {g:PyData->List Sl->Option (List Sl)} {gs:List PyData->List Sl->Option (List Sl)}:ak g gs (x::xs) ρ=(g x ρ).bind (gs xs):=rfl
theorem Zi4 {α β:Type} {a:α} {g:α->Option β}:(some a).bind g=g a:=rfl
noncomputable def Zcj (k n:Nat) (ρ:List Sl):List PyData->Tr Ou
 | [x,y]=>.ret (.next ((ρ.set k (.d x)).set n (.d y)))
 | _=>.fail
theorem Zkj:hV k n is ρ=(is ρ).bind (Zcj k n ρ):=by
 unfold hV
 refine congrArg (Tr.bind (is ρ)) (funext λxs=>?_)
 match xs with
 | []=>rfl
 | [_]=>rfl
 | [_,_]=>rfl
 | _::_::_::_=>rfl
theorem Zki:Zcj k n ρ [x,y]=.ret (.next ((ρ.set k (.d x)).set n (.d y))):=rfl
noncomputable def dQ (x:PyData):Tr (List PyData):=Tr.of (eV x)
theorem ZkR:cW i ρ=(i ρ).bind dQ:=rfl
theorem ZkQ:dQ (.list xs)=.ret xs:=rfl
theorem ZkP:dQ (.tuple xs)=.ret xs:=rfl
noncomputable def ef (xs:List PyData):Tr (List PyData):=Tr.of (ip xs)
noncomputable def gc (xs:List PyData):Tr (List PyData):=Tr.of (io xs)
theorem ZjZ:gD is ρ=(is ρ).bind ef:=rfl
theorem ZjY:i8 is ρ=(is ρ).bind gc:=rfl
theorem dm {n:Int} (h1:-1000000000000<=n) (h2:n<=1000000000000):dq n=true:=decide_eq_true (by omega)
theorem gZ {n:Int} (h:dq n=true):ef [.int n]=.ret (bc 0 n):=by
 simp [ef,ip,h]
theorem qA {m n:Int} (h1:dq m=true) (h2:dq n=true):gc [.int m,.int n]=.ret (bc m n):=by
 simp [gc,io,h1,h2]
noncomputable def nI (xs:List PyData) (ys:List PyData):Tr (List PyData):=.ret (dh xs ys)
noncomputable def nJ (y:PyData) (xs:List PyData):Tr (List PyData):=(dQ y).bind (nI xs)
noncomputable def nK (x y:PyData):Tr (List PyData):=(dQ x).bind (nJ y)
noncomputable def Zaa (j:List Sl->Tr PyData) (ρ:List Sl) (x:PyData):Tr (List PyData):=(j ρ).bind (nK x)
theorem Zjs:kF i j ρ=(i ρ).bind (Zaa j ρ):=rfl
theorem Zjr:Zaa j ρ x=(j ρ).bind (nK x):=rfl
theorem Zjq:nK x y=(dQ x).bind (nJ y):=rfl
theorem Zjp:nJ y xs=(dQ y).bind (nI xs):=rfl
theorem Zjo:nI xs ys=.ret (dh xs ys):=rfl
noncomputable def qE (xs:List PyData):Tr (List PyData):=.ret (ck xs)
noncomputable def Zdu (x:PyData):Tr (List PyData):=(dQ x).bind qE
theorem Zlb:e9 i ρ=(i ρ).bind Zdu:=rfl
theorem Zld:Zdu x=(dQ x).bind qE:=rfl
theorem Zlc:qE xs=.ret (ck xs):=rfl
noncomputable def Zdj (g:PyData->List Sl->Option (List Sl)) (s:List Sl->Tr Ou) (ρ:List Sl) (xs:List PyData):Tr Ou:=cj g s xs ρ
theorem Zk6 {g:PyData->List Sl->Option (List Sl)}:dG is g s ρ=(is ρ).bind (Zdj g s ρ):=rfl
theorem Zk5 {g:PyData->List Sl->Option (List Sl)}:Zdj g s ρ xs=cj g s xs ρ:=rfl
noncomputable def qy (g:PyData->List Sl->Option (List Sl)) (s:List Sl->Tr Ou) (xs:List PyData):Ou->Tr Ou
 | .next ρ=>cj g s xs ρ
 | .cont ρ=>cj g s xs ρ
 | .brk ρ=>.ret (.next ρ)
 | .ret r=>.ret (.ret r)
noncomputable def mF (g:PyData->List Sl->Option (List Sl)) (s:List Sl->Tr Ou) (xs:List PyData) (ρ:List Sl):Tr Ou:=(s ρ).bind (qy g s xs)
theorem Zjk {g:PyData->List Sl->Option (List Sl)}:cj g s [] ρ=.ret (.next ρ):=rfl
theorem gv {g:PyData->List Sl->Option (List Sl)}:cj g s (x::xs) ρ=(Tr.of (g x ρ)).bind (mF g s xs):=by
 rw [cj]
 refine congrArg (Tr.bind (Tr.of (g x ρ))) (funext λρ1=>?_)
 unfold mF
 refine congrArg (Tr.bind (s ρ1)) (funext λo=>?_)
 cases o <;> rfl
theorem gw {g:PyData->List Sl->Option (List Sl)}:mF g s xs ρ=(s ρ).bind (qy g s xs):=rfl
theorem fU {g:PyData->List Sl->Option (List Sl)}:qy g s xs (.next ρ)=cj g s xs ρ:=rfl
noncomputable def bS (g:PyData->List Sl->Option (List Sl)) (el:List Sl->Tr PyData) (τ:List Sl) (x:PyData):Tr PyData:=(Tr.of (g x τ)).bind el
noncomputable def qg (n:Nat) (ix:List Nat) (g:PyData->List Sl->Option (List Sl)) (el:List Sl->Tr PyData) (ρ:List Sl) (xs:List PyData):Tr (List PyData):=if small xs.length=true then aU (bS g el (blk n ix ρ)) xs else .fail
theorem ZkK {ix:List Nat} {g:PyData->List Sl->Option (List Sl)}:bZ is n ix g i ρ=(is ρ).bind (qg n ix g i ρ):=rfl
theorem mL {ix:List Nat} {g:PyData->List Sl->Option (List Sl)} (h:small xs.length=true):qg n ix g i ρ xs=aU (bS g i (blk n ix ρ)) xs:=by unfold qg; rw [if_pos h]
theorem ZkJ {τ:List Sl} {g:PyData->List Sl->Option (List Sl)}:bS g i τ x=(Tr.of (g x τ)).bind i:=rfl
theorem Zcx {h:PyData->Tr PyData} {n:Nat} {P:PyData->Prop}:∀ {xs:List PyData},(∀ x∈xs,(h x).all n P)->(aU h xs).all (xs.length * n) λys=>ys.length=xs.length/\∀ y∈ys,P y
 | [],_=>⟨rfl,λy hy=>by cases hy⟩
 | x::xs,hx=>by
  have e:(x::xs).length * n=n+(xs.length * n+0):=by rw [List.length_cons,Nat.succ_mul]; omega
  rw [e,aU]
  refine Tr.all_bind (hx x (by simp)) λy hy=>Tr.all_bind (Zcx λz hz=>hx z (List.mem_cons_of_mem _ hz)) λys hys=>?_
  exact ⟨by simp [hys.1],λz hz=>by
   rcases List.mem_cons.mp hz with rfl | hz
   ·exact hy
   ·exact hys.2 z hz⟩
theorem Zl7 {α:Type} {w:Int} {k:Int->Tr α} {n:Nat} {P:α->Prop} (h1:0 < w) (h2:w < 1073741824) (h:∀ r,0<=r->r < w->(k r).all n P):(Tr.draw w k).all (n+1) P:=⟨h1,h2,h⟩
theorem pick {α:Type} {xs:List α} {r:Int} (h0:0<=r) (h1:r < xs.length):∃ v,bp xs r=some v/\v∈xs:=by
 have h:r.toNat < xs.length:=by omega
 exact ⟨xs[r.toNat],iX h0 (by simp [h]),List.getElem_mem h⟩
theorem qc {α:Type} {xs:List α} (h:xs.length=7):∃ a b c d e f g,xs=[a,b,c,d,e,f,g]:=by
 rcases xs with _ | ⟨a,_ | ⟨b,_ | ⟨c,_ | ⟨d,_ | ⟨e,_ | ⟨f,_ | ⟨g,_ | ⟨k,xs⟩⟩⟩⟩⟩⟩⟩⟩
 ·cases h
 ·cases h
 ·cases h
 ·cases h
 ·cases h
 ·cases h
 ·cases h
 ·exact ⟨a,b,c,d,e,f,g,rfl⟩
 ·exact absurd h (by simp)
end L2
namespace L2
open PySem
@[irreducible] noncomputable def Al {α:Type} (t:Tr α) (n:Nat) (P:α->Prop):Prop:=t.all n P
section
variable {α β:Type} {t:Tr α} {n n' N:Nat} {P:α->Prop} {P':β->Prop}
theorem Al.of (h:t.all n P):Al t n P:=by unfold Al; exact h
theorem Al.out (h:Al t n P):t.all n P:=by unfold Al at h; exact h
theorem cz {a:α} (h:P a):Al (.ret a) n P:=.of h
theorem cV {w:Int} {k:Int->Tr α} (h1:0 < w) (h2:w < 1073741824) (hN:n+1<=N) (h:∀ r,0<=r->r < w->Al (k r) n P):Al (.draw w k) N P:=.of (Tr.all_mono (Zl7 h1 h2 λr a b=>(h r a b).out) hN λ_ h=>h)
theorem dU {f:α->Tr β} (h:Al t n P) (hN:n+n'<=N) (hf:∀ a,P a->Al (f a) n' P'):Al (t.bind f) N P':=.of (Tr.all_mono (Tr.all_bind h.out λa ha=>(hf a ha).out) hN λ_ h=>h)
theorem ZnM {Q:α->Prop} (h:Al t n P) (hN:n<=N) (hq:∀ a,P a->Q a):Al t N Q:=.of (Tr.all_mono h.out hN hq)
theorem m7 {h:PyData->Tr PyData} {P:PyData->Prop} {xs:List PyData} {Q:List PyData->Prop} (hN:xs.length * n<=N) (hx:∀ x∈xs,Al (h x) n P) (hq:∀ ys,ys.length=xs.length->(∀ y∈ys,P y)->Q ys):Al (aU h xs) N Q :=
 .of (Tr.all_mono (Zcx λx m=>(hx x m).out) hN λys ⟨a,b⟩=>hq ys a b)
end
noncomputable def fR (lo hi:Int) (x:PyData):Prop:=∃ z:Int,x=.int z/\lo<=z/\z<=hi
theorem mB {lo hi:Int}:∀ {xs:List PyData},(∀ x∈xs,fR lo hi x)->∃ ns:List Int,xs=ns.map PyData.int/\∀ n∈ns,lo<=n/\n<=hi
 | [],_=>⟨[],rfl,λn hn=>by cases hn⟩
 | x::xs,h=>by
  obtain ⟨ns,e,hn⟩:=mB (xs:=xs) λy hy=>h y (List.mem_cons_of_mem _ hy)
  obtain ⟨z,rfl,h1,h2⟩:=h x (by simp)
  exact ⟨z::ns,by rw [e]; rfl,λn hn'=>by
   rcases List.mem_cons.mp hn' with rfl | hn'
   ·exact ⟨h1,h2⟩
   ·exact hn n hn'⟩
theorem cD {lo hi:Int}:(bc lo hi).length=(hi - lo).toNat:=by unfold bc; rw [List.length_map,eQ]
theorem pC {xs:List PyData} {lo hi r:Int} (h:∀ x∈xs,fR lo hi x) (h0:0<=r) (h1:r < xs.length):∃ z:Int,bp xs r=some (.int z)/\lo<=z/\z<=hi:=by
 obtain ⟨v,e,m⟩:=pick h0 h1
 obtain ⟨z,rfl,a,b⟩:=h v m
 exact ⟨z,e,a,b⟩
end L2
set_option Elab.async false
set_option linter.all false
set_option maxRecDepth 100000
namespace L2
open PySem PySem.Spec PyProof.Rows
variable {PK:Pk} {X:Cx} {a b c e:Expr} {es:List Expr} {pos:Pos} {i j l:List Sl->Tr PyData} {is:List Sl->Tr (List PyData)} {p q:List Sl->Tr Bool} {st:Stmt}
end L2
set_option Elab.async false
set_option linter.all false
set_option maxRecDepth 100000
namespace L2
open PySem PySem.Spec PyProof.Rows
variable {PK:Pk} {X:Cx} {a b c e:Expr} {es:List Expr} {pos:Pos} {i j l:List Sl->Tr PyData} {as:List Sl->Tr (List Sl)}
variable {ρ:List Sl} {k:Nat} {xs:List PyData} {x:PyData} {sl:Sl} {f:List Sl->Tr Re}
end L2
set_option Elab.async false
set_option linter.all false
set_option maxRecDepth 100000
namespace L2
open PySem PySem.Spec PyProof.Rows
theorem ZmX {prog:Program} {w:World} {A:Around} {R:Result->Shared->Prop} {s:Shared} {elt target iter cnd:Expr} {scope:Scope} {pos:Pos} {it acc:Value} {env:Env} (J:Nat->Shared->Prop)
  (step:∀ k s0,J k s0->wpAny (model prog w) A (pyNext it) (λgot s1=>match got with
   | none=>R (.ok .next) s1
   | some v=>wpAny (model prog w) A (letOwnedTupleGo target it v) (λ_ s2=>wpAny (model prog w) A (assign target env v) (λ_ s3=>wpAny (model prog w) A (isTrue cnd env (eval cnd env)) (λok s3'=>if ok=true then wpAny (model prog w) A (eval elt env) (λy s4 =>
     wpAny (model prog w) A (call (.builtin "list.append") [acc,y]) (λ_ s5=>∃ j,j < k/\J j s5) (λ_ _=>False) s4) (λ_ _=>False) s3' else ∃ j,j < k/\J j s3') (λ_ _=>False) s3) (λ_ _=>False) s2) (λ_ _=>False) s1) (λ_ _=>False) s0)
  (k:Nat) (h:J k s):codeAny (model prog w) A (.compLoop (.ListComp elt [⟨target,iter,[cnd],0⟩] scope pos) 0 it acc env) R s:=by
 refine codeAny_loop rfl J (λk0 s0 hJ=>?_) k h
 show wpAny _ _ ((compTurn (.ListComp elt [⟨target,iter,[cnd],0⟩] scope pos) 0 it acc env).onRaise (λx=>do noteFrame x env; theTreesLotGoes x)) _ _ s0
 apply wpAny_noted
 rw [compTurn_list]
 refine wpAny_bind (wpAny_standAt (wpAny_bind (wpAny_mono (step k0 s0 hJ) (λgot s1 h1=>?_) λ_ _ z=>z.elim)))
 cases got with
 | none=>exact wpAny_pure h1
 | some v =>
  refine wpAny_bind (wpAny_mono h1 (λ_ s2 h2=>?_) λ_ _ z=>z.elim)
  refine wpAny_bind (wpAny_mono h2 (λ_ s3 h3=>?_) λ_ _ z=>z.elim)
  refine wpAny_bind (wpAny_mono (wpAny_tests_one h3) (λok s3' h3'=>?_) λ_ _ z=>z.elim)
  cases ok with
  | false=>exact wpAny_pure ⟨rfl,h3'⟩
  | true =>
   refine wpAny_bind (wpAny_bind (wpAny_mono h3' (λy s4 h4=>?_) λ_ _ z=>z.elim))
   exact wpAny_bind (wpAny_mono h4 (λ_ s5 h5=>wpAny_pure (wpAny_pure ⟨rfl,h5⟩)) λ_ _ z=>z.elim)
noncomputable def oa (wi:TI) (n:Nat) (ix:List Nat) (g:Blk->TG) (tc:Blk->TT) (te:Blk->TE):TE:=λσ H Q=>wi σ H λJ H1=>∀ b:Blk,∃ W:Nat->Nat->St->List V->Hp->Prop,(∃ m,W 0 m (cy n ix σ) [] H1)/\∀ i m τ ys H2,W i m τ ys H2 ->
 (J.stop i H2/\∀ p v H',H2 p=none->v=V.ref p->H'=upd H2 p (.lst ys)->Q v H') \/
 (J.go i H2/\ys.length < sizeLine/\∀ x H3,J.yld i H2 x H3->g b x τ H3 λτ2 H4=>tc b τ2 H4 λok H4'=>if ok=true then te b τ2 H4' λy H5=>∃ m',m' < m/\W (i+1) m' τ2 (ys++[y]) H5 else ∃ m',m' < m/\W (i+1) m' τ2 ys H4')
section
variable {X:Cx} {pins:List (Addr×Obj)} {σ:St} {H:Hp} {s:Shared}
theorem Zix {elt target iter cnd:Expr} {scope:Scope} {pos:Pos} {Nx ts:List Str} {ix:List Nat} {g:Blk->TG} {tc:Blk->TT} {te:Blk->TE} {cl:List (Str×Addr)} {s2:Shared} {itv:Value} {R:Value->Addr->Result->Shared->Prop}
  {E:Value->Shared->Prop} {Q:VK}
  (hc:X.calm=true) (hg:∀ b,PG (aY X (bN Nx ts ix) scope b) target (g b)) (hcn:∀ b,PT (aY X (bN Nx ts ix) scope b) cnd (tc b)) (he:∀ b,PE (aY X (bN Nx ts ix) scope b) elt (te b))
  (hNx:X.N=Nx) (ok:BlkOk Nx X.env.scope scope ix) (cl1:∀ x c,cl.lookup x=some c->X.env.cells.lookup x=some c) (cl2:∀ y∈scope.names,y.2=.free->∃ c,cl.lookup y.1=some c)
  (h2:kM X pins σ target (λJ H1=>∀ b:Blk,∃ W:Nat->Nat->St->List V->Hp->Prop,(∃ m,W 0 m (cy ts.length ix σ) [] H1)/\∀ i m τ ys H2,W i m τ ys H2 ->
   (J.stop i H2/\∀ p v H',H2 p=none->v=V.ref p->H'=upd H2 p (.lst ys)->Q v H') \/
   (J.go i H2/\ys.length < sizeLine/\∀ x H3,J.yld i H2 x H3->g b x τ H3 λτ2 H4=>tc b τ2 H4 λok H4'=>if ok=true then te b τ2 H4' λy H5=>∃ m',m' < m/\W (i+1) m' τ2 (ys++[y]) H5 else ∃ m',m' < m/\W (i+1) m' τ2 ys H4')) itv s2)
  (hR:∀ (D C:Addr) (H':Hp) (s':Shared) (v:V),Inv X pins σ H' s'->v=.ref D->Q v H'->(∃ m,s'.heap.Ns C m)->H' C=none->C≠X.env.locals->X.s₀.heap.objs.size<=C->(∀ x c,X.env.cells.lookup x=some c->c≠C)->(∀ p∈X.pn++pins,p.1≠C) ->
   R (.ref D) C (.ok .next) s') :
  wpAny (model X.prog X.w) X.A (newList []) (λacc s₃=>wpAny (model X.prog X.w) X.A (newFunctionEnv scope X.env.globals cl [] X.env.qual none .none (some X.env)) (λcenv s₄ =>
   codeAny (model X.prog X.w) X.A (.compStart (.ListComp elt [⟨target,iter,[cnd],0⟩] scope pos) 0 itv acc { cenv with scope:=relabel scope X.env }) (R acc cenv.locals) s₄) E s₃) E s2:=by
 obtain ⟨it,fp,tn,J,H1,e,I2,T,st2,f2,q2⟩:=h2
 subst e
 refine wpAny_newObj_type (nQ ?_)
 dsimp only
 generalize hG:s2.heap.push { cls:=.type "list",dict:=none,data:=.seq ([]:List Value).toArray }=G
 have hGs:G.objs.size=s2.heap.objs.size+1:=by rw [<- hG,Heap.size_push]
 have hfs:∀ b∈fp,b < s2.heap.objs.size:=λb hb=>let ⟨o,e,_⟩:=T.obj _ _ st2 b hb; Heap.lt_size e
 have kpG:∀ b o,G.get? b=some o->(pushCells (G.push { cls:=.type "dict",data:=.dict #[] }) scope.names).get? b=some o:=λb o e=>pushCells_keeps _ _ _ _ (Heap.get?_push_of_some _ e)
 have hns3:(pushCells (G.push { cls:=.type "dict",data:=.dict #[] }) scope.names).Ns G.objs.size (λ_=>none):=(Heap.Ns.new G (.type "dict")).keeps (pushCells_keeps _ _)
 obtain ⟨sp1,sp2,sp4,sp3⟩:=qO scope.names (G.push { cls:=.type "dict",data:=.dict #[] }) cl
 rw [Heap.size_push] at sp1 sp2 sp3 sp4
 generalize hh3:pushCells (G.push { cls:=.type "dict",data:=.dict #[] }) scope.names=h3 at kpG hns3 sp1 ⊢
 have kp:∀ b o,s2.heap.get? b=some o->h3.get? b=some o:=λb o e=>kpG b o (by rw [<- hG]; exact Heap.get?_push_of_some _ e)
 have hD3:h3.get? s2.heap.objs.size=some { cls:=.type "list",data:=.seq ([]:List Value).toArray }:=kpG _ _ (by rw [<- hG]; exact Heap.get?_push_size _ rfl)
 have clB:∀ x c,cl.lookup x=some c->c < G.objs.size+1:=λx c e=>by
  obtain ⟨v,q⟩:=I2.cell x c (cl1 x c e)
  exact Nat.lt_succ_of_lt (Nat.lt_of_lt_of_le q.lt (by rw [hGs]; exact Nat.le_succ _))
 have csI:=sp3 clB λx y c e1 e2=>I2.ok.inj x y c (cl1 x c e1) (cl1 y c e2)
 have cs1:∀ x c,(cellsFrom (G.objs.size+1) scope.names cl).lookup x=some c->X.env.cells.lookup x=some c\/(G.objs.size < c/\h3.IsCell c none/\(x,NameKind.cell)∈scope.names):=λx c e=>by
  rcases sp1 x c e with z | ⟨z1,z2,z3⟩
  ·exact .inl (cl1 x c z)
  ·exact .inr ⟨by omega,z2,z3⟩
 have cs2:∀ y∈scope.names,(y.2=.free\/y.2=.cell)->∃ c,(cellsFrom (G.objs.size+1) scope.names cl).lookup y.1=some c:=λy hy hk=>by
  refine sp2 y.1 ?_
  rcases hk with z | z
  ·exact .inr (cl2 y hy z)
  ·exact .inl (by rw [<- z]; exact hy)
 have csA:∀ x c,(x,NameKind.cell)∈scope.names->(cellsFrom (G.objs.size+1) scope.names cl).lookup x=some c->G.objs.size<=c:=λx c e1 e2=>Nat.le_of_succ_le (sp4 x c e1 e2)
 generalize hcs:cellsFrom (G.objs.size+1) scope.names cl=cs at csI cs1 cs2 csA ⊢
 generalize hCe:G.objs.size=C at hns3 cs1 csA ⊢
 have hC:s2.heap.objs.size<=C:=by omega
 have hDC:s2.heap.objs.size≠C:=by omega
 let B:Blk:=⟨cs,C,s2,H1,fp,X.pn++pins⟩
 have I3:Inv (aY X (bN Nx ts ix) scope B) [] (cy ts.length ix σ) H1 { s2 with heap:=h3 }:=qo I2 hNx ok cs1 csI cs2 csA f2 hfs hC kp hns3
 have fC:H1 s2.heap.objs.size=none:=I2.hok.fresh (Nat.le_refl _)
 have cellIn:∀ x c,cs.lookup x=some c->c≠s2.heap.objs.size:=λx c e=>by
  rcases cs1 x c e with z | ⟨z,_,_⟩
  ·obtain ⟨v,q⟩:=I2.cell x c z
   exact Nat.ne_of_lt q.lt
  ·exact Nat.ne_of_gt (Nat.lt_of_le_of_lt hC z)
 have pinIn:∀ p∈X.pn++pins,p.1 < s2.heap.objs.size:=λp hp=>Heap.lt_size (I2.pin p hp).1
 have nofrs:s2.heap.objs.size ∉ frs X.stack:=λhb=>by
  rcases List.mem_cons.mp (I2.stkSub _ hb) with z | z
  ·exact absurd I2.lt (by rw [<- z]; exact Nat.lt_irrefl _)
  ·exact I2.nofs (Nat.le_refl _) z
 -- a state with the list at its place,pinned
 have pinD:∀ {τ:St} {H':Hp} {s':Shared} {ob:Obj},Inv (aY X (bN Nx ts ix) scope B) [] τ H' s'->s'.heap.get? s2.heap.objs.size=some ob->H' s2.heap.objs.size=none->(∀ v,ob.data≠.cell v)->Inv (aY X (bN Nx ts ix) scope B) [(s2.heap.objs.size,ob)] τ H' s' :=
  λ{τ H' s' ob} I' ho hn hd=>I'.pins_of λp hp=>by
   have e:p=(s2.heap.objs.size,ob):=by simpa using hp
   subst e
   exact ⟨ho,hn,hDC,nofrs,hd⟩
 obtain ⟨W,⟨m0,w0⟩,turn⟩:=q2 B
 have stat:∀ {H':Hp} {ob:Obj},(∀ b∈fp,H' b=none)->∀ b∈fp,eM (aY X (bN Nx ts ix) scope B) [(s2.heap.objs.size,ob)] H' b:=λ{H' ob} hn b hb=>by
  refine ⟨hn b hb,Nat.ne_of_lt (Nat.lt_of_lt_of_le (hfs b hb) hC),λz=>?_,.inl hb,λx c e=>by
   rcases cs1 x c e with z | ⟨z,_,_⟩
   ·exact (f2 b hb).2.2.2.2.1 x c z
   ·exact Nat.ne_of_gt (Nat.lt_of_lt_of_le (hfs b hb) (Nat.le_trans hC (Nat.le_of_lt z))),λp hp=>?_⟩
  ·rcases List.mem_cons.mp (I2.stkSub _ z) with q | q
   ·exact (f2 b hb).2.1 q
   ·exact (f2 b hb).2.2.1 q
  ·rcases List.mem_append.mp hp with z | z
   ·exact (f2 b hb).2.2.2.2.2 p z
   ·have e:p=(s2.heap.objs.size,ob):=by simpa using z
    subst e
    exact Nat.ne_of_gt (hfs b hb)
 have loop:∀ s4:Shared,s4={ s2 with heap:=h3 } ->
   codeAny (model X.prog X.w) X.A (.compLoop (.ListComp elt [⟨target,iter,[cnd],0⟩] scope pos) 0 (.ref it) (.ref s2.heap.objs.size) (compEnvC scope cs C X.env)) (R (.ref s2.heap.objs.size) C) s4:=by
  rintro s4 rfl
  refine ZmX (λk s'=>∃ i τ ys its n H',Inv (aY X (bN Nx ts ix) scope B) [(s2.heap.objs.size,({ cls:=.type "list",data:=.seq (List.toArray its) n }:Obj))] τ H' s'/\tn i s'.heap/\(∀ b∈fp,H' b=none)/\Vals ys its/\ys.length<=sizeLine/\W i k τ ys H') ?_ m0
   ⟨0,_,[],[],_,H1,pinD I3 hD3 fC (λv z=>by cases z),T.keep _ _ _ st2 λb hb o e=>kp b o e,λb hb=>(f2 b hb).1,.nil,Nat.zero_le _,w0⟩
  rintro k s5 ⟨i,τ,ys,its,n,H5,I5,st5,fr5,rv,hz,w5⟩
  rcases turn i k τ ys H5 w5 with ⟨stop,qn⟩ | ⟨go,hlt,step⟩
  ·refine thn (T.done (aY X (bN Nx ts ix) scope B) rfl rfl rfl hc i _ s5 τ H5 _ I5 (stat fr5) st5 stop) λgot s6 hz0=>?_
   obtain ⟨hr,I6⟩:=hz0
   subst hr
   obtain ⟨ho,hn,_,_,_⟩:=I6.pin (s2.heap.objs.size,({ cls:=.type "list",data:=.seq (List.toArray its) n }:Obj)) (List.mem_append_right _ (by simp))
   have I7:Inv X pins σ H5 s6:=I2.call' (ch:=fp) (H':=H5) (by exact I6.os) I6.base I6.hok I6.bare λb hb=>⟨(f2 b hb).2.2.2.1,(f2 b hb).2.1,(f2 b hb).2.2.2.2.1,(f2 b hb).2.2.2.2.2⟩
   have hs0:X.s₀.heap.objs.size<=s2.heap.objs.size:=I2.sz
   have I8:=I7.track hn ho rv hz (Nat.ne_of_gt I2.lt) hs0 (λx c e z=>by
    obtain ⟨v,q⟩:=I2.cell x c e
    exact absurd q.lt (by rw [z]; exact Nat.lt_irrefl _)) (λp hp=>Nat.ne_of_lt (pinIn p hp))
   obtain ⟨m6,hm6,_⟩:=I6.loc
   refine hR _ C _ s6 _ I8 rfl (qn _ _ _ hn rfl rfl) ⟨m6,hm6⟩ ?_ (λz=>?_) (Nat.le_trans hs0 hC) (λx c e z=>?_) λp hp=>Nat.ne_of_lt (Nat.lt_of_lt_of_le (pinIn p hp) hC)
   ·rw [aM (Ne.symm hDC)]
    exact I6.free
   ·exact absurd (Nat.lt_of_lt_of_le I2.lt hC) (by rw [z]; exact Nat.lt_irrefl _)
   ·obtain ⟨v,q⟩:=I2.cell x c e
    exact absurd (Nat.lt_of_lt_of_le q.lt hC) (by rw [z]; exact Nat.lt_irrefl _)
  ·refine thn (T.item (aY X (bN Nx ts ix) scope B) rfl rfl rfl hc i _ s5 τ H5 _ I5 (stat fr5) st5 go) λgot s6 hz0=>?_
   obtain ⟨u,hr,h6⟩:=hz0
   subst hr
   refine thn h6 λ_ s7 hz0=>?_
   obtain ⟨x,H7,I7,r7,y7,st7,fr7⟩:=hz0
   have I7':=I7.pinned (stat fr7) (T.obj _ _ st7)
   refine thn (hg B _ s7 τ H7 x u _ I7' r7 (step x H7 y7)) λ_ s8 hz0=>?_
   obtain ⟨τ8,H8,I8,q8⟩:=hz0
   refine thn (hcn B _ s8 τ8 H8 _ I8 q8) λokk s8' hz0=>?_
   obtain ⟨H8',I8',q8'⟩:=hz0
   cases okk with
   | false =>
    obtain ⟨m',hm',w9⟩:=q8'
    obtain ⟨ho,hn,_,_,_⟩:=I8'.pin (s2.heap.objs.size,({ cls:=.type "list",data:=.seq (List.toArray its) n }:Obj)) (List.mem_append_right _ (List.mem_append_left _ (by simp)))
    have I9':Inv (aY X (bN Nx ts ix) scope B) [] τ8 H8' s8':=I8'.pins_of λp hp=>absurd hp (by simp)
    refine ⟨m',hm',i+1,τ8,ys,its,n,H8',pinD I9' ho hn (λv z=>by cases z),?_,λb hb=>?_,rv,hz,w9⟩
    ·refine T.keep _ _ _ st7 λb hb o e=>?_
     exact (I8'.pin (b,o) (List.mem_append_right _ (List.mem_append_right _ (fj hb e)))).1
    ·obtain ⟨o,e,d⟩:=T.obj _ _ st7 b hb
     exact (I8'.pin (b,o) (List.mem_append_right _ (List.mem_append_right _ (fj hb e)))).2.1
   | true =>
   refine thn (he B _ s8' τ8 H8' _ I8' q8') λy s9 hz0=>?_
   obtain ⟨vy,H9,I9,r9,m',hm',w9⟩:=hz0
   obtain ⟨ho,hn,_,_,_⟩:=I9.pin (s2.heap.objs.size,({ cls:=.type "list",data:=.seq (List.toArray its) n }:Obj)) (List.mem_append_right _ (List.mem_append_left _ (by simp)))
   have lenv:=rv.length
   refine wpAny_list_append_plain (l:=s2.heap.objs.size) ⟨n,ho⟩ (λh' hpl hsb=>?_) (by rw [List.size_toArray]; omega)
   obtain ⟨n',ho'⟩:=hpl
   have eobj:(its.toArray.push y)=List.toArray (its++[y]):=by simp
   rw [eobj] at ho'
   have I9':Inv (aY X (bN Nx ts ix) scope B) [] τ8 H9 s9:=I9.pins_of λp hp=>absurd hp (by simp)
   have I10:Inv (aY X (bN Nx ts ix) scope B) [] τ8 H9 { s9 with heap:=h' }:=I9'.turned (it:=s2.heap.objs.size) (t':=s9.toks) (λb o hb e=>(hsb.2 b hb).trans e) hn hDC (.inr (Nat.le_refl _)) cellIn (λp hp=>by
    have hp':p∈(X.pn++pins)++[]:=hp
    rw [List.append_nil] at hp'
    exact Nat.ne_of_lt (pinIn p hp'))
   refine ⟨m',hm',i+1,τ8,ys++[vy],its++[y],n',H9,pinD I10 ho' hn (λv z=>by cases z),?_,λb hb=>?_,rv.append (.cons r9 .nil),by rw [List.length_append]; show ys.length+1<=_; omega,w9⟩
   ·refine T.keep _ _ _ st7 λb hb o e=>?_
    have q:=(I9.pin (b,o) (List.mem_append_right _ (List.mem_append_right _ (fj hb e)))).1
    exact (hsb.2 b (Nat.ne_of_lt (hfs b hb))).trans q
   ·obtain ⟨o,e,d⟩:=T.obj _ _ st7 b hb
    exact (I9.pin (b,o) (List.mem_append_right _ (List.mem_append_right _ (fj hb e)))).2.1
 exact codeAny_compStart_list (loop _ rfl) (T.self X.A 0 _ _ _ (T.keep _ _ _ st2 λb hb o e=>kp b o e) (loop _ rfl))
theorem pG {elt target iter cnd:Expr} {scope:Scope} {pos:Pos} {wi:TI} {g:Blk->TG} {tc:Blk->TT} {te:Blk->TE} (Nx:List Str) (ts:List Str) (ix:List Nat)
  (hc:X.calm=true) (hi:PI X target iter wi) (hg:∀ b,PG (aY X (bN Nx ts ix) scope b) target (g b)) (hcn:∀ b,PT (aY X (bN Nx ts ix) scope b) cnd (tc b)) (he:∀ b,PE (aY X (bN Nx ts ix) scope b) elt (te b))
  (hNx:X.N=Nx) (ok:BlkOk Nx X.env.scope scope ix) (hs:∀ x,foldedSetIterable iter X.env x=pure x:=by intro _; rfl) :
  PE X (.ListComp elt [⟨target,iter,[cnd],0⟩] scope pos) (oa wi ts.length ix g tc te):=by
 intro pins s σ H Q I h
 obtain ⟨cl,hcl,cl1,cl2⟩:=ku (scope:=scope) (env:=X.env) λy hy hf=>I.ok.has y.1 (ok.frees y hy hf)
 rw [eval_ListComp]
 refine wpAny_comprehension_free (use:=none) rfl hs hcl ok.kind ok.locs (thn (hi pins s σ H _ I h) λv s1 h1=>thn h1 λitv s2 h2=>?_)
 refine Zix (R:=λacc C=>compPost (model X.prog X.w) X.A X.xe none (EP X pins σ Q) acc C) hc hg hcn he hNx ok cl1 cl2 h2 ?_
 rintro D C H' s' v I' rfl q ⟨m,hm⟩ hn hL h0 hcl' hp
 exact ⟨m,hm,λh' hsb=>⟨.ref D,H',I'.turned (it:=C) (t':=s'.toks) (λb o hb e=>(hsb.2 b hb).trans e) hn hL (.inr h0) hcl' hp,rfl,q⟩⟩
end
section
variable {PK:Pk} {X:Cx} {e:Expr} {st:Stmt} {i:List Sl->Tr PyData} {is:List Sl->Tr (List PyData)} {p:List Sl->Tr Bool}
noncomputable def jR (y:Option PyData) (ys:List PyData):Tr (List PyData):=.ret (match y with
 | some y=>y::ys
 | none=>ys)
noncomputable def cR (h:PyData->Tr (Option PyData)):List PyData->Tr (List PyData)
 | []=>.ret []
 | x::xs=>(h x).bind λy=>(cR h xs).bind (jR y)
noncomputable def iQ (p:List Sl->Tr Bool) (i:List Sl->Tr PyData) (τ:List Sl):Tr (Option PyData):=(p τ).bind λok=>if ok=true then (i τ).bind λy=>.ret (some y) else .ret none
noncomputable def jc (is:List Sl->Tr (List PyData)) (n:Nat) (ix:List Nat) (g:PyData->List Sl->Option (List Sl)) (p:List Sl->Tr Bool) (el:List Sl->Tr PyData):List Sl->Tr (List PyData):=λρ =>
 (is ρ).bind λxs=>if small xs.length=true then cR (λx=>(Tr.of (g x (blk n ix ρ))).bind (iQ p el)) xs else .fail
theorem Ziw {n:Nat} {ix:List Nat} {g:PyData->List Sl->Option (List Sl)} (hn:eK n g):∀ σ H Q,fb PK (jc is n ix g p i) σ H Q->oa (cP PK is) n ix (λ_=>dH PK g) (λ_=>TAt PK p) (λ_=>TAe PK i) σ H Q:=by
 rintro σ H Q ⟨pa,G₀,H₀,m,ρ,G,R,z⟩
 refine ⟨pa,G₀,H₀,m,ρ,G,R,Tr.ok_mono (Tr.ok_bind.mp z) λm1 xs k J G1 H1 s1 w1 jo=>λB=>?_⟩
 obtain ⟨hs,k⟩:=gl k
 have hs:xs.length<=sizeLine:=of_decide_eq_true hs
 let el:PyData->Tr (Option PyData):=λx=>(Tr.of (g x (blk n ix ρ))).bind (iQ p i)
 let W:Nat->Nat->St->List V->Hp->Prop:=λk mm τ ys H2=>mm=xs.length - k/\k<=xs.length/\ys.length<=k/\∃ m G2 ds,Sub G1 G2/\Stp pa G H G2 H2/\Rl PK pa G₀ H₀ m τ (blk n ix ρ) G2 H2 /\
  DnAll G2 ys ds/\(cR el (xs.drop k)).ok m λm' zs=>Ko1 PK pa m' G H (ds++zs) Q
 refine ⟨W,⟨xs.length,rfl,Nat.zero_le _,Nat.le_refl _,m1,G1,[],.refl,s1,(R.step s1 w1).blk n ix,.nil,k⟩,?_⟩
 rintro k mm τ ys H2 ⟨rfl,hk,hy,m2,G2,ds,sb,st2,R2,dn,k2⟩
 obtain ⟨j1,j2⟩:=jo m2 G2 H2 sb R2.wd
 by_cases hlt:k < xs.length
 ·have hx:xs[k]?=some xs[k]:=by simp [hlt]
  obtain ⟨jg,jy⟩:=j1 k _ hx
  refine .inr ⟨jg,by omega,λx H3 y=>?_⟩
  obtain ⟨G3,s3,w3,d3⟩:=jy x H3 y
  rw [List.drop_eq_getElem_cons hlt] at k2
  unfold cR at k2
  rw [Tr.ok_bind,Tr.ok_bind] at k2
  obtain ⟨ρ3,hg3,k3⟩:=Tr.ok_of k2
  refine ⟨pa,G₀,H₀,m2,_,G3,_,ρ3,R2.step s3 w3,d3,hg3,λτ4 R4=>?_⟩
  obtain ⟨pl,pk⟩:=hn _ _ _ hg3
  have hback:∀ (q:Nat) (sl:Sl),(blk n ix ρ)[q]?=some sl->sl=.un\/ρ3[q]?=some sl:=λq sl hq=>by
   by_cases hqn:q < n
   ·left
    unfold blk at hq
    rw [List.getElem?_append_left (by simpa using hqn),List.getElem?_replicate,if_pos hqn] at hq
    cases hq
    rfl
   ·right
    rw [pk q (Nat.le_of_not_lt hqn)]
    exact hq
  unfold iQ at k3
  rw [Tr.ok_bind] at k3
  refine ⟨pa,G₀,H₀,m2,ρ3,G3,R4,Tr.ok_mono k3 λm4 ok k4 G4 H4 s4 w4=>?_⟩
  have R4':=R4.step s4 w4
  have s34:=s3.trans s4 w3.some
  cases ok with
  | false =>
   have k4':((cR el (xs.drop (k+1))).bind (jR none)).ok m4 λm' zs=>Ko1 PK pa m' G H (ds++zs) Q:=k4
   refine ⟨xs.length - (k+1),by omega,rfl,hlt,by omega,m4,G4,ds,sb.trans s34.gs,st2.trans s34 R2.wd.some,R4'.weak pl hback,DnAll.mono s34.gs dn,?_⟩
   exact Tr.ok_mono (Tr.ok_bind.mp k4') λm6 zs k6=>k6
  | true =>
   have k4':((i ρ3).bind λy=>.ret (some y)).ok m4 λm' y=>((cR el (xs.drop (k+1))).bind (jR y)).ok m' λm' zs=>Ko1 PK pa m' G H (ds++zs) Q:=k4
   rw [Tr.ok_bind] at k4'
   refine ⟨pa,G₀,H₀,m4,ρ3,G4,R4',Tr.ok_mono k4' λm5 yd k5=>?_⟩
   intro v G5 H5 s5 w5 d5
   have s35:=s34.trans s5 w4.some
   refine ⟨xs.length - (k+1),by omega,rfl,hlt,by rw [List.length_append]; show ys.length+1<=_; omega,m5,G5,ds++[yd],sb.trans s35.gs,st2.trans s35 R2.wd.some,(R4'.step s5 w5).weak pl hback,(DnAll.mono s35.gs dn).snoc d5,?_⟩
   have k5':((cR el (xs.drop (k+1))).bind (jR (some yd))).ok m5 λm' zs=>Ko1 PK pa m' G H (ds++zs) Q:=k5
   refine Tr.ok_mono (Tr.ok_bind.mp k5') λm6 zs k6=>?_
   rw [List.append_assoc]
   exact k6
 ·have e:k=xs.length:=by omega
  subst e
  refine .inl ⟨j2,λp v H' hp ev eH=>?_⟩
  subst ev eH
  rw [List.drop_length] at k2
  have k2':Ko1 PK pa m2 G H (ds++[]) Q:=k2
  rw [List.append_nil] at k2'
  exact (Ko1.later k2' st2 R2.wd.some).new R2.wd dn hp
theorem ra {n:Nat} {ix:List Nat} {g:PyData->List Sl->Option (List Sl)} (h:PE X e (oa (cP PK is) n ix (λ_=>dH PK g) (λ_=>TAt PK p) (λ_=>TAe PK i))) (hn:eK n g):PE X e (fb PK (jc is n ix g p i)):=h.imp (Ziw hn)
end
end L2
set_option Elab.async false
set_option linter.all false
set_option maxRecDepth 100000
namespace L2
open PySem PySem.Spec PyProof.Rows
section
variable {X:Cx}
section
variable {ρ:List Sl} {is:List Sl->Tr (List PyData)} {n:Nat} {i:List Sl->Tr PyData} {p:List Sl->Tr Bool} {xs:List PyData} {x:PyData}
noncomputable def gt (g:PyData->List Sl->Option (List Sl)) (p:List Sl->Tr Bool) (el:List Sl->Tr PyData) (τ:List Sl) (x:PyData):Tr (Option PyData):=(Tr.of (g x τ)).bind (iQ p el)
noncomputable def qd (n:Nat) (ix:List Nat) (g:PyData->List Sl->Option (List Sl)) (p:List Sl->Tr Bool) (el:List Sl->Tr PyData) (ρ:List Sl) (xs:List PyData):Tr (List PyData):=if small xs.length=true then cR (gt g p el (blk n ix ρ)) xs else .fail
theorem ZkG {ix:List Nat} {g:PyData->List Sl->Option (List Sl)}:jc is n ix g p i ρ=(is ρ).bind (qd n ix g p i ρ):=rfl
theorem ZkI {ix:List Nat} {g:PyData->List Sl->Option (List Sl)} (h:small xs.length=true):qd n ix g p i ρ xs=cR (gt g p i (blk n ix ρ)) xs:=by unfold qd; rw [if_pos h]
theorem ZkH {τ:List Sl} {g:PyData->List Sl->Option (List Sl)}:gt g p i τ x=(Tr.of (g x τ)).bind (iQ p i):=rfl
noncomputable def qr (y:PyData):Tr (Option PyData):=.ret (some y)
noncomputable def qt (i:List Sl->Tr PyData) (τ:List Sl) (b:Bool):Tr (Option PyData):=if b=true then (i τ).bind qr else .ret none
theorem ZkW {τ:List Sl}:iQ p i τ=(p τ).bind (qt i τ):=rfl
theorem ZkY {τ:List Sl}:qt i τ true=(i τ).bind qr:=rfl
theorem ZkZ {τ:List Sl}:qt i τ false=.ret none:=rfl
theorem ZkX:qr x=.ret (some x):=rfl
end
end
end L2
set_option Elab.async false
set_option linter.all false
set_option maxRecDepth 100000
namespace L2
open PySem PySem.Spec PyProof.Rows
section
variable {PK:Pk} {X:Cx} {e:Expr} {as:List Sl->Tr (List Sl)}
end
section
variable {ρ:List Sl} {as:List Sl->Tr (List Sl)} {f:List PyData->Option PyData} {x:PyData} {xs:List PyData} {i j:List Sl->Tr PyData} {k:Nat} {p:List Sl->Tr Bool} {s:List Sl->Tr Ou}
noncomputable def jq (k:Nat) (ρ:List Sl) (x:PyData) (xs:List PyData):PyData->Tr Ou
 | .int y=>(Tr.of (c7 xs.length y)).bind λt=>.ret (.next (ρ.set k (.own (xs.set t x))))
 | _=>.fail
noncomputable def ot (k:Nat) (n:List Sl->Tr PyData) (ρ:List Sl) (x:PyData) (xs:List PyData):Tr Ou:=(n ρ).bind (jq k ρ x xs)
noncomputable def ou (k:Nat) (n:List Sl->Tr PyData) (ρ:List Sl) (x:PyData):Tr Ou:=(fL k ρ).bind (ot k n ρ x)
theorem ZjM:kG k j i ρ=(i ρ).bind (ou k j ρ):=by
 unfold kG
 refine congrArg (Tr.bind (i ρ)) (funext λx=>?_)
 rw [ou,<- lP k ρ]
 cases ρ[k]? with
 | none=>rfl
 | some sl =>
  cases sl with
  | own xs =>
   show ((j ρ).bind _:Tr Ou)=(j ρ).bind (jq k ρ x xs)
   refine congrArg (Tr.bind (j ρ)) (funext λy=>?_)
   cases y <;> rfl
  | _=>rfl
theorem ZjL {n:List Sl->Tr PyData}:ou k n ρ x=(fL k ρ).bind (ot k n ρ x):=rfl
theorem ZjK {n:List Sl->Tr PyData}:ot k n ρ x xs=(n ρ).bind (jq k ρ x xs):=rfl
theorem qz {y:Int} {t:Nat} (h:c7 xs.length y=some t):jq k ρ x xs (.int y)=.ret (.next (ρ.set k (.own (xs.set t x)))):=by
 simp only [jq,h]
 rfl
end
end L2
set_option Elab.async false
set_option linter.all false
set_option maxRecDepth 100000
namespace L2
open PySem PySem.Spec PyProof.Rows
open AutoSeq1 (wpAny_loadPart')
noncomputable def h9 (hi:Int) (n:Nat):It:=⟨λi _=>i < n,λi H x H'=>H'=H/\x=.int (hi - i),λi _=>n<=i⟩
theorem ZfB {P:Program} {w:World} {K:PySem.W.Frag} {tg:Expr} (it:Addr) (hi:Int) (n:Nat):Turn P w K tg (h9 hi n) [it] it (λi h=>IsRangeIter h it (hi+(i:Nat) * (-1)) ((n:Int) - (i:Nat)) (-1)) where
 mem:=by simp
 obj:=λi h st b hb=>by
  have e:b=it:=by simpa using hb
  subst e
  exact ⟨_,st,λv z=>by
   have z':Data.fields _=Data.cell v:=z
   cases z'⟩
 keep:=λi h h' st k=>k it (by simp) _ st
 item:=by
  intro X hP hw hK hc i pins s σ H E I hf st hg
  subst hP hw hK
  obtain ⟨f0,f1,f2,f3,f4,f5⟩:=hf it (by simp)
  have W:=Walks.range (prog:=X.prog) (w:=X.w) (I.ok.hd hc) it hi (-1) n
  refine W.item i s _ _ hg st λv h' tk hv st' kk=>?_
  obtain ⟨t,rfl⟩:=hv
  have I1:Inv X pins σ H { s with heap:=h',toks:=tk }:=I.turned (λb o hb e=>kk b o (by simpa using hb) e) f0 f1 f3 f4 f5
  refine ⟨_,rfl,ke (s:={ s with heap:=h',toks:=tk }) (n:="range_iterator") st' rfl rfl (by decide) ⟨.int (hi - i),H,I1,⟨t,?_⟩,⟨rfl,rfl⟩,st',λb hb=>(hf b hb).1⟩⟩
  have e:hi+(i:Int) * -1=hi - i:=by omega
  rw [e]
 done:=by
  intro X hP hw hK hc i pins s σ H E I hf st hg
  subst hP hw hK
  obtain ⟨f0,f1,f2,f3,f4,f5⟩:=hf it (by simp)
  exact wpAny_pyNext_range_end (I.ok.hd hc) st (by have:n<=i:=hg; omega) λh' eb=>⟨rfl,I.turned (t':=s.toks) (λb o hb e=>eb b o hb e) f0 f1 f3 f4 f5⟩
 self:=λ_ _ _ _ _ st h=>wpAny_pyIter_rangeiter st h
theorem Zig (r:Addr) (a b c:Int) (t u v:Tok) (hs:¬ (!(Builtin.Range.rangeFitsLong a && Builtin.Range.rangeFitsLong b && Builtin.Range.rangeFitsLong c && Builtin.Range.rangeFitsLong (-c) && Builtin.Range.rangeFitsLong (a - c) && Builtin.Range.rangeFitsLong (Builtin.Range.rangeSize a b c)))=true) :
  Meets (Builtin.«range.__reversed__» ⟨[.ref r],[]⟩) (λ_ R s=>s.heap.get? r=some { cls:=.type "range",dict:=none,data:=.fields #[.int a t,.int b u,.int c v],slots:=#[] } /\
   R (.ok (.ret (.ref s.heap.objs.size))) { s with heap:=s.heap.push { cls:=.type "range_iterator",data:=.fields #[rawInt (a+(Builtin.Range.rangeSize a b c - 1) * c),rawInt (Builtin.Range.rangeSize a b c),rawInt (-c)] },toks:=s.toks }) :=
 .of_wp λprog w A R s h=>by
  obtain ⟨hp,g,d,tk,os⟩:=s
  obtain ⟨hl,h⟩:=h
  have hs':=hs
  rw [Bool.not_eq_true',Bool.not_eq_false] at hs'
  wp_walk
  rw [if_pos hs']
  exact ⟨_,rfl,h⟩
theorem iR {n:Int} (h1:-(2 ^ 63)<=n) (h2:n < 2 ^ 63):Builtin.Range.rangeFitsLong n=true:=by
 unfold Builtin.Range.rangeFitsLong
 simp
 omega
section
variable {prog:Program} {w:World} {A:Around} {E:Value->Shared->Prop} {s:Shared}
theorem Zm1 {r:Addr} {a b:Int} {t u v:Tok} {Q₁:Value->Shared->Prop} (hr:IsRange s.heap r a b 1 t u v) (ha:-(2 ^ 62)<=a) (ha':a < 2 ^ 62) (hb:-(2 ^ 62)<=b) (hb':b < 2 ^ 62)
  (h:Q₁ (.ref s.heap.objs.size) { s with heap:=s.heap.push { cls:=.type "range_iterator",data:=.fields #[rawInt (a+(Builtin.Range.rangeSize a b 1 - 1) * 1),rawInt (Builtin.Range.rangeSize a b 1),rawInt (-1)] } }) :
  codeAny (model prog w) A (.call (.builtin "reversed.__new__") ⟨[.type "reversed",.ref r],[]⟩) (wants Q₁ E) s:=by
 have hT:s.TypeIs (.ref r) "range":=⟨_,hr,rfl⟩
 refine codeAny_of_tree ?_
 show wpAny _ A.in1 (do checkBuiltinCall "reversed.__new__" ⟨[.type "reversed",.ref r],[]⟩; again (.builtin "reversed.__new__" ⟨[.type "reversed",.ref r],[]⟩)) _ _ s
 refine wpAny_bind (wpAny_of_eq (F.newCall_reversed_1 _) (wpAny_pure ⟨plainId_quiet F.plain_reversed_new _,codeAny_builtin F.entry_reversed_new ?_⟩))
 rw [Around.under_plainId F.plain_reversed_new _]
 unfold Builtin.«reversed.__new__»
 refine wpAny_bind (wpAny_of_eq (newClass_reversed _) ?_)
 try dsimp only
 refine wpAny_bind (wpAny_of_eq (a:=()) (by first | rfl | kernel_rfl) ?_)
 refine wpAny_bind (wpAny_of_eq (a:=()) (by first | rfl | kernel_rfl) ?_)
 try dsimp only
 refine wpAny_bind (wpAny_specialOf hT F.slot_range_reversed.lookup ?_)
 try dsimp only
 refine wpAny_bind (wpAny_of_eq (F.slot_range_reversed.bind _) ?_)
 try dsimp only
 first
 | rw [if_neg (show ¬ ((Value.builtin "range.__reversed__" == Value.none)=true) from Bool.false_ne_true)]
 | (show wpAny _ _ (if (Value.builtin "range.__reversed__" == Value.none)=true then _ else _) _ _ _; rw [if_neg (show ¬ ((Value.builtin "range.__reversed__" == Value.none)=true) from Bool.false_ne_true)])
 refine wpAny_bind (wpAny_rule ?_)
 have hsz:Builtin.Range.rangeSize a b 1=if a < b then b - a else 0:=rangeSize_one a b
 refine wpAny_bind (m:=runValue (.call (.builtin "range.__reversed__") ⟨[.ref r],[]⟩)) (show wpAny _ _ (call (.builtin "range.__reversed__") [.ref r]) _ _ _ from
  call_meets F.slot_range_reversed hT F.entry_range_reversed (F.args_range_reversed_1 _) (Zig r a b 1 t u v ?_) ⟨hr,?_⟩)
 ·rw [Bool.not_eq_true',Bool.not_eq_false,iR (by omega) (by omega),iR (by omega) (by omega),iR (by decide) (by decide),iR (by decide) (by decide),iR (n:=a - 1) (by omega) (by omega),iR (n:=Builtin.Range.rangeSize a b 1) (by rw [hsz]; split <;> omega) (by rw [hsz]; split <;> omega)]
  rfl
 ·first
  | exact wpAny_pure h
  | exact wpAny_bind (wpAny_pure (wpAny_pure h))
theorem Zf9:isSubtype (.type "range_iterator") (.type "reversed")=pure false:=by rw [isSubtype_type]; kernel_rfl
theorem Zm9 {r:Addr} {a b:Int} {t u v:Tok} {Q:Value->Shared->Prop} (hr:IsRange s.heap r a b 1 t u v) (ha:-(2 ^ 62)<=a) (ha':a < 2 ^ 62) (hb:-(2 ^ 62)<=b) (hb':b < 2 ^ 62)
  (h:Q (.ref s.heap.objs.size) { s with heap:=s.heap.push { cls:=.type "range_iterator",data:=.fields #[rawInt (a+(Builtin.Range.rangeSize a b 1 - 1) * 1),rawInt (Builtin.Range.rangeSize a b 1),rawInt (-1)] } }):wpAny (model prog w) A (call (.type "reversed") [.ref r]) Q E s:=by
 refine callType_other (U:="range_iterator") (Q₁:=λobj s₁=>obj=.ref s.heap.objs.size/\s₁={ s with heap:=s.heap.push { cls:=.type "range_iterator",data:=.fields #[rawInt (a+(Builtin.Range.rangeSize a b 1 - 1) * 1),rawInt (Builtin.Range.rangeSize a b 1),rawInt (-1)] } }) (by decide +kernel) F.create_reversed ⟨_,_,F.mro_reversed⟩ F.made_reversed Zf9 (F.typeCall_reversed_1 _) (Zm1 hr ha ha' hb hb' ⟨rfl,rfl⟩) ?_
 rintro obj s₁ ⟨rfl,rfl⟩
 exact ⟨⟨_,Heap.get?_push_size _ rfl,rfl⟩,h⟩
end
theorem Zcl:Manifest.owners.lookup (String.ofList ['d','e','s','r','e','v','e','r'].reverse)=some Manifest.sig_reversed:=by kernel_rfl
theorem Zgc:Slot "reversed" "__init__" "object.__init__" :=
 .of (owner:="object") (n:="__init__") (by rw [typeLookup_type,builtinLookup_eq_fast]; kernel_rfl) (by decide +kernel) (by decide +kernel) (by decide +kernel)
  (by first | exact .inl (by decide +kernel) | exact .inr (by decide +kernel)) (by rw [isSubtype_type]; kernel_rfl)
theorem jp:Slot "reversed" "__next__" "reversed.__next__" :=
 .of (owner:="reversed") (n:="__next__") (by rw [typeLookup_type,builtinLookup_eq_fast]; kernel_rfl) (by decide +kernel) (by decide +kernel) (by decide +kernel)
  (by first | exact .inl (by decide +kernel) | exact .inr (by decide +kernel)) (by rw [isSubtype_type]; kernel_rfl)
theorem Zdx:entryFor table "reversed.__next__"=some Builtin.«reversed.__next__»:=entryFor_of_tree (by kernel_rfl)
theorem Ze1 (a:Value):argsOk "reversed.__next__" ⟨[a],[]⟩:=by
 unfold argsOk; rw [signature?_of (id:="reversed.__next__") (n:=['_','_','t','x','e','n','_','_']) (o:=['d','e','s','r','e','v','e','r']) (by kernel_rfl) Zcl]; kernel_rfl
theorem ZaR:Slot "reversed" "__iter__" "reversed.__iter__" :=
 .of (owner:="reversed") (n:="__iter__") (by rw [typeLookup_type,builtinLookup_eq_fast]; kernel_rfl) (by decide +kernel) (by decide +kernel) (by decide +kernel)
  (by first | exact .inl (by decide +kernel) | exact .inr (by decide +kernel)) (by rw [isSubtype_type]; kernel_rfl)
theorem ZnJ (a:Value):argsOk "reversed.__iter__" ⟨[a],[]⟩:=by
 unfold argsOk; rw [signature?_of (id:="reversed.__iter__") (n:=['_','_','r','e','t','i','_','_']) (o:=['d','e','s','r','e','v','e','r']) (by kernel_rfl) Zcl]; kernel_rfl
theorem ZlO:entryFor table "reversed.__iter__"=some Builtin.«dict_keyiterator.__iter__» :=
 entryFor_alias (id':="dict_keyiterator.__iter__") (by kernel_rfl) (by first | rfl | decide +kernel | (unfold String.splitOn; simp +decide [String.splitOnAux])) (by decide +kernel) (by kernel_rfl)
theorem Zm5:TypeCalled "reversed" "reversed.__new__" "object.__init__" :=
 ⟨by decide +kernel,by decide +kernel,⟨_,_,F.mro_reversed⟩,F.made_reversed,by decide +kernel,by rw [isSubtype_type]; kernel_rfl,Zgc⟩
theorem Zh2:typeLookup (.type "tuple") "__reversed__"=pure none:=by rw [typeLookup_type,builtinLookup_eq_fast]; kernel_rfl
theorem Zif (l:Addr) (items:Array Value) (hfit:(items.size:Int) < 2 ^ 63) :
  Meets (Builtin.«reversed.__new__» ⟨[.type "reversed",.ref l],[]⟩) (λ_ R s=>IsTup s.heap l items /\
   R (.ok (.ret (.ref s.heap.objs.size))) { s with heap:=s.heap.push { cls:=.type "reversed",data:=.fields #[.ref l,rawInt ((items.size:Int) - 1)] },toks:=s.toks+1+1 }) :=
 .of_wp λprog w A R s h=>by
  obtain ⟨hp,g,d,tk,os⟩:=s
  obtain ⟨hl,h⟩:=h
  have hl':(Shared.mk hp g d tk os).heap.IsTuple l items:=hl
  unfold Builtin.«reversed.__new__»
  refine wpAny_bind (wpAny_of_eq (newClass_reversed _) ?_)
  try dsimp only
  refine wpAny_bind (wpAny_of_eq (a:=()) (by first | rfl | kernel_rfl) ?_)
  refine wpAny_bind (wpAny_of_eq (a:=()) (by first | rfl | kernel_rfl) ?_)
  try dsimp only
  refine wpAny_bind (wpAny_specialOf hl'.typeIs Zh2 ?_)
  try dsimp only
  refine wpAny_bind ?_
  show wpAny _ _ (isInstance (Value.ref l) (.type "dict") >>= _) _ _ _
  refine wpAny_bind (wpAny_isInstance (T:="tuple") (b:=false) hl'.typeIs (by rw [isSubtype_type]; kernel_rfl) ?_)
  show wpAny _ _ (specialOf (Value.ref l) "__getitem__" >>= _) _ _ _
  refine wpAny_bind (wpAny_specialOf hl'.typeIs F.slot_tuple_getitem.lookup ?_)
  refine wpAny_pure ?_
  show wpAny _ _ (call (Value.builtin "len") [Value.ref l] >>= _) _ _ _
  refine wpAny_bind (len_tuple hl hfit ?_)
  refine wpAny_bind (wpAny_of_eq (a:=some (items.size:Int)) rfl ?_)
  show wpAny _ _ (newObj (.type "reversed") (.fields #[.ref l,rawInt ((items.size:Int) - 1)]) >>= _) _ _ _
  refine wpAny_bind (wpAny_newObj_type ?_)
  exact wpAny_pure ⟨_,rfl,h⟩
noncomputable def IsTRev (h:Heap) (a l:Addr) (i:Int):Prop:=∃ o,h.get? a=some o/\o.cls=.type "reversed"/\o.data=.fields #[.ref l,rawInt i]
theorem IsTRev.at {h h':Heap} {a l:Addr} {i:Int} (x:IsTRev h a l i) (e:∀ o,h.get? a=some o->h'.get? a=some o):IsTRev h' a l i:=let ⟨o,ho,r⟩:=x; ⟨o,e _ ho,r⟩
section
variable {prog:Program} {w:World} {A:Around} {E:Value->Shared->Prop} {s:Shared}
theorem Zm8 {l:Addr} {items:Array Value} {Q:Value->Shared->Prop} (hl:IsTup s.heap l items) (hfit:(items.size:Int) < 2 ^ 63)
  (h:Q (.ref s.heap.objs.size) { s with heap:=s.heap.push { cls:=.type "reversed",data:=.fields #[.ref l,rawInt ((items.size:Int) - 1)] },toks:=s.toks+1+1 }) :
  wpAny (model prog w) A (call (.type "reversed") [.ref l]) Q E s :=
 callType_new Zm5 (by decide) (F.typeCall_reversed_1 _) (F.newCall_reversed_1 _) (λobj=>F.args_object_init_2 obj _) F.entry_reversed_new (Zif l items hfit) ⟨hl,⟨_,Heap.get?_push_size _ rfl,rfl⟩,h⟩
theorem Zhf {it l:Addr} {i:Nat} {items:Array Value} {x:Value} {Q:Option Value->Shared->Prop} (hit:IsTRev s.heap it l (i:Int)) (hl:IsTup s.heap l items) (hne:l≠it) (hx:items[i]?=some x) (hfit:(items.size:Int) < 2 ^ 63)
  (hQ:∀ h',IsTRev h' it l ((i:Int) - 1)->Heap.SameBut it s.heap h'->Q (some x) { s with heap:=h',toks:=s.toks+1 }):wpAny (model prog w) A (pyNext (.ref it)) Q E s:=by
 obtain ⟨o,ho,hc,hd⟩:=id hit
 have hT:s.TypeIs (.ref it) "reversed":=⟨o,ho,hc⟩
 have hl':s.heap.IsTuple l items:=hl
 have hlt:i < items.size:=(Array.getElem?_eq_some_iff.mp hx).1
 unfold pyNext
 refine wpAny_bind (wpAny_attempt (wpAny_callSpecial?_slot (name:=Str.ofString "__next__") hT jp
  (wpAny_call_entry jp hT Zdx ?_ (Ze1 _))))
 unfold Builtin.«reversed.__next__»
 refine wpAny_bind (wpAny_of_eq (a:=(Value.ref it,[])) rfl ?_)
 try dsimp only
 refine wpAny_bind (wpAny_field ho hd (x:=.ref l) rfl ?_)
 refine wpAny_bind (wpAny_field ho hd (x:=rawInt (i:Int)) rfl ?_)
 show wpAny _ _ (if (i:Int) < 0 then _ else _) _ _ s
 rw [if_neg (by omega)]
 refine wpAny_bind (wpAny_specialOf hl'.typeIs F.slot_tuple_getitem.lookup ?_)
 show wpAny _ _ (mkInt (i:Int) >>= _) _ _ s
 refine wpAny_bind (wpAny_mkInt ?_)
 refine wpAny_bind (wpAny_attempt (getItem_tuple (j:=i) (x:=x) hl (by omega) (by omega) ?_ hx ?_))
 ·unfold seqIndex?
  simp
  omega
 ·dsimp only
  refine wpAny_bind (wpAny_field ho hd (x:=rawInt (i:Int)) rfl ?_)
  show wpAny _ _ (setField (.ref it) 1 (rawInt ((i:Int) - 1)) >>= _) _ _ _
  refine wpAny_bind (wpAny_setField ho hd (by simp) ?_)
  refine wpAny_pure ⟨x,rfl,wpAny_pure (hQ _ ?_ (Heap.SameBut.update ..))⟩
  exact ⟨_,Heap.get?_update_self _ ho (Obj.isFreed_of_fields (Obj.data_mapFields hd _)),(Obj.cls_mapFields ..).trans hc,by
   rw [Obj.data_mapFields hd]; simp⟩
theorem Zhg {it l:Addr} {Q:Option Value->Shared->Prop} (hh:A.handled=none) (hit:IsTRev s.heap it l (-1))
  (hQ:∀ h',Heap.ExtBut it s.heap h'->Q none { s with heap:=h' }):wpAny (model prog w) A (pyNext (.ref it)) Q E s:=by
 obtain ⟨o,ho,hc,hd⟩:=id hit
 have hT:s.TypeIs (.ref it) "reversed":=⟨o,ho,hc⟩
 unfold pyNext
 refine wpAny_bind (wpAny_attempt (wpAny_callSpecial?_slot (name:=Str.ofString "__next__") hT jp
  (wpAny_call_entry jp hT Zdx ?_ (Ze1 _))))
 unfold Builtin.«reversed.__next__»
 refine wpAny_bind (wpAny_of_eq (a:=(Value.ref it,[])) rfl ?_)
 try dsimp only
 refine wpAny_bind (wpAny_field ho hd (x:=.ref l) rfl ?_)
 refine wpAny_bind (wpAny_field ho hd (x:=rawInt (-1)) rfl ?_)
 show wpAny _ _ (if (-1:Int) < 0 then _ else _) _ _ s
 rw [if_pos (by decide)]
 refine wpAny_bind (wpAny_rule ?_)
 refine wpAny_bind ?_
 show wpAny _ _ (setField (.ref it) 1 (rawInt (-1)) >>= _) _ _ _
 refine wpAny_bind (wpAny_setField ho hd (by simp) ?_)
 have ho2:=Heap.get?_update_self (Obj.mapFields λx_1=>x_1.setIfInBounds 1 (rawInt (-1))) ho (Obj.isFreed_of_fields (Obj.data_mapFields hd _))
 refine wpAny_setField ho2 (Obj.data_mapFields hd _) (by simp) ?_
 have eb:Heap.ExtBut it s.heap ((s.heap.update it (Obj.mapFields λx_1=>x_1.setIfInBounds 1 (rawInt (-1)))).update it (Obj.mapFields λx_1=>x_1.setIfInBounds 0 Value.none)):=λb o' hb e=>(Heap.SameBut.update _ _ _).extBut b o' hb ((Heap.SameBut.update _ _ _).extBut b o' hb e)
 show wpAny _ _ (newExc (.type "StopIteration") [] >>= _ >>= _) _ _ _
 refine wpAny_bind ?_
 refine wpAny_bind ?_
 simp only [newExc,newTuple]
 refine wpAny_bind (wpAny_newObj_type ?_ (by size_fits))
 refine wpAny_bind (m:=firstArgMember _ _) (wpAny_of_eq (a:=Value.none) (by first | rfl | (simp only [firstArgMember]; rfl)) ?_)
 refine wpAny_newObj_type ?_ (by size_fits)
 simp only [raiseNew]
 refine wpAny_bind (wpAny_handled ?_)
 first | rw [show A.in1.handled=none from hh] | rw [hh]
 refine wpAny_bind (wpAny_pure (wpAny_throw ?_))
 refine wpAny_bind (wpAny_isInstance (T:="StopIteration") (b:=true) ⟨_,Heap.get?_push_size _ rfl,rfl⟩ isSubtype_stop ?_)
 exact wpAny_pure (hQ _ ((eb.push _).push _))
theorem Zb6 {it l:Addr} {i:Int} {Q:Value->Shared->Prop} (hit:IsTRev s.heap it l i) (h:Q (.ref it) s):wpAny (model prog w) A (pyIter (.ref it)) Q E s:=by
 obtain ⟨o,ho,hc,hd⟩:=id hit
 have hT:s.TypeIs (.ref it) "reversed":=⟨o,ho,hc⟩
 refine wpAny_pyIter_slot hT ZaR (wpAny_call_entry ZaR hT ZlO ?_ (ZnJ _))
 show wpAny _ _ (ret (.ref it)) _ _ s
 exact wpAny_pure ⟨_,rfl,"reversed",_,hT,jp.lookup,h⟩
end
noncomputable def ji (b:Bool) (l:Addr) (n:Nat):It :=
 ⟨λi H=>i < n/\∃ xs,H l=some (a9 b xs)/\xs.length=n,λi H x H'=>H'=H/\∃ xs,H l=some (a9 b xs)/\xs[n - 1 - i]?=some x,λi _=>i=n⟩
noncomputable def RvAt (b:Bool) (h:Heap) (it l:Addr) (i:Int):Prop:=match b with
 | true=>h.IsRevIter it l i
 | false=>IsTRev h it l i
theorem RvAt.there {b:Bool} {h:Heap} {it l:Addr} {i:Int} (x:RvAt b h it l i):∃ o n vs,h.get? it=some o/\o.cls=.type n/\o.data=.fields vs/\["enumerate","zip","dict_itemiterator","dict_reverseitemiterator","odict_iterator","itertools.zip_longest","itertools.pairwise"].contains n=false:=by
 cases b with
 | true=>obtain ⟨o,h1,h2,h3⟩:=x; exact ⟨o,_,_,h1,h2,h3,by decide⟩
 | false=>obtain ⟨o,h1,h2,h3⟩:=x; exact ⟨o,_,_,h1,h2,h3,by decide⟩
theorem RvAt.at {b:Bool} {h h':Heap} {it l:Addr} {i:Int} (x:RvAt b h it l i) (e:∀ o,h.get? it=some o->h'.get? it=some o):RvAt b h' it l i:=by
 cases b with
 | true=>exact Heap.IsRevIter.at x e
 | false=>exact IsTRev.at x e
theorem Zat {P:Program} {w:World} {K:PySem.W.Frag} {tg:Expr} {b:Bool} {l:Addr} {n:Nat} (it:Addr) (hn:(n:Int) < 2 ^ 63):Turn P w K tg (ji b l n) [it] it (λi h=>RvAt b h it l ((n:Int) - 1 - (i:Nat))) where
 mem:=by simp
 obj:=λi h st c hb=>by
  have e:c=it:=by simpa using hb
  subst e
  obtain ⟨o,_,_,h1,_,h3,_⟩:=st.there
  exact ⟨o,h1,λv z=>by rw [h3] at z; cases z⟩
 keep:=λi h h' st k=>st.at λo e=>k it (by simp) o e
 item:=by
  intro X hP hw hK hc i pins s σ H E I hf st hg
  subst hP hw hK
  obtain ⟨hi,xs,e1,hlen⟩:=hg
  obtain ⟨us,r1,q1⟩:=cZ I.hok e1
  obtain ⟨f0,f1,f2,f3,f4,f5⟩:=hf it (by simp)
  have hxl:n - 1 - i < xs.length:=by omega
  have hx:xs[n - 1 - i]?=some xs[n - 1 - i]:=List.getElem?_eq_getElem hxl
  obtain ⟨u,hu,ru⟩:=r1.get hx
  have ne:l≠it:=cv e1 f0
  have ei:(n:Int) - 1 - (i:Nat)=((n - 1 - i:Nat):Int):=by omega
  have ei2:((n - 1 - i:Nat):Int) - 1=(n:Int) - 1 - ((i+1:Nat):Int):=by omega
  rw [ei] at st
  have usz:us.toArray.size=n:=by rw [List.size_toArray,<- r1.length]; exact hlen
  have fin:∀ (h':Heap) (tk:Nat),RvAt b h' it l ((n:Int) - 1 - ((i+1:Nat):Int))->Heap.SameBut it s.heap h'->∃ u',some u=some u'/\wpAny (model X.prog X.w) X.A (letOwnedTupleGo tg (.ref it) u') (λ_ s2=>∃ x H',Inv X pins σ H' s2/\RelV x u'/\(ji b l n).yld i H x H'/\RvAt b s2.heap it l ((n:Int) - 1 - ((i+1:Nat):Int))/\∀ b∈[it],H' b=none) E { s with heap:=h',toks:=tk }:=λh' tk st' sb=>by
   have I1:Inv X pins σ H { s with heap:=h',toks:=tk }:=I.turned (λb o hb e=>(sb.2 b hb).trans e) f0 f1 f3 f4 f5
   obtain ⟨o,nm,vs,g1,g2,g3,g4⟩:=st'.there
   exact ⟨u,rfl,ke (s:={ s with heap:=h',toks:=tk }) g1 g2 g3 g4 ⟨_,H,I1,ru,⟨rfl,xs,e1,hx⟩,st',λb hb=>(hf b hb).1⟩⟩
  cases b with
  | true =>
   refine wpAny_pyNext_rev_item (i:=n - 1 - i) st q1 (x:=u) (by simpa using hu) λh' st' sb=>?_
   rw [ei2] at st'
   exact fin h' s.toks st' sb
  | false =>
   refine Zhf (i:=n - 1 - i) st q1 ne (x:=u) (by simpa using hu) (by rw [usz]; exact hn) λh' st' sb=>?_
   rw [ei2] at st'
   exact fin h' (s.toks+1) st' sb
 done:=by
  intro X hP hw hK hc i pins s σ H E I hf st hg
  subst hP hw hK
  obtain ⟨f0,f1,f2,f3,f4,f5⟩:=hf it (by simp)
  have hi:i=n:=hg
  subst hi
  have e:(i:Int) - 1 - (i:Nat)=-1:=by omega
  rw [e] at st
  cases b with
  | true=>exact wpAny_pyNext_rev_end (I.ok.hd hc) st λh' eb=>⟨rfl,I.turned (t':=s.toks) (λb o hb e=>eb b o hb e) f0 f1 f3 f4 f5⟩
  | false=>exact Zhg (I.ok.hd hc) st λh' eb=>⟨rfl,I.turned (t':=s.toks) (λb o hb e=>eb b o hb e) f0 f1 f3 f4 f5⟩
 self:=λ_ _ _ _ _ st h=>by
  cases b with
  | true=>exact wpAny_pyIter_revIter st h
  | false=>exact Zb6 st h
section
variable {X:Cx} {tg:Expr} {PK:Pk} {a b:Expr} {i j:List Sl->Tr PyData} {p pos:Pos}
noncomputable def mC (ta:TE):TI:=λσ H R=>ta σ H λx H1=>(∃ b l xs,x=.ref l/\H1 l=some (a9 b xs)/\R (ji b l xs.length) H1) \/
 (∃ l lo hi,x=.ref l/\H1 l=some (.rng lo hi)/\-(2 ^ 62)<=lo/\lo < 2 ^ 62/\-(2 ^ 62)<=hi/\hi < 2 ^ 62/\R (h9 (lo+(hi - lo).toNat - 1) (hi - lo).toNat) H1)
theorem pE {ta:TE} (hg:Gl X "reversed") (hm:X.mg "reversed"=none) (ha:PE X a ta)
  (hs:starEach [a] X.env=[(false,eval a X.env)]:=by rfl):PI X tg (.Call (.Name "reversed" p) [a] [] pos) (mC ta):=by
 intro pins s σ H R I h
 have hab:PA X [a] (fc ta aS):=ci ha cu (by rw [hs]; rfl)
 have h':fc ta aS σ H λvs H1=>∃ x,vs=[x]/\((∃ b l xs,x=.ref l/\H1 l=some (a9 b xs)/\R (ji b l xs.length) H1) \/
   (∃ l lo hi,x=.ref l/\H1 l=some (.rng lo hi)/\-(2 ^ 62)<=lo/\lo < 2 ^ 62/\-(2 ^ 62)<=hi/\hi < 2 ^ 62/\R (h9 (lo+(hi - lo).toNat - 1) (hi - lo).toNat) H1)):=by
  have h0:ta σ H λx H1=>(∃ b l xs,x=.ref l/\H1 l=some (a9 b xs)/\R (ji b l xs.length) H1) \/
   (∃ l lo hi,x=.ref l/\H1 l=some (.rng lo hi)/\-(2 ^ 62)<=lo/\lo < 2 ^ 62/\-(2 ^ 62)<=hi/\hi < 2 ^ 62/\R (h9 (lo+(hi - lo).toNat - 1) (hi - lo).toNat) H1):=h
  refine cast (congrArg (ta σ H) ?_) h0
  funext x H1
  apply propext
  constructor
  ·exact λq=>⟨x,rfl,q⟩
  ·rintro ⟨y,e,q⟩
   have e':x=y:=by simpa using e
   subst e'
   exact q
 refine Call_ (gW I hg hm boot_reversed (PyProof.Rows.callWith_type1 (thn (hab pos pins s σ H _ I h') λus s1 hz0=>?_) (by rw [hs]; rfl) rfl))
 obtain ⟨vs,H1,I1,r1,q1⟩:=hz0
 obtain ⟨x,rfl,q1⟩:=q1
 obtain ⟨u,rfl,ru⟩:=eN r1
 have fp:∀ c∈[s1.heap.objs.size],eM X pins H1 c:=λc hb=>by
  have e:c=s1.heap.objs.size:=by simpa using hb
  subst e
  exact I1.fpOk (Nat.le_refl _) (I1.hok.fresh (Nat.le_refl _))
 have hn:=gr
 rcases q1 with ⟨b,l,xs,rfl,e1,q⟩ | ⟨l,lo,hi,rfl,e1,b1,b2,b3,b4,q⟩
 ·cases ru
  obtain ⟨us,r2,q2⟩:=cZ I1.hok e1
  have usz:us.toArray.size=xs.length:=by rw [List.size_toArray,<- r2.length]
  have hz:xs.length<=sizeLine:=by
   cases b with
   | true=>exact (I1.hok _ _ e1).1
   | false=>exact (I1.hok _ _ e1).1
  cases b with
  | true =>
   refine call_reversed_list q2 (wpAny_pyIter_revIter ⟨_,Heap.get?_push_size _ rfl,rfl,rfl⟩ ?_)
   refine ⟨_,_,_,_,H1,rfl,I1.kept (t':=s1.toks) λb o e=>Heap.get?_push_of_some _ e,Zat (b:=true) (l:=l) (n:=xs.length) s1.heap.objs.size (by omega),?_,fp,q⟩
   refine ⟨_,Heap.get?_push_size _ rfl,rfl,?_⟩
   rw [usz]
   show Data.fields #[_,rawInt ((xs.length:Int) - 1)]=Data.fields #[_,rawInt ((xs.length:Int) - 1 - ((0:Nat):Int))]
   simp
  | false =>
   refine Zm8 q2 (by rw [usz]; omega) (Zb6 ⟨_,Heap.get?_push_size _ rfl,rfl,rfl⟩ ?_)
   refine ⟨_,_,_,_,H1,rfl,I1.kept (t':=s1.toks+1+1) λb o e=>Heap.get?_push_of_some _ e,Zat (b:=false) (l:=l) (n:=xs.length) s1.heap.objs.size (by omega),?_,fp,q⟩
   refine ⟨_,Heap.get?_push_size _ rfl,rfl,?_⟩
   rw [usz]
   show Data.fields #[_,rawInt ((xs.length:Int) - 1)]=Data.fields #[_,rawInt ((xs.length:Int) - 1 - ((0:Nat):Int))]
   simp
 ·cases ru
  obtain ⟨t,u,v,e⟩:=I1.hok _ _ e1
  have hsz:Builtin.Range.rangeSize lo hi 1=((hi - lo).toNat:Int):=by rw [rangeSize_one]; split <;> omega
  refine Zm9 e b1 b2 b3 b4 (wpAny_pyIter_rangeiter (Heap.get?_push_size _ rfl) ?_)
  refine ⟨_,_,_,_,H1,rfl,I1.kept (t':=s1.toks) λb o e=>Heap.get?_push_of_some _ e,ZfB s1.heap.objs.size (lo+(hi - lo).toNat - 1) (hi - lo).toNat,?_,fp,q⟩
  rw [hsz]
  have e1:lo+(((hi - lo).toNat:Int) - 1) * 1=lo+(hi - lo).toNat - 1+((0:Nat):Int) * (-1):=by simp; omega
  have e2:((hi - lo).toNat:Int)=((hi - lo).toNat:Int) - ((0:Nat):Int):=by simp
  rw [e1]
  show IsRangeIter _ _ _ (((hi - lo).toNat:Int) - ((0:Nat):Int)) (-1)
  rw [<- e2]
  exact Heap.get?_push_size _ rfl
end
end L2
set_option Elab.async false
set_option linter.all false
set_option maxRecDepth 100000
namespace L2
open PySem PySem.Spec PyProof.Rows
section
variable {X:Cx} {tg:Expr} {PK:Pk} {e:Expr} {i j:List Sl->Tr PyData} {is:List Sl->Tr (List PyData)} {p pos:Pos}
theorem ZiP {pa:Addr} {G:Hp} {b:Bool} {l:Addr} {us:List V} {xs:List PyData} (h1:G l=some (a9 b us)) (d1:DnAll G us xs):gG PK pa (ji b l us.length) G xs.reverse:=λm G2 H2 sb w=>by
 have e1:H2 l=some (a9 b us):=w.sub _ _ (sb _ _ h1)
 have hlen:us.length=xs.length:=d1.length
 refine ⟨λn d hd=>?_,by show xs.reverse.length=us.length; rw [List.length_reverse,hlen]⟩
 have hn:n < xs.length:=by
  have:=(List.getElem?_eq_some_iff.mp hd).1
  rwa [List.length_reverse] at this
 have hd':xs[xs.length - 1 - n]?=some d:=by
  rw [List.getElem?_reverse hn] at hd
  exact hd
 refine ⟨⟨by omega,us,e1,rfl⟩,λy H3 hz0=>?_⟩
 obtain ⟨eH,vs,f1,hy⟩:=hz0
 subst eH
 rw [e1] at f1
 have:=mD f1
 subst this
 rw [hlen] at hy
 obtain ⟨v,hv,dv⟩:=d1.get _ hd'
 rw [hv] at hy
 cases hy
 exact ⟨G2,.refl,w,dv.mono sb⟩
noncomputable def rn (i:List Sl->Tr PyData):List Sl->Tr (List PyData):=λρ=>(i ρ).bind λx=>(Tr.of (eV x)).bind λxs=>.ret xs.reverse
theorem ZnQ {iter:Expr} (h:PI X tg iter (mC (TAe PK i))):PI X tg iter (cP PK (rn i)):=h.imp λσ H R0 hz0=>by
 obtain ⟨pa,G₀,H₀,m,ρ,G,R,z⟩:=hz0
 refine TAe.then R z λm1 x v G1 H1 s1 w1 R1 d1 q1=>?_
 rw [Tr.ok_bind] at q1
 obtain ⟨xs,hx,q1⟩:=Tr.ok_of q1
 obtain ⟨b1,l1,us,rfl,e1,f1⟩:=kc d1 hx
 exact .inl ⟨b1,l1,us,rfl,w1.sub _ _ e1,q1 _ G1 H1 s1 w1 (ZiP e1 f1)⟩
theorem Zna:dg X (.type "range") (λxs H Q=>∃ j:Int,xs=[.int j]/\∀ p,H p=none->Q (.ref p) (upd H p (.rng 0 j))):=by
 intro pins s σ H xs us Q I r h
 obtain ⟨j,rfl,q⟩:=h
 cases r with
 | cons r1 rr =>
  cases rr
  obtain ⟨t,rfl⟩:=r1
  refine call_range_1 ?_
  exact ⟨.ref s.heap.objs.size,_,I.laid (t':=s.toks+1+1) (λb o e=>Heap.get?_push_of_some _ e) (Nat.le_refl _) (show ObjOk X.prog X.w _ _ _ (.rng 0 j) from ⟨s.toks,t,s.toks+1,Heap.get?_push_size _ rfl⟩),rfl,q _ (I.hok.fresh (Nat.le_refl _))⟩
theorem Zc1 {pa:Addr} {G:Hp} {lo:Int} {n:Nat}:gG PK pa (h9 (lo+n - 1) n) G ((aI lo n).map PyData.int).reverse:=λm G2 H2 sb w=>by
 have hl:((aI lo n).map PyData.int).length=n:=by rw [List.length_map,eQ]
 refine ⟨λk x hx=>?_,by show n<=_; rw [List.length_reverse,hl]; exact Nat.le_refl _⟩
 have hk:k < n:=by
  have:=(List.getElem?_eq_some_iff.mp hx).1
  rwa [List.length_reverse,hl] at this
 refine ⟨hk,λy H3 hz0=>?_⟩
 obtain ⟨e1,e2⟩:=hz0
 subst e1 e2
 have:x=.int (lo+n - 1 - k):=by
  rw [List.getElem?_reverse (by rw [hl]; exact hk),hl] at hx
  unfold aI at hx
  rw [List.map_map,List.getElem?_map,List.getElem?_range (by omega)] at hx
  cases hx
  show PyData.int (lo+((n - 1 - k:Nat):Int))=_
  congr 1
  omega
 subst this
 exact ⟨G2,.refl,w,.int _⟩
noncomputable def rm (is:List Sl->Tr (List PyData)):List Sl->Tr (List PyData):=λρ=>(is ρ).bind λxs=>(Tr.of (ip xs)).bind λys=>.ret ys.reverse
noncomputable def rl (is:List Sl->Tr (List PyData)):List Sl->Tr (List PyData):=λρ=>(is ρ).bind λxs=>(Tr.of (io xs)).bind λys=>.ret ys.reverse
noncomputable def ZfS (t:TA):TE:=f8 (λxs H Q=>∃ j:Int,xs=[.int j]/\∀ p,H p=none->Q (.ref p) (upd H p (.rng 0 j))) t
noncomputable def ZfR (t:TA):TE:=f8 (λxs H Q=>∃ i j:Int,xs=[.int i,.int j]/\∀ p,H p=none->Q (.ref p) (upd H p (.rng i j))) t
theorem ZnP {iter:Expr} (h:PI X tg iter (mC (ZfS (TAd PK is)))):PI X tg iter (cP PK (rm is)):=h.imp λσ H R0 hz0=>by
 obtain ⟨pa,G₀,H₀,m,ρ,G,R,z⟩:=hz0
 refine TAd.then R z λm1 xs vs G1 H1 s1 w1 R1 d1 q1=>?_
 rw [Tr.ok_bind] at q1
 obtain ⟨ys,hy,q1⟩:=Tr.ok_of q1
 obtain ⟨n,e,h1,h2,rfl⟩:=Zby d1 hy
 refine ⟨n,e,λp hp=>?_⟩
 obtain ⟨w2,s2⟩:=w1.own (o:=.rng 0 n) hp
 refine .inr ⟨p,0,n,rfl,bW,by decide,by decide,h1,h2,?_⟩
 have q:=q1 (h9 (0+(n - 0).toNat - 1) (n - 0).toNat) G1 _ (s1.trans s2 w1.some) w2
 unfold bc at q
 exact q Zc1
theorem ZnO {iter:Expr} (h:PI X tg iter (mC (ZfR (TAd PK is)))):PI X tg iter (cP PK (rl is)):=h.imp λσ H R0 hz0=>by
 obtain ⟨pa,G₀,H₀,m,ρ,G,R,z⟩:=hz0
 refine TAd.then R z λm1 xs vs G1 H1 s1 w1 R1 d1 q1=>?_
 rw [Tr.ok_bind] at q1
 obtain ⟨ys,hy,q1⟩:=Tr.ok_of q1
 obtain ⟨k,n,e,⟨h1,h2,h3,h4⟩,rfl⟩:=Zbx d1 hy
 refine ⟨k,n,e,λp hp=>?_⟩
 obtain ⟨w2,s2⟩:=w1.own (o:=.rng k n) hp
 refine .inr ⟨p,k,n,rfl,bW,h1,h2,h3,h4,?_⟩
 exact q1 (h9 (k+(n - k).toNat - 1) (n - k).toNat) G1 _ (s1.trans s2 w1.some) w2 Zc1
end
section
variable {X:Cx} {PK:Pk} {i n:List Sl->Tr PyData}
end
section
variable {prog:Program} {w:World} {A:Around} {E:Value->Shared->Prop} {s:Shared}
end
section
variable {X:Cx} {PK:Pk} {e st:Expr} {te ts:TE} {i j:List Sl->Tr PyData} {p2 pos:Pos}
end
end L2
set_option Elab.async false
set_option linter.all false
set_option maxRecDepth 100000
namespace L2
open PySem PySem.Spec PyProof.Rows
noncomputable abbrev gF (h0 h:Heap):Prop:=∀ c o,h0.get? c=some o->h.get? c=some o
noncomputable def Zfi (prog:Program) (w:World) (A:Around) (h0:Heap) (P:Nat->Value->Prop) (bt:Nat->Nat->Bool):Prop :=
 ∀ i j vi vj (s:Shared) (Q:Value->Shared->Prop) (E:Value->Shared->Prop),j < i->gF h0 s.heap->P i vi->P j vj->Q (.bool (bt i j)) s->wpAny (model prog w) A (richCompare .Lt vi vj) Q E s
theorem Ze2 (bt:Nat->Nat->Bool):∀ j,argBest bt j<=j
 | 0=>Nat.le_refl _
 | j+1=>by
  have:=Ze2 bt j
  unfold argBest
  split <;> omega
section
variable {prog:Program} {w:World} {A:Around} {R:Result->Shared->Prop} {I S:Addr} {fp wr:List Addr} {n:Nat} {P:Nat->Value->Prop} {St:Nat->Heap->Prop} {h0:Heap}
theorem lV:(toString "min"++toString ".loop":String)="min.loop":=by decide
theorem Zic (W:Walks prog w A.in1 I fp wr n P St) (bt:Nat->Nat->Bool) (hcmp:Zfi prog w A.in1 h0 P bt) (hSf:S ∉ fp) (h0w:∀ c o,h0.get? c=some o->c ∉ wr/\c≠S) :
  ∀ (k j:Nat) (s:Shared) (vb:Value) (c:Nat),n - (j+1)=k->j+1<=n->gF h0 s.heap->St (j+1) s.heap->P (argBest bt j) vb ->
  s.heap.get? S=some { cls:=.type "list",data:=.seq #[vb,vb] c } ->
  (∀ v h' tk,P (argBest bt (n - 1)) v->(∀ b o,b ∉ wr->b≠S->s.heap.get? b=some o->h'.get? b=some o)->R (.ok (.ret v)) { s with heap:=h',toks:=tk }) ->
  codeAny (model prog w) A (.builtin "min.loop" ⟨[.ref I,.none,.ref S],[]⟩) R s:=by
 have hSw:S ∉ wr:=λh=>hSf (W.sub _ h)
 intro k
 induction k with
 | zero =>
  intro j s vb c hk hj kp hst hPb hS hR
  have hin:j+1=n:=by omega
  refine codeAny_builtin F.entry_min_loop (by
   rw [Around.under_plainId F.plain_min_loop _]
   show wpAny _ A.in1 (seqItems? (.ref S) >>= _) _ _ s
   refine wpAny_bind (wpAny_seqItems hS rfl ?_)
   show wpAny _ A.in1 (tryCatch (pyNext (.ref I)) _ >>= _) _ _ s
   refine wpAny_bind (wpAny_tryCatch (W.done s _ _ (hin ▸ hst) λh' tk hk'=>?_))
   have hS':=hk' S _ hSw hS
   show wpAny _ A.in1 (updateSeq S (λ_=>#[]) >>= _) _ _ _
   refine wpAny_bind (wpAny_updateSeq hS' rfl (wpAny_bind (wpAny_letGo (wpAny_pure ?_))))
   exact hR vb _ tk (by rw [<- hin]; exact hPb) λb o hbw hbS e=>(Heap.get?_update_other _ _ (Ne.symm hbS)).trans (hk' b o hbw e))
 | succ k ih =>
  intro j s vb c hk hj kp hst hPb hS hR
  have hlt:j+1 < n:=by omega
  refine codeAny_builtin F.entry_min_loop (by
   rw [Around.under_plainId F.plain_min_loop _]
   show wpAny _ A.in1 (seqItems? (.ref S) >>= _) _ _ s
   refine wpAny_bind (wpAny_seqItems hS rfl ?_)
   show wpAny _ A.in1 (tryCatch (pyNext (.ref I)) _ >>= _) _ _ s
   refine wpAny_bind (wpAny_tryCatch (W.item (j+1) s _ _ hlt hst λv h' tk hP hst' hk'=>?_))
   have hS':=hk' S _ hSw hS
   have kp':gF h0 h':=λc o e=>hk' c o (h0w c o e).1 (kp c o e)
   show wpAny _ A.in1 (tryCatch (holding [v,v] (richCompare .Lt v vb >>= _)) _ >>= _) _ _ _
   refine wpAny_bind (wpAny_tryCatch (wpAny_holding (wpAny_bind (hcmp (j+1) (argBest bt j) v vb _ _ _ (Nat.lt_succ_of_le (Ze2 bt j)) kp' hP hPb (wpAny_bind (wpAny_holding (wpAny_truthy_bool (wpAny_bind (wpAny_letGo (wpAny_pure ?_))))))))))
   cases hb:bt (j+1) (argBest bt j) with
   | true =>
    simp only [if_true]
    refine wpAny_bind (wpAny_updateSeq hS' rfl (wpAny_bind (wpAny_letGo ?_)))
    rw [lV]
    refine wpAny_pure ⟨plainId_quiet F.plain_min_loop _,ih (j+1) _ v _ (by omega) hlt (λc o e=>(Heap.get?_update_other _ _ (Ne.symm (h0w c o e).2)).trans (kp' c o e)) (W.frame _ _ _ hst' λb hbf o e=>?_) (by simp only [argBest,hb,if_true]; exact hP) (Heap.get?_update_self _ hS' rfl)
     λv' h'' tk'' hP' hk''=>hR v' h'' tk'' hP' λb o hbw hbS e=>hk'' b o hbw hbS ((Heap.get?_update_other _ _ (Ne.symm hbS)).trans (hk' b o hbw e))⟩
    exact (Heap.get?_update_other _ _ (λh:S=b=>hSf (by rw [h]; exact hbf))).trans e
   | false =>
    simp only [Bool.false_eq_true,if_false]
    refine wpAny_bind (wpAny_letGo ?_)
    rw [lV]
    exact wpAny_pure ⟨plainId_quiet F.plain_min_loop _,ih (j+1) _ vb c (by omega) hlt kp' hst' (by simp only [argBest,hb,Bool.false_eq_true,if_false]; exact hPb) hS' λv' h'' tk'' hP' hk'' =>
     hR v' h'' tk'' hP' λb o hbw hbS e=>hk'' b o hbw hbS (hk' b o hbw e)⟩)
theorem Zid (W:Walks prog w A.in1 I fp wr n P St) (bt:Nat->Nat->Bool) (hcmp:Zfi prog w A.in1 h0 P bt) (hSf:S ∉ fp) (h0w:∀ c o,h0.get? c=some o->c ∉ wr/\c≠S) (hn:0 < n) {s:Shared} {c:Nat} (kp:gF h0 s.heap) (hst:St 0 s.heap)
  (hS:s.heap.get? S=some { cls:=.type "list",data:=.seq #[] c })
  (hR:∀ v h' tk,P (argBest bt (n - 1)) v->(∀ b o,b ∉ wr->b≠S->s.heap.get? b=some o->h'.get? b=some o)->R (.ok (.ret v)) { s with heap:=h',toks:=tk }) :
  codeAny (model prog w) A (.builtin "min.loop" ⟨[.ref I,.none,.ref S],[]⟩) R s:=by
 have hSw:S ∉ wr:=λh=>hSf (W.sub _ h)
 refine codeAny_builtin F.entry_min_loop (by
  rw [Around.under_plainId F.plain_min_loop _]
  show wpAny _ A.in1 (seqItems? (.ref S) >>= _) _ _ s
  refine wpAny_bind (wpAny_seqItems hS rfl ?_)
  show wpAny _ A.in1 (tryCatch (pyNext (.ref I)) _ >>= _) _ _ s
  refine wpAny_bind (wpAny_tryCatch (W.item 0 s _ _ hn hst λv h' tk hP hst' hk'=>?_))
  have hS':=hk' S _ hSw hS
  have kp':gF h0 h':=λc o e=>hk' c o (h0w c o e).1 (kp c o e)
  show wpAny _ A.in1 (updateSeq S (λ_=>#[v,v]) >>= _) _ _ _
  refine wpAny_bind (wpAny_updateSeq hS' rfl ?_)
  rw [lV]
  refine wpAny_pure ⟨plainId_quiet F.plain_min_loop _,Zic W bt hcmp hSf h0w _ 0 _ v _ rfl hn (λc o e=>(Heap.get?_update_other _ _ (Ne.symm (h0w c o e).2)).trans (kp' c o e)) (W.frame _ _ _ hst' λb hbf o e=>?_) hP (Heap.get?_update_self _ hS' rfl)
   λv' h'' tk'' hP' hk''=>hR v' h'' tk'' hP' λb o hbw hbS e=>hk'' b o hbw hbS ((Heap.get?_update_other _ _ (Ne.symm hbS)).trans (hk' b o hbw e))⟩
  exact (Heap.get?_update_other _ _ (λh:S=b=>hSf (by rw [h]; exact hbf))).trans e)
end
section
variable {prog:Program} {w:World} {A:Around} {E:Value->Shared->Prop} {s:Shared}
theorem Zib {a b:Value} {Q:Value->Shared->Prop} {c:Bool} (hh:A.handled=none) (hcmp:∀ (s':Shared) (Q:Value->Shared->Prop) (E:Value->Shared->Prop),gF s.heap s'.heap->Q (.bool c) s'->wpAny (model prog w) A.in1 (richCompare .Lt b a) Q E s')
  (h:∀ h' tk,gF s.heap h'->Q (if c=true then b else a) { s with heap:=h',toks:=tk }):wpAny (model prog w) A (call (.builtin "min") [a,b]) Q E s:=by
 refine call_function_tree F.kind_min F.plain_min F.entry_min (F.args_min2 _ _) (by
  show wpAny _ A.in1 (Builtin.Builtins.bindParams "min" ["key","default"] 0 ⟨[],[]⟩ >>= _) _ _ s
  refine wpAny_bind (wpAny_of_eq (a:=[none,none]) rfl ?_)
  show wpAny _ A.in1 (newTuple [a,b] >>= _) _ _ s
  refine wpAny_bind (wpAny_newObj_type ?_)
  have hT:(s.heap.push { cls:=.type "tuple",data:=.seq #[a,b] }).IsTuple s.heap.objs.size #[a,b]:=⟨_,Heap.get?_push_size _ rfl,rfl,0,rfl⟩
  have hsz:(s.heap.push { cls:=.type "tuple",data:=.seq #[a,b] }).objs.size=s.heap.objs.size+1:=Heap.size_push ..
  have hgk:gF s.heap (s.heap.push { cls:=.type "tuple",data:=.seq #[a,b] }):=λc o e=>Heap.get?_push_of_some _ e
  generalize (s.heap.push { cls:=.type "tuple",data:=.seq #[a,b] })=g at hT hsz hgk ⊢
  refine wpAny_bind (wpAny_pyIter_tuple hT (wpAny_bind (wpAny_newObj_type ?_)))
  rw [lV]
  have hlt:∀ {c:Nat} {o:Obj},s.heap.get? c=some o->c < s.heap.objs.size:=λe=>Heap.lt_size e
  have hsz2:∀ ob:Obj,(g.push ob).objs.size=s.heap.objs.size+2:=λob=>by rw [Heap.size_push,hsz]
  have W:=Walks.tuple (prog:=prog) (w:=w) (A:=A.in1) hh g.objs.size s.heap.objs.size (by rw [hsz]; exact Nat.ne_of_lt (Nat.lt_succ_self _)) #[a,b]
  refine wpAny_pure ⟨plainId_quiet F.plain_min_loop _,Zid (A:=A) (h0:=s.heap) W (λi j=>if i=1/\j=0 then c else false) ?_ ?_ ?_ (show 0 < 2 by decide) ?_ ⟨?_,?_⟩ (Heap.get?_push_size _ rfl) ?_⟩
  ·intro i j vi vj s' Q' E' hji kp hi hj hq
   have hi2:i < 2:=by
    have:=(Array.getElem?_eq_some_iff.mp hi).1
    simpa using this
   have e1:i=1:=by omega
   have e2:j=0:=by omega
   subst e1 e2
   have e3:b=vi:=by simpa using hi
   have e4:a=vj:=by simpa using hj
   subst e3 e4
   exact hcmp s' Q' E' kp (by simpa using hq)
  ·intro hm
   have hm':(g.push { cls:=.type "tuple_iterator",data:=.fields #[.ref s.heap.objs.size,.int 0 0] }).objs.size∈[g.objs.size,s.heap.objs.size]:=hm
   rw [hsz2,hsz] at hm'
   simp at hm'
  ·intro (c:Nat) o e
   have hc:=hlt e
   refine ⟨λhm=>?_,?_⟩
   ·have hm':c=g.objs.size:=by simpa using hm
    rw [hm',hsz] at hc
    omega
   ·show c≠(g.push { cls:=.type "tuple_iterator",data:=.fields #[.ref s.heap.objs.size,.int 0 0] }).objs.size
    rw [hsz2]
    omega
  ·exact λc o e=>Heap.get?_push_of_some _ (Heap.get?_push_of_some _ (hgk c o e))
  ·exact ⟨_,Heap.get?_push_of_some _ (Heap.get?_push_size _ rfl),rfl,rfl⟩
  ·exact hT.at λo e=>Heap.get?_push_of_some _ (Heap.get?_push_of_some _ e)
  ·intro v h' tk hP hk
   have hv:v=if c=true then b else a:=by
    cases c with
    | true =>
     have e:argBest (λi j=>if i=1/\j=0 then true else false) ((#[a,b]:Array Value).size - 1)=1:=rfl
     rw [e] at hP
     simpa using hP.symm
    | false =>
     have e:argBest (λi j=>if i=1/\j=0 then false else false) ((#[a,b]:Array Value).size - 1)=0:=rfl
     rw [e] at hP
     simpa using hP.symm
   rw [hv]
   refine h h' tk λ(c:Nat) o e=>hk c o (λhm=>?_) ?_ (Heap.get?_push_of_some _ (Heap.get?_push_of_some _ (hgk c o e)))
   ·have hc:=hlt e
    have hm':c=g.objs.size:=by simpa using hm
    rw [hm',hsz] at hc
    omega
   ·have hc:=hlt e
    show c≠(g.push { cls:=.type "tuple_iterator",data:=.fields #[.ref s.heap.objs.size,.int 0 0] }).objs.size
    rw [hsz2]
    omega)
end
section
variable {X:Cx}
noncomputable def ZbQ:List V->Hp->VK->Prop:=λxs H Q=>∃ a b ns ms,xs=[.ref a,.ref b]/\H a=some (.tup (ns.map V.int))/\H b=some (.tup (ms.map V.int))/\Q (if HT.cw ms ns=true then .ref b else .ref a) H
theorem Zem {k:Nat} (hr:Room k X.A) (hc:X.calm=true):dg X (.builtin "min") ZbQ:=by
 intro pins s σ H xs us Q I r h
 obtain ⟨a,b,ns,ms,rfl,ha,hb,q⟩:=h
 obtain ⟨u,w',rfl,ru,rw'⟩:=kY r
 cases ru
 cases rw'
 obtain ⟨u1,r1,p1⟩:=cZ (b:=false) I.hok ha
 obtain ⟨u2,r2,p2⟩:=cZ (b:=false) I.hok hb
 have i1:IntsAre u1.toArray.toList ns:=Zda r1
 have i2:IntsAre u2.toArray.toList ms:=Zda r2
 refine Zib (c:=HT.cw ms ns) (I.ok.hd hc) (λs' Q' E' kp hq=>?_) λh' tk kp=>⟨_,H,I.kept kp,?_,q⟩
 ·have q1:IsTup s'.heap a u1.toArray:=SqAt.at (b:=false) p1 λo e=>kp a o e
  have q2:IsTup s'.heap b u2.toArray:=SqAt.at (b:=false) p2 λo e=>kp b o e
  exact HT.Zim q2 q1 i2 i1 (show X.A.units+1 < cLine from by have:=hr.units; omega) hq
 ·cases HT.cw ms ns
  ·exact rfl
  ·exact rfl
noncomputable def gp:List PyData->Option PyData
 | [.tuple xs,.tuple ys]=>(ints? xs).bind λns=>(ints? ys).bind λms=>some (if HT.cw ms ns=true then .tuple (ms.map PyData.int) else .tuple (ns.map PyData.int))
 | _=>none
theorem Zan:eJ ZbQ gp:=λPK pa m G H vs ds d Q w hv hd k=>by
 unfold gp at hd
 split at hd
 ·rename_i xs ys
  cases e1:ints? xs with
  | none=>rw [e1] at hd; cases hd
  | some ns =>
   cases e2:ints? ys with
   | none=>rw [e1,e2] at hd; cases hd
   | some ms =>
    rw [e1,e2] at hd
    have hd':(if HT.cw ms ns=true then PyData.tuple (ms.map PyData.int) else .tuple (ns.map PyData.int))=d:=Option.some.inj hd
    cases hv with
    | cons h1 h2 =>
     cases h2 with
     | cons h2 h3 =>
      cases h3
      cases h1 with
      | @tup a us _ a1 a2 =>
       cases h2 with
       | @tup b ws _ b1 b2 =>
        obtain ⟨rfl,rfl⟩:=a2.ints_inv e1
        obtain ⟨rfl,rfl⟩:=b2.ints_inv e2
        refine ⟨a,b,ns,ms,rfl,w.sub _ _ a1,w.sub _ _ b1,?_⟩
        subst hd'
        cases hl:HT.cw ms ns
        ·rw [hl] at k
         exact k.here w (.tup a1 (DnAll.ints _))
        ·rw [hl] at k
         exact k.here w (.tup b1 (DnAll.ints _))
 ·cases hd
end
section
variable {X:Cx} {PK:Pk} {e:Expr} {is:List Sl->Tr (List PyData)}
end
end L2
set_option Elab.async false
set_option linter.all false
set_option maxRecDepth 100000
namespace L2
open PySem PySem.Spec PyProof.Rows
section
variable {prog:Program} {w:World} {A:Around} {E:Value->Shared->Prop} {s:Shared}
end
noncomputable def Znx:List (List Int)->List Int
 | []=>[]
 | x::r=>r.foldl (λb y=>if HT.cw y b=true then y else b) x
section
variable {X:Cx}
noncomputable def tups?:List PyData->Option (List (List Int))
 | []=>some []
 | .tuple x::xs=>(ints? x).bind λns=>(tups? xs).bind λr=>some (ns::r)
 | _=>none
noncomputable def Zoy:List PyData->Option PyData
 | [.list xs]=>(tups? xs).bind λnss=>if nss.isEmpty=true then none else some (.tuple ((Znx nss).map PyData.int))
 | _=>none
end
section
variable {X:Cx} {PK:Pk} {a b:Expr} {pos:Pos} {j:List Sl->Tr PyData}
noncomputable def gY (xs:List PyData):PyData->Tr PyData
 | .int i=>Tr.of (bp xs i)
 | _=>.fail
noncomputable def kI (k:Nat) (j:List Sl->Tr PyData):List Sl->Tr PyData:=λρ=>(j ρ).bind λy=>match ρ[k]? with
 | some (.own xs)=>gY xs y
 | some (.d (.list xs))=>gY xs y
 | _=>.fail
theorem ZnF {G:Hp} {vs:List V} {xs:List PyData} {i:Int} {d:PyData} (h:DnAll G vs xs) (e:bp xs i=some d):∃ v,bp vs i=some v/\Dn G v d:=by
 unfold bp at e ⊢
 rw [h.length]
 cases hi:c7 xs.length i with
 | none=>rw [hi] at e; cases e
 | some n =>
  rw [hi] at e
  exact h.get n e
theorem mH {α β:Type}:∀ {t:Tr α} {m:Nat} {Z:Nat->β->Prop},(t.bind λ_=>(Tr.fail:Tr β)).ok m Z->False
 | .ret a,m,Z,h=>h
 | .draw n k,m,Z,h=>mH (t:=k 0) (h.2.2.2 0 (Int.le_refl _) h.2.1)
 | .fail,m,Z,h=>h
theorem ZnT {k:Nat} (hb:PE X b (TAe PK j)) (ha:PE X a (eO k)) (hs:rD b):PE X (.Subscript a b pos) (TAe PK (kI k j)):=(eR eU ha hb hs).imp λσ H Q hz0=>by
 obtain ⟨pa,G₀,H₀,m,ρ,G,R,z⟩:=hz0
 have key:∀ xs:List PyData,(∃ (sl:Sl),ρ[k]?=some sl/\(sl=.own xs\/sl=.d (.list xs)))->((j ρ).bind λy=>gY xs y).ok m (λm1 x=>Kn PK pa m1 G H x Q)->gM (pb X.K) (eO k) (TAe PK j) σ H Q:=λxs ⟨sl,hsl,hx⟩ z=>by
  obtain ⟨o,h1,h2⟩:=R.sl k _ hsl
  have hp:∃ p,o=some (.ref p):=by
   rcases hx with rfl | rfl
   ·cases h2; exact ⟨_,rfl⟩
   ·cases h2 with
    | d q=>cases q; exact ⟨_,rfl⟩
  obtain ⟨p,rfl⟩:=hp
  refine ⟨_,h1,?_⟩
  refine TAe.then R z λm1 y u G1 H1 s1 w1 R1 d1 q1=>?_
  obtain ⟨o',h1',h2'⟩:=R1.sl k _ hsl
  rw [h1] at h1'
  cases h1'
  have hl:∃ vs,H1 p=some (.lst vs)/\DnAll G1 vs xs:=by
   rcases hx with rfl | rfl
   ·cases h2' with
    | own a1 a2 a3 a4=>exact ⟨_,a1,a4⟩
   ·cases h2' with
    | d q=>cases q with
     | lst b1 b2=>exact ⟨_,w1.sub _ _ b1,b2⟩
  obtain ⟨vs,e1,e2⟩:=hl
  cases d1 with
  | int i =>
   obtain ⟨d,hd,kq⟩:=Tr.ok_of q1
   obtain ⟨v,hv,dv⟩:=ZnF e2 hd
   exact ⟨p,vs,i,v,rfl,rfl,SqL.of e1,hv,kq v G1 H1 s1 w1 dv⟩
  | _=>exact q1.elim
 unfold kI at z
 cases hk:ρ[k]? with
 | none=>rw [hk] at z; exact (mH (t:=j ρ) z).elim
 | some sl =>
  rw [hk] at z
  cases sl with
  | own xs=>exact key xs ⟨_,hk,.inl rfl⟩ z
  | d x =>
   cases x with
   | list xs=>exact key xs ⟨_,hk,.inr rfl⟩ z
   | _=>exact (mH (t:=j ρ) z).elim
  | _=>exact (mH (t:=j ρ) z).elim
end
end L2
set_option Elab.async false
set_option linter.all false
set_option maxRecDepth 100000
namespace L2
open PySem PySem.Spec PyProof.Rows
section
variable {prog:Program} {w:World} {A:Around} {E:Value->Shared->Prop} {s:Shared}
theorem Zm4 {t b:Addr} {ws:List Value} {Q:Value->Shared->Prop} (ht:IsTup s.heap t ([]:List Value).toArray) (hb:IsTup s.heap b ws.toArray) (h1:Q (.ref b) s):wpAny (model prog w) A (binaryOp .Add (.ref t) (.ref b)) Q E s:=by
 obtain ⟨⟨cls,dd,data,sl⟩,ho,hc,n,hd⟩:=id ht
 obtain ⟨⟨cls2,dd2,data2,dZ⟩,ho2,hc2,n2,hd2⟩:=id hb
 simp only at hc hd hc2 hd2
 subst hc hd hc2 hd2
 exact concat_meets ⟨_,ho,rfl⟩ ⟨_,ho2,rfl⟩ noFill_tuple_add seq_tuple_add PySem.F.slot_tuple_add PySem.F.entry_tuple_add (PySem.F.args_tuple_add_2 _ _) (tuple_addW0 t b _ ws.toArray n n2 dd dd2 sl dZ rfl) ⟨ho,ho2,h1⟩
end
section
variable {X:Cx}
noncomputable def ZbY (K:PySem.W.Frag):R2:=λx y H Q=>∃ a b ys,x=.ref a/\y=.ref b/\SqT K H a []/\SqT K H b ys/\Q (.ref b) H
theorem ZhU:OpR X (binaryOp .Add) (ZbY X.K):=by
 intro pins s σ H x y v u Q I rx ry h
 obtain ⟨a,b,ys,rfl,rfl,ha,hb,q⟩:=h
 cases rx
 cases ry
 obtain ⟨its,r1,p1,_⟩:=I.tuple ha
 obtain ⟨its2,r2,p2,_⟩:=I.tuple hb
 cases r1
 exact Zm4 p1 p2 ⟨.ref b,H,I,rfl,q⟩
noncomputable def i5:PyData->PyData->Option PyData
 | .tuple [],.tuple ys=>some (.tuple ys)
 | x,y=>bf x y
noncomputable def Zb1 (K:PySem.W.Frag):R2:=λx y H Q=>pd K x y H Q\/ZbY K x y H Q
theorem pN:OpR X (binaryOp .Add) (Zb1 X.K):=bG.or ZhU
theorem nU {K:PySem.W.Frag}:cH (Zb1 K) i5:=λPK pa m G H x y dx dy dz Q w hx hy hz k=>by
 unfold i5 at hz
 split at hz
 ·cases hz
  cases hx with
  | tup a1 a2 =>
   cases a2
   cases hy with
   | tup b1 b2=>exact .inr ⟨_,_,_,rfl,rfl,SqT.of (w.sub _ _ a1),SqT.of (w.sub _ _ b1),k.here w (.tup b1 b2)⟩
 ·exact .inl (bF PK pa m G H x y _ _ dz Q w hx hy hz k)
theorem ZlC {x:PyData} {xs ys:List PyData} (h:small ((x::xs).length+ys.length)=true):aV i5 (.tuple (x::xs)) (.tuple ys)=.ret (.tuple (x::xs++ys)):=by
 show Tr.of (bf (.tuple (x::xs)) (.tuple ys))=_
 unfold bf
 simp only [List.isEmpty_cons,Bool.not_false,Bool.true_and,h,if_true]
 rfl
end
end L2
set_option Elab.async false
set_option linter.all false
set_option maxRecDepth 100000
namespace L2
open PySem PySem.Spec PyProof.Rows
section
variable {PK:Pk} {X:Cx} {a b:Expr} {pos:Pos} {i j:List Sl->Tr PyData}
noncomputable def rA (r:R2) (f:PyData->PyData->Option (List PyData)):Prop:=∀ (PK:Pk) (pa:Addr) (m:Nat) (G H:Hp) (x y:V) (dx dy:PyData) (dz:List PyData) (Q:VK),Wd PK pa m G H->Dn G x dx->Dn G y dy->f dx dy=some dz->Ko1 PK pa m G H dz Q->r x y H Q
noncomputable def nk (f:PyData->PyData->Option (List PyData)) (i j:List Sl->Tr PyData):List Sl->Tr (List PyData):=λρ=>(i ρ).bind λx=>(j ρ).bind λy=>Tr.of (f x y)
theorem Zn6 {r:R2} {f:PyData->PyData->Option (List PyData)} (hv:rA r f):∀ σ H Q,fb PK (nk f i j) σ H Q->gM r (TAe PK i) (TAe PK j) σ H Q:=by
 rintro σ H Q ⟨pa,G₀,H₀,m,ρ,G,R,q⟩
 refine TAe.then R q λm1 x v G1 H1 s1 w1 R1 d1 q1=>?_
 refine TAe.then R1 q1 λm2 y u G2 H2 s2 w2 R2 d2 q2=>?_
 obtain ⟨z,hz,k⟩:=Tr.ok_of q2
 exact hv PK pa m2 G2 H2 v u x y z Q w2 (d1.mono s2.gs) d2 hz (Ko1.later k (s1.trans s2 w1.some) w2.some)
theorem ZnK {op:Operator} {r:R2} {f:PyData->PyData->Option (List PyData)} (ho:OpR X (binaryOp op) r) (hv:rA r f) (ha:PE X a (TAe PK i)) (hb:PE X b (TAe PK j)):PE X (.BinOp a op b pos) (fb PK (nk f i j)) :=
 (ce ho ha hb).imp (Zn6 hv)
noncomputable def iq:PyData->PyData->Option (List PyData)
 | .list xs,.int k=>if (decide (-1000<=k) && decide (k<=1000) && decide (xs.length<=1000))=true then some (List.replicate k.toNat xs).flatten else none
 | _,_=>none
theorem ZdT {G:Hp}:∀ {vs:List V} {ds:List PyData} {us:List V} {es:List PyData},DnAll G vs ds->DnAll G us es->DnAll G (vs++us) (ds++es)
 | _,_,_,_,.nil,h=>h
 | _,_,_,_,.cons a b,h=>.cons a (ZdT b h)
theorem ZdS {G:Hp} {vs:List V} {ds:List PyData} (h:DnAll G vs ds):∀ k:Nat,DnAll G (List.replicate k vs).flatten (List.replicate k ds).flatten
 | 0=>.nil
 | k+1=>by
  rw [List.replicate_succ,List.replicate_succ,List.flatten_cons,List.flatten_cons]
  exact ZdT h (ZdS h k)
theorem Zfs:rA o9 iq:=λPK pa m G H x y dx dy dz Q w hx hy hz k=>by
 unfold iq at hz
 split at hz
 ·split at hz
  ·rename_i hc
   cases hz
   simp only [Bool.and_eq_true,decide_eq_true_eq] at hc
   cases hx with
   | lst a1 a2 =>
    cases hy
    refine ⟨_,_,_,rfl,rfl,w.sub _ _ a1,by omega,by omega,?_,λp hp=>?_⟩
    ·rw [a2.length]
     have h0:∀ z:Int,z<=1000->z.toNat<=1000:=λz hz=>by omega
     exact Nat.le_trans (Nat.mul_le_mul hc.2 (h0 _ hc.1.2)) (show 1000 * 1000<=sizeLine by decide)
    ·exact k.new w (ZdS a2 _) hp
  ·cases hz
 ·cases hz
noncomputable def ky (f:PyData->PyData->Option (List PyData)) (x y:PyData):Tr (List PyData):=Tr.of (f x y)
noncomputable def ZeH (f:PyData->PyData->Option (List PyData)) (j:List Sl->Tr PyData) (ρ:List Sl) (x:PyData):Tr (List PyData):=(j ρ).bind (ky f x)
theorem Zlm {f:PyData->PyData->Option (List PyData)} {ρ:List Sl}:nk f i j ρ=(i ρ).bind (ZeH f j ρ):=rfl
theorem Zll {f:PyData->PyData->Option (List PyData)} {ρ:List Sl} {x:PyData}:ZeH f j ρ x=(j ρ).bind (ky f x):=rfl
theorem Zg1 {xs:List PyData} {k:Int} (h:(decide (-1000<=k) && decide (k<=1000) && decide (xs.length<=1000))=true):ky iq (.list xs) (.int k)=.ret (List.replicate k.toNat xs).flatten:=by
 simp only [ky,iq,h,if_true]
 rfl
end
theorem iK {α:Type} {n:Nat}:∀ {us:List α},us.length=n+1->∃ (a:α) (t:List α),us=a::t/\t.length=n
 | a::t,h=>⟨a,t,rfl,Nat.succ.inj h⟩
theorem Zis {α:Type} {us:List α} (h:us.length=0):us=[]:=List.eq_nil_of_length_eq_zero h
theorem ZcO {α:Type} {us:List α} (h:us.length=1):∃ a,us=[a]:=by
 obtain ⟨a,t,rfl,h2⟩:=iK h
 exact ⟨a,by rw [Zis h2]⟩
theorem ZcN {α:Type} {us:List α} (h:us.length=2):∃ a0 a1,us=[a0,a1]:=by
 obtain ⟨a0,t,rfl,h2⟩:=iK h
 obtain ⟨a1,rfl⟩:=ZcO h2
 exact ⟨a0,a1,rfl⟩
theorem ZcM {α:Type} {us:List α} (h:us.length=3):∃ a0 a1 a2,us=[a0,a1,a2]:=by
 obtain ⟨a0,t,rfl,h2⟩:=iK h
 obtain ⟨a1,a2,rfl⟩:=ZcN h2
 exact ⟨a0,a1,a2,rfl⟩
theorem ZcL {α:Type} {us:List α} (h:us.length=4):∃ a0 a1 a2 a3,us=[a0,a1,a2,a3]:=by
 obtain ⟨a0,t,rfl,h2⟩:=iK h
 obtain ⟨a1,a2,a3,rfl⟩:=ZcM h2
 exact ⟨a0,a1,a2,a3,rfl⟩
theorem ZcK {α:Type} {us:List α} (h:us.length=5):∃ a0 a1 a2 a3 a4,us=[a0,a1,a2,a3,a4]:=by
 obtain ⟨a0,t,rfl,h2⟩:=iK h
 obtain ⟨a1,a2,a3,a4,rfl⟩:=ZcL h2
 exact ⟨a0,a1,a2,a3,a4,rfl⟩
theorem Ziv {α:Type} {us:List α} (h:us.length=6):∃ a0 a1 a2 a3 a4 a5,us=[a0,a1,a2,a3,a4,a5]:=by
 obtain ⟨a0,t,rfl,h2⟩:=iK h
 obtain ⟨a1,a2,a3,a4,a5,rfl⟩:=ZcK h2
 exact ⟨a0,a1,a2,a3,a4,a5,rfl⟩
end L2
set_option Elab.async false
set_option linter.all false
set_option maxRecDepth 100000
namespace L2
open PySem PySem.Spec PyProof.Rows
section
variable {PK:Pk} {X:Cx} {pos:Pos} {n:Nat} {is:List Sl->Tr (List PyData)} {s t:List Sl->Tr Ou}
end
end L2
set_option Elab.async false
set_option linter.all false
set_option maxRecDepth 100000
namespace L2
open PySem PySem.Spec PyProof.Rows
section
variable {PK:Pk} {X:Cx} {a b c d e:Expr} {pos:Pos} {i j l n:List Sl->Tr PyData}
end
end L2
set_option Elab.async false
set_option linter.all false
set_option maxRecDepth 100000
set_option exponentiation.threshold 9000
namespace Tw
open PySem L2
noncomputable def nb (k:Nat) (n:Int):Prop:=n.natAbs < 2 ^ k
theorem aH {k:Nat} {n:Int} (h:nb k n) (hk:k<=8000):fit n=true:=decide_eq_true (Nat.lt_of_lt_of_le h (Nat.pow_le_pow_right (by decide) hk))
theorem aN {k l:Nat} {n:Int} (h:nb k n) (hk:k<=l):nb l n:=Nat.lt_of_lt_of_le h (Nat.pow_le_pow_right (by decide) hk)
theorem bz {k l:Nat} {m n:Int} (h:nb k m) (h':nb l n):nb (k+l) (m * n):=by
 unfold nb at *
 rw [Int.natAbs_mul,Nat.pow_add]
 exact Nat.mul_lt_mul'' h h'
theorem dl {k l:Nat} {m n:Int} (h:nb k m) (h':nb l n):nb (max k l+1) (m+n):=by
 have h1:=aN h (Nat.le_max_left k l)
 have h2:=aN h' (Nat.le_max_right k l)
 unfold nb at *
 rw [Nat.pow_succ,Nat.mul_two]
 exact Nat.lt_of_le_of_lt (Int.natAbs_add_le m n) (Nat.add_lt_add h1 h2)
theorem eT {k:Nat} {n:Int} (h:nb k n):nb k (-n):=by
 unfold nb at *
 omega
theorem fM {k l:Nat} {m n:Int} (h:nb k m) (h':nb l n):nb (max k l+1) (m - n):=by
 rw [Int.sub_eq_add_neg]
 exact dl h (eT h')
theorem bD {k:Nat} {n:Int} (h1:-(2 ^ k:Nat) < n) (h2:n < (2 ^ k:Nat)):nb k n:=by
 unfold nb
 omega
theorem jM {k:Nat} {c:Prop} [Decidable c] {m n:Int} (h:nb k m) (h':nb k n):nb k (if c then m else n):=by split <;> assumption
noncomputable def ws (f:Int->Int):Nat->List Int->Int
 | _,[]=>0
 | k,w::l=>w * f k+ws f (k+1) l
theorem nO {f:Int->Int} {a b:Nat} (hf:∀ x:Int,0<=x->nb b (f x)):∀ {l:List Int} {k:Nat},(∀ w∈l,nb a w)->nb (a+b+l.length) (ws f k l)
 | [],k,h=>by unfold ws nb; exact Nat.pos_of_ne_zero (by simp)
 | w::l,k,h=>by
  unfold ws
  have h1:=bz (h w (by simp)) (hf k (by omega))
  have h2:=nO hf (l:=l) (k:=k+1) λv hv=>h v (List.mem_cons_of_mem _ hv)
  refine aN (dl h1 h2) ?_
  rw [List.length_cons]
  omega
theorem cX {f g:Int->Int}:∀ {l:List Int} {k:Nat},(∀ x:Int,0<=x->f x=g x)->ws f k l=ws g k l
 | [],k,h=>rfl
 | w::l,k,h=>by
  unfold ws
  rw [h k (by omega),cX h]
theorem ZaK {a:Nat}:∀ {l:List Int},(∀ w∈l,nb a w)->nb (a+l.length) l.sum
 | [],h=>by unfold nb; simp; exact Nat.pos_of_ne_zero (by simp)
 | w::l,h=>by
  rw [List.sum_cons]
  refine aN (dl (h w (by simp)) (ZaK (l:=l) λv hv=>h v (List.mem_cons_of_mem _ hv))) ?_
  rw [List.length_cons]
  omega
structure Shp where
 top:Int
 depth:Int
 start:Int
 piece:Int
 keep:Int
 lack:Int
 lost:Int
 back:Int
 late:Int
noncomputable def Shp.l (s:Shp):List Int:=[s.top,s.depth,s.start,s.piece,s.keep,s.lack,s.lost,s.back,s.late]
@[irreducible] noncomputable def Shp.d (s:Shp):PyData:=.tuple (s.l.map PyData.int)
structure Shp.Ok (s:Shp):Prop where
 t0:0<=s.top
 d0:0<=s.depth
 td:s.top+s.depth<=100
 start0:0<=s.start
 start:nb 45 s.start
 piece:nb 45 s.piece
 keep:nb 45 s.keep
 lack:nb 45 s.lack
 lost:nb 45 s.lost
 back:nb 45 s.back
 late:nb 45 s.late
theorem Zgp (s:Shp):aV aK s.d (.int 0)=.ret (.int s.top):=by unfold Shp.d; rw [cS]; exact congrArg Tr.of hI
theorem Zgo (s:Shp):aV aK s.d (.int 1)=.ret (.int s.depth):=by unfold Shp.d; rw [cS]; exact congrArg Tr.of mT
theorem Zgn (s:Shp):aV aK s.d (.int 2)=.ret (.int s.start):=by unfold Shp.d; rw [cS]; exact congrArg Tr.of qY
theorem ZaX (s:Shp):aV aK s.d (.int 3)=.ret (.int s.piece):=by unfold Shp.d; rw [cS]; exact congrArg Tr.of ZeU
theorem Zgm (s:Shp):aV aK s.d (.int 4)=.ret (.int s.keep):=by unfold Shp.d; rw [cS]; exact congrArg Tr.of ZeT
theorem Zgl (s:Shp):aV aK s.d (.int 5)=.ret (.int s.lack):=by unfold Shp.d; rw [cS]; exact congrArg Tr.of ZeS
theorem Zgk (s:Shp):aV aK s.d (.int 6)=.ret (.int s.lost):=by unfold Shp.d; rw [cS]; exact congrArg Tr.of ZeR
theorem Zgj (s:Shp):aV aK s.d (.int 7)=.ret (.int s.back):=by unfold Shp.d; rw [cS]; exact congrArg Tr.of ZeQ
theorem Zgi (s:Shp):aV aK s.d (.int 8)=.ret (.int s.late):=by unfold Shp.d; rw [cS]; exact congrArg Tr.of ZeP
section
variable (s:Shp)
noncomputable def Shp.nx (y f:Int):Int:=cE (y - f) (-s.depth)
noncomputable def Shp.day (y f:Int):Int:=(if s.nx y f > 0 then s.keep * s.nx y f else s.lack * -s.nx y f)+s.lost * (s.nx y f - (y - f))
noncomputable def Shp.fin (x:Int):Int:=if x > 0 then -s.back * x else s.late * -x
noncomputable def Shp.wg (day:List Int) (y:Int) (ahead:Int->Int) (sc:Int):Int:=ws (λf=>sc * s.day y f+ahead (s.nx y f)) 0 day
noncomputable def Shp.sm (day:List Int) (ahead:Int->Int) (sc:Int) (y:Int):Int:=sc * day.sum * s.piece * y+s.wg day y ahead sc
end
noncomputable def Shp.n (s:Shp):Nat:=(s.top+1 - -s.depth).toNat
noncomputable def Shp.row (s:Shp) (f:Int->Int):List Int:=(aI (-s.depth) s.n).map f
noncomputable def lI (l:List Int):PyData:=.list (l.map PyData.int)
noncomputable def tI (l:List Int):PyData:=.tuple (l.map PyData.int)
noncomputable def fD (fs:List (List Int)):PyData:=.tuple (fs.map tI)
theorem Shp.Ok.n_eq {s:Shp} (h:s.Ok):(s.n:Int)=s.top+s.depth+1:=by have:=h.t0; have:=h.d0; unfold Shp.n; omega
theorem ZgS {s:Shp} {f:Int->Int} {x:Int} (h1:-s.depth<=x) (h2:x<=s.top):(s.row f)[(x+s.depth).toNat]?=some (f x):=by
 unfold Shp.row aI
 rw [List.map_map,List.getElem?_map,List.getElem?_range (by unfold Shp.n; omega)]
 show some (f (-s.depth+((x+s.depth).toNat:Int)))=_
 congr 2
 omega
theorem ZgR {s:Shp} {f:Int->Int} {x:Int} (h1:-s.depth<=x) (h2:x<=s.top):bp ((s.row f).map PyData.int) (x+s.depth)=some (.int (f x)) :=
 iX (by omega) (by rw [List.getElem?_map,ZgS h1 h2]; rfl)
theorem Zcq (s:Shp) (y f:Int):-s.depth<=s.nx y f:=by unfold Shp.nx cE; split <;> omega
theorem Zcp {s:Shp} (h:s.Ok) {y f:Int} (hy:y<=s.top) (hf:0<=f):s.nx y f<=s.top:=by have:=h.t0; have:=h.d0; unfold Shp.nx cE; split <;> omega
end Tw
set_option Elab.async false
set_option linter.all false
set_option maxRecDepth 100000
namespace L2
open PySem PySem.Spec PyProof.Rows
variable {ρ:List Sl} {s t:List Sl->Tr Ou} {i j l:List Sl->Tr PyData} {is:List Sl->Tr (List PyData)} {k n:Nat} {x y d:PyData} {xs ys:List PyData} {sl:Sl}
theorem rb2 {α β:Type} {a:α} {f:α->Tr β}:(Tr.ret a).bind f=f a:=Eq.trans (Tr.ret_bind a f) (Eq.refl _)
noncomputable def gb (xs:List PyData):Tr (List PyData):=.ret xs.reverse
noncomputable def Zbs (x:PyData):Tr (List PyData):=(dQ x).bind gb
theorem Zj2:rn i ρ=(i ρ).bind Zbs:=rfl
theorem ZjX:Zbs x=(dQ x).bind gb:=rfl
theorem ZjW:gb xs=.ret xs.reverse:=rfl
noncomputable def Zbr (xs:List PyData):Tr (List PyData):=(ef xs).bind gb
noncomputable def Zbq (xs:List PyData):Tr (List PyData):=(gc xs).bind gb
theorem Zj1:rm is ρ=(is ρ).bind Zbr:=rfl
theorem Zj0:rl is ρ=(is ρ).bind Zbq:=rfl
theorem ZjV:Zbr xs=(ef xs).bind gb:=rfl
theorem ZjU:Zbq xs=(gc xs).bind gb:=rfl
noncomputable def ZoB (k:Nat) (ρ:List Sl) (xs:List PyData):PyData->Tr Ou
 | .list ys=>if small (xs.length+ys.length)=true then .ret (.next (ρ.set k (.own (xs++ys)))) else .fail
 | _=>.fail
theorem qC (a b c d:Int):bE gp [.tuple [.int a,.int b],.tuple [.int c,.int d]]=.ret (if c < a\/c=a/\d < b then .tuple [.int c,.int d] else .tuple [.int a,.int b]):=by
 have h1:ints? [PyData.int a,.int b]=some [a,b]:=ints?_map [a,b]
 have h2:ints? [PyData.int c,.int d]=some [c,d]:=ints?_map [c,d]
 unfold bE gp
 simp only [h1,h2]
 show Tr.of (some _)=_
 rw [Tr.of_some]
 have e:HT.cw [c,d] [a,b]=true ↔ (c < a\/c=a/\d < b):=by
  simp only [HT.ZcI,HT.ZcH]
  by_cases hca:c=a
  ·subst hca
   by_cases hdb:d=b
   ·simp [hdb]
   ·simp [hdb]
  ·simp [hca]
 by_cases hc:(c < a\/c=a/\d < b)
 ·rw [if_pos (e.mpr hc),if_pos hc]; rfl
 ·rw [if_neg (λz=>hc (e.mp z)),if_neg hc]; rfl
theorem Zik (ns:List Int) (h:ns≠[]):bE fP [.list (ns.map PyData.int)]=.ret (.int (bY ns)):=by
 unfold bE fP fg
 simp [h]
noncomputable def iM:Nat->List Sl->PyData->Tr PyData
 | 0,.own xs::_,y=>gY xs y
 | 0,.d (.list xs)::_,y=>gY xs y
 | k+1,_::ρ,y=>iM k ρ y
 | _,_,_=>.fail
theorem ZkN:kI k j ρ=(j ρ).bind (iM k ρ):=by
 have key:∀ (k:Nat) (σ:List Sl) (y:PyData),(match σ[k]? with | some (Sl.own xs)=>gY xs y | some (Sl.d (.list xs))=>gY xs y | _=>Tr.fail)=iM k σ y:=by
  intro k
  induction k with
  | zero =>
   intro σ y
   cases σ with
   | nil=>rfl
   | cons s r =>
    cases s with
    | d x=>cases x <;> rfl
    | _=>rfl
  | succ k ih =>
   intro σ y
   cases σ with
   | nil=>rfl
   | cons s r=>exact ih r y
 unfold kI
 exact congrArg (Tr.bind (j ρ)) (funext λy=>key k ρ y)
theorem ZkM (n:Int):iM 0 (.own xs::ρ) (.int n)=Tr.of (bp xs n):=rfl
theorem ZkL:iM (k+1) (sl::ρ) y=iM k ρ y:=rfl
theorem ZnN {α:Type} {t:Tr α} {P:α->Prop} (h:Al t 0 P):∃ a,t=.ret a/\P a:=by
 have h':=h.out
 cases t with
 | ret a=>exact ⟨a,rfl,h'⟩
 | draw w k=>exact h'.elim
 | fail=>exact h'.elim
theorem m8 {α:Type} {t:Tr α} {a:α} (h:Al t 0 λb=>b=a):t=.ret a:=by
 obtain ⟨b,e,rfl⟩:=ZnN h
 exact e
theorem Zdi {s:List Sl->Tr Ou} {g:PyData->List Sl->Option (List Sl)} {n:Nat} {full:List PyData} (I:List PyData->List Sl->Prop) {Q:Ou->Prop} (ht:∀ pre x post ρ,full=pre++x::post->I pre ρ->∃ ρ1,g x ρ=some ρ1/\(s ρ1).all n λo=>∃ ρ2,o=.next ρ2/\I (pre++[x]) ρ2) (hq:∀ ρ,I full ρ->Q (.next ρ)) :
  ∀ {xs pre:List PyData} {ρ:List Sl},full=pre++xs->I pre ρ->(cj g s xs ρ).all (xs.length * n) Q
 | [],pre,ρ,e,h0=>hq ρ (by rw [e,List.append_nil]; exact h0)
 | x::xs,pre,ρ,e0,h0=>by
  obtain ⟨ρ1,e,ha⟩:=ht pre x xs ρ e0 h0
  have en:(x::xs).length * n=n+xs.length * n:=by rw [List.length_cons,Nat.succ_mul]; omega
  rw [en,gv,e,Tr.of_some,Tr.ret_bind]
  unfold mF
  refine Tr.all_bind ha λo ⟨ρ2,eo,h2⟩=>?_
  subst eo
  rw [fU]
  exact Zdi I ht hq (by rw [e0,List.append_assoc]; rfl) h2
theorem kC {n N:Nat} {g:PyData->List Sl->Option (List Sl)} {s:List Sl->Tr Ou} {xs:List PyData} {ρ:List Sl} {Q:Ou->Prop} (I:List PyData->List Sl->Prop) (h0:I [] ρ) (hN:xs.length * n<=N) (ht:∀ pre x post ρ,xs=pre++x::post->I pre ρ->∃ ρ1,g x ρ=some ρ1/\Al (s ρ1) n λo=>∃ ρ2,o=.next ρ2/\I (pre++[x]) ρ2) (hq:∀ ρ,I xs ρ->Q (.next ρ)):Al (cj g s xs ρ) N Q :=
 .of (Tr.all_mono (Zdi (full:=xs) I (λpre x post ρ e h=>let ⟨ρ1,e,a⟩:=ht pre x post ρ e h; ⟨ρ1,e,a.out⟩) hq (pre:=[]) rfl h0) hN λ_ h=>h)
theorem Zbw {lo hi:Int} {pre post:List PyData} {x:PyData} (h:(bc lo hi).reverse=pre++x::post):x=.int (hi - 1 - pre.length)/\(pre.length:Int) < hi - lo:=by
 have h1:((bc lo hi).reverse)[pre.length]?=some x:=by rw [h]; simp
 have hl:pre.length < ((bc lo hi).reverse).length:=(List.getElem?_eq_some_iff.mp h1).1
 rw [List.length_reverse,cD] at hl
 rw [List.getElem?_reverse (by rw [cD]; exact hl),cD] at h1
 unfold bc aI at h1
 rw [List.map_map,List.getElem?_map,List.getElem?_range (by omega)] at h1
 refine ⟨?_,by omega⟩
 cases h1
 show PyData.int (lo+(((hi - lo).toNat - 1 - pre.length:Nat):Int))=_
 congr 1
 omega
theorem pW {h:PyData->Tr PyData} {f:Int->PyData} {lo hi:Int} (hx:∀ z:Int,lo<=z->z < hi->h (.int z)=.ret (f z)):aU h (bc lo hi)=.ret ((aI lo (hi - lo).toNat).map f):=by
 have key:∀ l:List Int,(∀ z∈l,lo<=z/\z < hi)->aU h (l.map PyData.int)=.ret (l.map f):=by
  intro l
  induction l with
  | nil=>intro _; rfl
  | cons z l ih =>
   intro hz
   have hh:=hz z (by simp)
   rw [List.map_cons,aU,hx z hh.1 hh.2,Tr.ret_bind,ih λy hy=>hz y (List.mem_cons_of_mem _ hy)]
   rfl
 unfold bc
 refine key _ λz hz=>?_
 have:=lx hz
 omega
theorem ZlN {xs:List PyData} {pre post:List PyData} {x:PyData} (h:ck xs=pre++x::post):∃ y,xs[pre.length]?=some y/\x=.tuple [.int pre.length,y]:=by
 have h1:(ck xs)[pre.length]?=some x:=by rw [h]; simp
 unfold ck at h1
 rw [List.getElem?_zipWith] at h1
 cases hx:xs[pre.length]? with
 | none=>rw [hx] at h1; simp at h1
 | some y =>
  have hl:pre.length < xs.length:=(List.getElem?_eq_some_iff.mp hx).1
  rw [hx,List.getElem?_range hl] at h1
  simp at h1
  exact ⟨y,rfl,h1.symm⟩
theorem Zds (xs:List PyData):(ck xs).length=xs.length:=by unfold ck; simp
end L2
set_option Elab.async false
set_option linter.all false
set_option maxRecDepth 100000
namespace Tw
open PySem L2
noncomputable def bst (g:Int->Int) (top:Int):Nat->Int×Int
 | 0=>(g top,top)
 | n+1=>if (bst g top n).1 < g (top - ((n+1:Nat):Int)) then bst g top n else (g (top - ((n+1:Nat):Int)),top - ((n+1:Nat):Int))
theorem mR (g:Int->Int) (top:Int):∀ n:Nat,top - n<=(bst g top n).2/\(bst g top n).2<=top/\g (bst g top n).2=(bst g top n).1
 | 0=>by unfold bst; simp
 | n+1=>by
  have ih:=mR g top n
  unfold bst
  split
  ·exact ⟨by omega,ih.2.1,ih.2.2⟩
  ·exact ⟨Int.le_refl _,by omega,rfl⟩
theorem qT (g:Int->Int) (top:Int):∀ (n:Nat) (y:Int),top - n<=y->y<=top->(bst g top n).1<=g y
 | 0,y,h1,h2=>by
  have:y=top:=by omega
  subst this
  unfold bst
  exact Int.le_refl _
 | n+1,y,h1,h2=>by
  by_cases hy:y=top - ((n+1:Nat):Int)
  ·unfold bst
   split
   ·subst hy; omega
   ·subst hy; exact Int.le_refl _
  ·have ih:=qT g top n y (by omega) h2
   unfold bst
   split
   ·exact ih
   ·omega
noncomputable def pck (g:Int->Int) (top K x:Int):Int×Int :=
 match (top - x).toNat with
 | 0=>(g x,x)
 | n+1=>if K+(bst g top n).1 < g x then (K+(bst g top n).1,(bst g top n).2) else (g x,x)
noncomputable def cst (g:Int->Int) (top K P x:Int):Int:=(pck g top K x).1 - P * x
noncomputable def lvl (g:Int->Int) (top K x:Int):Int:=(pck g top K x).2
theorem gQ (g:Int->Int) (top K:Int):pck g top K top=(g top,top):=by
 unfold pck
 rw [Int.sub_self]
 rfl
theorem gR (g:Int->Int) (top K:Int) (n:Nat):pck g top K (top - ((n+1:Nat):Int))=if K+(bst g top n).1 < g (top - ((n+1:Nat):Int)) then (K+(bst g top n).1,(bst g top n).2) else (g (top - ((n+1:Nat):Int)),top - ((n+1:Nat):Int)):=by
 unfold pck
 have e:(top - (top - ((n+1:Nat):Int))).toNat=n+1:=by omega
 rw [e]
theorem ZhJ {g:Int->Int} {top K x:Int} (hx:x<=top):(pck g top K x).1<=g x/\∀ y,x < y->y<=top->(pck g top K x).1<=K+g y:=by
 by_cases ht:x=top
 ·subst ht
  rw [gQ]
  exact ⟨Int.le_refl _,λy h1 h2=>by omega⟩
 ·obtain ⟨n,hn⟩:∃ n:Nat,x=top - ((n+1:Nat):Int):=⟨(top - x - 1).toNat,by omega⟩
  subst hn
  rw [gR]
  split
  ·rename_i hc
   exact ⟨by dsimp only; omega,λy h1 h2=>by have:=qT g top n y (by omega) h2; dsimp only; omega⟩
  ·rename_i hc
   exact ⟨Int.le_refl _,λy h1 h2=>by have:=qT g top n y (by omega) h2; dsimp only; omega⟩
theorem pI {g:Int->Int} {top K x:Int} (hx:x<=top):x<=(pck g top K x).2/\(pck g top K x).2<=top/\(((pck g top K x).2=x/\(pck g top K x).1=g x)\/(x < (pck g top K x).2/\(pck g top K x).1=K+g (pck g top K x).2/\(pck g top K x).1 < g x)):=by
 by_cases ht:x=top
 ·subst ht
  rw [gQ]
  exact ⟨Int.le_refl _,Int.le_refl _,.inl ⟨rfl,rfl⟩⟩
 ·obtain ⟨n,hn⟩:∃ n:Nat,x=top - ((n+1:Nat):Int):=⟨(top - x - 1).toNat,by omega⟩
  subst hn
  rw [gR]
  have hb:=mR g top n
  split
  ·rename_i hc
   exact ⟨by dsimp only; omega,hb.2.1,.inr ⟨by dsimp only; omega,by dsimp only; rw [hb.2.2],hc⟩⟩
  ·exact ⟨Int.le_refl _,by dsimp only; omega,.inl ⟨rfl,rfl⟩⟩
theorem Zcf {g:Int->Int} {top K x:Int} {b:Nat} (hx:x<=top) (hg:∀ y,x<=y->y<=top->nb b (g y)) (hK:nb b K):nb (b+1) (pck g top K x).1:=by
 obtain ⟨h1,h2,h3⟩:=pI (g:=g) (K:=K) hx
 rcases h3 with ⟨e1,e2⟩ | ⟨e1,e2,e3⟩
 ·rw [e2]
  exact aN (hg x (Int.le_refl _) hx) (by omega)
 ·rw [e2]
  exact aN (dl hK (hg _ h1 h2)) (by omega)
theorem Zch {g g':Int->Int} {top K x:Int} (h:∀ y,x<=y->y<=top->g y=g' y) (hx:x<=top):pck g top K x=pck g' top K x:=by
 have key:∀ n:Nat,x<=top - n->bst g top n=bst g' top n:=by
  intro n
  induction n with
  | zero=>intro hn; unfold bst; rw [h top (by omega) (by omega)]
  | succ n ih =>
   intro hn
   unfold bst
   rw [ih (by omega),h _ hn (by omega)]
 by_cases ht:x=top
 ·subst ht
  rw [gQ,gQ,h x (by omega) (by omega)]
 ·obtain ⟨n,hn⟩:∃ n:Nat,x=top - ((n+1:Nat):Int):=⟨(top - x - 1).toNat,by omega⟩
  subst hn
  rw [gR,gR,key n (by omega),h _ (by omega) (by omega)]
structure DayB (l:List Int):Prop where
 len:l.length<=16
 nb:∀ w∈l,nb 30 w
 w0:∀ w∈l,0<=w
 pos:0 < l.sum
theorem gz {s:Shp} (h:s.Ok) {y f:Int} (hy:nb 20 y) (hf:nb 40 f):nb 100 (s.day y f):=by
 have hd:nb 7 s.depth:=by have:=h.t0; have:=h.d0; have:=h.td; exact bD (by show -128 < _; omega) (by show _ < 128; omega)
 have hn:nb 50 (s.nx y f):=by
  unfold Shp.nx cE
  exact jM (aN (eT hd) (by decide)) (aN (fM hy hf) (by decide))
 unfold Shp.day
 refine aN (dl (jM (k:=95) (bz h.keep hn) (bz h.lack (eT hn))) (bz h.lost (fM hn (fM hy hf)))) (by decide)
noncomputable def Bd (s:Shp) (b:Nat) (f:Int->Int):Prop:=∀ x,-s.depth<=x->x<=s.top->nb b (f x)
theorem Zfp {s:Shp} (h:s.Ok) {day:List Int} (hd:DayB day) {y:Int} (y1:-s.depth<=y) (y2:y<=s.top) {A:Int->Int} {b:Nat} (hA:Bd s b A) {sc:Int} (hs:nb b sc):nb (b+150) (s.wg day y A sc):=by
 have:=h.t0
 have:=h.d0
 have:=h.td
 have hlen:=hd.len
 have hy:nb 20 y:=bD (by show -1048576 < _; omega) (by show _ < 1048576; omega)
 have key:∀ (l:List Int) (k:Nat),(∀ w∈l,nb 30 w)->k+l.length<=16->nb (30+(b+101)+l.length) (ws (λf=>sc * s.day y f+A (s.nx y f)) k l):=by
  intro l
  induction l with
  | nil=>intro k _ _; unfold ws nb; exact Nat.pos_of_ne_zero (by simp)
  | cons w l ih =>
   intro k hw hk
   rw [List.length_cons] at hk ⊢
   have hf:nb 40 (k:Int):=bD (by show -1099511627776 < _; omega) (by show _ < 1099511627776; omega)
   have b1:=dl (bz hs (gz h hy hf)) (hA _ (Zcq s y k) (Zcp h y2 (show (0:Int)<=k by omega)))
   have h1:=bz (hw w (by simp)) b1
   have h2:=ih (k+1) (λv hv=>hw v (List.mem_cons_of_mem _ hv)) (by omega)
   unfold ws
   exact aN (dl h1 h2) (by omega)
 exact aN (key day 0 hd.nb (by omega)) (by omega)
theorem fy {day:List Int} (hd:DayB day):nb 46 day.sum:=aN (ZaK hd.nb) (by have:=hd.len; omega)
theorem ZaQ {s:Shp} (h:s.Ok) {day:List Int} (hd:DayB day) {A:Int->Int} {b:Nat} (hA:Bd s b A) {sc:Int} (hs:nb b sc):Bd s (b+151) (s.sm day A sc):=λy y1 y2=>by
 have:=h.t0
 have:=h.d0
 have:=h.td
 have hy:nb 20 y:=bD (by show -1048576 < _; omega) (by show _ < 1048576; omega)
 unfold Shp.sm
 exact aN (dl (bz (bz (bz hs (fy hd)) h.piece) hy) (Zfp h hd y1 y2 hA hs)) (by omega)
noncomputable def Shp.bk (s:Shp):List (List Int)->(Int->Int)×Int
 | []=>(s.fin,1)
 | day::rest=>(cst (s.sm day (s.bk rest).1 (s.bk rest).2) s.top ((s.bk rest).2 * day.sum * s.start) ((s.bk rest).2 * day.sum * s.piece),(s.bk rest).2 * day.sum)
noncomputable def Shp.sms (s:Shp) (day:List Int) (rest:List (List Int)) (y:Int):Int:=s.sm day (s.bk rest).1 (s.bk rest).2 y
theorem ZeE {s:Shp}:∀ {fs:List (List Int)},(∀ l∈fs,DayB l)->0 < (s.bk fs).2
 | [],_=>by show (0:Int) < 1; decide
 | day::rest,h=>Int.mul_pos (ZeE λl hl=>h l (List.mem_cons_of_mem _ hl)) (h day (by simp)).pos
theorem Zjm {s:Shp} (h:s.Ok):Bd s 100 s.fin:=λx h1 h2=>by
 have:=h.t0
 have:=h.d0
 have:=h.td
 have hx:nb 20 x:=bD (by show -1048576 < _; omega) (by show _ < 1048576; omega)
 unfold Shp.fin
 exact aN (jM (k:=65) (bz (eT h.back) hx) (bz h.late (eT hx))) (by decide)
theorem ZmV {s:Shp} (h:s.Ok) {g:Int->Int} {b:Nat} (hg:Bd s b g) {sc:Int} (hs:nb b sc):Bd s (b+112) (cst g s.top (sc * s.start) (sc * s.piece)):=λx h1 h2=>by
 have:=h.t0
 have:=h.d0
 have:=h.td
 have hx:nb 20 x:=bD (by show -1048576 < _; omega) (by show _ < 1048576; omega)
 unfold cst
 have k1:=Zcf (b:=b+45) (K:=sc * s.start) h2 (λy y1 y2=>aN (hg y (by omega) y2) (by omega)) (bz hs h.start)
 exact aN (fM k1 (bz (bz hs h.piece) hx)) (by omega)
theorem ZeF {s:Shp} (h:s.Ok):∀ {fs:List (List Int)},(∀ l∈fs,DayB l)->Bd s (100+300 * fs.length) (s.bk fs).1/\nb (100+300 * fs.length) (s.bk fs).2
 | [],_=>⟨Zjm h,bD (by show -(2 ^ 100:Nat) < (1:Int); omega) (by show (1:Int) < (2 ^ 100:Nat); omega)⟩
 | day::rest,hf=>by
  obtain ⟨i1,i2⟩:=ZeF h (fs:=rest) λl hl=>hf l (List.mem_cons_of_mem _ hl)
  have hd:=hf day (by simp)
  have k1:=ZaQ h hd i1 i2
  have k2:=bz i2 (fy hd)
  rw [List.length_cons]
  refine ⟨λx h1 h2=>aN (ZmV h (b:=100+300 * rest.length+151) k1 (aN k2 (by omega)) x h1 h2) (by omega),aN k2 (by omega)⟩
theorem ZgZ {fs:List (List Int)} {pre post:List PyData} {x:PyData} (h:(fs.map tI).reverse=pre++x::post):∃ (day:List Int),x=tI day/\pre.length < fs.length/\fs.drop (fs.length - (pre.length+1))=day::fs.drop (fs.length - pre.length):=by
 have h1:((fs.map tI).reverse)[pre.length]?=some x:=by rw [h]; simp
 have hl:pre.length < ((fs.map tI).reverse).length:=(List.getElem?_eq_some_iff.mp h1).1
 rw [List.length_reverse,List.length_map] at hl
 rw [List.getElem?_reverse (by rw [List.length_map]; exact hl),List.length_map,List.getElem?_map] at h1
 obtain ⟨day,hd,rfl⟩:=Option.map_eq_some_iff.mp h1
 refine ⟨day,rfl,hl,?_⟩
 have e:fs.length - (pre.length+1)=fs.length - 1 - pre.length:=by rw [Nat.add_comm pre.length 1,Nat.sub_add_eq]
 have e2:fs.length - pre.length=fs.length - 1 - pre.length+1:=by omega
 rw [e,e2,List.drop_eq_getElem_cons (by omega)]
 congr 1
 exact (List.getElem?_eq_some_iff.mp hd).2
end Tw
set_option Elab.async false
set_option linter.all false
set_option maxRecDepth 100000
namespace Tw
open PySem L2
noncomputable abbrev rng (lo hi:Int):List Int:=aI lo (hi - lo).toNat
variable {α:Type}
theorem ZbH (lo:Int) (a b:Nat):aI lo (a+b)=aI lo a++aI (lo+a) b:=by
 unfold aI
 rw [List.range_add,List.map_append,List.map_map]
 congr 1
 apply List.map_congr_left
 intro k _
 show lo+((a+k:Nat):Int)=lo+(a:Int)+(k:Int)
 omega
noncomputable def f3 (lo a b c:Int) (t:Int->Int->Int->Option α):Option α:=(rng lo a).findSome? λu=>(rng (u+1) b).findSome? λv=>(rng (v+1) c).findSome? λw=>t u v w
end Tw
set_option Elab.async false
set_option linter.all false
set_option maxRecDepth 100000
namespace Tw
open PySem L2
noncomputable def enu:Nat->List Int->List PyData
 | _,[]=>[]
 | k,n::ns=>.tuple [.int k,.int n]::enu (k+1) ns
theorem Zdt:∀ (ns:List Int) (k:Nat),(List.range' k (ns.map PyData.int).length).zipWith (λ(n:Nat) x=>PyData.tuple [.int n,x]) (ns.map PyData.int)=enu k ns
 | [],k=>rfl
 | n::ns,k=>by
  rw [List.map_cons,List.length_cons,List.range'_succ,List.zipWith_cons_cons,Zdt ns (k+1)]
  rfl
theorem iS (ns:List Int):ck (ns.map PyData.int)=enu 0 ns:=by
 unfold ck
 rw [List.range_eq_range',Zdt]
theorem kj:∀ (ns:List Int) (k:Nat),(enu k ns).length=ns.length
 | [],k=>rfl
 | n::ns,k=>by rw [enu,List.length_cons,List.length_cons,kj ns]
noncomputable def b9:Nat->List Int->List Int
 | _,[]=>[]
 | k,n::ns=>if n > 0 then (k:Int)::b9 (k+1) ns else b9 (k+1) ns
theorem jn:∀ {ns:List Int} {k:Nat} {x:Int},x∈b9 k ns->(k:Int)<=x/\x < k+ns.length
 | [],k,x,h=>by cases h
 | n::ns,k,x,h=>by
  unfold b9 at h
  rw [List.length_cons]
  split at h
  ·rcases List.mem_cons.mp h with rfl | h
   ·omega
   ·have:=jn h
    omega
  ·have:=jn h
   omega
theorem k9:∀ {ns:List Int} {k:Nat},(∃ n∈ns,n > 0)->b9 k ns≠[]
 | [],k,h=>by obtain ⟨n,h,_⟩:=h; cases h
 | n::ns,k,h=>by
  unfold b9
  split
  ·simp
  ·rename_i hn
   obtain ⟨m,hm,hp⟩:=h
   rcases List.mem_cons.mp hm with rfl | hm
   ·exact absurd hp hn
   ·exact k9 ⟨m,hm,hp⟩
noncomputable def great (ls:List Int):Int:=bY (b9 0 ls)
noncomputable def reach (fs:List (List Int)):Int:=(fs.map great).sum
structure DayOk (most:Nat) (ls:List Int):Prop where
 len:ls.length<=most
 pos:∃ n∈ls,n > 0
 le:∀ n∈ls,0<=n/\n<=1001
theorem Zf7 {ls:List Int} (h:∀ n∈ls,0<=n):∀ n∈ls,n<=ls.sum:=by
 induction ls with
 | nil=>intro n hn; cases hn
 | cons a l ih =>
  intro n hn
  have h0:0<=l.sum:=by
   clear ih hn
   have h':∀ n∈l,0<=n:=λm hm=>h m (List.mem_cons_of_mem _ hm)
   clear h
   induction l with
   | nil=>decide
   | cons b l ih2 =>
    rw [List.sum_cons]
    have:=h' b (by simp)
    have:=ih2 λm hm=>h' m (List.mem_cons_of_mem _ hm)
    omega
  have ha:=h a (by simp)
  rw [List.sum_cons]
  rcases List.mem_cons.mp hn with rfl | hn
  ·omega
  ·have:=ih (λm hm=>h m (List.mem_cons_of_mem _ hm)) n hn
   omega
theorem DayOk.B {m:Nat} {ls:List Int} (h:DayOk m ls) (hm:m<=16):DayB ls:=by
 refine ⟨Nat.le_trans h.len hm,λw hw=>?_,λw hw=>(h.le w hw).1,?_⟩
 ·have:=h.le w hw
  exact bD (by show -1073741824 < _; omega) (by show _ < 1073741824; omega)
 ·obtain ⟨n,hn,hp⟩:=h.pos
  have:=Zf7 (λn hn=>(h.le n hn).1) n hn
  omega
theorem ZiZ {most:Nat} {ls:List Int} (h:DayOk most ls):0<=great ls/\great ls<=(most:Int) - 1:=by
 have h1:=(gT (k9 (k:=0) h.pos)).1
 have h2:=jn h1
 have:=h.len
 unfold great
 omega
theorem o7:∀ {fs:List (List Int)} {most:Nat},1<=most->(∀ ls∈fs,DayOk most ls)->0<=reach fs/\reach fs<=fs.length * ((most:Int) - 1)
 | [],most,_,_=>by unfold reach; simp
 | ls::fs,most,hm,h=>by
  have ih:=o7 (fs:=fs) hm λl hl=>h l (List.mem_cons_of_mem _ hl)
  have hg:=ZiZ (h ls (by simp))
  unfold reach at ih ⊢
  rw [List.map_cons,List.sum_cons,List.length_cons]
  have e:(((fs.length+1:Nat):Int)) * ((most:Int) - 1)=fs.length * ((most:Int) - 1)+((most:Int) - 1):=by
   rw [Int.natCast_add,Int.add_mul]
   simp
  rw [e]
  omega
theorem ow {a b c d e f g h i:Int}:PyData.tuple [.int a,.int b,.int c,.int d,.int e,.int f,.int g,.int h,.int i]=(Shp.mk a b c d e f g h i).d:=by
 unfold Shp.d
 rfl
theorem qm (l:List Int):dQ (tI l)=.ret (l.map PyData.int):=rfl
theorem iN (l:List (List Int)):dQ (fD l)=.ret (l.map tI):=rfl
theorem Zf6 (l:List Int):bE cr [tI l]=.ret (.int l.sum):=mI l
end Tw
set_option Elab.async false
set_option linter.all false
set_option maxRecDepth 100000
set_option exponentiation.threshold 9000
namespace Tw
open PySem L2
structure Rp (d:PyData) (k n:Nat):Prop where
 hd:d.hasDict=false
 sh:d.showable=true
 dp:d.depth<=k
 ln:d.shown.length<=n
theorem o3 {d:PyData} {k n:Nat} (h:Rp d k n) (hk:k<=32) (hn:n<=10000000):jw d=true:=by
 unfold jw
 rw [h.hd,h.sh,decide_eq_true (Nat.le_trans h.dp hk),decide_eq_true (Nat.le_trans h.ln (Nat.le_trans hn (by rw [sizeLine_eq]; decide)))]
 rfl
theorem im {d:PyData} {k n k' n':Nat} (h:Rp d k n) (hk:k<=k') (hn:n<=n'):Rp d k' n':=⟨h.hd,h.sh,Nat.le_trans h.dp hk,Nat.le_trans h.ln hn⟩
theorem o4 {i:Int} (h:nb 1900 i):Rp (.int i) 0 1901:=by
 have h1:=ZaZ [i] λn hn=>by simp at hn; subst hn; exact h
 have h2:=(ZaY [i] λn hn=>by simp at hn; subst hn; exact h).1
 refine ⟨rfl,?_,Nat.zero_le _,?_⟩
 ·simp only [List.map_cons,List.map_nil,PyData.showableAll,Bool.and_true] at h1
  exact h1
 ·simp only [List.map_cons,List.map_nil,PyData.shownAll,List.sum_cons,List.sum_nil,List.length_cons,List.length_nil] at h2
  omega
theorem Zbu {k n:Nat}:∀ {xs:List PyData},(∀ x∈xs,Rp x k n)->PyData.hasDictAll xs=false/\PyData.showableAll xs=true/\PyData.depthAll xs<=k/\((PyData.shownAll xs).map (·.length)).sum<=xs.length * n/\(PyData.shownAll xs).length=xs.length
 | [],_=>⟨rfl,rfl,Nat.zero_le _,by simp [PyData.shownAll],rfl⟩
 | x::xs,h=>by
  obtain ⟨h1,h2,h3,h4,h5⟩:=Zbu (xs:=xs) λy hy=>h y (List.mem_cons_of_mem _ hy)
  have hx:=h x (by simp)
  refine ⟨?_,?_,?_,?_,?_⟩
  ·rw [PyData.hasDictAll,hx.hd,h1]; rfl
  ·rw [PyData.showableAll,hx.sh,h2]; rfl
  ·rw [PyData.depthAll]; have:=hx.dp; omega
  ·rw [PyData.shownAll,List.map_cons,List.sum_cons,List.length_cons,Nat.succ_mul]; have:=hx.ln; omega
  ·rw [PyData.shownAll,List.length_cons,List.length_cons,h5]
theorem jt {xs:List PyData} {k n:Nat} (h:∀ x∈xs,Rp x k n):Rp (.tuple xs) (k+1) (xs.length * n+2 * xs.length+10):=by
 obtain ⟨h1,h2,h3,h4,h5⟩:=Zbu h
 have c3:=tupleText_len_le (PyData.shownAll xs)
 refine ⟨?_,?_,?_,?_⟩
 ·rw [PyData.hasDict,h1]
 ·rw [PyData.showable,h2]
 ·rw [PyData.depth]; omega
 ·rw [PyData.shown]; omega
end Tw
set_option Elab.async false
set_option linter.all false
set_option maxRecDepth 100000
set_option exponentiation.threshold 9000
namespace Tw
open PySem L2
theorem euclid {p:List Sl->Tr Bool} {s:List Sl->Tr Ou} {E:Nat->Nat->List Sl} (hp:∀ a b:Nat,p (E a b)=.ret (decide (b≠0))) (hs:∀ a b:Nat,b≠0->s (E a b)=.ret (.next (E b (a % b)))) :
  ∀ n k a b:Nat,b < 2 ^ n->dt p s (2 * n+1+k) (E a b)=.ret (.next (E (Nat.gcd a b) 0)):=by
 have stop:∀ k a:Nat,dt p s (k+1) (E a 0)=.ret (.next (E a 0)):=λk a=>by
  rw [dt,hp,Tr.ret_bind]
  rfl
 have go:∀ k a b:Nat,b≠0->dt p s (k+1) (E a b)=dt p s k (E b (a % b)):=λk a b hb=>by
  rw [dt,hp,Tr.ret_bind,decide_eq_true hb,if_pos rfl,hs a b hb,Tr.ret_bind]
 intro n
 induction n with
 | zero =>
  intro k a b hb
  have e:b=0:=by simp at hb; exact hb
  subst e
  rw [Nat.gcd_zero_right,Nat.add_comm (2 * 0+1) k]
  exact stop k a
 | succ n ih =>
  intro k a b hb
  by_cases h0:b=0
  ·subst h0
   have e:2 * (n+1)+1+k=(2 * (n+1)+k)+1:=by omega
   rw [Nat.gcd_zero_right,e]
   exact stop _ a
  ·have e:2 * (n+1)+1+k=(2 * n+2+k)+1:=by omega
   rw [e,go _ a b h0]
   have hr:a % b < b:=Nat.mod_lt _ (Nat.pos_of_ne_zero h0)
   by_cases h1:a % b=0
   ·rw [h1]
    have e2:2 * n+2+k=(2 * n+1+k)+1:=by omega
    have eg:Nat.gcd a b=b:=by rw [Nat.gcd_comm,Nat.gcd_rec,h1,Nat.gcd_zero_left]
    rw [e2,eg]
    exact stop _ b
   ·have e2:2 * n+2+k=(2 * n+1+k)+1:=by omega
    rw [e2,go _ b (a % b) h1]
    have hlt:b % (a % b) < 2 ^ n:=by
     have h2:b % (a % b) < a % b:=Nat.mod_lt _ (Nat.pos_of_ne_zero h1)
     have h3:b % (a % b)+a % b<=b:=by
      have h4:=Nat.div_add_mod b (a % b)
      have h5:1<=b / (a % b):=(Nat.le_div_iff_mul_le (Nat.pos_of_ne_zero h1)).mpr (by omega)
      have h6:a % b<=(a % b) * (b / (a % b)):=Nat.le_mul_of_pos_right _ h5
      omega
     rw [Nat.pow_succ] at hb
     omega
    rw [ih k (a % b) (b % (a % b)) hlt]
    have eg:Nat.gcd a b=Nat.gcd (a % b) (b % (a % b)):=by
     rw [Nat.gcd_comm a b,Nat.gcd_rec b a,Nat.gcd_rec (a % b) b,Nat.gcd_comm]
    rw [eg]
theorem Zdl (a b:Nat):(a:Int).fmod (b:Int)=((a % b:Nat):Int):=by
 rw [Int.fmod_eq_emod_of_nonneg _ (Int.natCast_nonneg b)]
 rfl
theorem Ze7 (n:Int):m9 n=(n.natAbs:Int):=by
 unfold m9
 split <;> omega
noncomputable def ap (t b:Int):PyData:=.tuple [.int (Gc.bT t b),.int (Gc.bH t b)]
theorem iJ {t b:Int} {k l:Nat} (ht:nb k t) (hb:nb l b) (h0:b≠0):nb k (Gc.bT t b)/\nb l (Gc.bH t b):=by
 obtain ⟨h1,h2⟩:=Gc.qa (t:=t) h0
 exact ⟨Nat.lt_of_le_of_lt h1 ht,Nat.lt_of_le_of_lt h2 hb⟩
theorem ZdZ {t b:Int} {l:Nat} (hb:nb l b) (h0:b≠0):nb l (Gc.den t b):=by
 unfold nb
 rw [Gc.qI]
 exact Nat.lt_of_le_of_lt (Nat.gcd_le_right _ (by omega)) hb
noncomputable def cT (c sc l:Int):PyData:=.tuple [ap c sc,.int l]
noncomputable def Shp.lv (s:Shp) (day:List Int) (rest:List (List Int)) (x:Int):Int:=lvl (s.sms day rest) s.top ((s.bk rest).2 * day.sum * s.start) x
noncomputable def Shp.tday (s:Shp) (day:List Int) (rest:List (List Int)):PyData:=.tuple ((aI (-s.depth) s.n).map λx=>cT ((s.bk (day::rest)).1 x) (s.bk (day::rest)).2 (s.lv day rest x))
noncomputable def Shp.tab (s:Shp):List (List Int)->List PyData
 | []=>[]
 | day::rest=>s.tday day rest::s.tab rest
theorem Zaz (s:Shp):∀ fs:List (List Int),(s.tab fs).length=fs.length
 | []=>rfl
 | d::r=>by rw [Shp.tab,List.length_cons,List.length_cons,Zaz s r]
noncomputable def pr (p:Int×Int):List Int:=[p.1,p.2]
end Tw
set_option Elab.async false
set_option linter.all false
set_option maxRecDepth 100000
namespace L2
open PySem PySem.Spec PyProof.Rows
variable {PK:Pk} {X:Cx} {st:Stmt} {i n:List Sl->Tr PyData}
noncomputable def ZbU (K:PySem.W.Frag):V->V->Hp->VK->Prop:=λx y H Q=>∃ p xs i v,x=.ref p/\y=.int i/\SqL K H p xs/\0<=i/\bp xs i=some v/\Q v H
theorem Zi0:Zfd X (ZbU X.K):=by
 intro pins s σ H x y v u Q I rx ry h
 obtain ⟨p,xs,i,z,rfl,rfl,hq,h0,he,q⟩:=h
 cases rx
 obtain ⟨t,rfl⟩:=ry
 obtain ⟨its,r,pl,hz⟩:=I.list hq
 obtain ⟨j,h1,h2,h3,h4,h5⟩:=mU he
 obtain ⟨w,ew,rw'⟩:=r.get h2
 have hl:=r.length
 have hn:=gr
 have fin:EP X pins σ Q w s:=⟨z,H,I,rw',q⟩
 have hj:i.toNat=j:=by
  rw [seqIndex_of h0 h5] at h1
  exact Option.some.inj h1
 exact wpAny_getItem_list pl.isList h0 (by omega) (by rw [hj]; simpa using ew) fin
noncomputable def pR (xs:List PyData):PyData->Option (Nat×Int)
 | .int y=>if 0<=y then (match xs[y.toNat]? with | some (.int a)=>some (y.toNat,a) | _=>none) else none
 | _=>none
noncomputable def Zdb:PyData->Option Int
 | .int b=>some b
 | _=>none
noncomputable def kK (g:Int->Int->Int) (k:Nat) (n i:List Sl->Tr PyData):List Sl->Tr Ou:=λρ=>match ρ[k]? with
 | some (.own xs)=>(n ρ).bind λy=>(Tr.of (pR xs y)).bind λja=>(i ρ).bind λz=>(Tr.of (Zdb z)).bind λb=>.ret (.next (ρ.set k (.own (xs.set ja.1 (.int (g ja.2 b))))))
 | _=>.fail
theorem ZnI {k:Nat} {g:Int->Int->Int} (h:PS X st (ZaG (eO k) (TAe PK n) (TAe PK i) (ZbU X.K) (ipI g) o8)):PS X st (bw PK (kK g k n i)):=h.imp λD σ H hz0=>by
 obtain ⟨pa,G₀,H₀,m,ρ,G,R,z⟩:=hz0
 unfold kK at z
 split at z
 ·rename_i xs hx
  obtain ⟨o,h1,h2⟩:=R.sl k _ hx
  cases h2 with
  | @own p vs _ a1 a2 a3 a4 =>
   refine ⟨_,h1,?_⟩
   refine TAe.then R z λm1 y v G1 H1 s1 w1 R1 d1 q1=>?_
   rw [Tr.ok_bind] at q1
   obtain ⟨ja,hja,q1⟩:=Tr.ok_of q1
   cases d1 with
   | int y =>
    have hy:∃ a,0<=y/\xs[y.toNat]?=some (.int a)/\ja=(y.toNat,a):=by
     have hja:(if 0<=y then (match xs[y.toNat]? with | some (.int a)=>some (y.toNat,a) | _=>none) else none)=some ja:=hja
     by_cases h0:0<=y
     ·rw [if_pos h0] at hja
      cases e:xs[y.toNat]? with
      | none=>rw [e] at hja; cases hja
      | some u =>
       rw [e] at hja
       cases u with
       | int a=>cases hja; exact ⟨a,h0,rfl,rfl⟩
       | _=>cases hja
     ·rw [if_neg h0] at hja; cases hja
    obtain ⟨a,h0,hat,rfl⟩:=hy
    obtain ⟨o,h1',h2⟩:=R1.sl k _ hx
    rw [h1] at h1'
    cases h1'
    cases h2 with
    | @own _ vs1 _ b1 b2 b3 b4 =>
     obtain ⟨va,hva,da⟩:=DnAll.get y.toNat b4 hat
     cases da
     refine ⟨p,vs1,y,.int a,rfl,rfl,SqL.of b1,h0,iX h0 hva,?_⟩
     refine TAe.then R1 q1 λm2 z2 u G2 H2 s2 w2 R2 d2 q2=>?_
     rw [Tr.ok_bind] at q2
     obtain ⟨b,hb,q2⟩:=Tr.ok_of q2
     cases d2 with
     | int b' =>
      cases hb
      obtain ⟨o,h1',h2⟩:=R2.sl k _ hx
      rw [h1] at h1'
      cases h1'
      cases h2 with
      | @own _ vs2 _ c1 c2 c3 c4 =>
       have hlt:y.toNat < xs.length:=(List.getElem?_eq_some_iff.mp hat).1
       refine ⟨a,b,rfl,rfl,p,vs2,y,y.toNat,rfl,rfl,c1,?_,?_⟩
       ·unfold c7
        rw [if_pos h0,if_pos (by rw [c4.length]; omega)]
       ·exact q2 σ G2 _ (s1.gs.trans s2.gs) (R2.change hx h1 (c4.set y.toNat (.int _)))
     | _=>cases hb
   | _=>cases hja
 ·exact z.elim
variable {ρ:List Sl} {k:Nat} {g:Int->Int->Int} {xs:List PyData} {sl:Sl}
noncomputable def ag3 (g:Int->Int->Int) (k:Nat) (xs:List PyData) (ρ:List Sl) (ja:Nat×Int) (b:Int):Tr Ou:=.ret (.next (ρ.set k (.own (xs.set ja.1 (.int (g ja.2 b))))))
noncomputable def re (g:Int->Int->Int) (k:Nat) (xs:List PyData) (ρ:List Sl) (ja:Nat×Int) (z:PyData):Tr Ou:=(Tr.of (Zdb z)).bind (ag3 g k xs ρ ja)
noncomputable def rf (g:Int->Int->Int) (k:Nat) (i:List Sl->Tr PyData) (xs:List PyData) (ρ:List Sl) (ja:Nat×Int):Tr Ou:=(i ρ).bind (re g k xs ρ ja)
noncomputable def rg (g:Int->Int->Int) (k:Nat) (i:List Sl->Tr PyData) (xs:List PyData) (ρ:List Sl) (y:PyData):Tr Ou:=(Tr.of (pR xs y)).bind (rf g k i xs ρ)
theorem Zlp (h:ρ[k]?=some (.own xs)):kK g k n i ρ=(n ρ).bind (rg g k i xs ρ):=by
 unfold kK
 rw [h]
 rfl
theorem ZlA {y:Int} {a:Int} (h0:0<=y) (h:xs[y.toNat]?=some (.int a)):rg g k i xs ρ (.int y)=rf g k i xs ρ (y.toNat,a):=by
 have e:pR xs (.int y)=some (y.toNat,a):=by
  show (if 0<=y then (match xs[y.toNat]? with | some (.int a)=>some (y.toNat,a) | _=>none) else none)=_
  rw [if_pos h0,h]
 unfold rg
 rw [e]
 rfl
theorem Zlz {ja:Nat×Int}:rf g k i xs ρ ja=(i ρ).bind (re g k xs ρ ja):=rfl
theorem Zly {ja:Nat×Int} (b:Int):re g k xs ρ ja (.int b)=.ret (.next (ρ.set k (.own (xs.set ja.1 (.int (g ja.2 b)))))):=rfl
end L2
set_option Elab.async false
set_option linter.all false
set_option maxRecDepth 100000
namespace L2
open PySem PySem.Spec PyProof.Rows
section
variable {PK:Pk} {X:Cx} {pos:Pos} {i j:List Sl->Tr PyData}
theorem Kn.dct {pa:Addr} {m:Nat} {G H:Hp} {ks:List (bb×V)} {ds:List PyData} {Q:VK} {p:Addr} (k:Kn PK pa m G H (.dict ((ks.map λk=>match k.1 with | .inl i=>PyData.int i | .inr x=>PyData.str x).zip ds)) Q) (w:Wd PK pa m G H) (d:DnAll G (ks.map (·.2)) ds) (hp:H p=none):Q (.ref p) (upd H p (.dK ks)):=by
 obtain ⟨w1,s1⟩:=w.new (o:=.dK ks) hp
 exact k _ _ _ s1 w1 (.dct (.inl bW) (DnAll.mono s1.gs d))
end
end L2
set_option Elab.async false
set_option linter.all false
set_option maxRecDepth 100000
namespace PySem
open Sem (wp)
section
variable {prog:Program} {w:World} {A:Around} {E:Value->Shared->Prop} {s:Shared} {a:Addr} {o:Obj} {xs:Array Value} {k:Nat}
end
end PySem
set_option Elab.async false
set_option linter.all false
set_option maxRecDepth 100000
namespace PySem
open Sem (wp)
section
variable {prog:Program} {w:World} {A:Around} {E:Value->Shared->Prop} {s:Shared}
end
end PySem
set_option Elab.async false
set_option linter.all false
set_option maxRecDepth 100000
namespace PySem
open Sem (wp)
section
variable {prog:Program} {w:World} {A:Around} {E:Value->Shared->Prop} {s:Shared}
end
section
variable {K:Type} [DecidableEq K]
end
end PySem
namespace L2
open PySem PySem.Spec PyProof.Rows
section
variable {prog:Program} {w:World} {A:Around} {R:Result->Shared->Prop} {K:Type} [DecidableEq K] {knd:KeyKind prog w K} {kf:Nat->K}
theorem rJ {h h':Heap} {d:Addr} {kvs:List (K×Value)} (x:h.DictOf knd d kvs) (k:∀ o,h.get? d=some o->h'.get? d=some o):h'.DictOf knd d kvs :=
 let ⟨o,es,ep,ho,r⟩:=x; ⟨o,es,ep,k o ho,r⟩
end
end L2
set_option Elab.async false
set_option linter.all false
set_option maxRecDepth 100000
namespace L2
open PySem PySem.Spec PyProof.Rows
section
variable {prog:Program} {w:World} {A:Around} {E:Value->Shared->Prop} {s:Shared} {K:Type} [DecidableEq K] {knd:KeyKind prog w K} {kf:Nat->K}
end
end L2
set_option Elab.async false
set_option linter.all false
set_option maxRecDepth 100000
namespace L2
open PySem PySem.Spec PyProof.Rows
section
variable {PK:Pk} {X:Cx} {a:Expr} {p p2 pos pos2:Pos} {i:List Sl->Tr PyData}
end
end L2
set_option Elab.async false
set_option linter.all false
set_option maxRecDepth 100000
namespace L2
open PySem PySem.Spec PyProof.Rows
section
variable {X:Cx} {PK:Pk} {e:Expr} {es:List Expr} {i:List Sl->Tr PyData} {is:List Sl->Tr (List PyData)}
end
end L2
set_option Elab.async false
set_option linter.all false
set_option maxRecDepth 100000
namespace L2
open PySem PySem.Spec PyProof.Rows
section
variable {prog:Program} {w:World} {A:Around} {R:Result->Shared->Prop} {K:Type} [DecidableEq K] {knd:KeyKind prog w K} {kf:Nat->K} {lo:Int}
end
section
variable {prog:Program} {w:World} {A:Around} {E:Value->Shared->Prop} {s:Shared} {K:Type} [DecidableEq K] {knd:KeyKind prog w K} {kf:Nat->K} {lo:Int}
end
end L2
set_option Elab.async false
set_option linter.all false
set_option maxRecDepth 100000
namespace L2
open PySem PySem.Spec PyProof.Rows
theorem ZiF {ks:List (bb×V)} {vs:List (bb×Value)} (r:KV ks vs):ks.length=vs.length:=by
 induction r with
 | nil=>rfl
 | cons _ _ ih=>rw [List.length_cons,List.length_cons,ih]
end L2
set_option Elab.async false
set_option linter.all false
set_option maxRecDepth 100000
namespace L2
open PySem PySem.Spec PyProof.Rows
end L2
set_option Elab.async false
set_option linter.all false
set_option maxRecDepth 100000
namespace L2
open PySem PySem.Spec PyProof.Rows
section
variable {X:Cx} {tg:Expr}
end
variable {PK:Pk} {X:Cx} {is:List Sl->Tr (List PyData)} {ρ:List Sl}
end L2
set_option Elab.async false
set_option linter.all false
set_option maxRecDepth 100000
namespace L2
open PySem PySem.Spec PyProof.Rows
noncomputable def dD (kvs:List (Int×PyData)):PyData:=.dict (kvs.map λkv=>(.int kv.1,kv.2))
noncomputable def gf (kvs:List (Int×PyData)) (k:Int) (v:PyData):List (Int×PyData) :=
 if (kvs.any λkv=>decide (kv.1=k))=true then kvs.map (λkv=>if kv.1=k then (kv.1,v) else kv) else kvs++[(k,v)]
section
variable {G:Hp} {ks:List (bb×V)} {kvs:List (Int×PyData)}
theorem ZcZ (i k:Int):decide ((Sum.inl i:bb)=Sum.inl k)=decide (i=k):=by
 by_cases h:i=k
 ·subst h; simp
 ·rw [decide_eq_false h,decide_eq_false λe=>h (Sum.inl.inj e)]
theorem KD.any (h:KD G ks kvs) (k:Int):(ks.any λkv=>decide (kv.1=Sum.inl k))=kvs.any λkv=>decide (kv.1=k):=by
 induction h with
 | nil=>rfl
 | cons _ _ ih=>rw [List.any_cons,List.any_cons,ih]; dsimp only; rw [ZcZ]
theorem KD.snoc (h:KD G ks kvs) {k:Int} {v:V} {d:PyData} (hd:Dn G v d):KD G (ks++[(.inl k,v)]) (kvs++[(k,d)]):=by
 induction h with
 | nil=>exact .cons hd .nil
 | cons h1 _ ih=>exact .cons h1 ih
theorem KD.map (h:KD G ks kvs) {k:Int} {v:V} {d:PyData} (hd:Dn G v d):KD G (ks.map λkv=>if kv.1=Sum.inl k then (kv.1,v) else kv) (kvs.map λkv=>if kv.1=k then (kv.1,d) else kv):=by
 induction h with
 | nil=>exact .nil
 | @cons i u x ks kvs h1 _ ih =>
  rw [List.map_cons,List.map_cons]
  by_cases hk:i=k
  ·subst hk
   rw [if_pos rfl,if_pos rfl]
   exact .cons hd ih
  ·rw [if_neg (λe=>hk (Sum.inl.inj e)),if_neg hk]
   exact .cons h1 ih
theorem KD.put (h:KD G ks kvs) (k:Int) {v:V} {d:PyData} (hd:Dn G v d):KD G (fG ks (.inl k) v) (gf kvs k d):=by
 unfold fG gf
 rw [h.any]
 split
 ·exact h.map hd
 ·exact h.snoc hd
theorem KD.vals (h:KD G ks kvs):DnAll G (ks.map (·.2)) (kvs.map (·.2)):=by
 induction h with
 | nil=>exact .nil
 | cons h1 _ ih=>exact .cons h1 ih
theorem KD.zip (h:KD G ks kvs):((ks.map λk=>match k.1 with | .inl i=>PyData.int i | .inr x=>PyData.str x).zip (kvs.map (·.2)))=kvs.map λkv=>(.int kv.1,kv.2):=by
 induction h with
 | nil=>rfl
 | cons h1 _ ih=>rw [List.map_cons,List.map_cons,List.zip_cons_cons,ih,List.map_cons]
end
section
variable {PK:Pk} {pa:Addr} {G₀ H₀ G H:Hp} {m:Nat} {σ:St} {ρ:List Sl}
end
variable {PK:Pk} {X:Cx} {a b c e:Expr} {es:List Expr} {pos:Pos} {i j l:List Sl->Tr PyData} {is:List Sl->Tr (List PyData)} {st:Stmt} {s:List Sl->Tr Ou}
noncomputable def ZoC (k:Nat) (n i:List Sl->Tr PyData):List Sl->Tr Ou:=λρ=>(i ρ).bind λx=>match ρ[k]? with
 | some (.dic xs)=>(n ρ).bind λy=>match y with
  | .int y=>if small (xs.length+1)=true then .ret (.next (ρ.set k (.dic (gf xs y x)))) else .fail
  | _=>.fail
 | _=>.fail
noncomputable def eW:PyData->PyData->Option PyData
 | .dict kvs,.int k=>(kvs.find? λkv=>match kv.1 with | .int i=>decide (i=k) | _=>false).map (·.2)
 | _,_=>none
theorem qJ {G:Hp} {k:Int} {d:PyData}:∀ {ks:List (bb×V)} {ds:List PyData},DnAll G (ks.map (·.2)) ds->eW (.dict ((ks.map λk=>match k.1 with | .inl i=>PyData.int i | .inr x=>PyData.str x).zip ds)) (.int k)=some d->∃ v,dY ks (.inl k)=some v/\Dn G v d
 | [],_,h,e=>by cases h; cases e
 | kv::ks,_,h,e=>by
  rw [List.map_cons] at h
  cases h with
  | @cons _ _ x ds h1 h2 =>
   rw [List.map_cons,List.zip_cons_cons] at e
   obtain ⟨q,v⟩:=kv
   cases q with
   | inl i =>
    by_cases hk:i=k
    ·subst hk
     refine ⟨v,nX rfl,?_⟩
     have e':some x=some d:=by
      rw [<- e]
      show _=Option.map _ (List.find? _ _)
      rw [List.find?_cons]
      simp
     cases e'
     exact h1
    ·have e2:eW (.dict ((ks.map λk=>match k.1 with | .inl i=>PyData.int i | .inr x=>PyData.str x).zip ds)) (.int k)=some d:=by
      rw [<- e]
      show Option.map _ (List.find? _ _)=Option.map _ (List.find? _ _)
      rw [List.find?_cons]
      simp [hk]
     obtain ⟨v',hv,dn⟩:=qJ h2 e2
     refine ⟨v',?_,dn⟩
     rw [<- hv]
     unfold dY
     rw [List.find?_cons]
     dsimp only
     rw [ZcZ,decide_eq_false hk]
   | inr y =>
    have e2:eW (.dict ((ks.map λk=>match k.1 with | .inl i=>PyData.int i | .inr x=>PyData.str x).zip ds)) (.int k)=some d:=by
     rw [<- e]
     show Option.map _ (List.find? _ _)=Option.map _ (List.find? _ _)
     rw [List.find?_cons]
    obtain ⟨v',hv,dn⟩:=qJ h2 e2
    refine ⟨v',?_,dn⟩
    rw [<- hv]
    unfold dY
    rw [List.find?_cons]
    simp
theorem Rd.up {G H:Hp} (s:Sub G H) {a:Addr} {u:HO} (h:Rd G a u):Rd H a u:=h.imp (s _ _) λ⟨o,h⟩=>⟨o,s _ _ h⟩
theorem Ze5 (h:PE X e (ZaC (TAe PK i) (TAe PK j))):PE X e (TAe PK (ag eW i j)):=h.imp λσ H Q hz0=>by
 obtain ⟨pa,G₀,H₀,m,ρ,G,R,q⟩:=hz0
 refine TAe.then R q λm1 x v G1 H1 s1 w1 R1 d1 q1=>?_
 refine TAe.then R1 q1 λm2 y u G2 H2 s2 w2 R2 d2 q2=>?_
 obtain ⟨z,hz,k⟩:=Tr.ok_of q2
 cases d1 with
 | dct r1 r2 =>
  cases d2 with
  | int n =>
   obtain ⟨v',hv,dn⟩:=qJ r2 hz
   exact ⟨_,v',rfl,.inl ⟨_,.inl n,(r1.up s2.gs).up w2.sub,rfl,hv.symm⟩,(Kn.later k (s1.trans s2 w1.some) w2.some).here w2 (dn.mono s2.gs)⟩
  | _=>cases hz
 | _=>cases hz
end L2
set_option Elab.async false
set_option linter.all false
set_option maxRecDepth 100000
namespace L2
open PySem PySem.Spec PyProof.Rows
section
variable {X:Cx} {pins:List (Addr×Obj)} {σ:St} {H:Hp} {s:Shared}
theorem Inv.trackD {D:Addr} {ys:List (bb×V)} {us:List (bb×Value)} (I:Inv X pins σ H s) (hD:H D=none) (ho:s.heap.DictOf (cK X.prog X.w) D us) (r:KV ys us) (hz:ys.length<=sizeLine) (hsys:(D == sysModules)=false)
  (hL:D≠X.env.locals) (hs0:X.s₀.heap.objs.size<=D) (hc:∀ x c,X.env.cells.lookup x=some c->c≠D) (hp:∀ p∈X.pn++pins,p.1≠D):Inv X pins σ (upd H D (.dK ys)) s:=by
 have ne:∀ {b:Addr} {o:HO},H b=some o->b≠D:=λe=>cv e hD
 refine I.step (g':=s.gens) (d':=s.drawn) (t':=s.toks) (h':=s.heap) (ch:=[D]) (λb hb=>?_) (λb o _ _ _ e _=>e) (λb o _ _ _ e _=>⟨o.slots,e⟩) (λb o hb e n=>?_) (λb o _ e=>⟨o,e⟩)
  (λb xs e=>by rw [aM (ne e)]; exact e) (λb o u e=>by rw [aM (ne e)]; exact e) (λb ps e=>⟨#[],by rw [aM (ne e),e]; simp⟩) (λm hm=>hm) (λb u e=>?_) I.bare
 ·have e:b=D:=by simpa using hb
  subst e
  exact ⟨.inr hs0,hL,hc,hp⟩
 ·have hb':b≠D:=by simpa using hb
  rw [aM hb']
  exact n
 ·by_cases hb:b=D
  ·subst hb
   rw [bW] at e
   cases e
   exact ⟨hz,hsys,us,r,ho⟩
  ·rw [aM hb] at e
   exact (I.hok b u e).stay (λc v _ q=>q) (λc q=>by rw [aM (ne q)]; exact q) λc xs q=>by rw [aM (ne q)]; exact q
end
theorem ZmW (kx vx target iter:Expr) (scope:Scope) (pos:Pos) (it:Value) (D:Addr) (env:Env) :
  compTurn (.DictComp kx vx [⟨target,iter,[],0⟩] scope pos) 0 it (.ref D) env=(standAt iter.pos >>= λ_=>pyNext it >>= λr=>match r with
   | none=>pure (.done .next)
   | some v=>letOwnedTupleGo target it v >>= λ_=>assign target env v >>= λ_ =>
    (eval kx env >>= λkv=>holding [kv] (eval vx env) >>= λvv=>standAt { kx.pos with endLine:=vx.pos.endLine,endCol:=vx.pos.endCol } >>= λ_=>holding [kv,vv] (dictSet D kv vv)) >>= λ_ =>
     again (.compLoop (.DictComp kx vx [⟨target,iter,[],0⟩] scope pos) 0 it (.ref D) env)):=by rfl
theorem ZmY {prog:Program} {w:World} {A:Around} {R:Result->Shared->Prop} {s:Shared} {kx vx target iter:Expr} {scope:Scope} {pos:Pos} {it:Value} {D:Addr} {env:Env} (J:Nat->Shared->Prop)
  (step:∀ k s0,J k s0->wpAny (model prog w) A (pyNext it) (λgot s1=>match got with
   | none=>R (.ok .next) s1
   | some v=>wpAny (model prog w) A (letOwnedTupleGo target it v) (λ_ s2=>wpAny (model prog w) A (assign target env v) (λ_ s3=>wpAny (model prog w) A (eval kx env) (λkv s4 =>
     wpAny (model prog w) A (eval vx env) (λy s5=>wpAny (model prog w) A (dictSet D kv y) (λ_ s6=>∃ j,j < k/\J j s6) (λ_ _=>False) s5) (λ_ _=>False) s4) (λ_ _=>False) s3) (λ_ _=>False) s2) (λ_ _=>False) s1) (λ_ _=>False) s0)
  (k:Nat) (h:J k s):codeAny (model prog w) A (.compLoop (.DictComp kx vx [⟨target,iter,[],0⟩] scope pos) 0 it (.ref D) env) R s:=by
 refine codeAny_loop rfl J (λk0 s0 hJ=>?_) k h
 show wpAny _ _ ((compTurn (.DictComp kx vx [⟨target,iter,[],0⟩] scope pos) 0 it (.ref D) env).onRaise (λx=>do noteFrame x env; theTreesLotGoes x)) _ _ s0
 apply wpAny_noted
 rw [ZmW]
 refine wpAny_bind (wpAny_standAt (wpAny_bind (wpAny_mono (step k0 s0 hJ) (λgot s1 h1=>?_) λ_ _ z=>z.elim)))
 cases got with
 | none=>exact wpAny_pure h1
 | some v =>
  refine wpAny_bind (wpAny_mono h1 (λ_ s2 h2=>?_) λ_ _ z=>z.elim)
  refine wpAny_bind (wpAny_mono h2 (λ_ s3 h3=>?_) λ_ _ z=>z.elim)
  refine wpAny_bind (wpAny_bind (wpAny_mono h3 (λkv s4 h4=>?_) λ_ _ z=>z.elim))
  refine wpAny_bind (wpAny_holding (wpAny_mono h4 (λy s5 h5=>?_) λ_ _ z=>z.elim))
  refine wpAny_bind (wpAny_standAt (wpAny_holding (wpAny_mono h5 (λ_ s6 h6=>?_) λ_ _ z=>z.elim)))
  exact wpAny_pure ⟨rfl,h6⟩
noncomputable def jl (wi:TI) (n:Nat) (ix:List Nat) (g:Blk->TG) (tk te:Blk->TE):TE:=λσ H Q=>wi σ H λJ H1=>∀ b:Blk,∃ W:Nat->Nat->St->List (bb×V)->Hp->Prop,(∃ m,W 0 m (cy n ix σ) [] H1)/\∀ i m τ ys H2,W i m τ ys H2 ->
 (J.stop i H2/\∀ p v H',H2 p=none->v=V.ref p->H'=upd H2 p (.dK ys)->Q v H') \/
 (J.go i H2/\ys.length < sizeLine/\∀ x H3,J.yld i H2 x H3->g b x τ H3 λτ2 H4=>tk b τ2 H4 λkv H5=>te b τ2 H5 λy H6=>∃ (z:Int) (m':Nat),kv=.int z/\m' < m/\W (i+1) m' τ2 (fG ys (.inl z) y) H6)
section
variable {X:Cx} {pins:List (Addr×Obj)} {σ:St} {H:Hp} {s:Shared}
theorem Zd4 {kx vx target iter:Expr} {scope:Scope} {pos:Pos} {Nx ts:List Str} {ix:List Nat} {g:Blk->TG} {tk te:Blk->TE} {cl:List (Str×Addr)} {s2:Shared} {itv:Value} {R:Value->Addr->Result->Shared->Prop}
  {E:Value->Shared->Prop} {Q:VK}
  (hc:X.calm=true) (hg:∀ b,PG (aY X (bN Nx ts ix) scope b) target (g b)) (hk:∀ b,PE (aY X (bN Nx ts ix) scope b) kx (tk b)) (he:∀ b,PE (aY X (bN Nx ts ix) scope b) vx (te b))
  (hNx:X.N=Nx) (ok:BlkOk Nx X.env.scope scope ix) (cl1:∀ x c,cl.lookup x=some c->X.env.cells.lookup x=some c) (cl2:∀ y∈scope.names,y.2=.free->∃ c,cl.lookup y.1=some c)
  (h2:kM X pins σ target (λJ H1=>∀ b:Blk,∃ W:Nat->Nat->St->List (bb×V)->Hp->Prop,(∃ m,W 0 m (cy ts.length ix σ) [] H1)/\∀ i m τ ys H2,W i m τ ys H2 ->
   (J.stop i H2/\∀ p v H',H2 p=none->v=V.ref p->H'=upd H2 p (.dK ys)->Q v H') \/
   (J.go i H2/\ys.length < sizeLine/\∀ x H3,J.yld i H2 x H3->g b x τ H3 λτ2 H4=>tk b τ2 H4 λkv H5=>te b τ2 H5 λy H6=>∃ (z:Int) (m':Nat),kv=.int z/\m' < m/\W (i+1) m' τ2 (fG ys (.inl z) y) H6)) itv s2)
  (hR:∀ (D C:Addr) (H':Hp) (s':Shared) (v:V),Inv X pins σ H' s'->v=.ref D->Q v H'->(∃ m,s'.heap.Ns C m)->H' C=none->C≠X.env.locals->X.s₀.heap.objs.size<=C->(∀ x c,X.env.cells.lookup x=some c->c≠C)->(∀ p∈X.pn++pins,p.1≠C) ->
   R (.ref D) C (.ok .next) s') :
  wpAny (model X.prog X.w) X.A newDict (λacc s₃=>wpAny (model X.prog X.w) X.A (newFunctionEnv scope X.env.globals cl [] X.env.qual none .none (some X.env)) (λcenv s₄ =>
   codeAny (model X.prog X.w) X.A (.compStart (.DictComp kx vx [⟨target,iter,[],0⟩] scope pos) 0 itv acc { cenv with scope:=relabel scope X.env }) (R acc cenv.locals) s₄) E s₃) E s2:=by
 obtain ⟨it,fp,tn,J,H1,e,I2,T,st2,f2,q2⟩:=h2
 subst e
 refine wpAny_newObj_type (nQ ?_)
 dsimp only
 generalize hG:s2.heap.push { cls:=.type "dict",dict:=none,data:=.dict #[] }=G
 have hGs:G.objs.size=s2.heap.objs.size+1:=by rw [<- hG,Heap.size_push]
 have hfs:∀ b∈fp,b < s2.heap.objs.size:=λb hb=>let ⟨o,e,_⟩:=T.obj _ _ st2 b hb; Heap.lt_size e
 have kpG:∀ b o,G.get? b=some o->(pushCells (G.push { cls:=.type "dict",data:=.dict #[] }) scope.names).get? b=some o:=λb o e=>pushCells_keeps _ _ _ _ (Heap.get?_push_of_some _ e)
 have hns3:(pushCells (G.push { cls:=.type "dict",data:=.dict #[] }) scope.names).Ns G.objs.size (λ_=>none):=(Heap.Ns.new G (.type "dict")).keeps (pushCells_keeps _ _)
 obtain ⟨sp1,sp2,sp4,sp3⟩:=qO scope.names (G.push { cls:=.type "dict",data:=.dict #[] }) cl
 rw [Heap.size_push] at sp1 sp2 sp3 sp4
 generalize hh3:pushCells (G.push { cls:=.type "dict",data:=.dict #[] }) scope.names=h3 at kpG hns3 sp1 ⊢
 have kp:∀ b o,s2.heap.get? b=some o->h3.get? b=some o:=λb o e=>kpG b o (by rw [<- hG]; exact Heap.get?_push_of_some _ e)
 have hD3:h3.get? s2.heap.objs.size=some { cls:=.type "dict",data:=.dict #[] }:=kpG _ _ (by rw [<- hG]; exact Heap.get?_push_size _ rfl)
 have hDo:h3.DictOf (cK X.prog X.w) s2.heap.objs.size []:=rJ (h:=G) (by rw [<- hG]; exact Heap.DictOf.new _) λo e=>kpG _ o e
 have clB:∀ x c,cl.lookup x=some c->c < G.objs.size+1:=λx c e=>by
  obtain ⟨v,q⟩:=I2.cell x c (cl1 x c e)
  exact Nat.lt_succ_of_lt (Nat.lt_of_lt_of_le q.lt (by rw [hGs]; exact Nat.le_succ _))
 have csI:=sp3 clB λx y c e1 e2=>I2.ok.inj x y c (cl1 x c e1) (cl1 y c e2)
 have cs1:∀ x c,(cellsFrom (G.objs.size+1) scope.names cl).lookup x=some c->X.env.cells.lookup x=some c\/(G.objs.size < c/\h3.IsCell c none/\(x,NameKind.cell)∈scope.names):=λx c e=>by
  rcases sp1 x c e with z | ⟨z1,z2,z3⟩
  ·exact .inl (cl1 x c z)
  ·exact .inr ⟨by omega,z2,z3⟩
 have cs2:∀ y∈scope.names,(y.2=.free\/y.2=.cell)->∃ c,(cellsFrom (G.objs.size+1) scope.names cl).lookup y.1=some c:=λy hy hk=>by
  refine sp2 y.1 ?_
  rcases hk with z | z
  ·exact .inr (cl2 y hy z)
  ·exact .inl (by rw [<- z]; exact hy)
 have csA:∀ x c,(x,NameKind.cell)∈scope.names->(cellsFrom (G.objs.size+1) scope.names cl).lookup x=some c->G.objs.size<=c:=λx c e1 e2=>Nat.le_of_succ_le (sp4 x c e1 e2)
 generalize hcs:cellsFrom (G.objs.size+1) scope.names cl=cs at csI cs1 cs2 csA ⊢
 generalize hCe:G.objs.size=C at hns3 cs1 csA ⊢
 have hC:s2.heap.objs.size<=C:=by omega
 have hDC:s2.heap.objs.size≠C:=by omega
 let B:Blk:=⟨cs,C,s2,H1,fp,X.pn++pins⟩
 have I3:Inv (aY X (bN Nx ts ix) scope B) [] (cy ts.length ix σ) H1 { s2 with heap:=h3 }:=qo I2 hNx ok cs1 csI cs2 csA f2 hfs hC kp hns3
 have fC:H1 s2.heap.objs.size=none:=I2.hok.fresh (Nat.le_refl _)
 have cellIn:∀ x c,cs.lookup x=some c->c≠s2.heap.objs.size:=λx c e=>by
  rcases cs1 x c e with z | ⟨z,_,_⟩
  ·obtain ⟨v,q⟩:=I2.cell x c z
   exact Nat.ne_of_lt q.lt
  ·exact Nat.ne_of_gt (Nat.lt_of_le_of_lt hC z)
 have pinIn:∀ p∈X.pn++pins,p.1 < s2.heap.objs.size:=λp hp=>Heap.lt_size (I2.pin p hp).1
 have nofrs:s2.heap.objs.size ∉ frs X.stack:=λhb=>by
  rcases List.mem_cons.mp (I2.stkSub _ hb) with z | z
  ·exact absurd I2.lt (by rw [<- z]; exact Nat.lt_irrefl _)
  ·exact I2.nofs (Nat.le_refl _) z
 -- a state with the list at its place,pinned
 have pinD:∀ {τ:St} {H':Hp} {s':Shared} {ob:Obj},Inv (aY X (bN Nx ts ix) scope B) [] τ H' s'->s'.heap.get? s2.heap.objs.size=some ob->H' s2.heap.objs.size=none->(∀ v,ob.data≠.cell v)->Inv (aY X (bN Nx ts ix) scope B) [(s2.heap.objs.size,ob)] τ H' s' :=
  λ{τ H' s' ob} I' ho hn hd=>I'.pins_of λp hp=>by
   have e:p=(s2.heap.objs.size,ob):=by simpa using hp
   subst e
   exact ⟨ho,hn,hDC,nofrs,hd⟩
 obtain ⟨W,⟨m0,w0⟩,turn⟩:=q2 B
 have stat:∀ {H':Hp} {ob:Obj},(∀ b∈fp,H' b=none)->∀ b∈fp,eM (aY X (bN Nx ts ix) scope B) [(s2.heap.objs.size,ob)] H' b:=λ{H' ob} hn b hb=>by
  refine ⟨hn b hb,Nat.ne_of_lt (Nat.lt_of_lt_of_le (hfs b hb) hC),λz=>?_,.inl hb,λx c e=>by
   rcases cs1 x c e with z | ⟨z,_,_⟩
   ·exact (f2 b hb).2.2.2.2.1 x c z
   ·exact Nat.ne_of_gt (Nat.lt_of_lt_of_le (hfs b hb) (Nat.le_trans hC (Nat.le_of_lt z))),λp hp=>?_⟩
  ·rcases List.mem_cons.mp (I2.stkSub _ z) with q | q
   ·exact (f2 b hb).2.1 q
   ·exact (f2 b hb).2.2.1 q
  ·rcases List.mem_append.mp hp with z | z
   ·exact (f2 b hb).2.2.2.2.2 p z
   ·have e:p=(s2.heap.objs.size,ob):=by simpa using z
    subst e
    exact Nat.ne_of_gt (hfs b hb)
 have loop:∀ s4:Shared,s4={ s2 with heap:=h3 } ->
   codeAny (model X.prog X.w) X.A (.compLoop (.DictComp kx vx [⟨target,iter,[],0⟩] scope pos) 0 (.ref it) (.ref s2.heap.objs.size) (compEnvC scope cs C X.env)) (R (.ref s2.heap.objs.size) C) s4:=by
  rintro s4 rfl
  refine ZmY (λk s'=>∃ i τ ys us ob H',Inv (aY X (bN Nx ts ix) scope B) [(s2.heap.objs.size,(ob:Obj))] τ H' s'/\tn i s'.heap/\(∀ b∈fp,H' b=none)/\KV ys us/\s'.heap.DictOf (cK X.prog X.w) s2.heap.objs.size us/\ys.length<=sizeLine/\W i k τ ys H') ?_ m0
   ⟨0,_,[],[],_,H1,pinD I3 hD3 fC (λv z=>by cases z),T.keep _ _ _ st2 λb hb o e=>kp b o e,λb hb=>(f2 b hb).1,.nil,hDo,Nat.zero_le _,w0⟩
  rintro k s5 ⟨i,τ,ys,us,ob,H5,I5,st5,fr5,rv,hDO,hz,w5⟩
  rcases turn i k τ ys H5 w5 with ⟨stop,qn⟩ | ⟨go,hlt,step⟩
  ·have p5:=I5.pin (s2.heap.objs.size,ob) (List.mem_append_right _ (by simp))
   refine thn (T.done (aY X (bN Nx ts ix) scope B) rfl rfl rfl hc i _ s5 τ H5 _ I5 (stat fr5) st5 stop) λgot s6 hz0=>?_
   obtain ⟨hr,I6⟩:=hz0
   subst hr
   obtain ⟨ho,hn,_,_,_⟩:=I6.pin (s2.heap.objs.size,ob) (List.mem_append_right _ (by simp))
   have hDO6:s6.heap.DictOf (cK X.prog X.w) s2.heap.objs.size us:=rJ hDO λo e=>by
    rw [p5.1] at e
    cases e
    exact ho
   have I7:Inv X pins σ H5 s6:=I2.call' (ch:=fp) (H':=H5) (by exact I6.os) I6.base I6.hok I6.bare λb hb=>⟨(f2 b hb).2.2.2.1,(f2 b hb).2.1,(f2 b hb).2.2.2.2.1,(f2 b hb).2.2.2.2.2⟩
   have hs0:X.s₀.heap.objs.size<=s2.heap.objs.size:=I2.sz
   have I8:=I7.trackD hn hDO6 rv hz (beq_eq_false_iff_ne.mpr (Nat.ne_of_gt I2.big)) (Nat.ne_of_gt I2.lt) hs0 (λx c e z=>by
    obtain ⟨v,q⟩:=I2.cell x c e
    exact absurd q.lt (by rw [z]; exact Nat.lt_irrefl _)) (λp hp=>Nat.ne_of_lt (pinIn p hp))
   obtain ⟨m6,hm6,_⟩:=I6.loc
   refine hR _ C _ s6 _ I8 rfl (qn _ _ _ hn rfl rfl) ⟨m6,hm6⟩ ?_ (λz=>?_) (Nat.le_trans hs0 hC) (λx c e z=>?_) λp hp=>Nat.ne_of_lt (Nat.lt_of_lt_of_le (pinIn p hp) hC)
   ·rw [aM (Ne.symm hDC)]
    exact I6.free
   ·exact absurd (Nat.lt_of_lt_of_le I2.lt hC) (by rw [z]; exact Nat.lt_irrefl _)
   ·obtain ⟨v,q⟩:=I2.cell x c e
    exact absurd (Nat.lt_of_lt_of_le q.lt hC) (by rw [z]; exact Nat.lt_irrefl _)
  ·have p5:=I5.pin (s2.heap.objs.size,ob) (List.mem_append_right _ (by simp))
   refine thn (T.item (aY X (bN Nx ts ix) scope B) rfl rfl rfl hc i _ s5 τ H5 _ I5 (stat fr5) st5 go) λgot s6 hz0=>?_
   obtain ⟨u,hr,h6⟩:=hz0
   subst hr
   refine thn h6 λ_ s7 hz0=>?_
   obtain ⟨x,H7,I7,r7,y7,st7,fr7⟩:=hz0
   have I7':=I7.pinned (stat fr7) (T.obj _ _ st7)
   refine thn (hg B _ s7 τ H7 x u _ I7' r7 (step x H7 y7)) λ_ s8 hz0=>?_
   obtain ⟨τ8,H8,I8,q8⟩:=hz0
   refine thn (hk B _ s8 τ8 H8 _ I8 q8) λkv sk hz0=>?_
   obtain ⟨vk,Hk,Ik,rk,qk⟩:=hz0
   refine thn (he B _ sk τ8 Hk _ Ik qk) λy s9 hz0=>?_
   obtain ⟨vy,H9,I9,r9,zk,m',ek,hm',w9⟩:=hz0
   subst ek
   obtain ⟨tk9,rfl⟩:=rk
   obtain ⟨ho,hn,_,_,_⟩:=I9.pin (s2.heap.objs.size,ob) (List.mem_append_right _ (List.mem_append_left _ (by simp)))
   have hDO9:s9.heap.DictOf (cK X.prog X.w) s2.heap.objs.size us:=rJ hDO λo e=>by
    rw [p5.1] at e
    cases e
    exact ho
   have lenv:ys.length=us.length:=ZiF rv
   refine wpAny_dictSet_pairs (knd:=cK X.prog X.w) (k:=(Sum.inl zk:bb)) (Zcu _ _ _ _) hDO9 (λh' hpl hsb=>?_) (by omega)
   obtain ⟨ob',es',ep',ho',hc',hd',_⟩:=hpl
   have hpl:h'.DictOf (cK X.prog X.w) s2.heap.objs.size (stored us (Sum.inl zk) y):=⟨ob',es',ep',ho',hc',hd',by assumption⟩
   have I9':Inv (aY X (bN Nx ts ix) scope B) [] τ8 H9 s9:=I9.pins_of λp hp=>absurd hp (by simp)
   have I10:Inv (aY X (bN Nx ts ix) scope B) [] τ8 H9 { s9 with heap:=h',toks:=s9.toks+1 }:=I9'.turned (it:=s2.heap.objs.size) (t':=s9.toks+1) (λb o hb e=>(hsb.2 b hb).trans e) hn hDC (.inr (Nat.le_refl _)) cellIn (λp hp=>by
    have hp':p∈(X.pn++pins)++[]:=hp
    rw [List.append_nil] at hp'
    exact Nat.ne_of_lt (pinIn p hp'))
   refine ⟨m',hm',i+1,τ8,fG ys (.inl zk) vy,stored us (Sum.inl zk) y,ob',H9,pinD I10 ho' hn (λv z=>by rw [hd'] at z; cases z),?_,λb hb=>?_,rv.put _ r9,hpl,by have:=ZcJ ys (Sum.inl zk:bb) vy; omega,w9⟩
   ·refine T.keep _ _ _ st7 λb hb o e=>?_
    have q:=(I9.pin (b,o) (List.mem_append_right _ (List.mem_append_right _ (fj hb e)))).1
    exact (hsb.2 b (Nat.ne_of_lt (hfs b hb))).trans q
   ·obtain ⟨o,e,d⟩:=T.obj _ _ st7 b hb
    exact (I9.pin (b,o) (List.mem_append_right _ (List.mem_append_right _ (fj hb e)))).2.1
 exact codeAny_compStart_dict (loop _ rfl) (T.self X.A 0 _ _ _ (T.keep _ _ _ st2 λb hb o e=>kp b o e) (loop _ rfl))
theorem Zjn (kx vx gens scope pos) (env:Env):eval (.DictComp kx vx gens scope pos) env=comprehension (.DictComp kx vx gens scope pos) scope env (firstIterPos gens pos) newDict (firstAsync gens) (firstIter gens env):=by rw [eval]
theorem ZhF {kx vx target iter:Expr} {scope:Scope} {pos:Pos} {wi:TI} {g:Blk->TG} {tk te:Blk->TE} (Nx:List Str) (ts:List Str) (ix:List Nat)
  (hc:X.calm=true) (hi:PI X target iter wi) (hg:∀ b,PG (aY X (bN Nx ts ix) scope b) target (g b)) (hk:∀ b,PE (aY X (bN Nx ts ix) scope b) kx (tk b)) (he:∀ b,PE (aY X (bN Nx ts ix) scope b) vx (te b))
  (hNx:X.N=Nx) (ok:BlkOk Nx X.env.scope scope ix) (hs:∀ x,foldedSetIterable iter X.env x=pure x:=by intro _; rfl) :
  PE X (.DictComp kx vx [⟨target,iter,[],0⟩] scope pos) (jl wi ts.length ix g tk te):=by
 intro pins s σ H Q I h
 obtain ⟨cl,hcl,cl1,cl2⟩:=ku (scope:=scope) (env:=X.env) λy hy hf=>I.ok.has y.1 (ok.frees y hy hf)
 rw [Zjn]
 refine wpAny_comprehension_free (use:=none) rfl hs hcl ok.kind ok.locs (thn (hi pins s σ H _ I h) λv s1 h1=>thn h1 λitv s2 h2=>?_)
 refine Zd4 (R:=λacc C=>compPost (model X.prog X.w) X.A X.xe none (EP X pins σ Q) acc C) hc hg hk he hNx ok cl1 cl2 h2 ?_
 rintro D C H' s' v I' rfl q ⟨m,hm⟩ hn hL h0 hcl' hp
 exact ⟨m,hm,λh' hsb=>⟨.ref D,H',I'.turned (it:=C) (t':=s'.toks) (λb o hb e=>(hsb.2 b hb).trans e) hn hL (.inr h0) hcl' hp,rfl,q⟩⟩
theorem Zhp {kx vx target iter:Expr} {scope:Scope} {pos pos' spos:Pos} {wi:TI} {g:Blk->TG} {tk te:Blk->TE} {i:Nat} {x:Str} (Nx:List Str) (ts:List Str) (ix:List Nat)
  (hc:X.calm=true) (hN:X.N.Nodup) (hix:X.N[i]?=some x) (hx:X.env.scope.names.lookup x=some .local) (hi:PI X target iter wi) (hg:∀ b,PG (aY X (bN Nx ts ix) scope b) target (g b)) (hk:∀ b,PE (aY X (bN Nx ts ix) scope b) kx (tk b)) (he:∀ b,PE (aY X (bN Nx ts ix) scope b) vx (te b))
  (hNx:X.N=Nx) (ok:BlkOk Nx X.env.scope scope ix) (hsw:swapsWith (.DictComp kx vx [⟨target,iter,[],0⟩] scope pos) (some (.Name x pos')) spos.line X.env=pure true) (hs:∀ x,foldedSetIterable iter X.env x=pure x:=by intro _; rfl) :
  PS X (.Assign [.Name x pos'] (.DictComp kx vx [⟨target,iter,[],0⟩] scope pos) spos) (dJ (jl wi ts.length ix g tk te) (eA i)):=by
 intro pins s σ H D0 I h
 obtain ⟨cl,hcl,cl1,cl2⟩:=ku (scope:=scope) (env:=X.env) λy hy hf=>I.ok.has y.1 (ok.frees y hy hf)
 rw [exec_Assign_Name_used _ _ _ _ hsw]
 refine wpAny_bind (wpAny_standAt (wpAny_bind ?_))
 show wpAny _ X.A (do let _ <- comprehension (.DictComp kx vx [⟨target,iter,[],0⟩] scope pos) scope X.env _ newDict false (eval iter X.env) (some (assign (.Name x pos') X.env))) _ _ s
 refine wpAny_bind (thn (wpAny_comprehension_free (use:=some (assign (.Name x pos') X.env)) (Q:=λ_ s'=>SP X pins D0 .next s') rfl hs hcl ok.kind ok.locs (thn (hi pins s σ H _ I h) λv s1 h1=>thn h1 λitv s2 h2=>?_)) λ_ s' hq=>wpAny_pure (wpAny_pure hq))
 refine Zd4 (R:=λacc C=>compPost (model X.prog X.w) X.A X.xe (some (assign (.Name x pos') X.env)) (λ_ s'=>SP X pins D0 .next s') acc C) (Q:=λx H1=>eA i x σ H1 D0.nx) hc hg hk he hNx ok cl1 cl2 h2 ?_
 rintro D C H' s' v I' rfl q ⟨m,hm⟩ hn hL h0 hcl' hp
 show wpAny _ X.A (assign (.Name x pos') X.env (.ref D)) _ _ _
 refine wpAny_assign_Name (oq I' hN hix (.inl hx) (show RelV (.ref D) (.ref D) from rfl) (λs'' I'' hch=>?_) (.inr hx))
 obtain ⟨a,hsb,ha⟩:=hch
 have haC:C≠a:=by
  rcases ha with z | z
  ·rw [z]; exact hL
  ·exact λe=>hcl' _ _ z e.symm
 exact ⟨m,hm.sameBut hsb haC,λh'' hs''=>⟨_,H',I''.turned (it:=C) (t':=s''.toks) (λb o hb e=>(hs''.2 b hb).trans e) hn hL (.inr h0) hcl' hp,q⟩⟩
end
end L2
set_option Elab.async false
set_option linter.all false
set_option maxRecDepth 100000
namespace L2
open PySem PySem.Spec PyProof.Rows
section
variable {PK:Pk} {X:Cx} {e:Expr} {is:List Sl->Tr (List PyData)} {kx i:List Sl->Tr PyData}
noncomputable def fo:List (Int×PyData)->List PyData->Option PyData
 | kvs,[]=>some (dD kvs)
 | kvs,.tuple [.int k,v]::ps=>fo (gf kvs k v) ps
 | _,_=>none
noncomputable def Zd6 (i:List Sl->Tr PyData) (τ:List Sl):PyData->Tr PyData
 | .int z=>(i τ).bind λv=>.ret (.tuple [.int z,v])
 | _=>.fail
noncomputable def gy (kx i:List Sl->Tr PyData) (τ:List Sl):Tr PyData:=(kx τ).bind (Zd6 i τ)
noncomputable def fY (is:List Sl->Tr (List PyData)) (n:Nat) (ix:List Nat) (g:PyData->List Sl->Option (List Sl)) (kx i:List Sl->Tr PyData):List Sl->Tr PyData:=λρ =>
 (is ρ).bind λxs=>if small xs.length=true then (aU (λx=>(Tr.of (g x (blk n ix ρ))).bind (gy kx i)) xs).bind λps=>Tr.of (fo [] ps) else .fail
theorem Zd3 {n:Nat} {ix:List Nat} {g:PyData->List Sl->Option (List Sl)} (hn:eK n g):∀ σ H Q,TAe PK (fY is n ix g kx i) σ H Q->jl (cP PK is) n ix (λ_=>dH PK g) (λ_=>TAe PK kx) (λ_=>TAe PK i) σ H Q:=by
 rintro σ H Q ⟨pa,G₀,H₀,m,ρ,G,R,z⟩
 refine ⟨pa,G₀,H₀,m,ρ,G,R,Tr.ok_mono (Tr.ok_bind.mp z) λm1 xs k J G1 H1 s1 w1 jo=>λB=>?_⟩
 obtain ⟨hs,k⟩:=gl k
 have hs:xs.length<=sizeLine:=of_decide_eq_true hs
 let el:PyData->Tr PyData:=λx=>(Tr.of (g x (blk n ix ρ))).bind (gy kx i)
 let W:Nat->Nat->St->List (bb×V)->Hp->Prop:=λk mm τ ks H2=>mm=xs.length - k/\k<=xs.length/\ks.length<=k/\∃ m G2 kvs,Sub G1 G2/\Stp pa G H G2 H2/\Rl PK pa G₀ H₀ m τ (blk n ix ρ) G2 H2 /\
  KD G2 ks kvs/\((aU el (xs.drop k)).bind λzs=>Tr.of (fo kvs zs)).ok m λm' d=>Kn PK pa m' G H d Q
 refine ⟨W,⟨xs.length,rfl,Nat.zero_le _,Nat.le_refl _,m1,G1,[],.refl,s1,(R.step s1 w1).blk n ix,.nil,k⟩,?_⟩
 rintro k mm τ ks H2 ⟨rfl,hk,hy,m2,G2,kvs,sb,st2,R2,dn,k2⟩
 obtain ⟨j1,j2⟩:=jo m2 G2 H2 sb R2.wd
 by_cases hlt:k < xs.length
 ·have hx:xs[k]?=some xs[k]:=by simp [hlt]
  obtain ⟨jg,jy⟩:=j1 k _ hx
  refine .inr ⟨jg,by omega,λx H3 y=>?_⟩
  obtain ⟨G3,s3,w3,d3⟩:=jy x H3 y
  rw [List.drop_eq_getElem_cons hlt] at k2
  unfold aU at k2
  rw [Tr.ok_bind,Tr.ok_bind,Tr.ok_bind] at k2
  obtain ⟨ρ3,hg3,k3⟩:=Tr.ok_of k2
  refine ⟨pa,G₀,H₀,m2,_,G3,_,ρ3,R2.step s3 w3,d3,hg3,λτ4 R4=>?_⟩
  unfold gy at k3
  refine ⟨pa,G₀,H₀,m2,ρ3,G3,R4,Tr.ok_mono (Tr.ok_bind.mp k3) λm5 kd k5=>?_⟩
  intro v G5 H5 s5 w5 d5
  have s35:=s3.trans s5 w3.some
  obtain ⟨pl,pk⟩:=hn _ _ _ hg3
  obtain ⟨z,rfl,k5⟩:∃ z:Int,kd=.int z/\((i ρ3).bind λv=>Tr.ret (PyData.tuple [.int z,v])).ok m5 λm' y=>((aU el (xs.drop (k+1))).bind λzs=>Tr.ret (y::zs)).ok m' λm' zs=>(Tr.of (fo kvs zs)).ok m' λm'' d=>Kn PK pa m'' G H d Q:=by
   cases kd with
   | int z=>exact ⟨z,rfl,k5⟩
   | _=>exact k5.elim
  have ev:v=.int z:=by cases d5; rfl
  refine ⟨pa,G₀,H₀,m5,ρ3,G5,R4.step s5 w5,Tr.ok_mono (Tr.ok_bind.mp k5) λm6 yd k6=>?_⟩
  intro u G6 H6 s6 w6 d6
  have s56:=s35.trans s6 w5.some
  have k8:((aU el (xs.drop (k+1))).bind λzs=>Tr.of (fo (gf kvs z yd) zs)).ok m6 λm' d=>Kn PK pa m' G H d Q:=by
   have k6':((aU el (xs.drop (k+1))).bind λzs=>Tr.ret (PyData.tuple [.int z,yd]::zs)).ok m6 λm' zs=>(Tr.of (fo kvs zs)).ok m' λm'' d=>Kn PK pa m'' G H d Q:=k6
   rw [Tr.ok_bind] at k6' ⊢
   exact Tr.ok_mono k6' λm' zs q=>q
  refine ⟨z,xs.length - (k+1),ev,by omega,rfl,hlt,by have:=ZcJ ks (Sum.inl z:bb) u; omega,m6,G6,gf kvs z yd,sb.trans s56.gs,st2.trans s56 R2.wd.some,?_,(KD.mono s56.gs dn).put z d6,k8⟩
  refine ((R4.step s5 w5).step s6 w6).weak pl λq sl hq=>?_
  by_cases hqn:q < n
  ·left
   unfold blk at hq
   rw [List.getElem?_append_left (by simpa using hqn),List.getElem?_replicate,if_pos hqn] at hq
   cases hq
   rfl
  ·right
   rw [pk q (Nat.le_of_not_lt hqn)]
   exact hq
 ·have e:k=xs.length:=by omega
  subst e
  refine .inl ⟨j2,λp v H' hp ev eH=>?_⟩
  subst ev eH
  rw [List.drop_length] at k2
  have k2':Kn PK pa m2 G H (dD kvs) Q:=k2
  have k3:=Kn.later k2' st2 R2.wd.some
  refine Kn.dct (ks:=ks) (ds:=kvs.map (·.2)) ?_ R2.wd dn.vals hp
  exact Eq.mpr (congrArg (λz=>Kn PK pa m2 G2 H2 (PyData.dict z) Q) dn.zip) k3
theorem ZnV {n:Nat} {ix:List Nat} {g:PyData->List Sl->Option (List Sl)} (h:PE X e (jl (cP PK is) n ix (λ_=>dH PK g) (λ_=>TAe PK kx) (λ_=>TAe PK i))) (hn:eK n g):PE X e (TAe PK (fY is n ix g kx i)):=h.imp (Zd3 hn)
theorem ZnH {st:Stmt} {n k:Nat} {ix:List Nat} {g:PyData->List Sl->Option (List Sl)} (h:PS X st (dJ (jl (cP PK is) n ix (λ_=>dH PK g) (λ_=>TAe PK kx) (λ_=>TAe PK i)) (eA k))) (hn:eK n g):PS X st (bw PK (aT k (fY is n ix g kx i))) :=
 aZ (h.imp (oh (Zd3 hn)))
end
end L2
set_option Elab.async false
set_option linter.all false
set_option maxRecDepth 100000
namespace Bar
variable (A:Nat->Nat->Int)
noncomputable def bV (f:Nat->Int):Nat->Int
 | 0=>0
 | n+1=>bV f n+f n
end Bar
set_option Elab.async false
set_option linter.all false
set_option maxRecDepth 100000
namespace Tw
open PySem L2
theorem nP {f g:Int->Int}:∀ {l:List Int} {k:Nat},(∀ w∈l,0<=w)->(∀ x:Int,0<=x->f x<=g x)->ws f k l<=ws g k l
 | [],k,_,_=>Int.le_refl _
 | w::l,k,hw,h=>by
  unfold ws
  have h1:=Int.mul_le_mul_of_nonneg_left (h k (by omega)) (hw w (by simp))
  have h2:=nP (l:=l) (k:=k+1) (λv hv=>hw v (List.mem_cons_of_mem _ hv)) h
  omega
theorem gL {f g:Int->Int}:∀ {l:List Int} {k:Nat},ws (λx=>f x+g x) k l=ws f k l+ws g k l
 | [],k=>rfl
 | w::l,k=>by
  unfold ws
  rw [gL (l:=l),Int.mul_add]
  omega
theorem fv {f:Int->Int} {m:Int}:∀ {l:List Int} {k:Nat},ws (λx=>m * f x) k l=m * ws f k l
 | [],k=>by unfold ws; simp
 | w::l,k=>by
  unfold ws
  rw [fv (l:=l)]
  grind
theorem nL {f:Int->Int} {m:Int}:∀ {l:List Int} {k:Nat},ws f k (l.map (m * ·))=m * ws f k l
 | [],k=>by simp [ws]
 | w::l,k=>by
  rw [List.map_cons]
  unfold ws
  rw [nL (l:=l)]
  grind
theorem oj {m:Int}:∀ l:List Int,(l.map (m * ·)).sum=m * l.sum
 | []=>by simp
 | w::l=>by
  rw [List.map_cons,List.sum_cons,List.sum_cons,oj l,Int.mul_add]
noncomputable def Shp.tm (s:Shp) (m:Int):Shp:=⟨s.top,s.depth,m * s.start,m * s.piece,m * s.keep,m * s.lack,m * s.lost,m * s.back,m * s.late⟩
theorem ZeD {g:Int->Int} {top m:Int} (hm:0 < m):∀ n:Nat,bst (λy=>m * g y) top n=(m * (bst g top n).1,(bst g top n).2)
 | 0=>rfl
 | n+1=>by
  unfold bst
  rw [ZeD hm n]
  dsimp only
  by_cases h:(bst g top n).1 < g (top - ((n+1:Nat):Int))
  ·rw [if_pos h,if_pos (Int.mul_lt_mul_of_pos_left h hm)]
  ·rw [if_neg h,if_neg (λz=>h (Int.lt_of_mul_lt_mul_left z (Int.le_of_lt hm)))]
theorem Zcg {g:Int->Int} {top K m x:Int} (hm:0 < m) (hx:x<=top):pck (λy=>m * g y) top (m * K) x=(m * (pck g top K x).1,(pck g top K x).2):=by
 by_cases ht:x=top
 ·subst ht
  rw [gQ,gQ]
 ·obtain ⟨n,hn⟩:∃ n:Nat,x=top - ((n+1:Nat):Int):=⟨(top - x - 1).toNat,by omega⟩
  subst hn
  rw [gR,gR,ZeD hm]
  dsimp only
  rw [<- Int.mul_add]
  by_cases h:K+(bst g top n).1 < g (top - ((n+1:Nat):Int))
  ·rw [if_pos h,if_pos (Int.mul_lt_mul_of_pos_left h hm)]
  ·rw [if_neg h,if_neg (λz=>h (Int.lt_of_mul_lt_mul_left z (Int.le_of_lt hm)))]
theorem Zeb {g:Int->Int} {top K P m x:Int} (hm:0 < m) (hx:x<=top):cst (λy=>m * g y) top (m * K) (m * P) x=m * cst g top K P x:=by
 unfold cst
 rw [Zcg hm hx]
 dsimp only
 rw [Int.mul_sub,Int.mul_assoc]
theorem ZcC {g:Int->Int} {top K m x:Int} (hm:0 < m) (hx:x<=top):lvl (λy=>m * g y) top (m * K) x=lvl g top K x:=by
 unfold lvl
 rw [Zcg hm hx]
theorem Zaw (s:Shp) (m y f:Int):(s.tm m).day y f=m * s.day y f:=by
 unfold Shp.day Shp.tm Shp.nx
 dsimp only
 split <;> grind
theorem ZfI (s:Shp) (m x:Int):(s.tm m).fin x=m * s.fin x:=by
 unfold Shp.fin Shp.tm
 dsimp only
 split <;> grind
theorem qM {g g':Int->Int} {top K K' P P' x:Int} (h:∀ y,x<=y->y<=top->g y=g' y) (hK:K=K') (hP:P=P') (hx:x<=top):cst g top K P x=cst g' top K' P' x:=by
 subst hK hP
 unfold cst
 rw [Zch h hx]
theorem ZcD {g g':Int->Int} {top K K' x:Int} (h:∀ y,x<=y->y<=top->g y=g' y) (hK:K=K') (hx:x<=top):lvl g top K x=lvl g' top K' x:=by
 subst hK
 unfold lvl
 rw [Zch h hx]
theorem oz {t b m:Int} (hb:0 < b) (hm:0 < m):ap (m * t) (m * b)=ap t b:=by
 obtain ⟨p1,p2,p3,p4⟩:=Gc.j7 (t:=t) (b:=b) (by omega)
 have hmb:0 < m * b:=Int.mul_pos hm hb
 obtain ⟨q1,q2,q3,q4⟩:=Gc.j7 (t:=m * t) (b:=m * b) (by omega)
 have hd:Gc.den t b≠0:=Gc.km (by omega)
 have hd':Gc.den (m * t) (m * b)≠0:=Gc.km (by omega)
 have key:Gc.bT (m * t) (m * b) * Gc.bH t b=Gc.bT t b * Gc.bH (m * t) (m * b):=by
  generalize Gc.bT (m * t) (m * b)=T' at *
  generalize Gc.bH (m * t) (m * b)=B' at *
  generalize Gc.bT t b=T at *
  generalize Gc.bH t b=C at *
  generalize Gc.den (m * t) (m * b)=d' at *
  generalize Gc.den t b=d at *
  have e:(T' * C) * (d' * d)=(T * B') * (d' * d):=by
   have e1:(T' * C) * (d' * d)=(d' * T') * (d * C):=by grind
   have e2:(T * B') * (d' * d)=(d * T) * (d' * B'):=by grind
   rw [e1,e2,<- q1,<- p2,<- p1,<- q2]
   grind
  exact Int.eq_of_mul_eq_mul_right (Int.mul_ne_zero hd' hd) e
 obtain ⟨e1,e2⟩:=Gc.Zip q3 p3 q4 p4 key
 unfold ap
 rw [e1,e2]
noncomputable def Shp.ad (s o:Shp):Shp:=⟨s.top,s.depth,s.start+o.start,s.piece+o.piece,s.keep+o.keep,s.lack+o.lack,s.lost+o.lost,s.back+o.back,s.late+o.late⟩
theorem ZnY {s o:Shp} (ed:o.depth=s.depth) (y f:Int):(s.ad o).day y f=s.day y f+o.day y f:=by
 have e1:(s.ad o).nx y f=s.nx y f:=rfl
 have e2:o.nx y f=s.nx y f:=by unfold Shp.nx; rw [ed]
 unfold Shp.day
 rw [e1,e2]
 unfold Shp.ad
 dsimp only
 split <;> grind
theorem ZnX (s o:Shp) (x:Int):(s.ad o).fin x=s.fin x+o.fin x:=by
 unfold Shp.fin Shp.ad
 dsimp only
 split <;> grind
end Tw
set_option Elab.async false
set_option linter.all false
set_option maxRecDepth 100000
namespace Tw
open PySem L2
noncomputable def f9:Nat->List Int->List (Int×Int)
 | _,[]=>[]
 | k,w::l=>if w > 0 then ((k:Int),w)::f9 (k+1) l else f9 (k+1) l
theorem ZgV {lo hi:Int} (h:lo < hi):bc lo hi=.int lo::bc (lo+1) hi:=by
 unfold bc
 have e:(hi - lo).toNat=1+(hi - (lo+1)).toNat:=by omega
 rw [e,ZbH,List.map_append]
 have e1:aI lo 1=[lo]:=by unfold aI; simp
 rw [e1]
 rfl
theorem Zcy {h:PyData->Tr (Option PyData)} {F:Int×Int->PyData}:∀ (l:List Int) (k:Nat),(∀ (i:Nat) (v:Int),l[i]?=some v->h (.int ((k:Int)+i))=.ret (if v > 0 then some (F ((k:Int)+i,v)) else none))->cR h (bc k ((k:Int)+l.length))=.ret ((f9 k l).map F)
 | [],k,_=>by
  have e:bc (k:Int) ((k:Int)+(([]:List Int).length:Int))=[]:=by unfold bc aI; simp
  rw [e]
  rfl
 | w::l,k,hh=>by
  have ih:=Zcy (h:=h) (F:=F) l (k+1) λi v hv=>by
   have:=hh (i+1) v (by rw [List.getElem?_cons_succ]; exact hv)
   have e:(((k+1:Nat)):Int)+(i:Int)=(k:Int)+((i+1:Nat):Int):=by omega
   rw [e]
   exact this
  have h0:=hh 0 w (by simp)
  have e0:(k:Int)+((0:Nat):Int)=k:=by omega
  rw [e0] at h0
  rw [ZgV (by rw [List.length_cons]; omega),cR,h0,Tr.ret_bind]
  have e1:(k:Int)+(((w::l).length:Nat):Int)=((k+1:Nat):Int)+(l.length:Int):=by rw [List.length_cons]; omega
  have e2:(k:Int)+1=((k+1:Nat):Int):=by omega
  have eS:f9 k (w::l)=if w > 0 then ((k:Int),w)::f9 (k+1) l else f9 (k+1) l:=rfl
  rw [e1,e2,ih,Tr.ret_bind,eS]
  by_cases hw:w > 0
  ·rw [if_pos hw,if_pos hw]; rfl
  ·rw [if_neg hw,if_neg hw]; rfl
noncomputable def prd:List (List Int)->Int
 | []=>1
 | d::fs=>prd fs * d.sum
theorem jE (s:Shp):∀ fs:List (List Int),prd fs=(s.bk fs).2
 | []=>rfl
 | d::fs=>by
  show prd fs * d.sum=(s.bk fs).2 * d.sum
  rw [jE s fs]
theorem kU {a:Int}:∀ (l:List Int) (k:Nat),ws (λ_=>a) k l=a * l.sum
 | [],k=>by simp [ws]
 | w::l,k=>by
  unfold ws
  rw [kU l,List.sum_cons,Int.mul_add,Int.mul_comm]
theorem gK {f:Int->Int} {a b:Nat}:∀ {l:List Int} {k:Nat},(∀ w∈l,nb a w)->(∀ x:Int,(k:Int)<=x->x < k+l.length->nb b (f x))->nb (a+b+l.length) (ws f k l)
 | [],k,_,_=>by unfold ws nb; exact Nat.pos_of_ne_zero (by simp)
 | w::l,k,hw,hf=>by
  rw [List.length_cons] at hf ⊢
  have h1:=bz (hw w (by simp)) (hf k (by omega) (by omega))
  have h2:=gK (f:=f) (a:=a) (b:=b) (l:=l) (k:=k+1) (λv hv=>hw v (List.mem_cons_of_mem _ hv)) λx x1 x2=>hf x (by omega) (by omega)
  unfold ws
  exact aN (dl h1 h2) (by omega)
end Tw
set_option Elab.async false
set_option linter.all false
set_option maxRecDepth 100000
namespace Tw
open PySem L2
theorem nM {f g:Int->Int}:∀ {l:List Int} {k:Nat},(∀ w∈l,0<=w)->(∀ x∈b9 k l,f x=g x)->ws f k l=ws g k l
 | [],k,_,_=>rfl
 | w::l,k,h0,h=>by
  unfold b9 at h
  unfold ws
  by_cases hw:w > 0
  ·rw [if_pos hw] at h
   rw [h k (by simp),nM (l:=l) (k:=k+1) (λv hv=>h0 v (List.mem_cons_of_mem _ hv)) λx hx=>h x (List.mem_cons_of_mem _ hx)]
  ·rw [if_neg hw] at h
   have:=h0 w (by simp)
   have e:w=0:=by omega
   rw [e,Int.zero_mul,Int.zero_mul,nM (l:=l) (k:=k+1) (λv hv=>h0 v (List.mem_cons_of_mem _ hv)) h]
theorem gO (d:List Int) (fs:List (List Int)):reach (d::fs)=great d+reach fs:=by
 unfold reach
 rw [List.map_cons,List.sum_cons]
theorem fF:∀ {fs:List (List Int)},(∀ l∈fs,∃ n∈l,n > 0)->0<=reach fs
 | [],_=>by decide
 | d::fs,h=>by
  have:=fF (fs:=fs) λl hl=>h l (List.mem_cons_of_mem _ hl)
  have h1:=(gT (k9 (k:=0) (h d (by simp)))).1
  have h2:=jn h1
  rw [gO]
  unfold great
  omega
theorem ZaP:∀ (l:List Int) (k:Nat),(f9 k l).map (λq=>PyData.int q.1)=(b9 k l).map PyData.int
 | [],k=>rfl
 | w::l,k=>by
  have ih:=ZaP l (k+1)
  unfold f9 b9
  by_cases hw:w > 0
  ·rw [if_pos hw,if_pos hw,List.map_cons,List.map_cons,ih]
  ·rw [if_neg hw,if_neg hw,ih]
end Tw
set_option Elab.async false
set_option linter.all false
set_option maxRecDepth 100000
namespace Tw
open PySem L2
end Tw
set_option Elab.async false
set_option linter.all false
set_option maxRecDepth 100000
namespace Tw
open PySem PySem.Spec PyProof.Rows L2
end Tw
set_option Elab.async false
set_option linter.all false
set_option maxRecDepth 100000
namespace Tw
open PySem PySem.Spec PyProof.Rows L2
theorem Zdg {d:List Int} {f:Int} (h:f∈b9 0 d):f<=great d:=by
 unfold great
 exact (gT (List.ne_nil_of_mem h)).2 f h
end Tw
set_option Elab.async false
set_option linter.all false
set_option maxRecDepth 100000
namespace L2
open PySem PySem.Spec PyProof.Rows
end L2
set_option Elab.async false
set_option linter.all false
set_option maxRecDepth 100000
namespace L2
open PySem PySem.Spec PyProof.Rows
noncomputable def Zca (c:Addr) (at' left:Int):HO:=.lst [.ref c,.int at',.int left]
structure Pen2 (H:Hp) (p c:Addr) (ns:List Int) (m:Nat):Prop where
 ex:∃ (k:Nat) (left:Int),H p=some (Zca c k left)/\k<=m/\0<=left
 cells:H c=some (.lst (ns.map V.int))
 len:ns.length<=63
 ne:c≠p
noncomputable def ZaN:Sp:=λvs H Q _=>∃ (p c:Addr) (ns:List Int) (m:Nat) (most:Int),vs=[.ref p,.int most]/\Pen2 H p c ns m/\m<=500000/\0 < most/\most < 1073741824 /\
 ∀ (r:Int) (H':Hp),0<=r->r < most->Pen2 H' p c ns (m+1)->Kept p H H'->Q (.int r) H'
noncomputable def Zgb (K:PySem.W.Frag):Sp:=λvs H Q _=>∃ (a:Addr) (ns:List Int),vs=[.ref a]/\SqL K H a (ns.map V.int)/\ns.length<=63 /\
 ∀ (p c:Addr) (H':Hp),H p=none->Pen2 H' p c ns 0->Same H H'->Q (.ref p) H'
noncomputable def br (cn:Addr×List Int):Pk where
 is:=λo G m=>∃ (k:Nat) (left:Int),o=Zca cn.1 k left/\k<=m/\0<=left/\G cn.1=some (.lst (cn.2.map V.int))/\cn.2.length<=63
 mono:=λs ⟨k,left,e,h1,h2,h3,h4⟩=>⟨k,left,e,h1,h2,s _ _ h3,h4⟩
theorem Zhn {ι:Type} {X:Cx} {e:List Stmt} {t:ι->TS} (h:∀ i,PSs X e (t i)):PSs X e (λD σ H=>∃ i,t i D σ H):=λpins s σ H D I z=>by
 obtain ⟨i,z⟩:=z
 exact h i pins s σ H D I z
noncomputable def mi:List Sl->Tr Re:=λas=>match as with
 | [.pen,.d (.int most)]=>.draw most λr=>.ret (.d (.int r))
 | _=>.fail
theorem ZdQ {as:List Sl} {m:Nat} {Z:Nat->Re->Prop} (h:(mi as).ok m Z):∃ most,as=[.pen,.d (.int most)]:=by
 unfold mi at h
 split at h
 ·exact ⟨_,rfl⟩
 ·exact h.elim
theorem Zl8 {cn:Addr×List Int} {P:Program} {w:World} {K:PySem.W.Frag} {mg:Str->Option Value} {base:Heap} {x:Str} {k:Nat} {ps:List Str} (hp:ps.length=2) (C:Callee P w K mg base x k ps ZaN):ACal (br cn) P w K mg base x k ps mi:=by
 refine ⟨?_,λas m Z h=>by obtain ⟨most,rfl⟩:=ZdQ h; exact hp.symm⟩
 obtain ⟨f,fd,F,hm,hk,hb⟩:=C.ex
 refine ⟨f,fd,F.imp λvs H Q E h=>?_,hm,hk,hb⟩
 obtain ⟨hv,pa,m,G,as,wd,ar,z⟩:=h
 obtain ⟨most,rfl⟩:=ZdQ z
 obtain ⟨h1,h2,h3,h4⟩:=z
 cases ar with
 | cons a1 ar =>
  cases ar with
  | cons a2 ar =>
   cases ar
   cases a1
   cases a2 with
   | d d2 =>
    cases d2
    obtain ⟨c,ns⟩:=cn
    obtain ⟨o,ho,kk,left,rfl,q1,q2,q3,q4⟩:=wd.pen
    replace q3:G c=some (.lst (ns.map V.int)):=q3
    have ncp:c≠pa:=λz=>by rw [z,wd.gpa] at q3; cases q3
    refine ⟨pa,c,ns,m,most,rfl,⟨⟨kk,left,ho,q1,q2⟩,wd.sub _ _ q3,q4,ncp⟩,by omega,h2,h3,λr H' r0 r1 P' K'=>?_⟩
    refine h4 r r0 r1 (.int r) G H' ⟨λ_ _ q=>q,λ_ _ q=>.inl q,λb o e n=>K' b o e n⟩ ⟨λb o e=>K' b o (wd.sub b o e) (λz=>by subst z; rw [wd.gpa] at e; cases e),wd.gpa,?_⟩ (.int r)
    obtain ⟨⟨k2,l2,e2,g1,g2⟩,_,_,_⟩:=P'
    exact ⟨_,e2,k2,l2,rfl,g1,g2,q3,q4⟩
noncomputable def ZaM:PySem.W.Frag->Sp:=λK vs H Q _=>∃ (a:Addr) (ns:List Int),vs=[.ref a]/\SqL K H a (ns.map V.int)/\ns.length<=63/\∀ H',Q (.bl true) H'
theorem Ziy {D:Ends} {p c:Addr} {ns:List Int} {H:Hp} {σ:St} {s:List Sl->Tr Ou} {n:Nat} (P:Pen2 H p c ns 0) (hσ:σ.length=n+2) (h1:σ[1]?=some (some (.ref p))) (hrt:∀ H',D.rt (.bl true) H')
  (h:(s (.un::.pen::List.replicate n .un)).ok 0 λ_ o=>o=.ret (.d (.bool true))):∃ cn,bw (br cn) s D σ H:=by
 obtain ⟨⟨k,l,e,hk,hl⟩,hc,hn,ncp⟩:=P
 have npc:p≠c:=Ne.symm ncp
 have key:∀ (i:Nat) (sl:Sl),(Sl.un::.pen::List.replicate n .un)[i]?=some sl->sl=.un\/(i=1/\sl=.pen):=λi sl hi=>by
  match i with
  | 0=>simp at hi; exact .inl hi.symm
  | 1=>simp at hi; exact .inr ⟨rfl,hi.symm⟩
  | i+2 =>
   simp [List.getElem?_replicate] at hi
   exact .inl hi.2.symm
 refine ⟨(c,ns),p,λb=>if b=c then H c else none,H,0,_,λb=>if b=c then H c else none,⟨⟨λb o hb=>?_,if_neg npc,?_⟩,.refl,⟨_,e⟩,λi sl hi=>?_,by simp [hσ],λi j xs ys _ hi _=>?_,λi j xs ys _ hi _=>by rcases key i _ hi with z | ⟨_,z⟩ <;> cases z⟩,Tr.ok_mono h λm o ho=>?_⟩
 ·by_cases hbc:b=c
  ·subst hbc; simpa using hb
  ·simp [hbc] at hb
 ·exact ⟨_,e,k,l,rfl,hk,hl,by simp [hc],hn⟩
 ·have hlt:i < σ.length:=by
   have:=(List.getElem?_eq_some_iff.mp hi).1
   simp at this
   omega
  rcases key i sl hi with rfl | ⟨rfl,rfl⟩
  ·exact ⟨σ[i],by simp [hlt],.un⟩
  ·exact ⟨_,h1,.pen⟩
 ·rcases key i _ hi with z | ⟨_,z⟩ <;> cases z
 ·subst ho
  intro v G H' s' w' d
  cases (show Dn G v (.bool true) from d)
  exact hrt H'
end L2
set_option Elab.async false
set_option linter.all false
set_option maxRecDepth 100000
namespace My
open PySem PySem.Spec PyProof.Rows L2
noncomputable def top (i:Nat):Stmt:=PySem.Challenge.pw_twomarks_k45_later_and_dearer.main.body.getD i (.Pass ⟨0,0,0,0⟩)
noncomputable abbrev Zbg:Stmt:=top 5
noncomputable abbrev Zol:List Str:=["one","other"]
theorem oE:FnScope Zol ["one","other"] (aG Zbg):=⟨rfl,rfl,rfl,by decide +kernel,rfl,by decide +kernel,by decide +kernel⟩
noncomputable abbrev Za8:Stmt:=top 6
noncomputable abbrev Zoe:List Str:=["top","bottom","divisor"]
theorem oC:FnScope Zoe ["top","bottom"] (aG Za8):=⟨rfl,rfl,rfl,by decide +kernel,rfl,by decide +kernel,by decide +kernel⟩
noncomputable abbrev Za6:Stmt:=top 17
noncomputable abbrev Zoc:List Str:=["shop"]
theorem Zgw:FnScope Zoc ["shop"] (aG Za6):=⟨rfl,rfl,rfl,by decide +kernel,rfl,by decide +kernel,by decide +kernel⟩
noncomputable abbrev oO:Stmt:=top 18
noncomputable abbrev kQ:List Str:=["day"]
theorem Zgz:FnScope kQ ["day"] (aG oO):=⟨rfl,rfl,rfl,by decide +kernel,rfl,by decide +kernel,by decide +kernel⟩
noncomputable abbrev Zbb:Stmt:=top 19
noncomputable abbrev Zog:List Str:=["shop","level","fall"]
theorem Zgx:FnScope Zog ["shop","level","fall"] (aG Zbb):=⟨rfl,rfl,rfl,by decide +kernel,rfl,by decide +kernel,by decide +kernel⟩
noncomputable abbrev Zbe:Stmt:=top 20
noncomputable abbrev Zoj:List Str:=["shop","level","fall","stock","sold_never","held"]
theorem lf:FnScope Zoj ["shop","level","fall"] (aG Zbe):=⟨rfl,rfl,rfl,by decide +kernel,rfl,by decide +kernel,by decide +kernel⟩
noncomputable abbrev Zbd:Stmt:=top 21
noncomputable abbrev Zoi:List Str:=["shop","stock"]
theorem ZgC:FnScope Zoi ["shop","stock"] (aG Zbd):=⟨rfl,rfl,rfl,by decide +kernel,rfl,by decide +kernel,by decide +kernel⟩
noncomputable abbrev oQ:Stmt:=top 23
noncomputable abbrev nA:List Str:=["shop"]
theorem ZgB:FnScope nA ["shop"] (aG oQ):=⟨rfl,rfl,rfl,by decide +kernel,rfl,by decide +kernel,by decide +kernel⟩
noncomputable abbrev Za5:Stmt:=top 24
noncomputable abbrev Zob:List Str:=["shop","day","level","ahead","scale","total","fall","weight","following"]
theorem ii:FnScope Zob ["shop","day","level","ahead","scale"] (aG Za5):=⟨rfl,rfl,rfl,by decide +kernel,rfl,by decide +kernel,by decide +kernel⟩
noncomputable abbrev oM:Stmt:=top 26
noncomputable abbrev nv:List Str:=["shop","day","ahead","scale","own_scale"]
theorem Za2:FnScope nv ["shop","day","ahead","scale"] (aG oM):=⟨rfl,rfl,rfl,by decide +kernel,rfl,by decide +kernel,by decide +kernel⟩
noncomputable abbrev Zbh:Stmt:=top 27
noncomputable abbrev Zom:List Str:=["shop","low","by_level","scale","picks","best","stock","own","cost","level"]
theorem ga:FnScope Zom ["shop","low","by_level","scale"] (aG Zbh):=⟨rfl,rfl,rfl,by decide +kernel,rfl,by decide +kernel,by decide +kernel⟩
noncomputable abbrev Zbi:Stmt:=top 28
noncomputable abbrev Zon:List Str:=["shop","by_level","scale"]
theorem ZgD:FnScope Zon ["shop","by_level","scale"] (aG Zbi):=⟨rfl,rfl,rfl,by decide +kernel,rfl,by decide +kernel,by decide +kernel⟩
noncomputable abbrev li:Stmt:=top 29
noncomputable abbrev f7:List Str:=["shop","falls","days","ahead","scale","day","by_level","picks"]
theorem fE:FnScope f7 ["shop","falls"] (aG li):=⟨rfl,rfl,rfl,by decide +kernel,rfl,by decide +kernel,by decide +kernel⟩
noncomputable abbrev oP:Stmt:=top 31
noncomputable abbrev nz:List Str:=["shop","falls","t"]
theorem ZgA:FnScope nz ["shop","falls","t"] (aG oP):=⟨rfl,rfl,rfl,by decide +kernel,rfl,by decide +kernel,by decide +kernel⟩
noncomputable abbrev Zbj:Stmt:=top 33
noncomputable abbrev Zoo:List Str:=["shop","falls","stock"]
theorem ZgE:FnScope Zoo ["shop","falls","stock"] (aG Zbj):=⟨rfl,rfl,rfl,by decide +kernel,rfl,by decide +kernel,by decide +kernel⟩
noncomputable abbrev Za9:Stmt:=top 34
noncomputable abbrev Zof:List Str:=["days","scale","day"]
theorem ld:FnScope Zof ["days"] (aG Za9):=⟨rfl,rfl,rfl,by decide +kernel,rfl,by decide +kernel,by decide +kernel⟩
noncomputable abbrev Za4:Stmt:=top 35
noncomputable abbrev Zoa:List Str:=["days","weights","day","longer","fallen","weight","fall","own"]
theorem fA:FnScope Zoa ["days"] (aG Za4):=⟨rfl,rfl,rfl,by decide +kernel,rfl,by decide +kernel,by decide +kernel⟩
noncomputable abbrev oJ:Stmt:=top 36
noncomputable abbrev kO:List Str:=["shop","weights","stock"]
theorem Zgu:FnScope kO ["shop","weights","stock"] (aG oJ):=⟨rfl,rfl,rfl,by decide +kernel,rfl,by decide +kernel,by decide +kernel⟩
noncomputable abbrev oI:Stmt:=top 37
noncomputable abbrev kN:List Str:=["shop","weights","stock"]
theorem Zgt:FnScope kN ["shop","weights","stock"] (aG oI):=⟨rfl,rfl,rfl,by decide +kernel,rfl,by decide +kernel,by decide +kernel⟩
noncomputable abbrev oK:Stmt:=top 38
noncomputable abbrev kP:List Str:=["day","ahead","level"]
theorem Zgv:FnScope kP ["day","ahead","level"] (aG oK):=⟨rfl,rfl,rfl,by decide +kernel,rfl,by decide +kernel,by decide +kernel⟩
noncomputable abbrev Zbf:Stmt:=top 39
noncomputable abbrev Zok:List Str:=["shop","falls","days","ahead","low","scale","later","weights","by_level","level","total"]
theorem gN:FnScope Zok ["shop","falls","days","ahead","low"] (aG Zbf):=⟨rfl,rfl,rfl,by decide +kernel,rfl,by decide +kernel,by decide +kernel⟩
noncomputable abbrev oN:Stmt:=top 40
noncomputable abbrev nw:List Str:=["falls","t","stock"]
theorem Zgy:FnScope nw ["falls","t","stock"] (aG oN):=⟨rfl,rfl,rfl,by decide +kernel,rfl,by decide +kernel,by decide +kernel⟩
noncomputable abbrev oR:Stmt:=top 41
noncomputable abbrev nC:List Str:=["shop","falls","orders","stock","weights","low"]
theorem oD:FnScope nC ["shop","falls","orders","stock"] (aG oR):=⟨rfl,rfl,rfl,by decide +kernel,rfl,by decide +kernel,by decide +kernel⟩
noncomputable abbrev lh:Stmt:=top 42
noncomputable abbrev fu:List Str:=["shop","falls","days","stock","orders","ahead","told","t","low","scale","picks"]
theorem fB:FnScope fu ["shop","falls","days","stock"] (aG lh):=⟨rfl,rfl,rfl,by decide +kernel,rfl,by decide +kernel,by decide +kernel⟩
noncomputable abbrev Zbc:Stmt:=top 43
noncomputable abbrev Zoh:List Str:=["shop","falls","days","stock","told","total","t"]
theorem jr:FnScope Zoh ["shop","falls","days","stock"] (aG Zbc):=⟨rfl,rfl,rfl,by decide +kernel,rfl,by decide +kernel,by decide +kernel⟩
noncomputable abbrev Za7:Stmt:=top 44
noncomputable abbrev Zod:List Str:=["shop","falls","days","stock","told","total"]
theorem oB:FnScope Zod ["shop","falls","days","stock"] (aG Za7):=⟨rfl,rfl,rfl,by decide +kernel,rfl,by decide +kernel,by decide +kernel⟩
noncomputable abbrev Zbm:Stmt:=top 46
noncomputable abbrev Zor:List Str:=["_law_script"]
theorem ZgH:FnScope Zor ["_law_script"] (aG Zbm):=⟨rfl,rfl,rfl,by decide +kernel,rfl,by decide +kernel,by decide +kernel⟩
noncomputable abbrev Zbo:Stmt:=top 47
noncomputable abbrev Zot:List Str:=["_law_pen_here","_law_many","_law_digit","_law_at","_law_cell","_law_mixed"]
theorem ik:FnScope Zot ["_law_pen_here","_law_many"] (aG Zbo):=⟨rfl,rfl,rfl,by decide +kernel,rfl,by decide +kernel,by decide +kernel⟩
noncomputable abbrev oX:Stmt:=top 48
noncomputable abbrev nF:List Str:=["_law_pen_here","_law_most","_law_behind","_law_bound","_law_weights"]
theorem lg:FnScope nF ["_law_pen_here","_law_most"] (aG oX):=⟨rfl,rfl,rfl,by decide +kernel,rfl,by decide +kernel,by decide +kernel⟩
noncomputable abbrev oV:Stmt:=top 49
noncomputable abbrev jh:List Str:=["_law_falls"]
theorem ZgJ:FnScope jh ["_law_falls"] (aG oV):=⟨rfl,rfl,rfl,by decide +kernel,rfl,by decide +kernel,by decide +kernel⟩
noncomputable abbrev oT:Stmt:=top 50
noncomputable abbrev nE:List Str:=["_law_pen_here","_law_bound","_law_found"]
theorem oG:FnScope nE ["_law_pen_here"] (aG oT):=⟨rfl,rfl,rfl,by decide +kernel,rfl,by decide +kernel,by decide +kernel⟩
noncomputable abbrev oY:Stmt:=top 51
noncomputable abbrev nG:List Str:=["_law_pen_here","_law_falls","_law_more","_law_top","_law_depth","_law_stock"]
theorem il:FnScope nG ["_law_pen_here"] (aG oY):=⟨rfl,rfl,rfl,by decide +kernel,rfl,by decide +kernel,by decide +kernel⟩
noncomputable abbrev Zbn:Stmt:=top 52
noncomputable abbrev Zos:List Str:=["_law_one","_law_other"]
theorem ZgI:FnScope Zos ["_law_one","_law_other"] (aG Zbn):=⟨rfl,rfl,rfl,by decide +kernel,rfl,by decide +kernel,by decide +kernel⟩
noncomputable abbrev Zbl:Stmt:=top 53
noncomputable abbrev Zoq:List Str:=["_law_top","_law_bottom","_law_one","_law_other"]
theorem oF:FnScope Zoq ["_law_top","_law_bottom"] (aG Zbl):=⟨rfl,rfl,rfl,by decide +kernel,rfl,by decide +kernel,by decide +kernel⟩
noncomputable abbrev Zbk:Stmt:=top 54
noncomputable abbrev Zop:List Str:=["_law_cost","_law_many"]
theorem ZgF:FnScope Zop ["_law_cost","_law_many"] (aG Zbk):=⟨rfl,rfl,rfl,by decide +kernel,rfl,by decide +kernel,by decide +kernel⟩
noncomputable abbrev oS:Stmt:=top 55
noncomputable abbrev nD:List Str:=["_law_shop","_law_many"]
theorem ZgG:FnScope nD ["_law_shop","_law_many"] (aG oS):=⟨rfl,rfl,rfl,by decide +kernel,rfl,by decide +kernel,by decide +kernel⟩
noncomputable abbrev oU:Stmt:=top 56
noncomputable abbrev kR:List Str:=["_law_shop","_law_falls","_law_stock","_law_costs","_law_days"]
theorem oH:FnScope kR ["_law_shop","_law_falls","_law_stock"] (aG oU):=⟨rfl,rfl,rfl,by decide +kernel,rfl,by decide +kernel,by decide +kernel⟩
noncomputable abbrev oW:Stmt:=top 57
noncomputable abbrev kS:List Str:=["_law_shop","_law_other","_law_falls","_law_days","_law_stock","_law_both","_law_one","_law_more","_law_there"]
theorem js:FnScope kS ["_law_shop","_law_other","_law_falls","_law_days","_law_stock"] (aG oW):=⟨rfl,rfl,rfl,by decide +kernel,rfl,by decide +kernel,by decide +kernel⟩
noncomputable abbrev ll:Stmt:=top 58
noncomputable abbrev dW:List Str:=["_law_shop","_law_falls","_law_days","_law_stock","_law_many","_law_weights","_law_cost","_law_table","_law_dear","_law_due","_law_thick"]
theorem ij:FnScope dW ["_law_shop","_law_falls","_law_days","_law_stock","_law_many","_law_weights"] (aG ll):=⟨rfl,rfl,rfl,by decide +kernel,rfl,by decide +kernel,by decide +kernel⟩
noncomputable abbrev lj:Stmt:=top 59
noncomputable abbrev ny:List Str:=["_law_script","_law_pen_here","_law_turn","_law_many","_law_shop","_law_falls","_law_stock","_law_other","_law_weights","_law_days"]
theorem fe:FnScope ny ["_law_script"] (aG lj):=⟨rfl,rfl,rfl,by decide +kernel,rfl,by decide +kernel,by decide +kernel⟩
structure Txt (K:PySem.W.Frag) (mg:Str->Option Value):Prop where
 fO:mg "len"=none
 iA:mg "abs"=none
 jN:mg "max"=none
 lU:mg "min"=none
 iz:mg "repr"=none
 Zh7:mg "list"=none
 dw:mg "tuple"=none
 eu:mg "range"=none
 pT:mg "zip"=none
 fN:mg "sum"=none
 Zh8:mg "all"=none
 gm:mg "enumerate"=none
 Zox:mg "ValueError"=none
 pU:mg "reversed"=none
 kg:∃ t,mg "TOP"=some (.int 0 t)
 kh:∃ t,mg "DEPTH"=some (.int 1 t)
 Zi8:∃ t,mg "START"=some (.int 2 t)
 qw:∃ t,mg "PIECE"=some (.int 3 t)
 Zjc:∃ t,mg "KEEP"=some (.int 4 t)
 Zjb:∃ t,mg "LACK"=some (.int 5 t)
 Zi9:∃ t,mg "LOST"=some (.int 6 t)
 Zjd:∃ t,mg "BACK"=some (.int 7 t)
 Zja:∃ t,mg "LATE"=some (.int 8 t)
 ZmA:Def K mg "common_divisor" Zbg ["one","other"]
 Zmk:Def K mg "share" Za8 ["top","bottom"]
 Zmh:Def K mg "stocks" Za6 ["shop"]
 Zms:Def K mg "greatest_seen" oO ["day"]
 Zmm:Def K mg "next_stock" Zbb ["shop","level","fall"]
 Zmy:Def K mg "day_cost" Zbe ["shop","level","fall"]
 Zmw:Def K mg "end_cost" Zbd ["shop","stock"]
 Zmv:Def K mg "end_costs" oQ ["shop"]
 Zmg:Def K mg "weighed" Za5 ["shop","day","level","ahead","scale"]
 Zmn:Def K mg "level_sums" oM ["shop","day","ahead","scale"]
 ZmB:Def K mg "cheapest_from" Zbh ["shop","low","by_level","scale"]
 ZmC:Def K mg "cheapest" Zbi ["shop","by_level","scale"]
 Zmq:Def K mg "least" li ["shop","falls"]
 Zmu:Def K mg "free_from" oP ["shop","falls","t"]
 ZmD:Def K mg "ask_free" Zbj ["shop","falls","stock"]
 Zml:Def K mg "scale_of" Za9 ["days"]
 Zmc:Def K mg "weights_together" Za4 ["days"]
 Zme:Def K mg "weighed_day" oJ ["shop","weights","stock"]
 Zmd:Def K mg "weighed_end" oI ["shop","weights","stock"]
 Zmf:Def K mg "weighed_ahead" oK ["day","ahead","level"]
 Zmz:Def K mg "counted_sums" Zbf ["shop","falls","days","ahead","low"]
 Zmp:Def K mg "least_counted" oN ["falls","t","stock"]
 Zmx:Def K mg "end_ahead" oR ["shop","falls","orders","stock"]
 Zmj:Def K mg "short_days" lh ["shop","falls","days","stock"]
 Zmo:Def K mg "least_late" Zbc ["shop","falls","days","stock"]
 Zmi:Def K mg "short_table" Za7 ["shop","falls","days","stock"]
 ZmJ:Def K mg "_law_pen" Zbm ["_law_script"]
 ZmN:Def K mg "_law_draw" Zbo ["_law_pen_here","_law_many"]
 ZmP:Def K mg "_law_day" oX ["_law_pen_here","_law_most"]
 ZmM:Def K mg "_law_greatest" oV ["_law_falls"]
 ZmI:Def K mg "_law_prices" oT ["_law_pen_here"]
 ZmQ:Def K mg "_law_asked" oY ["_law_pen_here"]
 ZmK:Def K mg "_law_no_more" Zbn ["_law_one","_law_other"]
 ZmG:Def K mg "_law_share" Zbl ["_law_top","_law_bottom"]
 ZmF:Def K mg "_law_times" Zbk ["_law_cost","_law_many"]
 ZmH:Def K mg "_law_prices_times" oS ["_law_shop","_law_many"]
 ZmL:Def K mg "_law_later_right" oU ["_law_shop","_law_falls","_law_stock"]
 ZmO:Def K mg "_law_dearer_right" oW ["_law_shop","_law_other","_law_falls","_law_days","_law_stock"]
 ZmE:Def K mg "_law_times_right" ll ["_law_shop","_law_falls","_law_days","_law_stock","_law_many","_law_weights"]
 Zmr:Def K mg "law" lj ["_law_script"]
theorem Zm2 (ns:List Int) (a:Nat) (h:ns≠[]):∃ z:Int,bp (ns.map V.int) ((a:Int) % ((ns.map V.int).length:Nat))=some (.int z):=by
 have hl:0 < ns.length:=List.length_pos_iff.mpr h
 have hl':(ns.map V.int).length=ns.length:=List.length_map ..
 have e:(a:Int) % ((ns.map V.int).length:Nat)=((a % ns.length:Nat):Int):=by rw [hl']; omega
 have hlt:a % ns.length < ns.length:=Nat.mod_lt _ hl
 rw [e]
 exact ⟨ns[a % ns.length],eX (by rw [List.getElem?_map,List.getElem?_eq_getElem hlt]; rfl)⟩
section
variable {P:Program} {w:World} {K:PySem.W.Frag} {mg:Str->Option Value} {base:Heap}
theorem ZhW (T:Txt K mg):Callee P w K mg base "_law_pen" 1 ["_law_script"] (Zgb K):=by
 refine T.ZmJ.ok ZgH (λvs H Q E h=>?_) (λf cdv A outer s H vs Q E hr h=>?_)
 ·obtain ⟨a,ns,rfl,_⟩:=h
  rfl
 ·obtain ⟨a,ns,rfl,hS,hlen,k⟩:=h
  have hu:=kb hr
  refine ⟨_,(iu (gg (Zcc (ci (cJ (Znb) rfl T.Zh7 boot_list (ci (Zcb ZaV (pv 0) Zb9 (Zb8 bL)) cu)) (ci bL (ci bL cu)))))),?_⟩
  refine ⟨_,rfl,63,rfl,a,_,rfl,hS,λq hq=>⟨q,_,rfl,Or.inl (SqL.of bW),λc hc=>⟨by show 3<=sizeLine; decide,λp hp=>?_⟩⟩⟩
  have hcut:eB (ns.map V.int) none (some 63)=ns.map V.int:=by
   unfold eB
   have e:HT.aJ (ns.map V.int).length (ns.map V.int).length (some 63)=(ns.map V.int).length:=by
    have q:=HT.oZ (ns.map V.int).length (ns.map V.int).length 63
    rw [List.length_map] at q ⊢
    exact q.trans (Nat.min_eq_right hlen)
   rw [e]
   show ((ns.map V.int).drop 0).take ((ns.map V.int).length - 0)=_
   rw [List.drop_zero,Nat.sub_zero,List.take_length]
  have s1:Same H (upd H q (.lst (eB (ns.map V.int) none (some 63)))):=(Same.refl _).new hq
  have s2:=s1.new (o:=.lst (eB (ns.map V.int) none (some 63))) hc
  have s3:=s2.new (o:=.lst [.ref c,.int 0,.int 0]) hp
  have npc:c≠p:=λz=>by
   rw [<- z,bW] at hp
   cases hp
  refine k p c _ (s2.free hp) ⟨⟨0,0,bW,Nat.le_refl _,Int.le_refl _⟩,?_,hlen,npc⟩ s3
  rw [aM npc,bW,hcut]
theorem Zny {z a:Int} (h3:0<=a) (h4:a<=500000):(z % 2147483629+39019 * a+59).natAbs < 2 ^ 64:=by
 have:=Int.emod_nonneg z (by decide:(2147483629:Int)≠0)
 have:=Int.emod_lt_of_pos z (by decide:(0:Int) < 2147483629)
 omega
theorem ZhY (T:Txt K mg):Callee P w K mg base "_law_draw" 1 ["_law_pen_here","_law_many"] ZaN:=by
 refine T.ZmN.ok ik (λvs H Q E h=>?_) (λf cdv A outer s H vs Q E hr h=>?_)
 ·obtain ⟨p,c,ns,m,most,rfl,_⟩:=h
  rfl
 ·obtain ⟨p,c,ns,m,most,rfl,hP,hm,h0,h1,k⟩:=h
  have hu:=kb hr
  refine ⟨_,(eh (lK (jD gj (eR eU (pv 0) bL (λ_ _=>rfl)) bL (nomark _)) (eh (aR (i:=2) ik.nd rfl (Or.inl rfl) (ce gi (eR eU (pv 0) bL (λ_ _=>rfl)) (pv 1)))
 (eh (fI (ce pM (eR eU (pv 0) bL (λ_ _=>rfl)) (pv 1)) (jG (pv 0) bL ig))
 (iu (gg (pv 2))))) lG)
 (eh (aR (i:=3) ik.nd rfl (Or.inl rfl) (eR eU (pv 0) bL (λ_ _=>rfl)))
 (eh (fI (ce gS (pv 3) bL) (jG (pv 0) bL ig))
 (eh (aR (i:=4) ik.nd rfl (Or.inl rfl) (ce gS (ce pK bL (pv 3)) bL))
 (eh (PS.join (lK (jD gj (bu (fX) rfl T.fO boot_len (ci (eR eU (pv 0) bL (λ_ _=>rfl)) cu)) bL (nomark _)) (iu (aR (i:=4) ik.nd rfl (Or.inl rfl) (eR eU (eR eU (pv 0) bL (λ_ _=>rfl)) (ce gi (pv 3) (bu (fX) rfl T.fO boot_len (ci (eR eU (pv 0) bL (λ_ _=>rfl)) cu))) (λ_ _=>rfl)))) lG))
 (eh (lK (PT.join (PW.pt (Zhk (jD pL (pv 3) (bu (fX) rfl T.fO boot_len (ci (eR eU (pv 0) bL (λ_ _=>rfl)) cu)) (nomark _)) (Zhj (jD ZhQ (bu (iW) rfl T.iA boot_abs (ci (pv 4) cu)) (ce pJ bL bL) (nomark _)))))) (eh (fI (ce pM (bu (iW) rfl T.iA boot_abs (ci (pv 4) cu)) (pv 1)) (jG (pv 0) bL ig))
 (iu (gg (ce gi (bu (iW) rfl T.iA boot_abs (ci (pv 4) cu)) (pv 1))))) lG)
 (eh (aR (i:=5) ik.nd rfl (Or.inl rfl) (ce gi (ce pJ (ce gS (ce gS (ce gi (pv 4) bL) (ce pK bL (pv 3))) bL) bL) bL))
 (iu (gg (ce gi (ce pM (ce gi (ce pK (pv 5) (ce gS (ce gS (ce gi (pv 5) bL) (pv 3)) bL)) bL) bL) (pv 1))))))))))),?_⟩
  obtain ⟨⟨a,l,hd,ha,hl⟩,hc,hn,npc⟩:=hP
  have hd':H p=some (.lst [.ref c,.int a,.int l]):=hd
  have x2:bp [V.ref c,.int (a:Int),.int l] 2=some (.int l):=qY
  have x1:bp [V.ref c,.int (a:Int),.int l] 1=some (.int (a:Int)):=mT
  refine ⟨_,rfl,p,_,_,_,rfl,rfl,SqL.of hd',x2,_,_,rfl,rfl,_,rfl,?_⟩
  refine mz (λhz=>?_) (λhz=>?_)
  ·refine ⟨_,rfl,p,_,_,_,rfl,rfl,SqL.of hd',x2,_,rfl,_,_,rfl,rfl,h0,?_⟩
   refine ⟨_,rfl,p,_,_,_,rfl,rfl,SqL.of hd',x2,_,rfl,_,_,rfl,rfl,⟨h0,h1⟩,_,rfl,p,_,2,2,rfl,rfl,hd',rfl,?_⟩
   refine ⟨_,rfl,k _ _ (Int.emod_nonneg _ (by omega)) (Int.emod_lt_of_pos _ h0) ⟨⟨a,l / most,bW,by omega,Int.ediv_nonneg hl (by omega)⟩,by rw [aM npc]; exact hc,hn,npc⟩ Kept.refl.pen⟩
  ·refine ⟨_,rfl,p,_,_,_,rfl,rfl,SqL.of hd',x1,?_⟩
   refine ⟨_,rfl,_,_,rfl,rfl,_,rfl,p,_,1,1,rfl,rfl,hd',rfl,?_⟩
   have hd1:(upd H p (.lst ([V.ref c,.int (a:Int),.int l].set 1 (.int ((a:Int)+1))))) p=some (.lst [.ref c,.int ((a:Int)+1),.int l]):=bW
   have hc1:(upd H p (.lst ([V.ref c,.int (a:Int),.int l].set 1 (.int ((a:Int)+1))))) c=some (.lst (ns.map V.int)):=by
    rw [aM npc]
    exact hc
   have k1:Kept p H (upd H p (.lst ([V.ref c,.int (a:Int),.int l].set 1 (.int ((a:Int)+1))))):=Kept.refl.pen
   generalize upd H p (.lst ([V.ref c,.int (a:Int),.int l].set 1 (.int ((a:Int)+1))))=H1 at hd1 hc1 k1
   have y0:bp [V.ref c,.int ((a:Int)+1),.int l] 0=some (.ref c):=hI
   refine ⟨_,rfl,_,_,rfl,rfl,.inl ⟨by decide,by decide⟩,_,_,rfl,rfl,?_⟩
   refine ⟨λσ' H'=>∃ (z:Int),σ'=[some (.ref p),some (.int most),none,some (.int a),some (.int z),none]/\H' p=some (.lst [.ref c,.int ((a:Int)+1),.int l])/\H' c=some (.lst (ns.map V.int))/\Kept p H H',?_,?_⟩
   ·refine ⟨_,rfl,p,_,_,_,rfl,rfl,SqL.of hd1,y0,c,_,rfl,.inl (SqL.of hc1),_,_,rfl,rfl,_,rfl,?_⟩
    refine mz (λhne=>?_) (λ_=>?_)
    ·have hpos:0 < (((ns.map V.int).length:Nat):Int):=of_decide_eq_true hne
     have hne':ns≠[]:=by
      rintro rfl
      cases hpos
     obtain ⟨z,hz2⟩:=Zm2 ns a hne'
     refine ⟨_,rfl,p,_,_,_,rfl,rfl,SqL.of hd1,y0,_,rfl,_,rfl,p,_,_,_,rfl,rfl,SqL.of hd1,y0,c,_,rfl,.inl (SqL.of hc1),_,_,rfl,rfl,hpos,c,_,_,_,rfl,rfl,SqL.of hc1,hz2,?_⟩
     exact ⟨z,rfl,hd1,hc1,k1⟩
    ·exact ⟨_,rfl,hd1,hc1,k1⟩
   ·rintro σ2 H2 ⟨z,rfl,hd2,hc2,k2⟩
    refine ⟨λ_ H'=>H'=H2,?_,?_⟩
    ·refine ⟨_,rfl,_,rfl,p,_,_,_,rfl,rfl,SqL.of hd2,y0,c,_,rfl,.inl (SqL.of hc2),_,_,rfl,rfl,_,rfl,?_⟩
     refine mz (λ_=>?_) (λ_=>rfl)
     exact ⟨_,rfl,z,rfl,_,_,rfl,rfl,⟨by decide,by decide,by decide⟩,_,_,rfl,rfl,_,rfl,rfl⟩
    ·rintro b H3 rfl
     have ab:0<=(if z < 0 then -z else z):=by split <;> omega
     refine mz (λ_=>?_) (λ_=>?_)
     ·refine ⟨_,rfl,z,rfl,_,rfl,_,_,rfl,rfl,⟨h0,h1⟩,_,rfl,p,_,2,2,rfl,rfl,hd2,rfl,?_⟩
      refine ⟨_,rfl,z,rfl,_,rfl,_,_,rfl,rfl,h0,?_⟩
      refine k _ _ (Int.emod_nonneg _ (by omega)) (Int.emod_lt_of_pos _ h0) ⟨⟨a+1,_,bW,by omega,Int.ediv_nonneg ab (by omega)⟩,by rw [aM npc]; exact hc2,hn,npc⟩ k2.pen
     ·refine ⟨_,rfl,_,_,rfl,rfl,(by show (0:Int) < 2147483629; decide),_,rfl,_,_,rfl,rfl,.inl ⟨by decide,by decide⟩,_,_,rfl,rfl,_,_,rfl,rfl,_,_,rfl,rfl,⟨by decide,by decide,Zny (by omega) (by omega)⟩,_,_,rfl,rfl,(by show (0:Int) < 2147483647; decide),?_⟩
      have m0:0<=((z % 2147483629+39019 * (a:Int)+59) ^ (5:Int).toNat) % 2147483647:=Int.emod_nonneg _ (by decide)
      have m1:((z % 2147483629+39019 * (a:Int)+59) ^ (5:Int).toNat) % 2147483647 < 2147483647:=Int.emod_lt_of_pos _ (by decide)
      refine ⟨_,rfl,_,rfl,_,_,rfl,rfl,(by show (0:Int) < 65407; decide),_,rfl,_,_,rfl,rfl,_,_,rfl,rfl,_,_,rfl,rfl,.inl ⟨Int.lt_of_lt_of_le (by decide) m0,Int.lt_trans m1 (by decide)⟩,?_⟩
      refine ⟨_,_,rfl,rfl,(by show (0:Int) < 2147483587; decide),?_⟩
      refine ⟨_,_,rfl,rfl,⟨by decide,by decide⟩,_,rfl,_,_,rfl,rfl,h0,?_⟩
      exact k _ _ (Int.emod_nonneg _ (by omega)) (Int.emod_lt_of_pos _ h0) ⟨⟨a+1,l,hd2,by omega,hl⟩,hc2,hn,npc⟩ k2
end
end My
set_option Elab.async false
set_option linter.all false
set_option maxRecDepth 100000
namespace My
open PySem PySem.Spec PyProof.Rows L2
section
variable {cn:Addr×List Int} {P:Program} {w:World} {K:PySem.W.Frag} {mg:Str->Option Value} {base:Heap}
noncomputable def nT:List Sl->Tr Bool :=
 (i7 (aa 1))
noncomputable def ql:List Sl->Tr Ou :=
 (hV 0 1 (ai (aa 1) (ai (ag fh (aa 0) (aa 1)) au)))
noncomputable def ml:List Sl->Tr Re:=bj 2 0
 (ao (hV 0 1 (ai (ba i6 (ai (aa 0) au)) (ai (ba i6 (ai (aa 1) au)) au)))
 (ao (dt nT ql 100000)
 (eG 0)))
theorem Znu (T:Txt K mg):ACal (br cn) P w K mg base "common_divisor" 1 ["one","other"] ml:=bC T.ZmA oE rfl λf cdv A outer sh H E hr=>by
 exact (av (mW (lJ (i:=0) (j:=1) rfl oE.nd rfl rfl (by decide) rfl rfl (aj (bd (t:=aS) (bu iW rfl T.iA boot_abs (aj (ac (pv 0)) aw)) nW) (aj (bd (t:=aS) (bu iW rfl T.iA boot_abs (aj (ac (pv 1)) aw)) nW) aw)) rfl))
 (av (ZeW 100000 PassesOwn.never (mS (ac (pv 1)))
  (aQ (mW (lJ (i:=0) (j:=1) rfl oE.nd rfl rfl (by decide) rfl rfl (aj (ac (pv 1)) (aj (aq lQ kW (ac (pv 0)) (ac (pv 1))) aw)) rfl))))
 (aQ (iY (pv 0)))))
noncomputable def jT:List Sl->Tr Re:=bj 1 0
 (bI (rj (ai (eZ (ag aK (aa 0) (aC (.int 1)))) (ai (ag bf (ag aK (aa 0) (aC (.int 0))) (aC (.int 1))) au))))
theorem Zeq (T:Txt K mg):ACal (br cn) P w K mg base "stocks" 1 ["shop"] jT:=bC T.Zmh Zgw rfl λf cdv A outer sh H E hr=>by
 exact (aQ (bQ (ZnS (cJ (Zm7 hr.hd) rfl T.dw boot_tuple (ci (cJ Zel rfl T.eu boot_range (aj (gC (bi bh bg (ac (pv 0)) (cF rfl T.kh) (λ_ _=>rfl))) (aj (aq bG bF (bi bh bg (ac (pv 0)) (cF rfl T.kg) (λ_ _=>rfl)) al) aw))) cu)))))
noncomputable def jB:List Sl->Tr PyData :=
 (aa 0)
noncomputable def jJ:List Sl->Tr Bool :=
 (df (ag (eC λi j=>decide (i > j)) (aa 1) (aC (.int 0))))
noncomputable def j3:List Sl->Tr Re:=bj 1 0
 (bI (ba fP (ai (bJ (jc (e9 (aa 0)) 2 [] (aX (ak (ah 0) (ak (ah 1) aW))) jJ jB)) au)))
theorem Zey (T:Txt K mg):ACal (br cn) P w K mg base "greatest_seen" 1 ["day"] j3:=bC T.Zms Zgz rfl λf cdv A outer sh H E hr=>by
 exact (aQ (bQ (bd (t:=aS) (bu (qP rfl) rfl T.jN boot_max (aj (cb (ra (pG kQ ["fall","weight"] [] rfl (gB (gh rfl rfl T.gm (ac (pv 0)))) (λb=>(cB rfl (bq (aP (aO (i:=0) (show ((bN kQ ["fall","weight"] [])).Nodup by decide +kernel) rfl (Or.inl rfl))) (bq (aP (aO (i:=1) (show ((bN kQ ["fall","weight"] [])).Nodup by decide +kernel) rfl (Or.inl rfl))) cA)) (bn (bn cx)))) (λb=>(dS gj fw (ac (pv 1)) al (nomark _))) (λb=>(ac (pv 0))) rfl (show BlkOk kQ (aG oO) _ [] from ⟨rfl,by decide +kernel,by decide +kernel,by decide +kernel,by decide +kernel⟩)) (dO (bX (bv (by decide)) (bX (bv (by decide)) dP))))) aw)) nV)))
noncomputable def jV:List Sl->Tr Re:=bj 3 0
 (bI (ba jQ (ai (ag cI (aa 1) (aa 2)) (ai (eZ (ag aK (aa 0) (aC (.int 1)))) au))))
theorem Zes (T:Txt K mg):ACal (br cn) P w K mg base "next_stock" 1 ["shop","level","fall"] jV:=bC T.Zmm Zgx rfl λf cdv A outer sh H E hr=>by
 exact (aQ (bQ (bd (t:=aS) (bu (Zeo rfl) rfl T.jN boot_max (aj (aq dk di (ac (pv 1)) (ac (pv 2))) (aj (gC (bi bh bg (ac (pv 0)) (cF rfl T.kh) (λ_ _=>rfl))) aw))) Zap)))
noncomputable def iG:List Sl->Tr Re:=bj 2 0
 (ao (eI (df (ag (eC λi j=>decide (i > j)) (aa 1) (aC (.int 0))))
  (bI (ag bA (eZ (ag aK (aa 0) (aC (.int 7)))) (aa 1)))
  eF)
 (bI (ag bA (ag aK (aa 0) (aC (.int 8))) (eZ (aa 1)))))
theorem Zez (T:Txt K mg):ACal (br cn) P w K mg base "end_cost" 1 ["shop","stock"] iG:=bC T.Zmw ZgC rfl λf cdv A outer sh H E hr=>by
 exact (av (fr (dS gj fw (ac (pv 1)) al (nomark _))
 (aQ (bQ (aq bM bK (gC (bi bh bg (ac (pv 0)) (cF rfl T.Zjd) (λ_ _=>rfl))) (ac (pv 1)))))
 fq)
 (aQ (bQ (aq bM bK (bi bh bg (ac (pv 0)) (cF rfl T.Zja) (λ_ _=>rfl)) (gC (ac (pv 1)))))))
noncomputable def ZcX:List Sl->Tr Ou :=
 (ao (aT 7 (de (ai (ag aK (aa 2) (ag cI (aa 6) (aa 1))) (ai (aa 6) au))))
 (ao (je (aX (ak (ah 8) (ak (ah 9) aW))) (ba gp (ai (aa 7) (ai (de (ai (ag bf (ag bA (aa 3) (ag aK (aa 0) (aC (.int 2)))) (ag aK (aa 5) (aC (.int 0)))) (ai (ag aK (aa 5) (aC (.int 1))) au))) au))))
 (ao (gE 4 (de (ai (ag cI (aa 8) (ag bA (ag bA (aa 3) (ag aK (aa 0) (aC (.int 3)))) (aa 6))) (ai (aa 9) au))))
 (aT 5 (ba gp (ai (aa 7) (ai (aa 5) au)))))))
noncomputable def j4:List Sl->Tr Re:=bj 4 6
 (ao (ft 4 (dF au))
 (ao (aT 5 (de (ai (ag aK (aa 2) (eZ (aC (.int 1)))) (ai (ag aK (aa 0) (aC (.int 0))) au))))
 (ao (dG (rl (ai (aa 1) (ai (ag bf (ag aK (aa 0) (aC (.int 0))) (aC (.int 1))) au))) (ah 6) ZcX)
 (ao (i9 4)
 (eG 4)))))
theorem ZeB (T:Txt K mg):ACal (br cn) P w K mg base "cheapest_from" 1 ["shop","low","by_level","scale"] j4:=bC T.ZmB ga rfl λf cdv A outer sh H E hr=>by
 exact (av (hU (aR (i:=4) ga.nd rfl (Or.inl rfl) (eE aw)))
 (av (aZ (aR (i:=5) ga.nd rfl (Or.inl rfl) (dE (aj (bi bh bg (ac (pv 2)) (gC al) (λ_ _=>rfl)) (aj (bi bh bg (ac (pv 0)) (cF rfl T.kg) (λ_ _=>rfl)) aw)))))
 (av (eD PassesOwn.never rfl (ZnO (pE rfl T.pU (cJ Zel rfl T.eu boot_range (aj (ac (pv 1)) (aj (aq bG bF (bi bh bg (ac (pv 0)) (cF rfl T.kg) (λ_ _=>rfl)) al) aw))))) (aP (aO (i:=6) ga.nd rfl (Or.inl rfl)))
  (av (aZ (aR (i:=7) ga.nd rfl (Or.inl rfl) (dE (aj (bi bh bg (ac (pv 2)) (aq dk di (ac (pv 6)) (ac (pv 1))) (λ_ _=>rfl)) (aj (ac (pv 6)) aw)))))
 (av (mY (fI (bd (t:=aS) (bu (Zem hr rfl) rfl T.lU boot_min (aj (ac (pv 7)) (aj (dE (aj (aq bG bF (aq bM bK (ac (pv 3)) (bi bh bg (ac (pv 0)) (cF rfl T.Zi8) (λ_ _=>rfl))) (bi bh bg (ac (pv 5)) al (λ_ _=>rfl))) (aj (bi bh bg (ac (pv 5)) al (λ_ _=>rfl)) aw))) aw))) Zan) (cB rfl (bq (aP (aO (i:=8) ga.nd rfl (Or.inl rfl))) (bq (aP (aO (i:=9) ga.nd rfl (Or.inl rfl))) cA)) (bn (bn cx)))))
 (av (kA (fH (jH PySem.F.plainAttrs_list PySem.F.slot_list_append PySem.F.type_list_append jO (pv 4) (ci (dE (aj (aq dk di (ac (pv 8)) (aq bM bK (aq bM bK (ac (pv 3)) (bi bh bg (ac (pv 0)) (cF rfl T.qw) (λ_ _=>rfl))) (ac (pv 6)))) (aj (ac (pv 9)) aw))) cu))))
 (aQ (aZ (aR (i:=5) ga.nd rfl (Or.inl rfl) (bd (t:=aS) (bu (Zem hr rfl) rfl T.lU boot_min (aj (ac (pv 7)) (aj (ac (pv 5)) aw))) Zan))))))))
 (av (q9 (fH (pH PySem.F.plainAttrs_list PySem.F.slot_list_reverse PySem.F.type_list_reverse pV (pv 4))))
 (aQ (iY (pv 4)))))))
noncomputable def mw:List Sl->Tr Ou :=
 (hZ iP 1 (ba cr (ai (aa 2) au)))
noncomputable def gq:List Sl->Tr Re:=bj 1 2
 (ao (aT 1 (aC (.int 1)))
 (ao (dG (cW (aa 0)) (ah 2) mw)
 (eG 1)))
theorem kw (T:Txt K mg):ACal (br cn) P w K mg base "scale_of" 1 ["days"] gq:=bC T.Zml ld rfl λf cdv A outer sh H E hr=>by
 exact (av (aZ (aR (i:=1) ld.nd rfl (Or.inl rfl) al))
 (av (eD PassesOwn.never rfl (dr (ac (pv 0))) (aP (aO (i:=2) ld.nd rfl (Or.inl rfl)))
  (aQ (mX Zal (lL (i:=1) ld.nd rfl (Or.inl rfl) (bd (t:=aS) (bu (fW rfl) rfl T.fN boot_sum (aj (ac (pv 2)) aw)) fx) (pip Zc8)))))
 (aQ (iY (pv 1)))))
noncomputable def mt:List Sl->Tr Ou :=
 (kK (λi j=>i+j) 3 (ag bf (aa 4) (aa 6)) (ag bA (aa 5) (aa 7)))
noncomputable def mr:List Sl->Tr Ou :=
 (dG (e9 (aa 2)) (aX (ak (ah 6) (ak (ah 7) aW))) mt)
noncomputable def mq:List Sl->Tr Ou :=
 (ao (ft 3 (nk iq (bJ (dF (ai (aC (.int 0)) au))) (ag cI (ag bf (ba dA (ai (aa 1) au)) (ba dA (ai (aa 2) au))) (aC (.int 1)))))
 (ao (dG (e9 (aa 1)) (aX (ak (ah 4) (ak (ah 5) aW))) mr)
 (hW 3 (aT 1 (aa 3)))))
noncomputable def iB:List Sl->Tr Re:=bj 1 7
 (ao (aT 1 (bJ (dF (ai (aC (.int 1)) au))))
 (ao (dG (cW (aa 0)) (ah 2) mq)
 (eG 1)))
theorem qQ (T:Txt K mg):ACal (br cn) P w K mg base "weights_together" 1 ["days"] iB:=bC T.Zmc fA rfl λf cdv A outer sh H E hr=>by
 exact (av (aZ (aR (i:=1) fA.nd rfl (Or.inl rfl) (cb (eE (aj al aw)))))
 (av (eD PassesOwn.never rfl (dr (ac (pv 0))) (aP (aO (i:=2) fA.nd rfl (Or.inl rfl)))
  (av (hU (aR (i:=3) fA.nd rfl (Or.inl rfl) (ZnK Zcn Zfs (cb (eE (aj al aw))) (aq dk di (aq bG bF (bd (t:=aS) (bu fX rfl T.fO boot_len (aj (ac (pv 1)) aw)) ic) (bd (t:=aS) (bu fX rfl T.fO boot_len (aj (ac (pv 2)) aw)) ic)) al))))
 (av (eD PassesOwn.never rfl (gB (gh rfl rfl T.gm (ac (pv 1)))) (cB rfl (bq (aP (aO (i:=4) fA.nd rfl (Or.inl rfl))) (bq (aP (aO (i:=5) fA.nd rfl (Or.inl rfl))) cA)) (bn (bn cx)))
  (aQ (eD PassesOwn.never rfl (gB (gh rfl rfl T.gm (ac (pv 2)))) (cB rfl (bq (aP (aO (i:=6) fA.nd rfl (Or.inl rfl))) (bq (aP (aO (i:=7) fA.nd rfl (Or.inl rfl))) cA)) (bn (bn cx)))
  (aQ (ZnI (Zhr (pv 3) (aq bG bF (ac (pv 4)) (ac (pv 6))) Zi0 (aq bM bK (ac (pv 5)) (ac (pv 7))) ZiV ig))))))
 (aQ (kz (k:=3) (aZ (aR (i:=1) fA.nd rfl (Or.inl rfl) (ac (pv 3)))))))))
 (aQ (iY (pv 1)))))
noncomputable def ly:List Sl->Tr PyData :=
 (ag bA (aa 1) (ag eW (aa 2) (ag cI (aa 3) (aa 0))))
noncomputable def lO:List Sl->Tr Bool :=
 (df (ag (eC λi j=>decide (i > j)) (aa 1) (aC (.int 0))))
noncomputable def jS:List Sl->Tr Re:=bj 3 0
 (bI (ba cr (ai (bJ (jc (e9 (aa 0)) 2 [1,2] (aX (ak (ah 0) (ak (ah 1) aW))) lO ly)) au)))
theorem Znf (T:Txt K mg):ACal (br cn) P w K mg base "weighed_ahead" 1 ["day","ahead","level"] jS:=bC T.Zmf Zgv rfl λf cdv A outer sh H E hr=>by
 exact (aQ (bQ (bd (t:=aS) (bu (fW rfl) rfl T.fN boot_sum (aj (cb (ra (pG kP ["fall","weight"] [1,2] rfl (gB (gh rfl rfl T.gm (ac (pv 0)))) (λb=>(cB rfl (bq (aP (aO (i:=0) (show ((bN kP ["fall","weight"] [1,2])).Nodup by decide +kernel) rfl (Or.inl rfl))) (bq (aP (aO (i:=1) (show ((bN kP ["fall","weight"] [1,2])).Nodup by decide +kernel) rfl (Or.inl rfl))) cA)) (bn (bn cx)))) (λb=>(dS gj fw (ac (pv 1)) al (nomark _))) (λb=>(aq bM bK (ac (pv 1)) (Ze5 (Zcd (kb hr) (ac (pv 2)) (aq dk di (ac (pv 3)) (ac (pv 0))) (λ_ _=>rfl))))) rfl (show BlkOk kP (aG oK) _ [1,2] from ⟨rfl,by decide +kernel,by decide +kernel,by decide +kernel,by decide +kernel⟩)) (dO (bX (bv (by decide)) (bX (bv (by decide)) dP))))) aw)) fx)))
noncomputable abbrev cL:=mi
theorem c8 (T:Txt K mg):ACal (br cn) P w K mg base "_law_draw" 1 ["_law_pen_here","_law_many"] cL:=Zl8 rfl (ZhY T)
noncomputable def jA:List Sl->Tr PyData :=
 (aa 0)
noncomputable def jI:List Sl->Tr Bool :=
 (df (ag (eC λi j=>decide (i > j)) (ag aK (aa 1) (aa 0)) (aC (.int 0))))
noncomputable def pq:List Sl->Tr PyData :=
 (ba fP (ai (bJ (jc (gD (ai (ba dA (ai (aa 0) au)) au)) 1 [0] (ah 0) jI jA)) au))
noncomputable def l7:List Sl->Tr Re:=bj 1 0
 (bI (ba cr (ai (bJ (bZ (cW (aa 0)) 1 [] (ah 0) pq)) au)))
theorem Znm (T:Txt K mg):ACal (br cn) P w K mg base "_law_greatest" 1 ["_law_falls"] l7:=bC T.ZmM ZgJ rfl λf cdv A outer sh H E hr=>by
 exact (aQ (bQ (bd (t:=aS) (bu (fW rfl) rfl T.fN boot_sum (aj (cb (cU (cQ jh ["_law_one"] [] rfl (dr (ac (pv 0))) (λb=>(aP (aO (i:=0) (show ((bN jh ["_law_one"] [])).Nodup by decide +kernel) rfl (Or.inr rfl)))) (λb=>(bd (t:=aS) (bu (qP rfl) rfl T.jN boot_max (aj (cb (ra (pG (bN jh ["_law_one"] []) ["_law_fall"] [0] rfl (iZ (iw rfl T.eu (aj (bd (t:=aS) (bu fX rfl T.fO boot_len (aj (ac (pv 0)) aw)) ic) aw))) (λb=>(aP (aO (i:=0) (show ((bN (bN jh ["_law_one"] []) ["_law_fall"] [0])).Nodup by decide +kernel) rfl (Or.inl rfl)))) (λb=>(dS gj fw (bi bh bg (ac (pv 1)) (ac (pv 0)) (λ_ _=>rfl)) al (nomark _))) (λb=>(ac (pv 0))) rfl (BlkOk.nest ⟨rfl,by decide +kernel,by decide +kernel,by decide +kernel,by decide +kernel⟩)) (bv (by decide)))) aw)) nV)) rfl (show BlkOk jh (aG oV) _ [] from ⟨rfl,by decide +kernel,by decide +kernel,by decide +kernel,by decide +kernel⟩)) (bv (by decide)))) aw)) fx)))
noncomputable def iE:List Sl->Tr Re:=bj 2 0
 (bI (ag (eC λi j=>decide (i<=j)) (ag bA (ag aK (aa 0) (aC (.int 0))) (ag aK (aa 1) (aC (.int 1)))) (ag bA (ag aK (aa 1) (aC (.int 0))) (ag aK (aa 0) (aC (.int 1))))))
theorem Zex (T:Txt K mg):ACal (br cn) P w K mg base "_law_no_more" 1 ["_law_one","_law_other"] iE:=bC T.ZmK ZgI rfl λf cdv A outer sh H E hr=>by
 exact (aQ (bQ (Ze6 ZhP fw (aq bM bK (bi bh bg (ac (pv 0)) al (λ_ _=>rfl)) (bi bh bg (ac (pv 1)) al (λ_ _=>rfl))) (aq bM bK (bi bh bg (ac (pv 1)) al (λ_ _=>rfl)) (bi bh bg (ac (pv 0)) al (λ_ _=>rfl))) (nomark _))))
noncomputable def nS:List Sl->Tr Bool :=
 (df (ag (eC λi j=>decide (i > j)) (aa 3) (aC (.int 0))))
noncomputable def qi:List Sl->Tr Ou :=
 (hV 2 3 (ai (aa 3) (ai (ag fh (aa 2) (aa 3)) au)))
noncomputable def jY:List Sl->Tr Re:=bj 2 2
 (ao (hV 2 3 (ai (ba i6 (ai (aa 0) au)) (ai (aa 1) au)))
 (ao (dt nS qi 100000)
 (bI (de (ai (ag fm (aa 0) (aa 2)) (ai (ag fm (aa 1) (aa 2)) au))))))
theorem Zev (T:Txt K mg):ACal (br cn) P w K mg base "_law_share" 1 ["_law_top","_law_bottom"] jY:=bC T.ZmG oF rfl λf cdv A outer sh H E hr=>by
 exact (av (mW (lJ (i:=2) (j:=3) rfl oF.nd rfl rfl (by decide) rfl rfl (aj (bd (t:=aS) (bu iW rfl T.iA boot_abs (aj (ac (pv 0)) aw)) nW) (aj (ac (pv 1)) aw)) rfl))
 (av (ZeW 100000 PassesOwn.never (dS gj fw (ac (pv 3)) al (nomark _))
  (aQ (mW (lJ (i:=2) (j:=3) rfl oF.nd rfl rfl (by decide) rfl rfl (aj (ac (pv 3)) (aj (aq lQ kW (ac (pv 2)) (ac (pv 3))) aw)) rfl))))
 (aQ (bQ (dE (aj (aq jK jj (ac (pv 0)) (ac (pv 2))) (aj (aq jK jj (ac (pv 1)) (ac (pv 2))) aw)))))))
noncomputable def po:List Sl->Tr PyData :=
 (ag bA (aa 0) (aa 1))
noncomputable def l6:List Sl->Tr Re:=bj 2 0
 (bI (ag i5 (cN (aa 0) cO (cG (aC (.int 2)))) (ba cY (ai (bJ (bZ (cW (cN (aa 0) (cG (aC (.int 2))) cO)) 1 [1] (ah 0) po)) au))))
theorem Znk (T:Txt K mg):ACal (br cn) P w K mg base "_law_prices_times" 1 ["_law_shop","_law_many"] l6:=bC T.ZmH ZgG rfl λf cdv A outer sh H E hr=>by
 exact (aQ (bQ (aq pN nU (dc (ac (pv 0)) db (c9 al)) (bd (t:=aS) (cJ dR rfl T.dw boot_tuple (aj (cb (cU (cQ nD ["_law_price"] [1] rfl (dr (dc (ac (pv 0)) (c9 al) db)) (λb=>(aP (aO (i:=0) (show ((bN nD ["_law_price"] [1])).Nodup by decide +kernel) rfl (Or.inl rfl)))) (λb=>(aq bM bK (ac (pv 0)) (ac (pv 1)))) rfl (show BlkOk nD (aG oS) _ [1] from ⟨rfl,by decide +kernel,by decide +kernel,by decide +kernel,by decide +kernel⟩)) (bv (by decide)))) aw)) dI))))
noncomputable def gU:List Sl->Tr Re:=bj 2 1
 (ao (eI (df (ag gx (aa 1) (aC (.int 0))))
  rq
  eF)
 (ao (aT 2 (aD (az ml (ae (aa 0) (ae (aa 1) ay)))))
 (ao (eI (df (ag (eC λi j=>decide (i < j)) (aa 1) (aC (.int 0))))
  (aT 2 (eZ (aa 2)))
  eF)
 (bI (de (ai (ag fm (aa 0) (aa 2)) (ai (ag fm (aa 1) (aa 2)) au)))))))
theorem qS (T:Txt K mg):ACal (br cn) P w K mg base "share" 2 ["top","bottom"] gU:=bC T.Zmk oC rfl λf cdv A outer sh H E hr=>by
 exact (av (fr (dS (lR hr) kX (ac (pv 1)) al (nomark _))
 (aQ ZeZ)
 fq)
 (av (aZ (aR (i:=2) oC.nd rfl (Or.inl rfl) (aE (aA (Znu T) (hr.mono (by decide)) rfl (af (ac (pv 0)) (af (ac (pv 1)) aB))))))
 (av (fr (dS pL fw (ac (pv 1)) al (nomark _))
  (aQ (aZ (aR (i:=2) oC.nd rfl (Or.inl rfl) (gC (ac (pv 2))))))
  fq)
 (aQ (bQ (dE (aj (aq jK jj (ac (pv 0)) (ac (pv 2))) (aj (aq jK jj (ac (pv 1)) (ac (pv 2))) aw))))))))
noncomputable def iH:List Sl->Tr Re:=bj 3 3
 (ao (aT 3 (aD (az jV (ae (aa 0) (ae (aa 1) (ae (aa 2) ay))))))
 (ao (aT 4 (ag cI (aa 3) (ag cI (aa 1) (aa 2))))
 (ao (aT 5 (rz (df (ag (eC λi j=>decide (i > j)) (aa 3) (aC (.int 0)))) (ag bA (ag aK (aa 0) (aC (.int 4))) (aa 3)) (ag bA (ag aK (aa 0) (aC (.int 5))) (eZ (aa 3)))))
 (bI (ag bf (aa 5) (ag bA (ag aK (aa 0) (aC (.int 6))) (aa 4)))))))
theorem ZeA (T:Txt K mg):ACal (br cn) P w K mg base "day_cost" 2 ["shop","level","fall"] iH:=bC T.Zmy lf rfl λf cdv A outer sh H E hr=>by
 exact (av (aZ (aR (i:=3) lf.nd rfl (Or.inl rfl) (aE (aA (Zes T) (hr.mono (by decide)) rfl (af (ac (pv 0)) (af (ac (pv 1)) (af (ac (pv 2)) aB)))))))
 (av (aZ (aR (i:=4) lf.nd rfl (Or.inl rfl) (aq dk di (ac (pv 3)) (aq dk di (ac (pv 1)) (ac (pv 2))))))
 (av (aZ (aR (i:=5) lf.nd rfl (Or.inl rfl) (ZnU (dS gj fw (ac (pv 3)) al (nomark _)) (aq bM bK (bi bh bg (ac (pv 0)) (cF rfl T.Zjc) (λ_ _=>rfl)) (ac (pv 3))) (aq bM bK (bi bh bg (ac (pv 0)) (cF rfl T.Zjb) (λ_ _=>rfl)) (gC (ac (pv 3)))))))
 (aQ (bQ (aq bG bF (ac (pv 5)) (aq bM bK (bi bh bg (ac (pv 0)) (cF rfl T.Zi9) (λ_ _=>rfl)) (ac (pv 4)))))))))
noncomputable def pB:List Sl->Tr PyData :=
 (aD (az iG (ae (aa 1) (ae (aa 0) ay))))
noncomputable def mf:List Sl->Tr Re:=bj 1 0
 (nc (bZ (cW (aD (az jT (ae (aa 0) ay)))) 1 [0] (ah 0) pB))
theorem Znr (T:Txt K mg):ACal (br cn) P w K mg base "end_costs" 2 ["shop"] mf:=bC T.Zmv ZgB rfl λf cdv A outer sh H E hr=>by
 exact (aQ (ZeY (cU (cQ nA ["stock"] [0] rfl (dr (aE (aA (Zeq T) (hr.mono (by decide)) rfl (af (ac (pv 0)) aB)))) (λb=>(aP (aO (i:=0) (show ((bN nA ["stock"] [0])).Nodup by decide +kernel) rfl (Or.inl rfl)))) (λb=>(aE (aA (Zez T) (hr.mono (by decide)) rfl (af (ac (pv 1)) (af (ac (pv 0)) aB))))) rfl (show BlkOk nA (aG oQ) _ [0] from ⟨rfl,by decide +kernel,by decide +kernel,by decide +kernel,by decide +kernel⟩)) (bv (by decide)))))
noncomputable def mn:List Sl->Tr Re:=bj 3 0
 (jb (az j4 (ae (aa 0) (ae (eZ (ag aK (aa 0) (aC (.int 1)))) (ae (aa 1) (ae (aa 2) ay))))))
theorem Znv (T:Txt K mg):ACal (br cn) P w K mg base "cheapest" 2 ["shop","by_level","scale"] mn:=bC T.ZmC ZgD rfl λf cdv A outer sh H E hr=>by
 exact (aQ (mV (aA (ZeB T) (hr.mono (by decide)) rfl (af (ac (pv 0)) (af (gC (bi bh bg (ac (pv 0)) (cF rfl T.kh) (λ_ _=>rfl))) (af (ac (pv 1)) (af (ac (pv 2)) aB)))))))
noncomputable def pA:List Sl->Tr PyData :=
 (aD (az j3 (ae (aa 0) ay)))
noncomputable def me:List Sl->Tr Re:=bj 3 0
 (bI (ag cI (ba cr (ai (bJ (bZ (cW (cN (aa 1) (cG (aa 2)) cO)) 1 [] (ah 0) pA)) au)) (ag aK (aa 0) (aC (.int 1)))))
theorem Znq (T:Txt K mg):ACal (br cn) P w K mg base "free_from" 2 ["shop","falls","t"] me:=bC T.Zmu ZgA rfl λf cdv A outer sh H E hr=>by
 exact (aQ (bQ (aq dk di (bd (t:=aS) (bu (fW rfl) rfl T.fN boot_sum (aj (cb (cU (cQ nz ["day"] [] rfl (dr (dc (ac (pv 1)) (c9 (ac (pv 2))) db)) (λb=>(aP (aO (i:=0) (show ((bN nz ["day"] [])).Nodup by decide +kernel) rfl (Or.inl rfl)))) (λb=>(aE (aA (Zey T) (hr.mono (by decide)) rfl (af (ac (pv 0)) aB)))) rfl (show BlkOk nz (aG oP) _ [] from ⟨rfl,by decide +kernel,by decide +kernel,by decide +kernel,by decide +kernel⟩)) (bv (by decide)))) aw)) fx) (bi bh bg (ac (pv 0)) (cF rfl T.kh) (λ_ _=>rfl)))))
noncomputable def pe:List Sl->Tr PyData :=
 (ag bA (aa 1) (aD (az iG (ae (aa 2) (ae (ag cI (aa 3) (aa 0)) ay)))))
noncomputable def lW:List Sl->Tr Re:=bj 3 0
 (bI (ba cr (ai (bJ (bZ (e9 (aa 1)) 2 [0,2] (aX (ak (ah 0) (ak (ah 1) aW))) pe)) au)))
theorem Zne (T:Txt K mg):ACal (br cn) P w K mg base "weighed_end" 2 ["shop","weights","stock"] lW:=bC T.Zmd Zgt rfl λf cdv A outer sh H E hr=>by
 exact (aQ (bQ (bd (t:=aS) (bu (fW rfl) rfl T.fN boot_sum (aj (cb (cU (cQ kN ["fallen","weight"] [0,2] rfl (gB (gh rfl rfl T.gm (ac (pv 1)))) (λb=>(cB rfl (bq (aP (aO (i:=0) (show ((bN kN ["fallen","weight"] [0,2])).Nodup by decide +kernel) rfl (Or.inl rfl))) (bq (aP (aO (i:=1) (show ((bN kN ["fallen","weight"] [0,2])).Nodup by decide +kernel) rfl (Or.inl rfl))) cA)) (bn (bn cx)))) (λb=>(aq bM bK (ac (pv 1)) (aE (aA (Zez T) (hr.mono (by decide)) rfl (af (ac (pv 2)) (af (aq dk di (ac (pv 3)) (ac (pv 0))) aB)))))) rfl (show BlkOk kN (aG oI) _ [0,2] from ⟨rfl,by decide +kernel,by decide +kernel,by decide +kernel,by decide +kernel⟩)) (dO (bX (bv (by decide)) (bX (bv (by decide)) dP))))) aw)) fx)))
noncomputable def ph:List Sl->Tr PyData :=
 (aD (az j3 (ae (aa 0) ay)))
noncomputable def jW:List Sl->Tr Re:=bj 3 0
 (bI (ag cI (aa 2) (ba cr (ai (bJ (bZ (cW (cN (aa 0) cO (cG (aa 1)))) 1 [] (ah 0) ph)) au))))
theorem Zet (T:Txt K mg):ACal (br cn) P w K mg base "least_counted" 2 ["falls","t","stock"] jW:=bC T.Zmp Zgy rfl λf cdv A outer sh H E hr=>by
 exact (aQ (bQ (aq dk di (ac (pv 2)) (bd (t:=aS) (bu (fW rfl) rfl T.fN boot_sum (aj (cb (cU (cQ nw ["day"] [] rfl (dr (dc (ac (pv 0)) db (c9 (ac (pv 1))))) (λb=>(aP (aO (i:=0) (show ((bN nw ["day"] [])).Nodup by decide +kernel) rfl (Or.inl rfl)))) (λb=>(aE (aA (Zey T) (hr.mono (by decide)) rfl (af (ac (pv 0)) aB)))) rfl (show BlkOk nw (aG oN) _ [] from ⟨rfl,by decide +kernel,by decide +kernel,by decide +kernel,by decide +kernel⟩)) (bv (by decide)))) aw)) fx))))
noncomputable def Zb4:List Sl->Tr PyData :=
 (aD (az cL (cp 1 (ae (aa 2) ay))))
noncomputable def l9:List Sl->Tr Re:=bj 2 3
 (ao (aT 2 (ag aK (bJ (dF (ai (aC (.int 0)) (ai (aC (.int 0)) (ai (aC (.int 1)) (ai (aC (.int 3)) au)))))) (aD (az cL (cp 0 (ae (aC (.int 4)) ay))))))
 (ao (aT 3 (ag aK (bJ (dF (ai (aC (.int 2)) (ai (aC (.int 4)) (ai (aC (.int 20)) (ai (aC (.int 1001)) au)))))) (aD (az cL (cp 0 (ae (aC (.int 4)) ay))))))
 (ao (aT 4 (bJ (bZ (gD (ai (aD (az cL (cp 0 (ae (aa 1) ay)))) au)) 1 [0,3] (ah 0) Zb4)))
 (bI (ba cY (ai (ag bf (ag bf (aa 4) (bJ (dF (ai (ag bf (aC (.int 1)) (aD (az cL (cp 0 (ae (ag cI (aa 3) (aC (.int 1))) ay))))) au)))) (ag bA (bJ (dF (ai (aC (.int 0)) au))) (aa 2))) au))))))
theorem Zno (T:Txt K mg):ACal (br cn) P w K mg base "_law_day" 2 ["_law_pen_here","_law_most"] l9:=bC T.ZmP lg rfl λf cdv A outer sh H E hr=>by
 exact (av (aZ (aR (i:=2) lg.nd rfl (Or.inl rfl) (bi bh bg (cb (eE (aj al (aj al (aj al (aj al aw)))))) (aE (aA (c8 T) (hr.mono (by decide)) rfl (cC (pv 0) (af al aB)))) (λ_ _=>rfl))))
 (av (aZ (aR (i:=3) lg.nd rfl (Or.inr rfl) (bi bh bg (cb (eE (aj al (aj al (aj al (aj al aw)))))) (aE (aA (c8 T) (hr.mono (by decide)) rfl (cC (pv 0) (af al aB)))) (λ_ _=>rfl))))
 (av (qZ (lH (i:=4) nF ["_law_k"] [0,3] rfl lg.nd rfl rfl (iZ (iw rfl T.eu (aj (aE (aA (c8 T) (hr.mono (by decide)) rfl (cC (pv 0) (af (ac (pv 1)) aB)))) aw))) (λb=>(aP (aO (i:=0) (show ((bN nF ["_law_k"] [0,3])).Nodup by decide +kernel) rfl (Or.inl rfl)))) (λb=>(aE (aA (c8 T) (hr.mono (by decide)) rfl (cC (pv 1) (af (ac (pv 2)) aB))))) rfl (show BlkOk nF (aG oX) _ [0,3] from ⟨rfl,by decide +kernel,by decide +kernel,by decide +kernel,by decide +kernel⟩) rfl) (bv (by decide)))
 (aQ (bQ (bd (t:=aS) (cJ dR rfl T.dw boot_tuple (aj (aq bG bF (aq bG bF (ac (pv 4)) (cb (eE (aj (aq bG bF al (aE (aA (c8 T) (hr.mono (by decide)) rfl (cC (pv 0) (af (aq dk di (ac (pv 3)) al) aB))))) aw)))) (aq bM bK (cb (eE (aj al aw))) (ac (pv 2)))) aw)) dI))))))
noncomputable def Zb2:List Sl->Tr PyData :=
 (aD (az cL (cp 1 (ae (aa 2) ay))))
noncomputable def jZ:List Sl->Tr Re:=bj 1 2
 (ao (aT 1 (ag aK (bJ (dF (ai (aC (.int 3)) (ai (aC (.int 10)) (ai (aC (.int 60)) (ai (ag lM (aC (.int 10)) (aC (.int 5))) au)))))) (aD (az cL (cp 0 (ae (aC (.int 4)) ay))))))
 (ao (ft 2 (bZ (gD (ai (aC (.int 7)) au)) 1 [0,1] (ah 0) Zb2))
 (ao (eI (df (ag gx (aD (az cL (cp 0 (ae (aC (.int 3)) ay)))) (aC (.int 0))))
  (kG 2 (aC (.int 0)) (aC (.int 0)))
  eF)
 (ao (eI (df (ag gx (aD (az cL (cp 0 (ae (aC (.int 3)) ay)))) (aC (.int 0))))
  (kG 2 (aC (.int 3)) (ag fh (ag bA (kI 2 (aC (.int 3))) (aC (.int 3))) (aC (.int 100003))))
  eF)
 (hW 2 (bI (ba cY (ai (aa 2) au))))))))
theorem Zew (T:Txt K mg):ACal (br cn) P w K mg base "_law_prices" 2 ["_law_pen_here"] jZ:=bC T.ZmI oG rfl λf cdv A outer sh H E hr=>by
 exact (av (aZ (aR (i:=1) oG.nd rfl (Or.inr rfl) (bi bh bg (cb (eE (aj al (aj al (aj al (aj (aq pJ Zft al al) aw)))))) (aE (aA (c8 T) (hr.mono (by decide)) rfl (cC (pv 0) (af al aB)))) (λ_ _=>rfl))))
 (av (ZnG (lH (i:=2) nE ["_law_k"] [0,1] rfl oG.nd rfl rfl (iZ (iw rfl T.eu (aj al aw))) (λb=>(aP (aO (i:=0) (show ((bN nE ["_law_k"] [0,1])).Nodup by decide +kernel) rfl (Or.inl rfl)))) (λb=>(aE (aA (c8 T) (hr.mono (by decide)) rfl (cC (pv 1) (af (ac (pv 2)) aB))))) rfl (show BlkOk nE (aG oT) _ [0,1] from ⟨rfl,by decide +kernel,by decide +kernel,by decide +kernel,by decide +kernel⟩) rfl) (bv (by decide)))
 (av (fr (dS (lR hr) kX (aE (aA (c8 T) (hr.mono (by decide)) rfl (cC (pv 0) (af al aB)))) al (nomark _))
  (aQ (ZeX (fI al (jG (pv 2) al ig))))
  fq)
 (av (fr (dS (lR hr) kX (aE (aA (c8 T) (hr.mono (by decide)) rfl (cC (pv 0) (af al aB)))) al (nomark _))
  (aQ (ZeX (fI (aq lQ kW (aq bM bK (ZnT al (pv 2) (λ_ _=>rfl)) al) al) (jG (pv 2) al ig))))
  fq)
 (aQ (kz (k:=2) (bQ (bd (t:=aS) (cJ dR rfl T.dw boot_tuple (aj (ac (pv 2)) aw)) dI))))))))
noncomputable def jX:List Sl->Tr Re:=bj 2 0
 (jb (az jY (ae (ag bA (ag aK (aa 0) (aC (.int 0))) (aa 1)) (ae (ag aK (aa 0) (aC (.int 1))) ay))))
theorem Zeu (T:Txt K mg):ACal (br cn) P w K mg base "_law_times" 2 ["_law_cost","_law_many"] jX:=bC T.ZmF ZgF rfl λf cdv A outer sh H E hr=>by
 exact (aQ (mV (aA (Zev T) (hr.mono (by decide)) rfl (af (aq bM bK (bi bh bg (ac (pv 0)) al (λ_ _=>rfl)) (ac (pv 1))) (af (bi bh bg (ac (pv 0)) al (λ_ _=>rfl)) aB)))))
noncomputable def ZcV:List Sl->Tr Ou :=
 (ao (aT 8 (ag aK (aa 3) (ag bf (aD (az jV (ae (aa 0) (ae (aa 2) (ae (aa 6) ay))))) (ag aK (aa 0) (aC (.int 1))))))
 (hZ ka 5 (ag bA (aa 7) (ag bf (ag bA (aa 4) (aD (az iH (ae (aa 0) (ae (aa 2) (ae (aa 6) ay)))))) (aa 8)))))
noncomputable def lX:List Sl->Tr Re:=bj 5 4
 (ao (aT 5 (aC (.int 0)))
 (ao (dG (e9 (aa 1)) (aX (ak (ah 6) (ak (ah 7) aW))) ZcV)
 (eG 5)))
theorem Zng (T:Txt K mg):ACal (br cn) P w K mg base "weighed" 3 ["shop","day","level","ahead","scale"] lX:=bC T.Zmg ii rfl λf cdv A outer sh H E hr=>by
 exact (av (aZ (aR (i:=5) ii.nd rfl (Or.inl rfl) al))
 (av (eD PassesOwn.never rfl (gB (gh rfl rfl T.gm (ac (pv 1)))) (cB rfl (bq (aP (aO (i:=6) ii.nd rfl (Or.inl rfl))) (bq (aP (aO (i:=7) ii.nd rfl (Or.inl rfl))) cA)) (bn (bn cx)))
  (av (aZ (aR (i:=8) ii.nd rfl (Or.inl rfl) (bi bh bg (ac (pv 3)) (aq bG bF (aE (aA (Zes T) (hr.mono (by decide)) rfl (af (ac (pv 0)) (af (ac (pv 2)) (af (ac (pv 6)) aB))))) (bi bh bg (ac (pv 0)) (cF rfl T.kh) (λ_ _=>rfl))) (λ_ _=>rfl))))
 (aQ (mX Zam (lL (i:=5) ii.nd rfl (Or.inl rfl) (aq bM bK (ac (pv 7)) (aq bG bF (aq bM bK (ac (pv 4)) (aE (aA (ZeA T) (hr.mono (by decide)) rfl (af (ac (pv 0)) (af (ac (pv 2)) (af (ac (pv 6)) aB)))))) (ac (pv 8)))) (pip Zc9))))))
 (aQ (iY (pv 5)))))
noncomputable def j5:List Sl->Tr Re:=bj 3 0
 (eI (df (ag (eC λi j=>decide (i < j)) (aa 2) (aD (az me (ae (aa 0) (ae (aa 1) (ae (aC (.int 0)) ay)))))))
  rq
  eF)
theorem ZeC (T:Txt K mg):ACal (br cn) P w K mg base "ask_free" 3 ["shop","falls","stock"] j5:=bC T.ZmD ZgE rfl λf cdv A outer sh H E hr=>by
 exact (aQ (fr (dS pL fw (ac (pv 2)) (aE (aA (Znq T) (hr.mono (by decide)) rfl (af (ac (pv 0)) (af (ac (pv 1)) (af al aB))))) (nomark _))
 (aQ ZeZ)
 fq))
noncomputable def pf:List Sl->Tr PyData :=
 (ag bA (aa 1) (aD (az iH (ae (aa 2) (ae (aa 3) (ae (aa 0) ay))))))
noncomputable def iC:List Sl->Tr Re:=bj 3 0
 (bI (ba cr (ai (bJ (bZ (e9 (aa 1)) 2 [0,2] (aX (ak (ah 0) (ak (ah 1) aW))) pf)) au)))
theorem Zep (T:Txt K mg):ACal (br cn) P w K mg base "weighed_day" 3 ["shop","weights","stock"] iC:=bC T.Zme Zgu rfl λf cdv A outer sh H E hr=>by
 exact (aQ (bQ (bd (t:=aS) (bu (fW rfl) rfl T.fN boot_sum (aj (cb (cU (cQ kO ["fallen","weight"] [0,2] rfl (gB (gh rfl rfl T.gm (ac (pv 1)))) (λb=>(cB rfl (bq (aP (aO (i:=0) (show ((bN kO ["fallen","weight"] [0,2])).Nodup by decide +kernel) rfl (Or.inl rfl))) (bq (aP (aO (i:=1) (show ((bN kO ["fallen","weight"] [0,2])).Nodup by decide +kernel) rfl (Or.inl rfl))) cA)) (bn (bn cx)))) (λb=>(aq bM bK (ac (pv 1)) (aE (aA (ZeA T) (hr.mono (by decide)) rfl (af (ac (pv 2)) (af (ac (pv 3)) (af (ac (pv 0)) aB))))))) rfl (show BlkOk kO (aG oJ) _ [0,2] from ⟨rfl,by decide +kernel,by decide +kernel,by decide +kernel,by decide +kernel⟩)) (dO (bX (bv (by decide)) (bX (bv (by decide)) dP))))) aw)) fx)))
noncomputable def lF:List Sl->Tr PyData :=
 (aa 0)
noncomputable def jC:List Sl->Tr PyData :=
 (aD (az lW (ae (aa 1) (ae (aa 2) (ae (aa 0) ay)))))
noncomputable def mh:List Sl->Tr Re:=bj 4 2
 (ao (aT 4 (aD (az iB (ae (cN (aa 1) (cG (aa 2)) cO) ay))))
 (ao (aT 5 (aD (az jW (ae (aa 1) (ae (aa 2) (ae (aa 3) ay))))))
 (bI (fY (i8 (ai (aa 5) (ai (ag bf (ag aK (aa 0) (aC (.int 0))) (aC (.int 1))) au))) 1 [0,4] (ah 0) lF jC))))
theorem Zns (T:Txt K mg):ACal (br cn) P w K mg base "end_ahead" 3 ["shop","falls","orders","stock"] mh:=bC T.Zmx oD rfl λf cdv A outer sh H E hr=>by
 exact (av (aZ (aR (i:=4) oD.nd rfl (Or.inr rfl) (aE (aA (qQ T) (hr.mono (by decide)) rfl (af (dc (ac (pv 1)) (c9 (ac (pv 2))) db) aB)))))
 (av (aZ (aR (i:=5) oD.nd rfl (Or.inl rfl) (aE (aA (Zet T) (hr.mono (by decide)) rfl (af (ac (pv 1)) (af (ac (pv 2)) (af (ac (pv 3)) aB)))))))
 (aQ (bQ (ZnV (ZhF nC ["counted"] [0,4] rfl (rc (pF rfl T.eu (aj (ac (pv 5)) (aj (aq bG bF (bi bh bg (ac (pv 0)) (cF rfl T.kg) (λ_ _=>rfl)) al) aw)))) (λb=>(aP (aO (i:=0) (show ((bN nC ["counted"] [0,4])).Nodup by decide +kernel) rfl (Or.inl rfl)))) (λb=>(ac (pv 0))) (λb=>(aE (aA (Zne T) (hr.mono (by decide)) rfl (af (ac (pv 1)) (af (ac (pv 2)) (af (ac (pv 0)) aB)))))) rfl (show BlkOk nC (aG oR) _ [0,4] from ⟨rfl,by decide +kernel,by decide +kernel,by decide +kernel,by decide +kernel⟩)) (bv (by decide)))))))
noncomputable def Zb5:List Sl->Tr PyData :=
 (aD (az l9 (cp 1 (ae (aC (.int 5)) ay))))
noncomputable def ma:List Sl->Tr Re:=bj 1 5
 (ao (aT 1 (ba cY (ai (bJ (bZ (gD (ai (ag bf (aC (.int 2)) (aD (az cL (cp 0 (ae (aC (.int 4)) ay))))) au)) 1 [0] (ah 0) Zb5)) au)))
 (ao (aT 2 (aD (az cL (cp 0 (ae (aC (.int 3)) ay)))))
 (ao (aT 3 (aD (az cL (cp 0 (ae (aC (.int 6)) ay)))))
 (ao (aT 4 (ag bf (aD (az l7 (ae (aa 1) ay))) (aa 2)))
 (ao (aT 5 (ag cI (aD (az cL (cp 0 (ae (ag bf (ag bf (aa 3) (aa 2)) (aC (.int 1))) ay)))) (aa 2)))
 (bI (de (ai (ag bf (de (ai (aa 3) (ai (aa 4) au))) (aD (az jZ (cp 0 ay)))) (ai (aa 1) (ai (aa 5) au))))))))))
theorem Znp (T:Txt K mg):ACal (br cn) P w K mg base "_law_asked" 3 ["_law_pen_here"] ma:=bC T.ZmQ il rfl λf cdv A outer sh H E hr=>by
 exact (av (aZ (aR (i:=1) il.nd rfl (Or.inl rfl) (bd (t:=aS) (cJ dR rfl T.dw boot_tuple (aj (cb (cU (cQ nG ["_law_k"] [0] rfl (iZ (iw rfl T.eu (aj (aq bG bF al (aE (aA (c8 T) (hr.mono (by decide)) rfl (cC (pv 0) (af al aB))))) aw))) (λb=>(aP (aO (i:=0) (show ((bN nG ["_law_k"] [0])).Nodup by decide +kernel) rfl (Or.inl rfl)))) (λb=>(aE (aA (Zno T) (hr.mono (by decide)) rfl (cC (pv 1) (af al aB))))) rfl (show BlkOk nG (aG oY) _ [0] from ⟨rfl,by decide +kernel,by decide +kernel,by decide +kernel,by decide +kernel⟩)) (bv (by decide)))) aw)) dI)))
 (av (aZ (aR (i:=2) il.nd rfl (Or.inl rfl) (aE (aA (c8 T) (hr.mono (by decide)) rfl (cC (pv 0) (af al aB))))))
 (av (aZ (aR (i:=3) il.nd rfl (Or.inl rfl) (aE (aA (c8 T) (hr.mono (by decide)) rfl (cC (pv 0) (af al aB))))))
 (av (aZ (aR (i:=4) il.nd rfl (Or.inl rfl) (aq bG bF (aE (aA (Znm T) (hr.mono (by decide)) rfl (af (ac (pv 1)) aB))) (ac (pv 2)))))
 (av (aZ (aR (i:=5) il.nd rfl (Or.inl rfl) (aq dk di (aE (aA (c8 T) (hr.mono (by decide)) rfl (cC (pv 0) (af (aq bG bF (aq bG bF (ac (pv 3)) (ac (pv 2))) al) aB)))) (ac (pv 2)))))
 (aQ (bQ (dE (aj (aq bG bF (dE (aj (ac (pv 3)) (aj (ac (pv 4)) aw))) (aE (aA (Zew T) (hr.mono (by decide)) rfl (cC (pv 0) aB)))) (aj (ac (pv 1)) (aj (ac (pv 5)) aw)))))))))))
noncomputable def pg:List Sl->Tr PyData :=
 (ag bf (ag bA (ag bA (aa 5) (ag aK (aa 1) (aC (.int 3)))) (aa 0)) (aD (az lX (ae (aa 1) (ae (aa 2) (ae (aa 0) (ae (aa 3) (ae (aa 4) ay))))))))
noncomputable def lY:List Sl->Tr Re:=bj 4 1
 (ao (aT 4 (ag bA (aa 3) (ba cr (ai (aa 1) au))))
 (nc (bZ (cW (aD (az jT (ae (aa 0) ay)))) 1 [0,1,2,3,4] (ah 0) pg)))
theorem Znh (T:Txt K mg):ACal (br cn) P w K mg base "level_sums" 4 ["shop","day","ahead","scale"] lY:=bC T.Zmn Za2 rfl λf cdv A outer sh H E hr=>by
 exact (av (aZ (aR (i:=4) Za2.nd rfl (Or.inr rfl) (aq bM bK (ac (pv 3)) (bd (t:=aS) (bu (fW rfl) rfl T.fN boot_sum (aj (ac (pv 1)) aw)) fx))))
 (aQ (ZeY (cU (cQ nv ["level"] [0,1,2,3,4] rfl (dr (aE (aA (Zeq T) (hr.mono (by decide)) rfl (af (ac (pv 0)) aB)))) (λb=>(aP (aO (i:=0) (show ((bN nv ["level"] [0,1,2,3,4])).Nodup by decide +kernel) rfl (Or.inl rfl)))) (λb=>(aq bG bF (aq bM bK (aq bM bK (ac (pv 5)) (bi bh bg (ac (pv 1)) (cF rfl T.qw) (λ_ _=>rfl))) (ac (pv 0))) (aE (aA (Zng T) (hr.mono (by decide)) rfl (af (ac (pv 1)) (af (ac (pv 2)) (af (ac (pv 0)) (af (ac (pv 3)) (af (ac (pv 4)) aB))))))))) rfl (show BlkOk nv (aG oM) _ [0,1,2,3,4] from ⟨rfl,by decide +kernel,by decide +kernel,by decide +kernel,by decide +kernel⟩)) (bv (by decide))))))
noncomputable def my:List Sl->Tr Ou :=
 (ao (aT 10 (ag bf (ag bA (ag bA (aa 5) (ag aK (aa 0) (aC (.int 3)))) (aa 9)) (ag bA (aa 6) (aD (az iC (ae (aa 0) (ae (aa 7) (ae (aa 9) ay))))))))
 (gE 8 (ag bf (aa 10) (aD (az jS (ae (ag aK (aa 1) (aC (.int 0))) (ae (aa 3) (ae (aa 9) ay))))))))
noncomputable def mj:List Sl->Tr Re:=bj 5 6
 (ao (aT 5 (aD (az gq (ae (aa 1) ay))))
 (ao (aT 6 (aD (az gq (ae (cN (aa 1) (cG (ag bf (aa 2) (aC (.int 1)))) cO) ay))))
 (ao (aT 7 (aD (az iB (ae (cN (aa 1) cO (cG (ag bf (aa 2) (aC (.int 1))))) ay))))
 (ao (ft 8 (dF au))
 (ao (dG (i8 (ai (aa 4) (ai (ag bf (ag aK (aa 0) (aC (.int 0))) (aC (.int 1))) au))) (ah 9) my)
 (eG 8))))))
theorem Znt (T:Txt K mg):ACal (br cn) P w K mg base "counted_sums" 4 ["shop","falls","days","ahead","low"] mj:=bC T.Zmz gN rfl λf cdv A outer sh H E hr=>by
 exact (av (aZ (aR (i:=5) gN.nd rfl (Or.inl rfl) (aE (aA (kw T) (hr.mono (by decide)) rfl (af (ac (pv 1)) aB)))))
 (av (aZ (aR (i:=6) gN.nd rfl (Or.inl rfl) (aE (aA (kw T) (hr.mono (by decide)) rfl (af (dc (ac (pv 1)) (c9 (aq bG bF (ac (pv 2)) al)) db) aB)))))
 (av (aZ (aR (i:=7) gN.nd rfl (Or.inl rfl) (aE (aA (qQ T) (hr.mono (by decide)) rfl (af (dc (ac (pv 1)) db (c9 (aq bG bF (ac (pv 2)) al))) aB)))))
 (av (hU (aR (i:=8) gN.nd rfl (Or.inl rfl) (eE aw)))
 (av (eD PassesOwn.never rfl (rc (pF rfl T.eu (aj (ac (pv 4)) (aj (aq bG bF (bi bh bg (ac (pv 0)) (cF rfl T.kg) (λ_ _=>rfl)) al) aw)))) (aP (aO (i:=9) gN.nd rfl (Or.inl rfl)))
  (av (aZ (aR (i:=10) gN.nd rfl (Or.inl rfl) (aq bG bF (aq bM bK (aq bM bK (ac (pv 5)) (bi bh bg (ac (pv 0)) (cF rfl T.qw) (λ_ _=>rfl))) (ac (pv 9))) (aq bM bK (ac (pv 6)) (aE (aA (Zep T) (hr.mono (by decide)) rfl (af (ac (pv 0)) (af (ac (pv 7)) (af (ac (pv 9)) aB)))))))))
 (aQ (kA (fH (jH PySem.F.plainAttrs_list PySem.F.slot_list_append PySem.F.type_list_append jO (pv 8) (ci (aq bG bF (ac (pv 10)) (aE (aA (Znf T) (hr.mono (by decide)) rfl (af (bi bh bg (ac (pv 1)) al (λ_ _=>rfl)) (af (ac (pv 3)) (af (ac (pv 9)) aB)))))) cu)))))))
 (aQ (iY (pv 8))))))))
noncomputable def lD:List Sl->Tr PyData :=
 (de (ai (aD (az gU (ae (aa 0) (ae (aa 2) ay)))) (ai (aa 1) au)))
noncomputable def lC:List Sl->Tr PyData :=
 (aa 0)
noncomputable def ZcW:List Sl->Tr Ou :=
 (ao (aT 6 (aD (az lY (ae (aa 0) (ae (aa 5) (ae (aa 3) (ae (aa 4) ay)))))))
 (ao (hZ iP 4 (ba cr (ai (aa 5) au)))
 (ao (aT 7 (aD (az mn (ae (aa 0) (ae (aa 6) (ae (aa 4) ay))))))
 (ao (gE 2 (ba cY (ai (bJ (bZ (cW (aa 7)) 2 [4] (aX (ak (ah 0) (ak (ah 1) aW))) lD)) au)))
 (aT 3 (bJ (bZ (cW (aa 7)) 2 [] (aX (ak (ah 0) (ak (ah 1) aW))) lC)))))))
noncomputable def lZ:List Sl->Tr Re:=bj 2 6
 (ao (ft 2 (dF au))
 (ao (aT 3 (aD (az mf (ae (aa 0) ay))))
 (ao (aT 4 (aC (.int 1)))
 (ao (dG (rn (aa 1)) (ah 5) ZcW)
 (ao (i9 2)
 (hW 2 (bI (ba cY (ai (aa 2) au)))))))))
theorem Zni (T:Txt K mg):ACal (br cn) P w K mg base "least" 5 ["shop","falls"] lZ:=bC T.Zmq fE rfl λf cdv A outer sh H E hr=>by
 exact (av (hU (aR (i:=2) fE.nd rfl (Or.inl rfl) (eE aw)))
 (av (aZ (aR (i:=3) fE.nd rfl (Or.inl rfl) (aE (aA (Znr T) (hr.mono (by decide)) rfl (af (ac (pv 0)) aB)))))
 (av (aZ (aR (i:=4) fE.nd rfl (Or.inr rfl) al))
 (av (eD PassesOwn.never rfl (ZnQ (pE rfl T.pU (ac (pv 1)))) (aP (aO (i:=5) fE.nd rfl (Or.inl rfl)))
  (av (aZ (aR (i:=6) fE.nd rfl (Or.inl rfl) (aE (aA (Znh T) (hr.mono (by decide)) rfl (af (ac (pv 0)) (af (ac (pv 5)) (af (ac (pv 3)) (af (ac (pv 4)) aB))))))))
 (av (mX Zal (lL (i:=4) fE.nd rfl (Or.inr rfl) (bd (t:=aS) (bu (fW rfl) rfl T.fN boot_sum (aj (ac (pv 5)) aw)) fx) (pip Zc8)))
 (av (aZ (aR (i:=7) fE.nd rfl (Or.inl rfl) (aE (aA (Znv T) (hr.mono (by decide)) rfl (af (ac (pv 0)) (af (ac (pv 6)) (af (ac (pv 4)) aB)))))))
 (av (kA (fH (jH PySem.F.plainAttrs_list PySem.F.slot_list_append PySem.F.type_list_append jO (pv 2) (ci (bd (t:=aS) (cJ dR rfl T.dw boot_tuple (aj (cb (cU (cQ f7 ["cost","level"] [4] rfl (dr (ac (pv 7))) (λb=>(cB rfl (bq (aP (aO (i:=0) (show ((bN f7 ["cost","level"] [4])).Nodup by decide +kernel) rfl (Or.inl rfl))) (bq (aP (aO (i:=1) (show ((bN f7 ["cost","level"] [4])).Nodup by decide +kernel) rfl (Or.inl rfl))) cA)) (bn (bn cx)))) (λb=>(dE (aj (aE (aA (qS T) (hr.mono (by decide)) rfl (af (ac (pv 0)) (af (ac (pv 2)) aB)))) (aj (ac (pv 1)) aw)))) rfl (show BlkOk f7 (aG li) _ [4] from ⟨rfl,by decide +kernel,by decide +kernel,by decide +kernel,by decide +kernel⟩)) (dO (bX (bv (by decide)) (bX (bv (by decide)) dP))))) aw)) dI) cu))))
 (aQ (qZ (lH (i:=3) f7 ["cost","level"] [] rfl fE.nd rfl rfl (dr (ac (pv 7))) (λb=>(cB rfl (bq (aP (aO (i:=0) (show ((bN f7 ["cost","level"] [])).Nodup by decide +kernel) rfl (Or.inl rfl))) (bq (aP (aO (i:=1) (show ((bN f7 ["cost","level"] [])).Nodup by decide +kernel) rfl (Or.inl rfl))) cA)) (bn (bn cx)))) (λb=>(ac (pv 0))) rfl (show BlkOk f7 (aG li) _ [] from ⟨rfl,by decide +kernel,by decide +kernel,by decide +kernel,by decide +kernel⟩) rfl) (dO (bX (bv (by decide)) (bX (bv (by decide)) dP))))))))))
 (av (q9 (fH (pH PySem.F.plainAttrs_list PySem.F.slot_list_reverse PySem.F.type_list_reverse pV (pv 2))))
 (aQ (kz (k:=2) (bQ (bd (t:=aS) (cJ dR rfl T.dw boot_tuple (aj (ac (pv 2)) aw)) dI)))))))))
noncomputable def lB:List Sl->Tr PyData :=
 (de (ai (aD (az gU (ae (aa 0) (ae (aa 2) ay)))) (ai (aa 1) au)))
noncomputable def lA:List Sl->Tr PyData :=
 (ag bf (aa 3) (aa 0))
noncomputable def lz:List Sl->Tr PyData :=
 (aa 1)
noncomputable def mv:List Sl->Tr Ou :=
 (ao (aT 8 (aD (az jW (ae (aa 1) (ae (aa 7) (ae (aa 3) ay))))))
 (ao (aT 9 (aD (az gq (ae (cN (aa 1) (cG (aa 7)) cO) ay))))
 (ao (aT 10 (aD (az j4 (ae (aa 0) (ae (aa 8) (ae (aD (az mj (ae (aa 0) (ae (cN (aa 1) (cG (aa 7)) cO) (ae (aa 2) (ae (aa 5) (ae (aa 8) ay))))))) (ae (aa 9) ay)))))))
 (ao (gE 6 (ba cY (ai (bJ (bZ (cW (aa 10)) 2 [9] (aX (ak (ah 0) (ak (ah 1) aW))) lB)) au)))
 (aT 5 (fY (e9 (aa 10)) 3 [8] (aX (ak (ah 0) (ak (aX (ak (ah 1) (ak (ah 2) aW))) aW))) lA lz))))))
noncomputable def jU:List Sl->Tr Re:=bj 4 7
 (ao (aT 4 (ag cI (ba dA (ai (aa 1) au)) (aa 2)))
 (ao (aT 5 (aD (az mh (ae (aa 0) (ae (aa 1) (ae (aa 4) (ae (aa 3) ay)))))))
 (ao (ft 6 (dF au))
 (ao (dG (rm (ai (aa 4) au)) (ah 7) mv)
 (ao (i9 6)
 (hW 6 (bI (de (ai (aa 6) (ai (ag eW (aa 5) (aa 3)) au))))))))))
theorem Zer (T:Txt K mg):ACal (br cn) P w K mg base "short_days" 5 ["shop","falls","days","stock"] jU:=bC T.Zmj fB rfl λf cdv A outer sh H E hr=>by
 exact (av (aZ (aR (i:=4) fB.nd rfl (Or.inl rfl) (aq dk di (bd (t:=aS) (bu fX rfl T.fO boot_len (aj (ac (pv 1)) aw)) ic) (ac (pv 2)))))
 (av (aZ (aR (i:=5) fB.nd rfl (Or.inl rfl) (aE (aA (Zns T) (hr.mono (by decide)) rfl (af (ac (pv 0)) (af (ac (pv 1)) (af (ac (pv 4)) (af (ac (pv 3)) aB))))))))
 (av (hU (aR (i:=6) fB.nd rfl (Or.inl rfl) (eE aw)))
 (av (eD PassesOwn.never rfl (ZnP (pE rfl T.pU (cJ Zna rfl T.eu boot_range (aj (ac (pv 4)) aw)))) (aP (aO (i:=7) fB.nd rfl (Or.inl rfl)))
  (av (aZ (aR (i:=8) fB.nd rfl (Or.inr rfl) (aE (aA (Zet T) (hr.mono (by decide)) rfl (af (ac (pv 1)) (af (ac (pv 7)) (af (ac (pv 3)) aB)))))))
 (av (aZ (aR (i:=9) fB.nd rfl (Or.inr rfl) (aE (aA (kw T) (hr.mono (by decide)) rfl (af (dc (ac (pv 1)) (c9 (ac (pv 7))) db) aB)))))
 (av (aZ (aR (i:=10) fB.nd rfl (Or.inl rfl) (aE (aA (ZeB T) (hr.mono (by decide)) rfl (af (ac (pv 0)) (af (ac (pv 8)) (af (aE (aA (Znt T) (hr.mono (by decide)) rfl (af (ac (pv 0)) (af (dc (ac (pv 1)) (c9 (ac (pv 7))) db) (af (ac (pv 2)) (af (ac (pv 5)) (af (ac (pv 8)) aB))))))) (af (ac (pv 9)) aB))))))))
 (av (kA (fH (jH PySem.F.plainAttrs_list PySem.F.slot_list_append PySem.F.type_list_append jO (pv 6) (ci (bd (t:=aS) (cJ dR rfl T.dw boot_tuple (aj (cb (cU (cQ fu ["cost","level"] [9] rfl (dr (ac (pv 10))) (λb=>(cB rfl (bq (aP (aO (i:=0) (show ((bN fu ["cost","level"] [9])).Nodup by decide +kernel) rfl (Or.inl rfl))) (bq (aP (aO (i:=1) (show ((bN fu ["cost","level"] [9])).Nodup by decide +kernel) rfl (Or.inl rfl))) cA)) (bn (bn cx)))) (λb=>(dE (aj (aE (aA (qS T) (hr.mono (by decide)) rfl (af (ac (pv 0)) (af (ac (pv 2)) aB)))) (aj (ac (pv 1)) aw)))) rfl (show BlkOk fu (aG lh) _ [9] from ⟨rfl,by decide +kernel,by decide +kernel,by decide +kernel,by decide +kernel⟩)) (dO (bX (bv (by decide)) (bX (bv (by decide)) dP))))) aw)) dI) cu))))
 (aQ (ZnH (Zhp (i:=5) fu ["at","cost","level"] [8] rfl fB.nd rfl rfl (gB (gh rfl rfl T.gm (ac (pv 10)))) (λb=>(cB rfl (bq (aP (aO (i:=0) (show ((bN fu ["at","cost","level"] [8])).Nodup by decide +kernel) rfl (Or.inl rfl))) (bq (cB rfl (bq (aP (aO (i:=1) (show ((bN fu ["at","cost","level"] [8])).Nodup by decide +kernel) rfl (Or.inl rfl))) (bq (aP (aO (i:=2) (show ((bN fu ["at","cost","level"] [8])).Nodup by decide +kernel) rfl (Or.inl rfl))) cA)) (bn (bn cx))) cA)) (bn (bn cx)))) (λb=>(aq bG bF (ac (pv 3)) (ac (pv 0)))) (λb=>(ac (pv 1))) rfl (show BlkOk fu (aG lh) _ [8] from ⟨rfl,by decide +kernel,by decide +kernel,by decide +kernel,by decide +kernel⟩) rfl) (dO (bX (bv (by decide)) (bX (dO (bX (bv (by decide)) (bX (bv (by decide)) dP))) dP))))))))))
 (av (q9 (fH (pH PySem.F.plainAttrs_list PySem.F.slot_list_reverse PySem.F.type_list_reverse pV (pv 6))))
 (aQ (kz (k:=6) (bQ (dE (aj (ac (pv 6)) (aj (Ze5 (Zcd (kb hr) (ac (pv 5)) (ac (pv 3)) (λ_ _=>rfl))) aw)))))))))))
noncomputable def mx:List Sl->Tr Ou :=
 (hZ ka 5 (ag bA (aD (az gq (ae (cN (aa 1) (cG (ag bf (aa 6) (aC (.int 1)))) cO) ay))) (aD (az iC (ae (aa 0) (ae (aD (az iB (ae (cN (aa 1) cO (cG (ag bf (aa 6) (aC (.int 1))))) ay))) (ae (aa 3) ay)))))))
noncomputable def fk:List Sl->Tr Re:=bj 4 3
 (ao (ni (aD (az j5 (ae (aa 0) (ae (aa 1) (ae (aa 3) ay))))))
 (ao (je (aX (ak (ah 4) (ak (ah 5) aW))) (aD (az jU (ae (aa 0) (ae (aa 1) (ae (aa 2) (ae (aa 3) ay)))))))
 (ao (dG (gD (ai (aa 2) au)) (ah 6) mx)
 (jb (az gU (ae (aa 5) (ae (aD (az gq (ae (aa 1) ay))) ay)))))))
theorem g9 (T:Txt K mg):ACal (br cn) P w K mg base "least_late" 6 ["shop","falls","days","stock"] fk:=bC T.Zmo jr rfl λf cdv A outer sh H E hr=>by
 exact (av (Ze0 (aE (aA (ZeC T) (hr.mono (by decide)) rfl (af (ac (pv 0)) (af (ac (pv 1)) (af (ac (pv 3)) aB))))))
 (av (mY (fI (aE (aA (Zer T) (hr.mono (by decide)) rfl (af (ac (pv 0)) (af (ac (pv 1)) (af (ac (pv 2)) (af (ac (pv 3)) aB)))))) (cB rfl (bq (aP (aO (i:=4) jr.nd rfl (Or.inl rfl))) (bq (aP (aO (i:=5) jr.nd rfl (Or.inl rfl))) cA)) (bn (bn cx)))))
 (av (eD PassesOwn.never rfl (iZ (iw rfl T.eu (aj (ac (pv 2)) aw))) (aP (aO (i:=6) jr.nd rfl (Or.inl rfl)))
  (aQ (mX Zam (lL (i:=5) jr.nd rfl (Or.inl rfl) (aq bM bK (aE (aA (kw T) (hr.mono (by decide)) rfl (af (dc (ac (pv 1)) (c9 (aq bG bF (ac (pv 6)) al)) db) aB))) (aE (aA (Zep T) (hr.mono (by decide)) rfl (af (ac (pv 0)) (af (aE (aA (qQ T) (hr.mono (by decide)) rfl (af (dc (ac (pv 1)) db (c9 (aq bG bF (ac (pv 6)) al))) aB))) (af (ac (pv 3)) aB)))))) (pip Zc9)))))
 (aQ (mV (aA (qS T) (hr.mono (by decide)) rfl (af (ac (pv 5)) (af (aE (aA (kw T) (hr.mono (by decide)) rfl (af (ac (pv 1)) aB))) aB))))))))
noncomputable def iD:List Sl->Tr Re:=bj 4 2
 (ao (ni (aD (az j5 (ae (aa 0) (ae (aa 1) (ae (aa 3) ay))))))
 (ao (je (aX (ak (ah 4) (ak (ah 5) aW))) (aD (az jU (ae (aa 0) (ae (aa 1) (ae (aa 2) (ae (aa 3) ay)))))))
 (bI (ba cY (ai (aa 4) au)))))
theorem qR (T:Txt K mg):ACal (br cn) P w K mg base "short_table" 6 ["shop","falls","days","stock"] iD:=bC T.Zmi oB rfl λf cdv A outer sh H E hr=>by
 exact (av (Ze0 (aE (aA (ZeC T) (hr.mono (by decide)) rfl (af (ac (pv 0)) (af (ac (pv 1)) (af (ac (pv 3)) aB))))))
 (av (mY (fI (aE (aA (Zer T) (hr.mono (by decide)) rfl (af (ac (pv 0)) (af (ac (pv 1)) (af (ac (pv 2)) (af (ac (pv 3)) aB)))))) (cB rfl (bq (aP (aO (i:=4) oB.nd rfl (Or.inl rfl))) (bq (aP (aO (i:=5) oB.nd rfl (Or.inl rfl))) cA)) (bn (bn cx)))))
 (aQ (bQ (bd (t:=aS) (cJ dR rfl T.dw boot_tuple (aj (ac (pv 4)) aw)) dI)))))
noncomputable def j9:List Sl->Tr Ou :=
 (gE 3 (aD (az fk (ae (aa 0) (ae (aa 1) (ae (aa 4) (ae (aa 2) ay)))))))
noncomputable def ir:List Sl->Tr PyData :=
 (aD (az iE (ae (aa 0) (ae (aa 1) ay))))
noncomputable def iF:List Sl->Tr Re:=bj 3 2
 (ao (ft 3 (dF (ai (ag aK (ag aK (ag aK (aD (az lZ (ae (aa 0) (ae (aa 1) ay)))) (aC (.int 0))) (ag bf (aa 2) (ag aK (aa 0) (aC (.int 1))))) (aC (.int 0))) au)))
 (ao (dG (i8 (ai (aC (.int 1)) (ai (ag bf (ba jP (ai (aC (.int 3)) (ai (ag cI (ba dA (ai (aa 1) au)) (aC (.int 1))) au))) (aC (.int 1))) au))) (ah 4) j9)
 (hW 3 (bI (ba kB (ai (bJ (bZ (kF (aa 3) (cN (aa 3) (cG (aC (.int 1))) cO)) 2 [] (aX (ak (ah 0) (ak (ah 1) aW))) ir)) au))))))
theorem Znl (T:Txt K mg):ACal (br cn) P w K mg base "_law_later_right" 7 ["_law_shop","_law_falls","_law_stock"] iF:=bC T.ZmL oH rfl λf cdv A outer sh H E hr=>by
 exact (av (hU (aR (i:=3) oH.nd rfl (Or.inl rfl) (eE (aj (bi bh bg (bi bh bg (bi bh bg (aE (aA (Zni T) (hr.mono (by decide)) rfl (af (ac (pv 0)) (af (ac (pv 1)) aB)))) al (λ_ _=>rfl)) (aq bG bF (ac (pv 2)) (bi bh bg (ac (pv 0)) al (λ_ _=>rfl))) (λ_ _=>rfl)) al (λ_ _=>rfl)) aw))))
 (av (eD PassesOwn.never rfl (rc (pF rfl T.eu (aj al (aj (aq bG bF (bd (t:=aS) (bu (Zen rfl) rfl T.lU boot_min (aj al (aj (aq dk di (bd (t:=aS) (bu fX rfl T.fO boot_len (aj (ac (pv 1)) aw)) ic) al) aw))) Zao) al) aw)))) (aP (aO (i:=4) oH.nd rfl (Or.inl rfl)))
  (aQ (kA (fH (jH PySem.F.plainAttrs_list PySem.F.slot_list_append PySem.F.type_list_append jO (pv 3) (ci (aE (aA (g9 T) (hr.mono (by decide)) rfl (af (ac (pv 0)) (af (ac (pv 1)) (af (ac (pv 4)) (af (ac (pv 2)) aB)))))) cu))))))
 (aQ (kz (k:=3) (bQ (bd (t:=aS) (bu (Znd rfl) rfl T.Zh8 boot_all (aj (cb (cU (cQ kR ["_law_one","_law_other"] [] rfl (rb (pD rfl rfl T.pT (ac (pv 3)) (dc (ac (pv 3)) (c9 al) db))) (λb=>(cB rfl (bq (aP (aO (i:=0) (show ((bN kR ["_law_one","_law_other"] [])).Nodup by decide +kernel) rfl (Or.inl rfl))) (bq (aP (aO (i:=1) (show ((bN kR ["_law_one","_law_other"] [])).Nodup by decide +kernel) rfl (Or.inl rfl))) cA)) (bn (bn cx)))) (λb=>(aE (aA (Zex T) (hr.mono (by decide)) rfl (af (ac (pv 0)) (af (ac (pv 1)) aB))))) rfl (show BlkOk kR (aG oU) _ [] from ⟨rfl,by decide +kernel,by decide +kernel,by decide +kernel,by decide +kernel⟩)) (dO (bX (bv (by decide)) (bX (bv (by decide)) dP))))) aw)) Zfu))))))
noncomputable def Zb3:List Sl->Tr PyData :=
 (ag bf (aa 0) (aa 1))
noncomputable def l8:List Sl->Tr Re:=bj 5 4
 (ao (aT 5 (ag i5 (cN (aa 0) cO (cG (aC (.int 2)))) (ba cY (ai (bJ (bZ (kF (cN (aa 0) (cG (aC (.int 2))) cO) (cN (aa 1) (cG (aC (.int 2))) cO)) 2 [] (aX (ak (ah 0) (ak (ah 1) aW))) Zb3)) au))))
 (ao (aT 6 (aD (az fk (ae (aa 0) (ae (aa 2) (ae (aa 3) (ae (aa 4) ay)))))))
 (ao (aT 7 (aD (az fk (ae (aa 1) (ae (aa 2) (ae (aa 3) (ae (aa 4) ay)))))))
 (ao (aT 8 (aD (az fk (ae (aa 5) (ae (aa 2) (ae (aa 3) (ae (aa 4) ay)))))))
 (jb (az iE (ae (aD (az jY (ae (ag bf (ag bA (ag aK (aa 6) (aC (.int 0))) (ag aK (aa 7) (aC (.int 1)))) (ag bA (ag aK (aa 7) (aC (.int 0))) (ag aK (aa 6) (aC (.int 1))))) (ae (ag bA (ag aK (aa 6) (aC (.int 1))) (ag aK (aa 7) (aC (.int 1)))) ay)))) (ae (aa 8) ay))))))))
theorem Znn (T:Txt K mg):ACal (br cn) P w K mg base "_law_dearer_right" 7 ["_law_shop","_law_other","_law_falls","_law_days","_law_stock"] l8:=bC T.ZmO js rfl λf cdv A outer sh H E hr=>by
 exact (av (aZ (aR (i:=5) js.nd rfl (Or.inl rfl) (aq pN nU (dc (ac (pv 0)) db (c9 al)) (bd (t:=aS) (cJ dR rfl T.dw boot_tuple (aj (cb (cU (cQ kS ["_law_one","_law_more"] [] rfl (rb (pD rfl rfl T.pT (dc (ac (pv 0)) (c9 al) db) (dc (ac (pv 1)) (c9 al) db))) (λb=>(cB rfl (bq (aP (aO (i:=0) (show ((bN kS ["_law_one","_law_more"] [])).Nodup by decide +kernel) rfl (Or.inl rfl))) (bq (aP (aO (i:=1) (show ((bN kS ["_law_one","_law_more"] [])).Nodup by decide +kernel) rfl (Or.inl rfl))) cA)) (bn (bn cx)))) (λb=>(aq bG bF (ac (pv 0)) (ac (pv 1)))) rfl (show BlkOk kS (aG oW) _ [] from ⟨rfl,by decide +kernel,by decide +kernel,by decide +kernel,by decide +kernel⟩)) (dO (bX (bv (by decide)) (bX (bv (by decide)) dP))))) aw)) dI))))
 (av (aZ (aR (i:=6) js.nd rfl (Or.inl rfl) (aE (aA (g9 T) (hr.mono (by decide)) rfl (af (ac (pv 0)) (af (ac (pv 2)) (af (ac (pv 3)) (af (ac (pv 4)) aB))))))))
 (av (aZ (aR (i:=7) js.nd rfl (Or.inl rfl) (aE (aA (g9 T) (hr.mono (by decide)) rfl (af (ac (pv 1)) (af (ac (pv 2)) (af (ac (pv 3)) (af (ac (pv 4)) aB))))))))
 (av (aZ (aR (i:=8) js.nd rfl (Or.inl rfl) (aE (aA (g9 T) (hr.mono (by decide)) rfl (af (ac (pv 5)) (af (ac (pv 2)) (af (ac (pv 3)) (af (ac (pv 4)) aB))))))))
 (aQ (mV (aA (Zex T) (hr.mono (by decide)) rfl (af (aE (aA (Zev T) (hr.mono (by decide)) rfl (af (aq bG bF (aq bM bK (bi bh bg (ac (pv 6)) al (λ_ _=>rfl)) (bi bh bg (ac (pv 7)) al (λ_ _=>rfl))) (aq bM bK (bi bh bg (ac (pv 7)) al (λ_ _=>rfl)) (bi bh bg (ac (pv 6)) al (λ_ _=>rfl)))) (af (aq bM bK (bi bh bg (ac (pv 6)) al (λ_ _=>rfl)) (bi bh bg (ac (pv 7)) al (λ_ _=>rfl))) aB)))) (af (ac (pv 8)) aB)))))))))
noncomputable def pj:List Sl->Tr PyData :=
 (de (ai (aD (az jX (ae (aa 0) (ae (aa 2) ay)))) (ai (aa 1) au)))
noncomputable def lE:List Sl->Tr PyData :=
 (ba cY (ai (bJ (bZ (cW (aa 0)) 2 [1] (aX (ak (ah 0) (ak (ah 1) aW))) pj)) au))
noncomputable def pi:List Sl->Tr PyData :=
 (ag bA (aa 0) (aa 1))
noncomputable def jz:List Sl->Tr PyData :=
 (ba cY (ai (bJ (bZ (cW (aa 0)) 1 [1] (ah 0) pi)) au))
noncomputable def l0:List Sl->Tr Re:=bj 6 5
 (ao (aT 6 (aD (az fk (ae (aa 0) (ae (aa 1) (ae (aa 2) (ae (aa 3) ay)))))))
 (ao (aT 7 (aD (az iD (ae (aa 0) (ae (aa 1) (ae (aa 2) (ae (aa 3) ay)))))))
 (ao (aT 8 (aD (az l6 (ae (aa 0) (ae (aa 4) ay)))))
 (ao (eI (df (ag jL (ba ff (ai (aD (az fk (ae (aa 8) (ae (aa 1) (ae (aa 2) (ae (aa 3) ay)))))) au)) (ba ff (ai (aD (az jX (ae (aa 6) (ae (aa 4) ay)))) au))))
  (bI (aC (.bool false)))
  eF)
 (ao (aT 9 (ba cY (ai (bJ (bZ (cW (aa 7)) 1 [4] (ah 0) lE)) au)))
 (ao (eI (df (ag jL (ba ff (ai (aD (az iD (ae (aa 8) (ae (aa 1) (ae (aa 2) (ae (aa 3) ay)))))) au)) (ba ff (ai (aa 9) au))))
  (bI (aC (.bool false)))
  eF)
 (ao (aT 10 (ba cY (ai (bJ (bZ (kF (aa 1) (aa 5)) 2 [] (aX (ak (ah 0) (ak (ah 1) aW))) jz)) au)))
 (bI (ag gx (ba ff (ai (de (ai (aD (az fk (ae (aa 0) (ae (aa 10) (ae (aa 2) (ae (aa 3) ay)))))) (ai (aD (az iD (ae (aa 0) (ae (aa 10) (ae (aa 2) (ae (aa 3) ay)))))) au))) au)) (ba ff (ai (de (ai (aa 6) (ai (aa 7) au))) au)))))))))))
theorem Znj (T:Txt K mg):ACal (br cn) P w K mg base "_law_times_right" 7 ["_law_shop","_law_falls","_law_days","_law_stock","_law_many","_law_weights"] l0:=bC T.ZmE ij rfl λf cdv A outer sh H E hr=>by
 exact (av (aZ (aR (i:=6) ij.nd rfl (Or.inl rfl) (aE (aA (g9 T) (hr.mono (by decide)) rfl (af (ac (pv 0)) (af (ac (pv 1)) (af (ac (pv 2)) (af (ac (pv 3)) aB))))))))
 (av (aZ (aR (i:=7) ij.nd rfl (Or.inl rfl) (aE (aA (qR T) (hr.mono (by decide)) rfl (af (ac (pv 0)) (af (ac (pv 1)) (af (ac (pv 2)) (af (ac (pv 3)) aB))))))))
 (av (aZ (aR (i:=8) ij.nd rfl (Or.inl rfl) (aE (aA (Znk T) (hr.mono (by decide)) rfl (af (ac (pv 0)) (af (ac (pv 4)) aB))))))
 (av (fr (dS (Zco hr) Zak (bd (t:=aS) (bu (iV hr) rfl T.iz boot_repr (aj (aE (aA (g9 T) (hr.mono (by decide)) rfl (af (ac (pv 8)) (af (ac (pv 1)) (af (ac (pv 2)) (af (ac (pv 3)) aB)))))) aw)) ib) (bd (t:=aS) (bu (iV hr) rfl T.iz boot_repr (aj (aE (aA (Zeu T) (hr.mono (by decide)) rfl (af (ac (pv 6)) (af (ac (pv 4)) aB)))) aw)) ib) (nomark _))
  (aQ (bQ kD))
  fq)
 (av (aZ (aR (i:=9) ij.nd rfl (Or.inl rfl) (bd (t:=aS) (cJ dR rfl T.dw boot_tuple (aj (cb (cU (cQ dW ["_law_row"] [4] rfl (dr (ac (pv 7))) (λb=>(aP (aO (i:=0) (show ((bN dW ["_law_row"] [4])).Nodup by decide +kernel) rfl (Or.inl rfl)))) (λb=>(bd (t:=aS) (cJ dR rfl T.dw boot_tuple (aj (cb (cU (cQ (bN dW ["_law_row"] [4]) ["_law_one","_law_level"] [1] rfl (dr (ac (pv 0))) (λb=>(cB rfl (bq (aP (aO (i:=0) (show ((bN (bN dW ["_law_row"] [4]) ["_law_one","_law_level"] [1])).Nodup by decide +kernel) rfl (Or.inl rfl))) (bq (aP (aO (i:=1) (show ((bN (bN dW ["_law_row"] [4]) ["_law_one","_law_level"] [1])).Nodup by decide +kernel) rfl (Or.inl rfl))) cA)) (bn (bn cx)))) (λb=>(dE (aj (aE (aA (Zeu T) (hr.mono (by decide)) rfl (af (ac (pv 0)) (af (ac (pv 2)) aB)))) (aj (ac (pv 1)) aw)))) rfl (BlkOk.nest ⟨rfl,by decide +kernel,by decide +kernel,by decide +kernel,by decide +kernel⟩)) (dO (bX (bv (by decide)) (bX (bv (by decide)) dP))))) aw)) dI)) rfl (show BlkOk dW (aG ll) _ [4] from ⟨rfl,by decide +kernel,by decide +kernel,by decide +kernel,by decide +kernel⟩)) (bv (by decide)))) aw)) dI)))
 (av (fr (dS (Zco hr) Zak (bd (t:=aS) (bu (iV hr) rfl T.iz boot_repr (aj (aE (aA (qR T) (hr.mono (by decide)) rfl (af (ac (pv 8)) (af (ac (pv 1)) (af (ac (pv 2)) (af (ac (pv 3)) aB)))))) aw)) ib) (bd (t:=aS) (bu (iV hr) rfl T.iz boot_repr (aj (ac (pv 9)) aw)) ib) (nomark _))
  (aQ (bQ kD))
  fq)
 (av (aZ (aR (i:=10) ij.nd rfl (Or.inl rfl) (bd (t:=aS) (cJ dR rfl T.dw boot_tuple (aj (cb (cU (cQ dW ["_law_one","_law_by"] [] rfl (rb (pD rfl rfl T.pT (ac (pv 1)) (ac (pv 5)))) (λb=>(cB rfl (bq (aP (aO (i:=0) (show ((bN dW ["_law_one","_law_by"] [])).Nodup by decide +kernel) rfl (Or.inl rfl))) (bq (aP (aO (i:=1) (show ((bN dW ["_law_one","_law_by"] [])).Nodup by decide +kernel) rfl (Or.inr rfl))) cA)) (bn (bn cx)))) (λb=>(bd (t:=aS) (cJ dR rfl T.dw boot_tuple (aj (cb (cU (cQ (bN dW ["_law_one","_law_by"] []) ["_law_weight"] [1] rfl (dr (ac (pv 0))) (λb=>(aP (aO (i:=0) (show ((bN (bN dW ["_law_one","_law_by"] []) ["_law_weight"] [1])).Nodup by decide +kernel) rfl (Or.inl rfl)))) (λb=>(aq bM bK (ac (pv 0)) (ac (pv 1)))) rfl (BlkOk.nest ⟨rfl,by decide +kernel,by decide +kernel,by decide +kernel,by decide +kernel⟩)) (bv (by decide)))) aw)) dI)) rfl (show BlkOk dW (aG ll) _ [] from ⟨rfl,by decide +kernel,by decide +kernel,by decide +kernel,by decide +kernel⟩)) (dO (bX (bv (by decide)) (bX (bv (by decide)) dP))))) aw)) dI)))
 (aQ (bQ (Ze6 (lR hr) kX (bd (t:=aS) (bu (iV hr) rfl T.iz boot_repr (aj (dE (aj (aE (aA (g9 T) (hr.mono (by decide)) rfl (af (ac (pv 0)) (af (ac (pv 10)) (af (ac (pv 2)) (af (ac (pv 3)) aB)))))) (aj (aE (aA (qR T) (hr.mono (by decide)) rfl (af (ac (pv 0)) (af (ac (pv 10)) (af (ac (pv 2)) (af (ac (pv 3)) aB)))))) aw))) aw)) ib) (bd (t:=aS) (bu (iV hr) rfl T.iz boot_repr (aj (dE (aj (ac (pv 6)) (aj (ac (pv 7)) aw))) aw)) ib) (nomark _)))))))))))
noncomputable def pz:List Sl->Tr PyData :=
 (ag bf (aC (.int 1)) (ag fh (aD (az cL (cp 1 (ae (aC (.int 50)) ay)))) (ba jQ (ai (aC (.int 1)) (ai (ag fm (aC (.int 1000)) (ba fP (ai (aa 0) au))) au)))))
noncomputable def qj:List Sl->Tr Ou :=
 (ao (aT 3 (ag bf (aC (.int 2)) (aD (az cL (cp 1 (ae (aC (.int 8)) ay))))))
 (ao (je (aX (ak (ah 4) (ak (ah 5) (ak (ah 6) aW)))) (aD (az ma (cp 1 ay))))
 (ao (aT 7 (ag i5 (cN (aa 4) cO (cG (aC (.int 2)))) (aD (az jZ (cp 1 ay)))))
 (ao (aT 8 (bJ (bZ (cW (aa 5)) 1 [1] (ah 0) pz)))
 (ao (aT 9 (ag bf (aC (.int 1)) (aD (az cL (cp 1 (ae (ba jP (ai (aC (.int 3)) (ai (ag cI (ba dA (ai (aa 5) au)) (aC (.int 1))) au))) ay))))))
 (ao (eI (rp (kH (i7 (aD (az iF (ae (aa 4) (ae (aa 5) (ae (aa 6) ay))))))) (kH (i7 (aD (az l8 (ae (aa 4) (ae (aa 7) (ae (aa 5) (ae (aa 9) (ae (aa 6) ay))))))))))
  (bI (aC (.bool false)))
  eF)
 (eI (kH (i7 (aD (az l0 (ae (aa 4) (ae (aa 5) (ae (aa 9) (ae (aa 6) (ae (aa 3) (ae (aa 8) ay))))))))))
  (bI (aC (.bool false)))
  eF)))))))
noncomputable def md:List Sl->Tr Ou :=
 (ao (dG (gD (ai (aC (.int 2)) au)) (ah 2) qj)
 (bI (aC (.bool true))))
noncomputable abbrev qh:List Sl:=.un::.pen::List.replicate 8 .un
theorem ZhX (T:Txt K mg) {f:Addr} {fd:FuncData} (F:Fun K "law" "law" lj f fd) (hl:(md qh).ok 0 λ_ o=>o=.ret (.d (.bool true))):FnOk P w K mg base gI 8 f fd ["_law_script"] (ZaM K):=by
 refine F.ok fe (λvs H Q E h=>?_) (λcdv A outer s H vs Q E hr h=>?_)
 ·obtain ⟨a,ns,rfl,_⟩:=h
  rfl
 ·obtain ⟨a,ns,rfl,hS,hlen,k⟩:=h
  have hu:=kb hr
  refine ⟨_,(eh (aR (i:=1) fe.nd rfl (Or.inr rfl) (Zce (ZhW T) (hr.mono (by decide)) rfl (ci (pv 0) cu)))
 (Zhn (t:=λcn=>bw (br cn) md) λcn=>(av (eD PassesOwn.never rfl (iZ (iw rfl T.eu (aj al aw))) (aP (aO (i:=2) fe.nd rfl (Or.inl rfl)))
  (av (aZ (aR (i:=3) fe.nd rfl (Or.inl rfl) (aq bG bF al (aE (aA (c8 T) (hr.mono (by decide)) rfl (cC (pv 1) (af al aB)))))))
 (av (mY (fI (aE (aA (Znp T) (hr.mono (by decide)) rfl (cC (pv 1) aB))) (cB rfl (bq (aP (aO (i:=4) fe.nd rfl (Or.inl rfl))) (bq (aP (aO (i:=5) fe.nd rfl (Or.inl rfl))) (bq (aP (aO (i:=6) fe.nd rfl (Or.inl rfl))) cA))) (bn (bn (bn cx))))))
 (av (aZ (aR (i:=7) fe.nd rfl (Or.inl rfl) (aq pN nU (dc (ac (pv 4)) db (c9 al)) (aE (aA (Zew T) (hr.mono (by decide)) rfl (cC (pv 1) aB))))))
 (av (qZ (lH (i:=8) ny ["_law_one"] [1] rfl fe.nd rfl rfl (dr (ac (pv 5))) (λb=>(aP (aO (i:=0) (show ((bN ny ["_law_one"] [1])).Nodup by decide +kernel) rfl (Or.inl rfl)))) (λb=>(aq bG bF al (aq lQ kW (aE (aA (c8 T) (hr.mono (by decide)) rfl (cC (pv 1) (af al aB)))) (bd (t:=aS) (bu (Zeo rfl) rfl T.jN boot_max (aj al (aj (aq jK jj al (bd (t:=aS) (bu (qP rfl) rfl T.jN boot_max (aj (ac (pv 0)) aw)) nV)) aw))) Zap)))) rfl (show BlkOk ny (aG lj) _ [1] from ⟨rfl,by decide +kernel,by decide +kernel,by decide +kernel,by decide +kernel⟩) rfl) (bv (by decide)))
 (av (aZ (aR (i:=9) fe.nd rfl (Or.inl rfl) (aq bG bF al (aE (aA (c8 T) (hr.mono (by decide)) rfl (cC (pv 1) (af (bd (t:=aS) (bu (Zen rfl) rfl T.lU boot_min (aj al (aj (aq dk di (bd (t:=aS) (bu fX rfl T.fO boot_len (aj (ac (pv 5)) aw)) ic) al) aw))) Zao) aB)))))))
 (av (fr (ZnC (ZnB (qX (mS (aE (aA (Znl T) (hr.mono (by decide)) rfl (af (ac (pv 4)) (af (ac (pv 5)) (af (ac (pv 6)) aB))))))) (ZnA (qX (mS (aE (aA (Znn T) (hr.mono (by decide)) rfl (af (ac (pv 4)) (af (ac (pv 7)) (af (ac (pv 5)) (af (ac (pv 9)) (af (ac (pv 6)) aB))))))))))))
  (aQ (bQ kD))
  fq)
 (aQ (fr (qX (mS (aE (aA (Znj T) (hr.mono (by decide)) rfl (af (ac (pv 4)) (af (ac (pv 5)) (af (ac (pv 9)) (af (ac (pv 6)) (af (ac (pv 3)) (af (ac (pv 8)) aB))))))))))
  (aQ (bQ kD))
  fq)))))))))
 (aQ (bQ kD))))),?_⟩
  refine ⟨_,rfl,a,ns,rfl,hS,hlen,λp c H' hp hP hs=>?_⟩
  exact Ziy (n:=8) hP rfl rfl (λH'=>k H') hl
end
end My
set_option Elab.async false
set_option linter.all false
set_option maxRecDepth 100000
local macro_rules | `(tactic| simp_arith only [$ls,*] $[$loc]?) => do let b : Lean.TSyntaxArray ``Lean.Parser.Tactic.simpLemma ← (("L2.Zju L2.Zjt L2.ZlL L2.Zlo L2.Zln L2.ZlD L2.ZlB L2.qD L2.ZjE L2.Zli L2.Zla L2.Zk9 L2.Zkx L2.ZkO L2.cS L2.hI L2.mT L2.qY L2.ZeU L2.ZeT L2.ZeS L2.ZeR L2.ZeQ L2.ZeP L2.Zkw L2.Zkv L2.ZjD L2.Zjz L2.ZjC L2.ZjB L2.ZjA L2.Zkq L2.Zkt L2.Zkp L2.Zks L2.Zk2 L2.Zk0 L2.Zk1 L2.Zku L2.Zlh L2.Zlg L2.Zlf L2.Zjy L2.Zjx L2.ZkC L2.ZkB L2.ZkE L2.ZkD L2.bO L2.Zlj L2.ZkF L2.ki L2.ZlE L2.ZkA L2.Zkz L2.Zjw L2.mJ L2.mI L2.Zdr L2.ZjI L2.ZjH L2.ZjG L2.ZjF L2.Zkm L2.Zkl L2.Zkk L2.Zjv L2.Zdn L2.ZlH L2.ZlI L2.ZlK L2.ZlJ L2.Zkh L2.Zkg L2.ZlG L2.ZlF L2.Zlk L2.Zkf L2.Zke L2.Zle L2.Zk8 L2.Zk7 L2.ZjT L2.ZjS L2.ZjR L2.ZjJ L2.ZkV L2.ZkT L2.ZkU L2.Zkd L2.Zkc L2.Zkb L2.Zka L2.Zj9 L2.Zj8 L2.Zj7 L2.Zj6 L2.Zj5 L2.ZjQ L2.ZjP L2.ZjO L2.ZjN L2.Zio L2.Zin L2.Zls L2.Zlr L2.Zlq L2.Zk3 L2.Zko L2.Zkn L2.Zlx L2.Zlw L2.Zlv L2.Zj4 L2.Zj3 L2.Zk4 L2.Zjh L2.Zji L2.Zlu L2.Zlt L2.Zkr L2.Zi5 L2.Zi3 L2.Zi6 L2.Zi7 L2.Zi4 L2.Zkj L2.Zki L2.ZkR L2.ZkQ L2.ZkP L2.ZjZ L2.ZjY L2.Zjs L2.Zjr L2.Zjq L2.Zjp L2.Zjo L2.Zlb L2.Zld L2.Zlc L2.Zk6 L2.Zk5 L2.Zjk L2.gw L2.fU L2.ZkK L2.mL L2.ZkJ L2.ZkG L2.ZkI L2.ZkH L2.ZkW L2.ZkY L2.ZkZ L2.ZkX L2.ZjM L2.ZjL L2.ZjK L2.ZlC L2.Zj2 L2.ZjX L2.ZjW L2.Zj1 L2.Zj0 L2.ZjV L2.ZjU L2.qC L2.ZkN L2.ZkM L2.ZkL Tw.Zgp Tw.Zgo Tw.Zgn Tw.ZaX Tw.Zgm Tw.Zgl Tw.Zgk Tw.Zgj Tw.Zgi L2.Zky L2.ZkS L2.rb2 L2.Tr.of_some L2.Tr.bind_assoc L2.Tr.draw_bind List.cons_append List.nil_append List.replicate_succ List.replicate_zero List.length_cons List.length_nil L2.Re.val_d L2.Re.val_own L2.blk L2.qU List.map_cons List.map_nil List.getElem?_cons_zero List.getElem?_cons_succ Option.getD_some Nat.reduceAdd Nat.reduceLeDiff List.isEmpty_cons".splitOn " ").toArray.map fun s => Lean.mkIdent s.toName).mapM fun i => `(Lean.Parser.Tactic.simpLemma| $i:ident); `(tactic| simp -implicitDefEqProofs only [$b,*, $ls,*] $[$loc]?)
namespace My
open PySem PySem.Spec PyProof.Rows L2 Tw
theorem ZdC {s:Shp} (h:s.Ok):jT [.d s.d]=.ret (.d (.tuple (bc (-s.depth) (s.top+1)))):=by
 have:=h.t0
 have:=h.d0
 have:=h.td
 have hr:jv (-s.depth) (s.top+1)=true:=by
  unfold jv
  rw [dm (by omega) (by omega),dm (by omega) (by omega)]
  simp
  omega
 simp_arith only [jT,Zdn hr]
theorem ZdF (s:Shp) (y f:Int):jV [.d s.d,.d (.int y),.d (.int f)]=.ret (.d (.int (s.nx y f))):=by
 simp_arith only [jV,Shp.nx]
theorem ZdK {s:Shp} (h:s.Ok) {x:Int} (hx:nb 20 x):iG [.d s.d,.d (.int x)]=.ret (.d (.int (s.fin x))):=by
 have f1:=aH (eT h.back) (by decide)
 have f2:=aH h.late (by decide)
 have f3:=aH hx (by decide)
 have f4:=aH (eT hx) (by decide)
 by_cases hp:x > 0
 ·simp_arith only [iG,decide_eq_true hp,f1,f3,Shp.fin,if_pos hp]
 ·simp_arith only [iG,decide_eq_false hp,f2,f4,Shp.fin,if_neg hp]
theorem ZdL {s:Shp} (h:s.Ok) {y f:Int} (hy:nb 20 y) (hf:nb 40 f):iH [.d s.d,.d (.int y),.d (.int f)]=.ret (.d (.int (s.day y f))):=by
 have hd:nb 7 s.depth:=by have:=h.t0; have:=h.d0; have:=h.td; exact bD (by show -128 < _; omega) (by show _ < 128; omega)
 have hn:nb 50 (s.nx y f):=by
  unfold Shp.nx cE
  exact jM (aN (eT hd) (by decide)) (aN (fM hy hf) (by decide))
 have f1:=aH h.keep (by decide)
 have f2:=aH hn (by decide)
 have f3:=aH (eT hn) (by decide)
 have f4:=aH h.lack (by decide)
 have f5:=aH h.lost (by decide)
 have f6:=aH (fM hn (fM hy hf)) (by decide)
 have e:=ZdF s y f
 by_cases hp:s.nx y f > 0
 ·simp_arith only [iH,e,decide_eq_true hp,f1,f2,f5,f6,Shp.day,if_pos hp]
 ·simp_arith only [iH,e,decide_eq_false hp,f3,f4,f5,f6,Shp.day,if_neg hp]
theorem Zl1 {s:Shp} (h:s.Ok):mf [.d s.d]=.ret (.own ((s.row s.fin).map PyData.int)):=by
 have:=h.t0
 have:=h.d0
 have:=h.td
 have hs:small (bc (-s.depth) (s.top+1)).length=true:=bO (by rw [cD]; omega)
 have e:aU (bS (ah 0) pB (blk 1 [0] [.d s.d])) (bc (-s.depth) (s.top+1))=.ret ((s.row s.fin).map PyData.int):=by
  refine Eq.trans (pW (f:=λx=>.int (s.fin x)) λz h1 h2=>?_) ?_
  ·have e1:=ZdK h (x:=z) (bD (by show -1048576 < _; omega) (by show _ < 1048576; omega))
   simp_arith only [pB,e1]
  ·unfold Shp.row Shp.n
   rw [List.map_map]
   rfl
 simp_arith only [mf,ZdC h,hs] at e ⊢
 simp_arith only [e]
end My
set_option Elab.async false
set_option linter.all false
set_option maxRecDepth 100000
namespace My
open PySem PySem.Spec PyProof.Rows L2 Tw
theorem Ziu (l:List Int):(l.map PyData.int).length=l.length:=List.length_map ..
theorem ZlR {s:Shp} (h:s.Ok) {day:List Int} (hd:DayB day) {y:Int} (y1:-s.depth<=y) (y2:y<=s.top) {A:Int->Int} {b:Nat} (hA:Bd s b A) {sc:Int} (hs:nb b sc) (hb:b<=5000) :
  lX [.d s.d,.d (tI day),.d (.int y),.d (lI (s.row A)),.d (.int sc)]=.ret (.d (.int (s.wg day y A sc))):=by
 have:=h.t0
 have:=h.d0
 have:=h.td
 have hy:nb 20 y:=bD (by show -1048576 < _; omega) (by show _ < 1048576; omega)
 apply m8
 simp_arith only [lX,tI,lI]
 refine dU (n:=0) (n':=0) (P:=λo=>∃ J1 J2 J3:Sl,o=.next [.d s.d,.d (.tuple (day.map PyData.int)),.d (.int y),.d (.list ((s.row A).map PyData.int)),.d (.int sc),.d (.int (s.wg day y A sc)),J1,J2,J3]) ?_ (by decide) ?_
 ·refine kC (n:=0) (λpre ρ=>∃ J1 J2 J3:Sl,ρ=[.d s.d,.d (.tuple (day.map PyData.int)),.d (.int y),.d (.list ((s.row A).map PyData.int)),.d (.int sc),.d (.int (s.wg day y A sc - ws (λf=>sc * s.day y f+A (s.nx y f)) pre.length (day.drop pre.length))),J1,J2,J3]) ⟨.un,.un,.un,?_⟩ (by simp) ?_ ?_
  ·have:s.wg day y A sc - ws (λf=>sc * s.day y f+A (s.nx y f)) 0 day=0:=by unfold Shp.wg; omega
   simp only [List.length_nil,List.drop_zero,this]
  ·rintro pre x post ρ e ⟨J1,J2,J3,rfl⟩
   obtain ⟨w,hw,rfl⟩:=ZlN e
   rw [List.getElem?_map] at hw
   obtain ⟨v,hv,rfl⟩:=Option.map_eq_some_iff.mp hw
   refine ⟨_,rfl,?_⟩
   have hl:pre.length < day.length:=(List.getElem?_eq_some_iff.mp hv).1
   have hlen:=hd.len
   have hf:nb 40 (pre.length:Int):=bD (by show -1099511627776 < _; omega) (by show _ < 1099511627776; omega)
   have e1:=ZdF s y pre.length
   have e2:=ZdL h hy hf
   have n1:=Zcq s y pre.length
   have n2:=Zcp h y2 (show (0:Int)<=pre.length by omega)
   have e3:=ZgR (f:=A) n1 n2
   have v1:nb 30 v:=hd.nb v (List.mem_of_getElem? hv)
   have b1:=bz hs (gz h hy hf)
   have f1:=aH hs (by omega)
   have f2:=aH (gz h hy hf) (by decide)
   have f3:=aH v1 (by decide)
   have f4:=aH (dl b1 (hA _ n1 n2)) (by omega)
   simp_arith only [ZcV,e1,e2,e3,f1,f2,f3,f4]
   have ed:day.drop pre.length=v::day.drop (pre.length+1):=by
    rw [List.drop_eq_getElem_cons hl]
    congr 1
    exact (List.getElem?_eq_some_iff.mp hv).2
   have el:(pre++[PyData.tuple [PyData.int pre.length,PyData.int v]]).length=pre.length+1:=by simp
   have ee:s.wg day y A sc - ws (λf=>sc * s.day y f+A (s.nx y f)) pre.length (day.drop pre.length)+v * (sc * s.day y pre.length+A (s.nx y pre.length)) =
     s.wg day y A sc - ws (λf=>sc * s.day y f+A (s.nx y f)) (pre++[PyData.tuple [PyData.int pre.length,PyData.int v]]).length (day.drop (pre++[PyData.tuple [PyData.int pre.length,PyData.int v]]).length):=by
    rw [el,ed,ws]
    omega
   rw [ee]
   exact cz ⟨_,rfl,_,_,_,rfl⟩
  ·rintro ρ ⟨J1,J2,J3,rfl⟩
   refine ⟨J1,J2,J3,?_⟩
   rw [Zds,Ziu,List.drop_length,ws,Int.sub_zero]
 ·rintro _ ⟨J1,J2,J3,rfl⟩
  simp_arith only [List.isEmpty_cons]
  exact cz rfl
theorem ZlW {s:Shp} (h:s.Ok) {day:List Int} (hd:DayB day) {A:Int->Int} {b:Nat} (hA:Bd s b A) {sc:Int} (hs:nb b sc) (hb:b<=5000) :
  lY [.d s.d,.d (tI day),.d (lI (s.row A)),.d (.int sc)]=.ret (.own ((s.row (s.sm day A sc)).map PyData.int)):=by
 have:=h.t0
 have:=h.d0
 have:=h.td
 have f1:=aH hs (by omega)
 have f2:=aH (fy hd) (by decide)
 have f3:=aH (bz hs (fy hd)) (by omega)
 have f4:=aH h.piece (by decide)
 have f5:=aH (bz (bz hs (fy hd)) h.piece) (by omega)
 have es:bE cr [tI day]=.ret (.int day.sum):=mI day
 have hsm:small (bc (-s.depth) (s.top+1)).length=true:=bO (by rw [cD]; omega)
 have e:aU (bS (ah 0) pg (blk 1 [0,1,2,3,4] [.d s.d,.d (tI day),.d (lI (s.row A)),.d (.int sc),.d (.int (sc * day.sum))])) (bc (-s.depth) (s.top+1))=.ret ((s.row (s.sm day A sc)).map PyData.int):=by
  refine Eq.trans (pW (f:=λx=>.int (s.sm day A sc x)) λz h1 h2=>?_) ?_
  ·have e1:=ZlR h hd (y:=z) (by omega) (by omega) hA hs hb
   have hz:nb 20 z:=bD (by show -1048576 < _; omega) (by show _ < 1048576; omega)
   have f6:=aH hz (by decide)
   simp_arith only [pg,e1,f3,f4,f5,f6]
   rfl
  ·unfold Shp.row Shp.n
   rw [List.map_map]
   rfl
 simp_arith only [lY,ZdC h,hsm,es,f1,f2] at e ⊢
 simp_arith only [e]
end My
set_option Elab.async false
set_option linter.all false
set_option maxRecDepth 100000
namespace My
open PySem PySem.Spec PyProof.Rows L2 Tw
theorem ZnE {xs:List PyData} {v:PyData} (h:xs[xs.length - 1]?=some v):bp xs (-1)=some v:=by
 have hl:xs≠[]:=λe=>by subst e; cases h
 have hp:0 < xs.length:=List.length_pos_iff.mpr hl
 obtain ⟨k,hk⟩:=Nat.exists_eq_succ_of_ne_zero (Nat.ne_of_gt hp)
 unfold bp c7
 have e0:(-1:Int)+(xs.length:Int)=(k:Int):=by rw [hk]; show (-1:Int)+((k:Int)+1)=k; rw [Int.add_comm,Int.add_assoc]; exact Int.add_zero _
 have e:((-1:Int)+(xs.length:Int)).toNat=xs.length - 1:=by rw [e0,hk]; exact Int.toNat_natCast k
 rw [if_neg (by decide),if_pos (by omega)]
 show xs[((-1:Int)+(xs.length:Int)).toNat]?=some v
 rw [e]
 exact h
noncomputable def cg (g:Int->Int) (top K P x:Int):PyData:=.tuple [.int (cst g top K P x),.int (lvl g top K x)]
theorem ZgY {lo hi:Int} {F:Int->PyData}:((List.range (hi - lo).toNat).map λ(i:Nat)=>F (hi - 1 - i)).reverse=(aI lo (hi - lo).toNat).map F:=by
 unfold aI
 rw [List.map_map]
 apply List.ext_getElem?
 intro i
 by_cases hi':i < (hi - lo).toNat
 ·rw [List.getElem?_reverse (by simpa using hi'),List.length_map,List.length_range,List.getElem?_map,List.getElem?_map,List.getElem?_range (by omega),List.getElem?_range hi']
  show some (F (hi - 1 - (((hi - lo).toNat - 1 - i:Nat):Int)))=some (F (lo+(i:Int)))
  congr 2
  omega
 ·rw [List.getElem?_eq_none (by simpa using hi'),List.getElem?_eq_none (by simpa using hi')]
theorem ZdM {s:Shp} (h:s.Ok) {low:Int} (hl:low<=s.top) (hl0:-1000<=low) {g:Int->Int} {b:Nat} (hg:∀ x,low<=x->x<=s.top->nb b (g x)) {sc:Int} (hs:nb b sc) (hK:0<=sc * s.start) (hb:b<=3000) :
  j4 [.d s.d,.d (.int low),.d (lI ((aI low (s.top+1 - low).toNat).map g)),.d (.int sc)]=.ret (.own ((aI low (s.top+1 - low).toNat).map (cg g s.top (sc * s.start) (sc * s.piece)))):=by
 have:=h.t0
 have:=h.d0
 have:=h.td
 have hn:0 < (s.top+1 - low).toNat:=by omega
 have hlen:(((aI low (s.top+1 - low).toNat).map g).map PyData.int).length=(s.top+1 - low).toNat:=by rw [List.length_map,List.length_map,eQ]
 have hat:∀ x,low<=x->x<=s.top->(((aI low (s.top+1 - low).toNat).map g).map PyData.int)[(x - low).toNat]?=some (.int (g x)):=λx h1 h2=>by
  unfold aI
  rw [List.map_map,List.map_map,List.getElem?_map,List.getElem?_range (by omega)]
  show some (PyData.int (g (low+((x - low).toNat:Int))))=_
  congr 3
  omega
 have hlast:bp (((aI low (s.top+1 - low).toNat).map g).map PyData.int) (-1)=some (.int (g s.top)):=ZnE (by
  rw [hlen]
  have:=hat s.top hl (Int.le_refl _)
  have e:(s.top - low).toNat=(s.top+1 - low).toNat - 1:=by
   obtain ⟨k,hk⟩:=Int.eq_ofNat_of_zero_le (Int.sub_nonneg_of_le hl)
   have hk2:s.top+1 - low=((k+1:Nat):Int):=by omega
   rw [hk,hk2]
   rfl
  rw [e] at this
  exact this)
 have r1:dq low=true:=dm (by omega) (by omega)
 have r2:dq (s.top+1)=true:=dm (by omega) (by omega)
 have f1:=aH hs (by omega)
 have f2:=aH h.start (by decide)
 have f3:=aH h.piece (by decide)
 have f4:=aH (bz hs h.piece) (by omega)
 apply m8
 simp_arith only [j4,lI,hlast,qA r1 r2]
 refine dU (n:=0) (n':=0) (P:=λo=>∃ J5 J6 J7 J8 J9:Sl,o=.next [.d s.d,.d (.int low),.d (.list (((aI low (s.top+1 - low).toNat).map g).map PyData.int)),.d (.int sc),.own ((List.range (s.top+1 - low).toNat).map λ(i:Nat)=>cg g s.top (sc * s.start) (sc * s.piece) (s.top+1 - 1 - i)),J5,J6,J7,J8,J9]) ?_ (by decide) ?_
 ·refine kC (n:=0) (λpre ρ=>∃ J6 J7 J8 J9:Sl,ρ=[.d s.d,.d (.int low),.d (.list (((aI low (s.top+1 - low).toNat).map g).map PyData.int)),.d (.int sc),.own ((List.range pre.length).map λ(i:Nat)=>cg g s.top (sc * s.start) (sc * s.piece) (s.top+1 - 1 - i)),.d (.tuple [.int (bst g s.top (pre.length - 1)).1,.int (bst g s.top (pre.length - 1)).2]),J6,J7,J8,J9]) ⟨.un,.un,.un,.un,rfl⟩ (by simp) ?_ ?_
  ·rintro pre x post ρ e ⟨J6,J7,J8,J9,rfl⟩
   obtain ⟨rfl,hpre⟩:=Zbw e
   refine ⟨_,rfl,?_⟩
   generalize hk:pre.length=k at hpre ⊢
   have hx1:low<=s.top+1 - 1 - (k:Int):=by omega
   have hx2:s.top+1 - 1 - (k:Int)<=s.top:=by omega
   have ha:bp (((aI low (s.top+1 - low).toNat).map g).map PyData.int) (s.top+1 - 1 - (k:Int) - low)=some (.int (g (s.top+1 - 1 - (k:Int)))):=iX (by omega) (hat _ hx1 hx2)
   have hxn:nb 20 (s.top+1 - 1 - (k:Int)):=bD (by show -1048576 < _; omega) (by show _ < 1048576; omega)
   have f5:=aH hxn (by decide)
   have hsm:small (((List.range k).map λ(i:Nat)=>cg g s.top (sc * s.start) (sc * s.piece) (s.top+1 - 1 - i)).length+1)=true:=bO (by rw [List.length_map,List.length_range]; omega)
   have el:(pre++[PyData.int (s.top+1 - 1 - (k:Int))]).length=k+1:=by rw [List.length_append,hk]; rfl
   have m1:bE gp [.tuple [.int (g (s.top+1 - 1 - (k:Int))),.int (s.top+1 - 1 - (k:Int))],.tuple [.int (sc * s.start+(bst g s.top (k - 1)).1),.int (bst g s.top (k - 1)).2]]=.ret (.tuple [.int (pck g s.top (sc * s.start) (s.top+1 - 1 - (k:Int))).1,.int (pck g s.top (sc * s.start) (s.top+1 - 1 - (k:Int))).2]):=by
    rw [qC]
    cases k with
    | zero =>
     have ex:s.top+1 - 1 - ((0:Nat):Int)=s.top:=by simp
     rw [ex,gQ,if_neg]
     show ¬ (sc * s.start+g s.top < g s.top\/sc * s.start+g s.top=g s.top/\s.top < s.top)
     omega
    | succ n =>
     have ex:s.top+1 - 1 - ((n+1:Nat):Int)=s.top - ((n+1:Nat):Int):=by omega
     rw [ex,gR,Nat.add_sub_cancel]
     have hb:=(mR g s.top n).1
     by_cases hc:sc * s.start+(bst g s.top n).1 < g (s.top - ((n+1:Nat):Int))
     ·rw [if_pos (.inl hc),if_pos hc]
     ·rw [if_neg (by omega),if_neg hc]
   have m2:bE gp [.tuple [.int (g (s.top+1 - 1 - (k:Int))),.int (s.top+1 - 1 - (k:Int))],.tuple [.int (bst g s.top (k - 1)).1,.int (bst g s.top (k - 1)).2]]=.ret (.tuple [.int (bst g s.top k).1,.int (bst g s.top k).2]):=by
    rw [qC]
    cases k with
    | zero =>
     have ex:s.top+1 - 1 - ((0:Nat):Int)=s.top:=by simp
     rw [ex,if_neg]
     ·rfl
     ·show ¬ (g s.top < g s.top\/g s.top=g s.top/\s.top < s.top)
      omega
    | succ n =>
     have ex:s.top+1 - 1 - ((n+1:Nat):Int)=s.top - ((n+1:Nat):Int):=by omega
     rw [ex,Nat.add_sub_cancel]
     have hb:=(mR g s.top n).1
     rw [bst]
     by_cases hc:(bst g s.top n).1 < g (s.top - ((n+1:Nat):Int))
     ·rw [if_pos (.inl hc),if_pos hc]
     ·rw [if_neg (by omega),if_neg hc]
   simp_arith only [ZcX,ha,m1,m2,f1,f2,f3,f4,f5,hsm]
   rw [el,List.range_succ,List.map_append]
   exact cz ⟨_,rfl,_,_,_,_,rfl⟩
  ·rintro ρ ⟨J6,J7,J8,J9,rfl⟩
   rw [List.length_reverse,cD]
   exact ⟨_,J6,J7,J8,J9,rfl⟩
 ·rintro _ ⟨J5,J6,J7,J8,J9,rfl⟩
  simp_arith only [List.isEmpty_cons]
  rw [ZgY]
  exact cz rfl
theorem Zl5 {s:Shp} (h:s.Ok) {g:Int->Int} {b:Nat} (hg:Bd s b g) {sc:Int} (hs:nb b sc) (h0:0<=sc) (hb:b<=3000) :
  mn [.d s.d,.d (lI (s.row g)),.d (.int sc)]=.ret (.own ((aI (-s.depth) s.n).map (cg g s.top (sc * s.start) (sc * s.piece)))):=by
 have:=h.t0
 have:=h.d0
 have:=h.td
 have e:=ZdM h (low:=-s.depth) (by omega) (by omega) (λx h1 h2=>hg x h1 h2) hs (Int.mul_nonneg h0 h.start0) hb
 simp_arith only [mn]
 unfold Shp.row Shp.n
 rw [e]
 simp_arith only [List.isEmpty_cons]
end My
set_option Elab.async false
set_option linter.all false
set_option maxRecDepth 100000
set_option exponentiation.threshold 9000
namespace My
open PySem PySem.Spec PyProof.Rows L2 Tw
theorem ZlZ {a b:Int} (hb:nb 8000 b):ml [.d (.int a),.d (.int b)]=.ret (.d (.int (Nat.gcd a.natAbs b.natAbs:Nat))):=by
 have key:=euclid (p:=nT) (s:=ql) (E:=λa b=>[.d (.int a),.d (.int b)]) (λa b=>by
  simp_arith only [nT]
  by_cases h:b=0
  ·subst h; rfl
  ·rw [decide_eq_true h]
   congr 1
   simp [h]) (λa b h=>by
  have h':(b:Int)≠0:=by omega
  simp_arith only [ql,mK h',Zdl]) 8000 83999 a.natAbs b.natAbs hb
 have e:2 * 8000+1+83999=100000:=rfl
 rw [e] at key
 simp_arith only [ml,Ze7,key]
theorem qH {t b:Int} (h0:b≠0) (hb:nb 7000 b):gU [.d (.int t),.d (.int b)]=.ret (.d (ap t b)):=by
 have e:=ZlZ (a:=t) (b:=b) (aN hb (by decide))
 have e0:(b == 0)=false:=beq_eq_false_iff_ne.mpr h0
 have hd:=Gc.km (t:=t) h0
 have hf:=aH (ZdZ (t:=t) hb h0) (by decide)
 unfold ap Gc.bT Gc.bH
 by_cases hn:b < 0
 ·have ed:Gc.den t b=-((Nat.gcd t.natAbs b.natAbs:Nat):Int):=by unfold Gc.den Gc.gu; rw [if_pos hn]
  rw [ed] at hd hf ⊢
  simp_arith only [gU,e0,e,decide_eq_true hn,mM hd hf]
 ·have ed:Gc.den t b=((Nat.gcd t.natAbs b.natAbs:Nat):Int):=by unfold Gc.den Gc.gu; rw [if_neg hn]
  rw [ed] at hd hf ⊢
  simp_arith only [gU,e0,e,decide_eq_false hn,mM hd hf]
theorem Zeh {g:Int->Int} {top K P:Int}:∀ l:List Int,aU (bS (aX (ak (ah 0) (ak (ah 1) aW))) lC [.un,.un]) (l.map (cg g top K P))=.ret ((l.map (cst g top K P)).map PyData.int)
 | []=>rfl
 | x::l=>by
  have ih:=Zeh (g:=g) (top:=top) (K:=K) (P:=P) l
  have e0:bS (aX (ak (ah 0) (ak (ah 1) aW))) lC [.un,.un] (cg g top K P x)=.ret (.int (cst g top K P x)):=by
   simp_arith only [lC,cg]
  rw [List.map_cons,aU,e0,Tr.ret_bind,ih]
  rfl
theorem Zdw {g:Int->Int} {top K P B:Int} (hB:B≠0) (hn:nb 7000 B):∀ l:List Int,aU (bS (aX (ak (ah 0) (ak (ah 1) aW))) lD [.un,.un,.d (.int B)]) (l.map (cg g top K P))=.ret (l.map λx=>cT (cst g top K P x) B (lvl g top K x))
 | []=>rfl
 | x::l=>by
  have ih:=Zdw (g:=g) (top:=top) (K:=K) (P:=P) hB hn l
  have e0:bS (aX (ak (ah 0) (ak (ah 1) aW))) lD [.un,.un,.d (.int B)] (cg g top K P x)=.ret (cT (cst g top K P x) B (lvl g top K x)):=by
   have e2:=qH (t:=cst g top K P x) hB hn
   simp_arith only [lD,cg,e2]
   rfl
  rw [List.map_cons,aU,e0,Tr.ret_bind,ih]
  rfl
theorem ZlX {s:Shp} (h:s.Ok) {fs:List (List Int)} (hf:∀ l∈fs,DayB l) (hl:fs.length<=6):lZ [.d s.d,.d (fD fs)]=.ret (.d (.tuple (s.tab fs))):=by
 have hsub:∀ k,∀ l∈fs.drop k,DayB l:=λk l hl=>hf l (List.mem_of_mem_drop hl)
 have hR:∀ k,Bd s 1900 (s.bk (fs.drop k)).1/\nb 1900 (s.bk (fs.drop k)).2:=λk=>by
  obtain ⟨h1,h2⟩:=ZeF h (hsub k)
  have:(fs.drop k).length<=6:=by rw [List.length_drop]; omega
  exact ⟨λx a b=>aN (h1 x a b) (by omega),aN h2 (by omega)⟩
 have hsc:∀ k,0 < (s.bk (fs.drop k)).2:=λk=>ZeE (hsub k)
 apply m8
 simp_arith only [lZ,Zl1 h,iN]
 refine dU (n:=0) (n':=0) (P:=λo=>∃ J3 J4 J5 J6 J7:Sl,o=.next [.d s.d,.d (fD fs),.own (s.tab fs).reverse,J3,J4,J5,J6,J7]) ?_ (by decide) ?_
 ·refine kC (n:=0) (λpre ρ=>∃ J5 J6 J7:Sl,ρ=[.d s.d,.d (fD fs),.own (s.tab (fs.drop (fs.length - pre.length))).reverse,.d (lI (s.row (s.bk (fs.drop (fs.length - pre.length))).1)),.d (.int (s.bk (fs.drop (fs.length - pre.length))).2),J5,J6,J7]) ⟨.un,.un,.un,?_⟩ (by simp) ?_ ?_
  ·rw [List.length_nil,Nat.sub_zero,List.drop_length]
   rfl
  ·rintro pre x post ρ e ⟨J5,J6,J7,rfl⟩
   obtain ⟨d,rfl,hpl,hdr⟩:=ZgZ e
   refine ⟨_,rfl,?_⟩
   have hdd:DayB d:=hsub (fs.length - (pre.length+1)) d (by rw [hdr]; simp)
   obtain ⟨k1,k2⟩:=hR (fs.length - pre.length)
   have k3:=hsc (fs.length - pre.length)
   have el:(pre++[tI d]).length=pre.length+1:=by simp
   rw [el,hdr]
   have htl:(s.tab (fs.drop (fs.length - pre.length))).reverse.length<=6:=by rw [List.length_reverse,Zaz,List.length_drop]; omega
   generalize hR':fs.drop (fs.length - pre.length)=R at *
   have e1:=ZlW h hdd k1 k2 (by decide)
   have b1:=ZaQ h hdd k1 k2
   have b2:=bz k2 (fy hdd)
   have f1:=aH k2 (by decide)
   have f2:=aH (fy hdd) (by decide)
   have hpos:=Int.mul_pos k3 hdd.pos
   have e2:=Zl5 h (b:=1900+151) b1 (aN b2 (by decide)) (Int.le_of_lt hpos) (by decide)
   have hsm:small ((aI (-s.depth) s.n).map (cg (s.sm d (s.bk R).1 (s.bk R).2) s.top ((s.bk R).2 * d.sum * s.start) ((s.bk R).2 * d.sum * s.piece))).length=true:=bO (by
    rw [List.length_map,eQ]
    have:=h.n_eq; have:=h.td; omega)
   have hsm2:small ((s.tab R).reverse.length+1)=true:=bO (by omega)
   unfold lI at e1 e2
   simp_arith only [ZcW,lI,e1,Zf6,f1,f2,e2,hsm,Zeh,Zdw (Int.ne_of_gt hpos) (aN b2 (by decide)),hsm2]
   rw [Shp.tab,List.reverse_cons]
   exact cz ⟨_,rfl,_,_,_,rfl⟩
  ·rintro ρ ⟨J5,J6,J7,rfl⟩
   rw [List.length_reverse,List.length_map,Nat.sub_self,List.drop_zero]
   exact Exists.intro _ (Exists.intro _ ⟨J5,J6,J7,rfl⟩)
 ·rintro _ ⟨J3,J4,J5,J6,J7,rfl⟩
  simp_arith only [List.reverse_reverse]
  exact cz rfl
end My
set_option Elab.async false
set_option linter.all false
set_option maxRecDepth 100000
set_option exponentiation.threshold 9000
namespace My
open PySem PySem.Spec PyProof.Rows L2 Tw Bar
noncomputable def bx (n:Nat) (r:Nat->Int):List PyData:=((List.range n).map r).map PyData.int
theorem o5 (n:Nat) (r:Nat->Int):(bx n r).length=n:=by unfold bx; rw [List.length_map,List.length_map,List.length_range]
theorem lr {n:Nat} {r:Nat->Int} {j:Nat} (h:j < n):(bx n r)[j]?=some (.int (r j)):=by
 unfold bx
 rw [List.getElem?_map,List.getElem?_map,List.getElem?_range h]
 rfl
theorem ZgU {n:Nat} {r:Nat->Int} {j:Nat} (h:j < n) (v:Int):(bx n r).set j (.int v)=bx n λq=>if q=j then v else r q:=by
 apply List.ext_getElem?
 intro q
 rw [List.getElem?_set]
 by_cases e:j=q
 ·subst e
  rw [if_pos rfl,if_pos (by rw [o5]; exact h),lr h,if_pos rfl]
 ·rw [if_neg e]
  by_cases hq:q < n
  ·rw [lr hq,lr hq,if_neg (λz=>e z.symm)]
  ·rw [List.getElem?_eq_none (by rw [o5]; omega),List.getElem?_eq_none (by rw [o5]; omega)]
theorem lq {n:Nat} {r r':Nat->Int} (h:∀ j,j < n->r j=r' j):bx n r=bx n r':=by
 unfold bx
 congr 1
 exact List.map_congr_left λj hj=>h j (List.mem_range.mp hj)
noncomputable def cvN (a b:List Int) (k:Nat):Int:=ws (λi=>ws (λj=>if (i+j).toNat=k then 1 else 0) 0 b) 0 a
noncomputable def cm (a b:List Int):List Int:=(List.range (a.length+b.length - 1)).map (cvN a b)
theorem Zd9 (a b:List Int):(cm a b).length=a.length+b.length - 1:=by unfold cm; rw [List.length_map,List.length_range]
theorem oo (f g:Nat->Int):∀ n:Nat,Bar.bV (λj=>f j+g j) n=Bar.bV f n+Bar.bV g n
 | 0=>rfl
 | n+1=>by rw [Bar.bV,Bar.bV,Bar.bV,oo f g n]; omega
theorem on (f:Nat->Int) (c:Int):∀ n:Nat,Bar.bV (λj=>c * f j) n=c * Bar.bV f n
 | 0=>by rw [Bar.bV,Bar.bV,Int.mul_zero]
 | n+1=>by rw [Bar.bV,Bar.bV,on f c n,Int.mul_add]
theorem om {f:Nat->Int}:∀ n:Nat,(∀ j,j < n->f j=0)->Bar.bV f n=0
 | 0,_=>rfl
 | n+1,h=>by rw [Bar.bV,om n λj hj=>h j (by omega),h n (by omega)]; rfl
theorem Zf8 {g n:Nat} (h:g < n) (v:Nat->Int):Bar.bV (λj=>(if g=j then 1 else 0) * v j) n=v g:=by
 have key:∀ m:Nat,Bar.bV (λj=>(if g=j then 1 else 0) * v j) m=if g < m then v g else 0:=by
  intro m
  induction m with
  | zero=>rfl
  | succ m ih =>
   rw [Bar.bV,ih]
   by_cases e:g=m
   ·subst e
    rw [if_neg (by omega),if_pos rfl,if_pos (by omega),Int.one_mul]
    omega
   ·rw [if_neg e]
    by_cases e2:g < m
    ·rw [if_pos e2,if_pos (by omega)]
     simp
    ·rw [if_neg e2,if_neg (by omega)]
     simp
 rw [key,if_pos h]
theorem ZaL {n:Nat} {ix:Int->Nat} (v:Nat->Int):∀ (l:List Int) (k:Nat),(∀ q:Nat,q < l.length->ix ((k+q:Nat):Int) < n)->Bar.bV (λj=>ws (λf=>if ix f=j then 1 else 0) k l * v j) n=ws (λf=>v (ix f)) k l
 | [],k,_=>by
  rw [om n λj _=>by rw [ws,Int.zero_mul]]
  rfl
 | w::l,k,h=>by
  have ih:=ZaL v l (k+1) λq hq=>by
   have:=h (q+1) (by rw [List.length_cons]; omega)
   rw [show k+(q+1)=k+1+q by omega] at this
   exact this
  have e:(λj=>ws (λf=>if ix f=j then 1 else 0) k (w::l) * v j)=λj=>w * ((if ix (k:Int)=j then 1 else 0) * v j)+ws (λf=>if ix f=j then 1 else 0) (k+1) l * v j:=funext λj=>by rw [ws,Int.add_mul,Int.mul_assoc]
  have h0:=h 0 (by simp)
  rw [Nat.add_zero] at h0
  rw [e,oo,on,Zf8 h0,ih]
  rfl
theorem Zfn (f:Int->Int) (c:Nat->Int):∀ (n k:Nat),ws f k ((List.range n).map c)=Bar.bV (λj=>c j * f ((k+j:Nat):Int)) n:=by
 intro n
 induction n generalizing c with
 | zero=>intro k; rfl
 | succ n ih =>
  intro k
  have e:Bar.bV (λj=>c j * f ((k+j:Nat):Int)) (n+1)=c 0 * f ((k:Nat):Int)+Bar.bV (λj=>c (j+1) * f ((k+1+j:Nat):Int)) n:=by
   have:∀ m:Nat,Bar.bV (λj=>c j * f ((k+j:Nat):Int)) (m+1)=c 0 * f ((k:Nat):Int)+Bar.bV (λj=>c (j+1) * f ((k+1+j:Nat):Int)) m:=by
    intro m
    induction m with
    | zero=>show 0+c 0 * f ((k+0:Nat):Int)=c 0 * f (k:Int)+0; rw [Nat.add_zero]; omega
    | succ m ihm =>
     rw [Bar.bV,ihm,Bar.bV,show k+(m+1)=k+1+m by omega]
     omega
   exact this n
  rw [List.range_succ_eq_map,List.map_cons,List.map_map,ws,e]
  have:=ih (c ∘ Nat.succ) (k+1)
  rw [this]
  rfl
theorem Zfo (f:Int->Int) (a b:List Int) (hb:0 < b.length):ws f 0 (cm a b)=ws (λi=>ws (λj=>f (i+j)) 0 b) 0 a:=by
 unfold cm
 rw [Zfn]
 have key:∀ (l:List Int) (k:Nat),k+l.length<=a.length->Bar.bV (λq=>ws (λi=>ws (λj=>if (i+j).toNat=q then 1 else 0) 0 b) k l * f ((0+q:Nat):Int)) (a.length+b.length - 1)=ws (λi=>ws (λj=>f (i+j)) 0 b) k l:=by
  intro l
  induction l with
  | nil =>
   intro k _
   rw [om _ λj _=>by rw [ws,Int.zero_mul]]
   rfl
  | cons w l ih =>
   intro k hk
   rw [List.length_cons] at hk
   have e:(λq=>ws (λi=>ws (λj=>if (i+j).toNat=q then 1 else 0) 0 b) k (w::l) * f ((0+q:Nat):Int))=λq=>w * (ws (λj=>if ((k:Int)+j).toNat=q then 1 else 0) 0 b * f ((0+q:Nat):Int))+ws (λi=>ws (λj=>if (i+j).toNat=q then 1 else 0) 0 b) (k+1) l * f ((0+q:Nat):Int):=funext λq=>by rw [ws,Int.add_mul,Int.mul_assoc]
   rw [e,oo,on,ZaL (ix:=λj=>((k:Int)+j).toNat) (λq=>f ((0+q:Nat):Int)) b 0 (λq hq=>by show ((k:Int)+((0+q:Nat):Int)).toNat < _; omega),ih (k+1) (by omega),ws]
   congr 2
   refine cX λx hx=>?_
   show f ((0+((k:Int)+x).toNat:Nat):Int)=f ((k:Int)+x)
   congr 1
   omega
 exact key a 0 (by omega)
noncomputable def bm (fs:List (List Int)):List Int:=fs.foldl cm [1]
noncomputable def sv:List (List Int)->(Int->Int)->Int
 | [],f=>f 0
 | d::fs,f=>ws (λi=>sv fs λj=>f (i+j)) 0 d
theorem oi:∀ {fs:List (List Int)} {f g:Int->Int},(∀ x,0<=x->f x=g x)->sv fs f=sv fs g
 | [],f,g,h=>h 0 (by decide)
 | d::fs,f,g,h=>cX λi hi=>oi λj hj=>h _ (by omega)
theorem Zai (f:Int->Int):∀ (fs:List (List Int)) (a:List Int),(∀ l∈fs,0 < l.length)->ws f 0 (fs.foldl cm a)=ws (λi=>sv fs λj=>f (i+j)) 0 a
 | [],a,_=>cX λi _=>by show f i=f (i+0); rw [Int.add_zero]
 | d::fs,a,h=>by
  rw [List.foldl_cons,Zai f fs (cm a d) λl hl=>h l (List.mem_cons_of_mem _ hl),Zfo _ _ _ (h d (by simp))]
  refine cX λi _=>cX λj _=>oi λq _=>?_
  rw [Int.add_assoc]
theorem gJ (f:Int->Int) {fs:List (List Int)} (h:∀ l∈fs,0 < l.length):ws f 0 (bm fs)=sv fs f:=by
 unfold bm
 rw [Zai f fs [1] h]
 show 1 * (sv fs λj=>f (((0:Nat):Int)+j))+0=_
 rw [Int.one_mul,Int.add_zero]
 refine oi λx _=>?_
 show f (0+x)=f x
 rw [Int.zero_add]
theorem sc1 (W:Sl):∀ (fs:List (List Int)) (b:Nat) (D:Int) (J:Sl),nb b D->(∀ l∈fs,DayB l)->b+46 * fs.length<=8000->∃ K:Sl,cj (ah 2) mw (fs.map tI) [W,.d (.int D),J]=.ret (.next [W,.d (.int (D * prd fs)),K])
 | [],b,D,J,_,_,_=>⟨J,by rw [prd,Int.mul_one]; rfl⟩
 | d::fs,b,D,J,h,hf,hl=>by
  rw [List.length_cons,Nat.mul_succ] at hl
  have hd:=hf d (by simp)
  have sn:=fy hd
  obtain ⟨K,e⟩:=sc1 W fs (b+46) (D * d.sum) (.d (tI d)) (bz h sn) (λq hq=>hf q (List.mem_cons_of_mem _ hq)) (by omega)
  refine ⟨K,?_⟩
  have f1:=aH h (by omega)
  have f2:=aH sn (by decide)
  have es:bE cr [tI d]=.ret (.int d.sum):=mI d
  have et:mw [W,.d (.int D),.d (tI d)]=.ret (.next [W,.d (.int (D * d.sum)),.d (tI d)]):=by
   simp_arith only [mw,es,f1,f2]
  have eg:ah 2 (tI d) [W,.d (.int D),J]=some [W,.d (.int D),.d (tI d)]:=rfl
  have ep:D * d.sum * prd fs=D * prd (d::fs):=by rw [prd,Int.mul_assoc,Int.mul_comm d.sum]
  rw [List.map_cons,gv,eg,Tr.of_some,Tr.ret_bind,gw,et,Tr.ret_bind,fU,e,ep]
theorem kl {fs:List (List Int)} (hf:∀ l∈fs,DayB l) (hl:fs.length<=10):gq [.d (fD fs)]=.ret (.d (.int (prd fs))):=by
 obtain ⟨K,e⟩:=sc1 (.d (fD fs)) fs 1 1 .un (by show (1:Int).natAbs < 2 ^ 1; decide) hf (by omega)
 rw [Int.one_mul] at e
 unfold fD at e
 simp_arith only [gq,fD,e]
theorem wt1 (D W Y:Sl) {n i:Nat} {a:Int} {A:Nat} (ha:nb A a) (hA:A<=8000):∀ (l:List Int) (k:Nat) (r:Nat->Int) (J6 J7:Sl),i+k+l.length<=n->(∀ w∈l,nb 30 w)->∃ K6 K7:Sl,cj (aX (ak (ah 6) (ak (ah 7) aW))) mt (enu k l) [D,W,Y,.own (bx n r),.d (.int i),.d (.int a),J6,J7]=.ret (.next [D,W,Y,.own (bx n λj=>r j+a * ws (λf=>if ((i:Int)+f).toNat=j then 1 else 0) k l),.d (.int i),.d (.int a),K6,K7])
 | [],k,r,J6,J7,_,_=>⟨J6,J7,by
  have e:bx n (λj=>r j+a * ws (λf=>if ((i:Int)+f).toNat=j then 1 else 0) k [])=bx n r:=lq λj _=>by rw [ws,Int.mul_zero,Int.add_zero]
  rw [e]
  rfl⟩
 | w::l,k,r,J6,J7,hn,hw=>by
  rw [List.length_cons] at hn
  have hj:((i:Int)+(k:Int)).toNat < n:=by omega
  obtain ⟨K6,K7,e⟩:=wt1 D W Y (n:=n) (i:=i) ha hA l (k+1) (λj=>if j=((i:Int)+(k:Int)).toNat then r ((i:Int)+(k:Int)).toNat+a * w else r j) (.d (.int k)) (.d (.int w)) (by omega) λq hq=>hw q (List.mem_cons_of_mem _ hq)
  refine ⟨K6,K7,?_⟩
  have f1:=aH ha hA
  have f2:=aH (hw w (by simp)) (by decide)
  have h0:_=_:=ZlA (g:=λi j=>i+j) (k:=3) (i:=ag bA (aa 5) (aa 7)) (ρ:=[D,W,Y,.own (bx n r),.d (.int i),.d (.int a),.d (.int k),.d (.int w)]) (xs:=bx n r) (y:=(i:Int)+k) (a:=r ((i:Int)+(k:Int)).toNat) (by omega) (lr hj)
  have et:mt [D,W,Y,.own (bx n r),.d (.int i),.d (.int a),.d (.int k),.d (.int w)]=.ret (.next [D,W,Y,.own (bx n λj=>if j=((i:Int)+(k:Int)).toNat then r ((i:Int)+(k:Int)).toNat+a * w else r j),.d (.int i),.d (.int a),.d (.int k),.d (.int w)]):=by
   unfold mt
   rw [Zlp (xs:=bx n r) rfl]
   have en:(ag bf (aa 4) (aa 6)) [D,W,Y,.own (bx n r),.d (.int i),.d (.int a),.d (.int k),.d (.int w)]=.ret (.int ((i:Int)+k)):=by
    simp_arith only [List.isEmpty_cons]
   rw [en,Tr.ret_bind,h0,Zlz]
   have ew:(ag bA (aa 5) (aa 7)) [D,W,Y,.own (bx n r),.d (.int i),.d (.int a),.d (.int k),.d (.int w)]=.ret (.int (a * w)):=by
    simp_arith only [f1,f2]
   rw [ew,Tr.ret_bind,Zly,ZgU hj]
   rfl
  have eg:(aX (ak (ah 6) (ak (ah 7) aW))) (.tuple [.int (k:Int),.int w]) [D,W,Y,.own (bx n r),.d (.int i),.d (.int a),J6,J7]=some [D,W,Y,.own (bx n r),.d (.int i),.d (.int a),.d (.int k),.d (.int w)]:=rfl
  have er:(bx n λj=>(if j=((i:Int)+(k:Int)).toNat then r ((i:Int)+(k:Int)).toNat+a * w else r j)+a * ws (λf=>if ((i:Int)+f).toNat=j then 1 else 0) (k+1) l)=bx n λj=>r j+a * ws (λf=>if ((i:Int)+f).toNat=j then 1 else 0) k (w::l):=lq λj hj=>by
   rw [ws]
   by_cases q:j=((i:Int)+(k:Int)).toNat
   ·rw [if_pos q,if_pos q.symm,<- q,Int.mul_one,Int.mul_add]
    omega
   ·rw [if_neg q,if_neg (λe=>q e.symm),Int.mul_zero,Int.zero_add]
  rw [enu,gv,eg,Tr.of_some,Tr.ret_bind,gw,et,Tr.ret_bind,fU,e,er]
theorem wt2 (D W:Sl) {b:List Int} (hb:DayB b) {n A:Nat} (hA:A<=8000):∀ (l:List Int) (k:Nat) (r:Nat->Int) (J4 J5 J6 J7:Sl),k+l.length+b.length<=n+1->(∀ w∈l,nb A w)->∃ K4 K5 K6 K7:Sl,cj (aX (ak (ah 4) (ak (ah 5) aW))) mr (enu k l) [D,W,.d (tI b),.own (bx n r),J4,J5,J6,J7]=.ret (.next [D,W,.d (tI b),.own (bx n λj=>r j+ws (λi=>ws (λf=>if (i+f).toNat=j then 1 else 0) 0 b) k l),K4,K5,K6,K7])
 | [],k,r,J4,J5,J6,J7,_,_=>⟨J4,J5,J6,J7,by
  have e:bx n (λj=>r j+ws (λi=>ws (λf=>if (i+f).toNat=j then 1 else 0) 0 b) k [])=bx n r:=lq λj _=>by rw [ws,Int.add_zero]
  rw [e]
  rfl⟩
 | w::l,k,r,J4,J5,J6,J7,hn,hw=>by
  rw [List.length_cons] at hn
  obtain ⟨L6,L7,e0⟩:=wt1 D W (.d (tI b)) (n:=n) (i:=k) (hw w (by simp)) hA b 0 r J6 J7 (by omega) hb.nb
  obtain ⟨K4,K5,K6,K7,e⟩:=wt2 D W hb (n:=n) hA l (k+1) (λj=>r j+w * ws (λf=>if ((k:Int)+f).toNat=j then 1 else 0) 0 b) (.d (.int k)) (.d (.int w)) L6 L7 (by omega) λq hq=>hw q (List.mem_cons_of_mem _ hq)
  refine ⟨K4,K5,K6,K7,?_⟩
  have ee:ck (b.map PyData.int)=enu 0 b:=iS b
  have et:mr [D,W,.d (tI b),.own (bx n r),.d (.int k),.d (.int w),J6,J7]=.ret (.next [D,W,.d (tI b),.own (bx n λj=>r j+w * ws (λf=>if ((k:Int)+f).toNat=j then 1 else 0) 0 b),.d (.int k),.d (.int w),L6,L7]):=by
   unfold tI at e0
   simp_arith only [mr,tI,ee,e0]
  have eg:(aX (ak (ah 4) (ak (ah 5) aW))) (.tuple [.int (k:Int),.int w]) [D,W,.d (tI b),.own (bx n r),J4,J5,J6,J7]=some [D,W,.d (tI b),.own (bx n r),.d (.int k),.d (.int w),J6,J7]:=rfl
  have er:(bx n λj=>r j+w * ws (λf=>if ((k:Int)+f).toNat=j then 1 else 0) 0 b+ws (λi=>ws (λf=>if (i+f).toNat=j then 1 else 0) 0 b) (k+1) l)=bx n λj=>r j+ws (λi=>ws (λf=>if (i+f).toNat=j then 1 else 0) 0 b) k (w::l):=lq λj hj=>by
   rw [ws,Int.add_assoc]
  rw [enu,gv,eg,Tr.of_some,Tr.ret_bind,gw,et,Tr.ret_bind,fU,e,er]
theorem Zd8 {a b:List Int} {A:Nat} (ha:∀ w∈a,nb A w) (hb:DayB b):∀ w∈cm a b,nb (A+a.length+63) w:=λw hw=>by
 obtain ⟨k,-,rfl⟩:=List.mem_map.mp hw
 have hl:=hb.len
 refine aN (nO (b:=30+1+b.length) (λx _=>nO (b:=1) (λy _=>?_) hb.nb) ha) (by omega)
 by_cases e:(x+y).toNat=k
 ·rw [if_pos e]; show (1:Int).natAbs < 2 ^ 1; decide
 ·rw [if_neg e]; show (0:Int).natAbs < 2 ^ 1; decide
theorem Zg2 {n:Nat} (h:n<=1000):ky iq (.list [.int 0]) (.int (n:Int))=.ret (bx n λ_=>0):=by
 rw [Zg1 (by simp; omega),Int.toNat_natCast]
 unfold bx
 congr 1
 clear h
 induction n with
 | zero=>rfl
 | succ m ih=>rw [List.replicate_succ',List.flatten_append,ih,List.range_succ,List.map_append,List.map_append]; rfl
theorem wt3 (D:Sl):∀ (fs:List (List Int)) (a:List Int) (A:Nat) (J2 J3 J4 J5 J6 J7:Sl),0 < a.length->(∀ l∈fs,DayB l/\0 < l.length)->(∀ w∈a,nb A w)->A+600 * fs.length<=8000->a.length+16 * fs.length<=500->∃ K2 K3 K4 K5 K6 K7:Sl,cj (ah 2) mq (fs.map tI) [D,.d (lI a),J2,J3,J4,J5,J6,J7]=.ret (.next [D,.d (lI (fs.foldl cm a)),K2,K3,K4,K5,K6,K7])
 | [],a,A,J2,J3,J4,J5,J6,J7,_,_,_,_,_=>⟨J2,J3,J4,J5,J6,J7,rfl⟩
 | b::fs,a,A,J2,J3,J4,J5,J6,J7,a0,hf,ha,hA,hl=>by
  rw [List.length_cons,Nat.mul_succ] at hA hl
  obtain ⟨hb,b0⟩:=hf b (by simp)
  have hbl:=hb.len
  have hc:(cm a b).length=a.length+b.length - 1:=Zd9 a b
  obtain ⟨L4,L5,L6,L7,e0⟩:=wt2 D (.d (lI a)) hb (n:=a.length+b.length - 1) (A:=A) (by omega) a 0 (λ_=>0) J4 J5 J6 J7 (by omega) ha
  obtain ⟨K2,K3,K4,K5,K6,K7,e⟩:=wt3 D fs (cm a b) (A+a.length+63) (.d (tI b)) (.d (lI (cm a b))) L4 L5 L6 L7 (by omega) (λl hl=>hf l (List.mem_cons_of_mem _ hl)) (Zd8 ha hb) (by omega) (by omega)
  refine ⟨K2,K3,K4,K5,K6,K7,?_⟩
  have ea:ck (a.map PyData.int)=enu 0 a:=iS a
  have er:bx (a.length+b.length - 1) (λj=>(0:Int)+ws (λi=>ws (λf=>if (i+f).toNat=j then 1 else 0) 0 b) 0 a)=(cm a b).map PyData.int:=by
   unfold bx cm
   congr 1
   exact List.map_congr_left λj _=>by rw [Int.zero_add]; rfl
  rw [er] at e0
  have hrep:=Zg2 (n:=a.length+b.length - 1) (by omega)
  rw [show ((a.length+b.length - 1:Nat):Int)=(a.length:Int)+b.length - 1 by omega] at hrep
  have l1:(a.map PyData.int).length=a.length:=List.length_map _
  have l2:(b.map PyData.int).length=b.length:=List.length_map _
  have et:mq [D,.d (lI a),.d (tI b),J3,J4,J5,J6,J7]=.ret (.next [D,.d (lI (cm a b)),.d (tI b),.d (lI (cm a b)),L4,L5,L6,L7]):=by
   unfold tI lI at e0
   simp_arith only [mq,tI,lI,Zlm,Zll,ea,l1,l2,hrep,e0]
  have eg:ah 2 (tI b) [D,.d (lI a),J2,J3,J4,J5,J6,J7]=some [D,.d (lI a),.d (tI b),J3,J4,J5,J6,J7]:=rfl
  rw [List.map_cons,gv,eg,Tr.of_some,Tr.ret_bind,gw,et,Tr.ret_bind,fU,e]
  rfl
theorem qF {fs:List (List Int)} (hf:∀ l∈fs,DayB l/\0 < l.length) (hl:fs.length<=10):iB [.d (fD fs)]=.ret (.d (lI (bm fs))):=by
 obtain ⟨K2,K3,K4,K5,K6,K7,e⟩:=wt3 (.d (fD fs)) fs [1] 1 .un .un .un .un .un .un (by decide) hf (by intro w hw; rw [List.mem_singleton] at hw; subst hw; show (1:Int).natAbs < 2 ^ 1; decide) (by omega) (by show 1+_<=_; omega)
 unfold fD lI at e
 simp_arith only [iB,fD,lI,bm]
 exact e ▸ rfl
end My
set_option Elab.async false
set_option linter.all false
set_option maxRecDepth 100000
set_option exponentiation.threshold 9000
namespace My
open PySem PySem.Spec PyProof.Rows L2 Tw Bar
theorem jx (lo:Int) (n:Nat):aI lo (n+1)=lo::aI (lo+1) n:=by
 rw [Nat.add_comm n 1,ZbH]
 show [lo+((0:Nat):Int)]++_=_
 rw [show lo+((0:Nat):Int)=lo by omega]
 rfl
noncomputable def cM (lo:Int) (n:Nat) (f:Int->Int):PyData:=dD ((aI lo n).map λx=>(x,.int (f x)))
theorem ZdY (f:Int->Int):∀ (n:Nat) (lo:Int) (kvs:List (Int×PyData)),(∀ p∈kvs,p.1 < lo)->fo kvs ((aI lo n).map λx=>.tuple [.int x,.int (f x)])=some (dD (kvs++(aI lo n).map λx=>(x,.int (f x))))
 | 0,lo,kvs,_=>by
  show some (dD kvs)=some (dD (kvs++[]))
  rw [List.append_nil]
 | n+1,lo,kvs,h=>by
  rw [jx,List.map_cons,List.map_cons,fo]
  have e:gf kvs lo (.int (f lo))=kvs++[(lo,.int (f lo))]:=by
   unfold gf
   rw [if_neg]
   intro z
   obtain ⟨p,hp,e⟩:=List.any_eq_true.mp z
   have:=h p hp
   have:=of_decide_eq_true e
   omega
  rw [e,ZdY f n (lo+1) _ λp hp=>by
   rcases List.mem_append.mp hp with hp | hp
   ·have:=h p hp; omega
   ·rw [List.mem_singleton] at hp; subst hp; show lo < lo+1; omega]
  rw [List.append_assoc]
  rfl
theorem Zd5 (f:Int->Int) (lo:Int) (n:Nat):fo [] ((aI lo n).map λx=>.tuple [.int x,.int (f x)])=some (cM lo n f):=ZdY f n lo [] (by simp)
theorem qK {f:Int->Int}:∀ {n:Nat} {lo x:Int},lo<=x->x < lo+n->eW (cM lo n f) (.int x)=some (.int (f x))
 | 0,lo,x,h1,h2=>absurd h2 (by omega)
 | n+1,lo,x,h1,h2=>by
  unfold cM dD
  rw [jx,List.map_cons,List.map_cons,eW]
  by_cases e:lo=x
  ·subst e
   rw [List.find?_cons_of_pos (by simp)]
   rfl
  ·rw [List.find?_cons_of_neg (by simp [e])]
   have ih:=qK (f:=f) (n:=n) (lo:=lo+1) (x:=x) (by omega) (by omega)
   unfold cM dD at ih
   rw [eW] at ih
   exact ih
theorem pZ {h:PyData->Tr PyData} {f:Int->Int}:∀ (l:List Int) (k:Nat),(∀ (w:Int) (x:Int),w∈l->(k:Int)<=x->x < k+l.length->h (.tuple [.int x,.int w])=.ret (.int (w * f x)))->∃ ys:List Int,aU h (enu k l)=.ret (ys.map PyData.int)/\ys.sum=ws f k l/\ys.length=l.length
 | [],k,_=>⟨[],rfl,rfl,rfl⟩
 | w::l,k,hh=>by
  obtain ⟨ys,e1,e2,e3⟩:=pZ (h:=h) (f:=f) l (k+1) λv x hv x1 x2=>hh v x (List.mem_cons_of_mem _ hv) (by omega) (by rw [List.length_cons]; omega)
  refine ⟨w * f k::ys,?_,by rw [List.sum_cons,e2,ws],by rw [List.length_cons,List.length_cons,e3]⟩
  rw [enu,aU,hh w k (by simp) (by omega) (by rw [List.length_cons]; omega),Tr.ret_bind,e1]
  rfl
theorem Zcz {h:PyData->Tr (Option PyData)} {f:Int->Int}:∀ (l:List Int) (k:Nat),(∀ w∈l,0<=w)->(∀ (w:Int) (x:Int),w∈l->(0 < w->x∈b9 k l)->(k:Int)<=x->h (.tuple [.int x,.int w])=.ret (if w > 0 then some (.int (w * f x)) else none))->∃ ys:List Int,cR h (enu k l)=.ret (ys.map PyData.int)/\ys.sum=ws f k l
 | [],k,_,_=>⟨[],rfl,rfl⟩
 | w::l,k,h0,hh=>by
  obtain ⟨ys,e1,e2⟩:=Zcz (h:=h) (f:=f) l (k+1) (λv hv=>h0 v (List.mem_cons_of_mem _ hv)) λv x hv x1 x2=>hh v x (List.mem_cons_of_mem _ hv) (λv0=>by
   rw [b9]
   by_cases hw:w > 0
   ·rw [if_pos hw]; exact List.mem_cons_of_mem _ (x1 v0)
   ·rw [if_neg hw]; exact x1 v0) (by omega)
  have w0:=h0 w (by simp)
  have e0:=hh w k (by simp) (λv0=>by rw [b9,if_pos v0]; simp) (by omega)
  by_cases hw:w > 0
  ·rw [if_pos hw] at e0
   refine ⟨w * f k::ys,?_,by rw [List.sum_cons,e2,ws]⟩
   rw [enu,cR,e0,Tr.ret_bind,e1]
   rfl
  ·rw [if_neg hw] at e0
   have:w=0:=by omega
   subst this
   refine ⟨ys,?_,by rw [e2,ws,Int.zero_mul,Int.zero_add]⟩
   rw [enu,cR,e0,Tr.ret_bind,e1]
   rfl
theorem ZdB {s:Shp} (h:s.Ok) {wt:List Int} {A:Nat} (hw:∀ w∈wt,nb A w) (hA:A<=8000) (hl:wt.length<=200) {y:Int} (hy:nb 20 y):iC [.d s.d,.d (lI wt),.d (.int y)]=.ret (.d (.int (ws (λf=>s.day y f) 0 wt))):=by
 have hs:small (enu 0 wt).length=true:=bO (by rw [kj]; omega)
 obtain ⟨ys,e1,e2,-⟩:=pZ (h:=bS (aX (ak (ah 0) (ak (ah 1) aW))) pf [.un,.un,.d s.d,.d (.int y)]) (f:=λf=>s.day y f) wt 0 λw x hx x1 x2=>by
  have hf:nb 40 x:=bD (by show -((2 ^ 40:Nat):Int) < x; have:((2 ^ 40:Nat):Int)=1099511627776:=rfl; omega) (by show x < ((2 ^ 40:Nat):Int); have:((2 ^ 40:Nat):Int)=1099511627776:=rfl; omega)
  have e:=ZdL h hy hf
  have f1:=aH (hw w hx) hA
  have f2:=aH (gz h hy hf) (by decide)
  simp_arith only [pf,e,f1,f2]
 have es:bE cr [.list (ys.map PyData.int)]=.ret (.int (ws (λf=>s.day y f) 0 wt)):=by rw [mJ,e2]
 have ee:ck (wt.map PyData.int)=enu 0 wt:=iS wt
 simp_arith only [iC,lI,ee,hs,e1,es]
theorem Zdm {s:Shp} (h:s.Ok) {x:Int} (hx:nb 20 x):nb 65 (s.fin x):=by
 unfold Shp.fin
 exact jM (k:=65) (bz (eT h.back) hx) (bz h.late (eT hx))
theorem ZlQ {s:Shp} (h:s.Ok) {wt:List Int} {A:Nat} (hw:∀ w∈wt,nb A w) (hA:A<=8000) (hl:wt.length<=200) {y:Int} (hy:nb 10 y):lW [.d s.d,.d (lI wt),.d (.int y)]=.ret (.d (.int (ws (λf=>s.fin (y - f)) 0 wt))):=by
 have hs:small (enu 0 wt).length=true:=bO (by rw [kj]; omega)
 obtain ⟨ys,e1,e2,-⟩:=pZ (h:=bS (aX (ak (ah 0) (ak (ah 1) aW))) pe [.un,.un,.d s.d,.d (.int y)]) (f:=λf=>s.fin (y - f)) wt 0 λw x hx x1 x2=>by
  have hf:nb 19 x:=bD (by show -((2 ^ 19:Nat):Int) < x; have:((2 ^ 19:Nat):Int)=524288:=rfl; omega) (by show x < ((2 ^ 19:Nat):Int); have:((2 ^ 19:Nat):Int)=524288:=rfl; omega)
  have hyx:nb 20 (y - x):=aN (fM hy hf) (by decide)
  have e:=ZdK h hyx
  have f1:=aH (hw w hx) hA
  have f2:=aH (Zdm h hyx) (by decide)
  simp_arith only [pe,e,f1,f2]
 have es:bE cr [.list (ys.map PyData.int)]=.ret (.int (ws (λf=>s.fin (y - f)) 0 wt)):=by rw [mJ,e2]
 have ee:ck (wt.map PyData.int)=enu 0 wt:=iS wt
 simp_arith only [lW,lI,ee,hs,e1,es]
theorem ZlS {day:List Int} (hd:DayB day) {lo:Int} {n:Nat} {f:Int->Int} {b:Nat} (hf:∀ x,lo<=x->x < lo+n->nb b (f x)) (hb:b<=8000) {y:Int} (y1:∀ x∈b9 0 day,lo<=y - x) (y2:y < lo+n):jS [.d (tI day),.d (cM lo n f),.d (.int y)]=.ret (.d (.int (ws (λx=>f (y - x)) 0 day))):=by
 have hs:small (enu 0 day).length=true:=bO (by rw [kj]; have:=hd.len; omega)
 obtain ⟨ys,e1,e2⟩:=Zcz (h:=gt (aX (ak (ah 0) (ak (ah 1) aW))) lO ly [.un,.un,.d (cM lo n f),.d (.int y)]) (f:=λx=>f (y - x)) day 0 hd.w0 λw x hx x1 x2=>by
  by_cases hw:w > 0
  ·have l1:=y1 x (x1 hw)
   have eg:aV eW (cM lo n f) (.int (y - x))=.ret (.int (f (y - x))):=by
    unfold aV
    rw [qK l1 (by omega)]
    rfl
   have f1:=aH (hd.nb w hx) (by decide)
   have f2:=aH (hf (y - x) l1 (by omega)) hb
   simp_arith only [lO,ly,decide_eq_true hw,if_pos hw,eg,f1,f2]
  ·simp_arith only [lO,ly,decide_eq_false hw,if_neg hw]
 have es:bE cr [.list (ys.map PyData.int)]=.ret (.int (ws (λx=>f (y - x)) 0 day)):=by rw [mJ,e2]
 have ee:ck (day.map PyData.int)=enu 0 day:=iS day
 simp_arith only [jS,qm,ee,hs,e1,es]
end My
set_option Elab.async false
set_option linter.all false
set_option maxRecDepth 100000
set_option exponentiation.threshold 9000
namespace My
open PySem PySem.Spec PyProof.Rows L2 Tw Bar
theorem ZmT (xs:List PyData) (t:Nat) (h:t<=xs.length):dL (.tuple xs) none (some (t:Int))=.ret (.tuple (xs.take t)):=by
 show Tr.ret (PyData.tuple (L2.dC xs none (some (t:Int))))=_
 unfold L2.dC
 rw [HT.oZ,HT.Zbp,Nat.min_eq_left h,List.drop_zero,Nat.sub_zero]
theorem ZmU (xs:List PyData) (t:Nat):dL (.tuple xs) (some (t:Int)) none=.ret (.tuple (xs.drop t)):=by
 show Tr.ret (PyData.tuple (L2.dC xs (some (t:Int)) none))=_
 unfold L2.dC
 rw [HT.oZ,HT.Zbp]
 rcases Nat.le_total t xs.length with hle | hle
 ·rw [Nat.min_eq_left hle,List.take_of_length_le (by rw [List.length_drop]; exact Nat.le_refl _)]
 ·rw [Nat.min_eq_right hle,List.drop_eq_nil_of_le (Nat.le_refl _),List.drop_eq_nil_of_le hle]
  simp
theorem kr (fs:List (List Int)) (t:Nat):dL (fD fs) (some (t:Int)) none=.ret (fD (fs.drop t)):=by
 unfold fD
 rw [ZmU,List.map_drop]
theorem qL (fs:List (List Int)) {t:Nat} (h:t<=fs.length):dL (fD fs) none (some (t:Int))=.ret (fD (fs.take t)):=by
 unfold fD
 rw [ZmT _ _ (by rw [List.length_map]; exact h),List.map_take]
structure FOk (fs:List (List Int)):Prop where
 b:∀ l∈fs,DayB l/\∃ n∈l,n > 0
 len:fs.length<=6
theorem FOk.B {fs:List (List Int)} (h:FOk fs):∀ l∈fs,DayB l:=λl hl=>(h.b l hl).1
theorem FOk.drop {fs:List (List Int)} (h:FOk fs) (t:Nat):FOk (fs.drop t):=⟨λl hl=>h.b l (List.mem_of_mem_drop hl),by rw [List.length_drop]; have:=h.len; omega⟩
theorem FOk.take {fs:List (List Int)} (h:FOk fs) (t:Nat):FOk (fs.take t):=⟨λl hl=>h.b l (List.mem_of_mem_take hl),by rw [List.length_take]; have:=h.len; omega⟩
theorem FOk.P {fs:List (List Int)} (h:FOk fs):∀ l∈fs,DayB l/\0 < l.length:=λl hl=>⟨(h.b l hl).1,by obtain ⟨n,hn,-⟩:=(h.b l hl).2; exact List.length_pos_of_mem hn⟩
theorem p9 {h:PyData->Tr PyData} {f:List Int->Int}:∀ {fs:List (List Int)},(∀ l∈fs,h (tI l)=.ret (.int (f l)))->aU h (fs.map tI)=.ret ((fs.map f).map PyData.int)
 | [],_=>rfl
 | l::fs,hl=>by
  have ih:=p9 (h:=h) (f:=f) (fs:=fs) λq hq=>hl q (List.mem_cons_of_mem _ hq)
  rw [List.map_cons,aU,hl l (by simp),Tr.ret_bind,ih]
  rfl
theorem qf (q:List Sl->Tr PyData) (x:PyData):bS (ah 0) q [.un] x=q [.d x]:=rfl
theorem ZcB {q:List Sl->Tr PyData} (hq:∀ l:List Int,(∃ n∈l,n > 0)->l.length<=100->bS (ah 0) q [.un] (tI l)=.ret (.int (great l))) {fs:List (List Int)} (hf:FOk fs):aU (bS (ah 0) q [.un]) (fs.map tI)=.ret ((fs.map great).map PyData.int) :=
 p9 λl hl=>hq l (hf.b l hl).2 (by have:=(hf.b l hl).1.len; omega)
theorem Zcw {ls:List Int} (h:∃ n∈ls,n > 0):bE fP [.list ((b9 0 ls).map PyData.int)]=.ret (.int (great ls)):=Zik _ (k9 (k:=0) h)
theorem Za1:∀ (ns:List Int) (k:Nat),cR (gt (aX (ak (ah 0) (ak (ah 1) aW))) jJ jB [.un,.un]) (enu k ns)=.ret ((b9 k ns).map PyData.int)
 | [],k=>rfl
 | n::ns,k=>by
  have ih:=Za1 ns (k+1)
  have e0:gt (aX (ak (ah 0) (ak (ah 1) aW))) jJ jB [.un,.un] (.tuple [.int k,.int n])=.ret (if n > 0 then some (.int k) else none):=by
   by_cases h:n > 0
   ·simp_arith only [jJ,jB,decide_eq_true h,if_pos h]
   ·simp_arith only [jJ,jB,decide_eq_false h,if_neg h]
  rw [enu,cR,e0,Tr.ret_bind,ih,Tr.ret_bind,b9]
  unfold jR
  by_cases h:n > 0
  ·rw [if_pos h,if_pos h]; rfl
  ·rw [if_neg h,if_neg h]
theorem ZdJ {ls:List Int} (h:∃ n∈ls,n > 0) (hl:ls.length<=100):j3 [.d (tI ls)]=.ret (.d (.int (great ls))):=by
 have hs:small (enu 0 ls).length=true:=bO (by rw [kj]; omega)
 simp_arith only [j3,qm,iS,hs,Za1,Zcw h]
theorem Zl0 {s:Shp} {fs:List (List Int)} (hf:FOk fs) (t:Nat):me [.d s.d,.d (fD fs),.d (.int t)]=.ret (.d (.int (reach (fs.drop t) - s.depth))):=by
 have hm:=ZcB (q:=pA) (λl h1 h2=>by
  have e:=ZdJ h1 h2
  rw [qf]
  simp_arith only [pA,e]) (hf.drop t)
 have hs:small ((fs.drop t).map tI).length=true:=bO (by rw [List.length_map]; have:=(hf.drop t).len; omega)
 have er:(List.map great (fs.drop t)).sum=reach (fs.drop t):=rfl
 simp_arith only [me,kr,iN,hs,hm,er]
theorem ZdN {s:Shp} {fs:List (List Int)} (hf:FOk fs) {x:Int} (hx:reach fs - s.depth<=x):j5 [.d s.d,.d (fD fs),.d (.int x)]=.ret (.d .none):=by
 have e:=Zl0 (s:=s) hf 0
 rw [List.drop_zero,Int.natCast_zero] at e
 have hn:¬ x < reach fs - s.depth:=by omega
 simp_arith only [j5,e,decide_eq_false hn]
theorem ZdI {fs:List (List Int)} (hf:FOk fs) {t:Nat} (ht:t<=fs.length) (x:Int):jW [.d (fD fs),.d (.int t),.d (.int x)]=.ret (.d (.int (x - reach (fs.take t)))):=by
 have hm:=ZcB (q:=ph) (λl h1 h2=>by
  have e:=ZdJ h1 h2
  rw [qf]
  simp_arith only [ph,e]) (hf.take t)
 have hs:small ((fs.take t).map tI).length=true:=bO (by rw [List.length_map]; have:=(hf.take t).len; omega)
 have er:(List.map great (fs.take t)).sum=reach (fs.take t):=rfl
 simp_arith only [jW,qL _ ht,iN,hs,hm,er]
theorem Zdq {is:List Sl->Tr (List PyData)} {n:Nat} {ix:List Nat} {g:PyData->List Sl->Option (List Sl)} {kx i:List Sl->Tr PyData} {ρ:List Sl} {xs ps:List PyData} {d:PyData} (h1:is ρ=.ret xs) (hs:small xs.length=true) (h2:aU (λx=>(Tr.of (g x (blk n ix ρ))).bind (gy kx i)) xs=.ret ps) (h3:fo [] ps=some d):fY is n ix g kx i ρ=.ret d:=by
 unfold fY
 rw [h1,Tr.ret_bind,if_pos hs,h2,Tr.ret_bind,h3]
 rfl
theorem Zae:∀ (fs:List (List Int)) (a:List Int) (A:Nat),0 < a.length->(∀ l∈fs,DayB l/\0 < l.length)->(∀ w∈a,nb A w)->a.length+16 * fs.length<=200->(∀ w∈fs.foldl cm a,nb (A+270 * fs.length) w)/\(fs.foldl cm a).length<=a.length+16 * fs.length
 | [],a,A,_,_,ha,_=>⟨λw hw=>aN (ha w hw) (by omega),by show a.length<=_; omega⟩
 | b::fs,a,A,a0,hf,ha,hl=>by
  rw [List.length_cons,Nat.mul_succ] at hl
  obtain ⟨hb,b0⟩:=hf b (by simp)
  have hbl:=hb.len
  have hc:(cm a b).length=a.length+b.length - 1:=Zd9 a b
  obtain ⟨i1,i2⟩:=Zae fs (cm a b) (A+a.length+63) (by omega) (λl hl=>hf l (List.mem_cons_of_mem _ hl)) (Zd8 ha hb) (by omega)
  refine ⟨λw hw=>aN (i1 w hw) ?_,?_⟩
  ·rw [List.length_cons]; omega
  ·rw [List.foldl_cons,List.length_cons]; omega
theorem c6:∀ {fs:List (List Int)},(∀ l∈fs,DayB l)->nb (1+46 * fs.length) (prd fs)
 | [],_=>by show (1:Int).natAbs < 2 ^ 1; decide
 | d::fs,h=>by
  rw [prd,List.length_cons]
  exact aN (bz (c6 λl hl=>h l (List.mem_cons_of_mem _ hl)) (fy (h d (by simp)))) (by omega)
theorem nN {f:Int->Int} (hf:∀ x:Int,0<=f x):∀ {l:List Int} {k:Nat},(∀ w∈l,0<=w)->0<=ws f k l
 | [],k,_=>Int.le_refl 0
 | w::l,k,h=>by
  rw [ws]
  exact Int.add_nonneg (Int.mul_nonneg (h w (by simp)) (hf k)) (nN hf λv hv=>h v (List.mem_cons_of_mem _ hv))
theorem ZmR {a b:List Int} (ha:∀ w∈a,0<=w) (hb:∀ w∈b,0<=w):∀ w∈cm a b,0<=w:=λw hw=>by
 obtain ⟨k,-,rfl⟩:=List.mem_map.mp hw
 refine nN (λx=>nN (λy=>?_) hb) ha
 by_cases e:(x+y).toNat=k
 ·rw [if_pos e]; decide
 ·rw [if_neg e]; decide
theorem Zac:∀ (fs:List (List Int)) (a:List Int),(∀ l∈fs,DayB l)->(∀ w∈a,0<=w)->∀ w∈fs.foldl cm a,0<=w
 | [],a,_,ha=>ha
 | b::fs,a,hf,ha=>Zac fs (cm a b) (λl hl=>hf l (List.mem_cons_of_mem _ hl)) (ZmR ha (hf b (by simp)).w0)
theorem Zcv:∀ {l:List Int},(∀ w∈l,0<=w)->0<=l.sum/\∀ w∈l,w<=l.sum
 | [],_=>⟨Int.le_refl 0,λw hw=>by cases hw⟩
 | x::l,h=>by
  obtain ⟨i1,i2⟩:=Zcv (l:=l) λv hv=>h v (List.mem_cons_of_mem _ hv)
  have h0:=h x (by simp)
  rw [List.sum_cons]
  refine ⟨by omega,λw hw=>?_⟩
  rcases List.mem_cons.mp hw with rfl | hw
  ·omega
  ·have:=i2 w hw; omega
theorem ZaJ:∀ fs:List (List Int),sv fs (λ_=>1)=prd fs
 | []=>rfl
 | d::fs=>by
  rw [sv,prd,<- ZaJ fs]
  exact kU d 0
theorem ia {fs:List (List Int)} (hf:FOk fs):(∀ w∈bm fs,nb 280 w)/\(bm fs).length<=100:=by
 have hl:=hf.len
 obtain ⟨i1,i2⟩:=Zae fs [1] 1 (by decide) hf.P (by intro w hw; rw [List.mem_singleton] at hw; subst hw; show (1:Int).natAbs < 2 ^ 1; decide) (by show 1+_<=_; omega)
 have i3:(bm fs).length<=1+16 * fs.length:=i2
 have h0:∀ w∈bm fs,0<=w:=Zac fs [1] hf.B (by simp)
 have hs:(bm fs).sum=prd fs:=by
  have e:=gJ (λ_=>1) (fs:=fs) λl hl=>(hf.P l hl).2
  rw [kU,Int.one_mul,ZaJ] at e
  exact e
 have hp:=c6 hf.B
 refine ⟨λw hw=>?_,by omega⟩
 have a1:=h0 w hw
 have a2:=(Zcv h0).2 w hw
 rw [hs] at a2
 refine aN (k:=1+46 * fs.length) ?_ (by omega)
 unfold nb at hp ⊢
 omega
noncomputable def ca (s:Shp) (fs:List (List Int)) (c:Int):Int:=ws (λf=>s.fin (c - f)) 0 (bm fs)
theorem Zl2 {s:Shp} (h:s.Ok) {fs:List (List Int)} (hf:FOk fs) {o:Nat} (ho:o<=fs.length) {x:Int} (x1:-300<=x - reach (fs.take o)) (x2:x - reach (fs.take o)<=s.top+1):mh [.d s.d,.d (fD fs),.d (.int o),.d (.int x)]=.ret (.d (cM (x - reach (fs.take o)) (s.top+1 - (x - reach (fs.take o))).toNat (ca s (fs.drop o)))):=by
 have t0:=h.t0; have d0:=h.d0; have td:=h.td
 have ew:=qF (hf.drop o).P (by have:=(hf.drop o).len; omega)
 have el:=ZdI hf ho x
 obtain ⟨w1,w2⟩:=ia (hf.drop o)
 generalize hlo:x - reach (fs.take o)=lo at *
 have r1:dq lo=true:=dm (by omega) (by omega)
 have r2:dq (s.top+1)=true:=dm (by omega) (by omega)
 have hs:small (bc lo (s.top+1)).length=true:=bO (by rw [cD]; omega)
 have ed:fY (i8 (ai (aa 5) (ai (ag bf (ag aK (aa 0) (aC (.int 0))) (aC (.int 1))) au))) 1 [0,4] (ah 0) lF jC [.d s.d,.d (fD fs),.d (.int o),.d (.int x),.d (lI (bm (fs.drop o))),.d (.int lo)]=.ret (cM lo (s.top+1 - lo).toNat (ca s (fs.drop o))) :=
  Zdq (xs:=bc lo (s.top+1)) (by simp_arith only [qA r1 r2]) hs (pW (f:=λc=>.tuple [.int c,.int (ca s (fs.drop o) c)]) λz z1 z2=>by
   have ee:=ZlQ h w1 (by decide) (by omega) (y:=z) (bD (by show -1024 < z; omega) (by show z < 1024; omega))
   show gy lF jC [.d (.int z),.d s.d,.d (lI (bm (fs.drop o)))]=_
   unfold gy
   have e1:lF [.d (.int z),.d s.d,.d (lI (bm (fs.drop o)))]=.ret (.int z):=rfl
   have e2:jC [.d (.int z),.d s.d,.d (lI (bm (fs.drop o)))]=.ret (.int (ca s (fs.drop o) z)):=by
    simp_arith only [jC,ee]
    rfl
   rw [e1,Tr.ret_bind,Zd6,e2,Tr.ret_bind]) (Zd5 _ _ _)
 simp_arith only [mh,kr,ew,el,ed]
noncomputable def csm (s:Shp) (d:Nat) (fs:List (List Int)) (F:Int->Int) (y:Int):Int:=prd fs * s.piece * y+prd (fs.drop (d+1)) * ws (λf=>s.day y f) 0 (bm (fs.take (d+1)))+ws (λx=>F (y - x)) 0 (fs.headD [])
theorem Zeg {S:PyData} {day:PyData} {fsD A W:PyData} {Dd L:Sl} {sc pc lt:Int} {P Q:Int->Int} (hS:aV aK S (.int 3)=.ret (.int pc)) (hD:aV aK fsD (.int 0)=.ret day) (f1:fit sc=true) (f2:fit pc=true) (f3:fit (sc * pc)=true) (f4:fit lt=true):∀ (n:Nat) (lo:Int) (acc:List PyData) (J9 J10:Sl),acc.length+n<=900->(∀ y,lo<=y->y < lo+n->iC [.d S,.d W,.d (.int y)]=.ret (.d (.int (P y)))/\jS [.d day,.d A,.d (.int y)]=.ret (.d (.int (Q y)))/\fit y=true/\fit (P y)=true)->∃ K9 K10:Sl,cj (ah 9) my ((aI lo n).map PyData.int) [.d S,.d fsD,Dd,.d A,L,.d (.int sc),.d (.int lt),.d W,.own acc,J9,J10]=.ret (.next [.d S,.d fsD,Dd,.d A,L,.d (.int sc),.d (.int lt),.d W,.own (acc++(aI lo n).map λy=>.int (sc * pc * y+lt * P y+Q y)),K9,K10])
 | 0,lo,acc,J9,J10,_,_=>⟨J9,J10,by
  show Tr.ret (Ou.next _)=.ret (.next [_,_,_,_,_,_,_,_,.own (acc++[]),_,_])
  rw [List.append_nil]⟩
 | n+1,lo,acc,J9,J10,hl,h=>by
  have hsm:small (acc.length+1)=true:=bO (by omega)
  obtain ⟨h1,h2,h3,h4⟩:=h lo (by omega) (by omega)
  obtain ⟨K9,K10,e⟩:=Zeg hS hD f1 f2 f3 f4 (Dd:=Dd) (L:=L) (W:=W) (A:=A) (P:=P) (Q:=Q) n (lo+1) (acc++[.int (sc * pc * lo+lt * P lo+Q lo)]) (.d (.int lo)) (.d (.int (sc * pc * lo+lt * P lo))) (by rw [List.length_append]; show acc.length+1+n<=900; omega) λy y1 y2=>h y (by omega) (by omega)
  refine ⟨K9,K10,?_⟩
  have et:my [.d S,.d fsD,Dd,.d A,L,.d (.int sc),.d (.int lt),.d W,.own acc,.d (.int lo),J10]=.ret (.next [.d S,.d fsD,Dd,.d A,L,.d (.int sc),.d (.int lt),.d W,.own (acc++[.int (sc * pc * lo+lt * P lo+Q lo)]),.d (.int lo),.d (.int (sc * pc * lo+lt * P lo))]):=by
   simp_arith only [my,hS,hD,f1,f2,f3,f4,h1,h2,h3,h4,hsm]
  have eg:ah 9 (.int lo) [.d S,.d fsD,Dd,.d A,L,.d (.int sc),.d (.int lt),.d W,.own acc,J9,J10]=some [.d S,.d fsD,Dd,.d A,L,.d (.int sc),.d (.int lt),.d W,.own acc,.d (.int lo),J10]:=rfl
  rw [jx,List.map_cons,gv,eg,Tr.of_some,Tr.ret_bind,gw,et,Tr.ret_bind,fU,e,List.map_cons,List.append_assoc]
  rfl
theorem Zl4 {s:Shp} (h:s.Ok) {day:List Int} {rest:List (List Int)} (hf:FOk (day::rest)) {d:Nat} (hd:d+1<=rest.length+1) {lo':Int} {n':Nat} {F:Int->Int} {b:Nat} (hF:∀ x,lo'<=x->x < lo'+n'->nb b (F x)) (hb:b<=8000) {low:Int} (l1:-300<=low) (l2:low<=s.top+1) (hlo:∀ x∈b9 0 day,lo'<=low - x) (hhi:s.top < lo'+n') :
  mj [.d s.d,.d (fD (day::rest)),.d (.int d),.d (cM lo' n' F),.d (.int low)]=.ret (.own ((aI low (s.top+1 - low).toNat).map λy=>.int (csm s d (day::rest) F y))):=by
 have t0:=h.t0; have d0:=h.d0; have td:=h.td
 have hlen:=hf.len
 rw [List.length_cons] at hlen
 have es:=kl hf.B (by rw [List.length_cons]; omega)
 have el:=kl (hf.drop (d+1)).B (by have:=(hf.drop (d+1)).len; omega)
 have ew:=qF (hf.take (d+1)).P (by have:=(hf.take (d+1)).len; omega)
 obtain ⟨w1,w2⟩:=ia (hf.take (d+1))
 have p1:=c6 hf.B
 have p2:=c6 (hf.drop (d+1)).B
 have q1:((day::rest).drop (d+1)).length<=6:=(hf.drop (d+1)).len
 have r1:dq low=true:=dm (by omega) (by omega)
 have r2:dq (s.top+1)=true:=dm (by omega) (by omega)
 have hdd:DayB day:=(hf.b day (by simp)).1
 have hD:aV aK (fD (day::rest)) (.int 0)=.ret (tI day):=by
  unfold fD
  rw [cS,List.map_cons]
  exact congrArg Tr.of hI
 have c1:dL (fD (day::rest)) (some ((d:Int)+1)) none=.ret (fD ((day::rest).drop (d+1))):=kr (day::rest) (d+1)
 have c2:dL (fD (day::rest)) none (some ((d:Int)+1))=.ret (fD ((day::rest).take (d+1))):=qL (day::rest) (t:=d+1) (by rw [List.length_cons]; exact hd)
 obtain ⟨K9,K10,eL⟩:=Zeg (S:=s.d) (fsD:=fD (day::rest)) (A:=cM lo' n' F) (W:=lI (bm ((day::rest).take (d+1)))) (Dd:=.d (.int d)) (L:=.d (.int low)) (P:=λy=>ws (λf=>s.day y f) 0 (bm ((day::rest).take (d+1)))) (Q:=λy=>ws (λx=>F (y - x)) 0 day) (sc:=prd (day::rest)) (lt:=prd ((day::rest).drop (d+1))) (ZaX s) hD (aH p1 (by rw [List.length_cons]; omega)) (aH h.piece (by decide)) (aH (bz p1 h.piece) (by rw [List.length_cons]; omega)) (aH p2 (by omega)) (s.top+1 - low).toNat low [] .un .un (by show 0+_<=_; omega) λy y1 y2=>by
  have hy:nb 20 y:=bD (by show -1048576 < y; omega) (by show y < 1048576; omega)
  refine ⟨ZdB h w1 (by decide) (by omega) hy,ZlS hdd hF hb (λx hx=>by have:=hlo x hx; omega) (by omega),aH hy (by decide),?_⟩
  exact aH (gK (a:=280) (b:=100) w1 λx x1 x2=>gz h hy (bD (by show -1099511627776 < x; omega) (by show x < 1099511627776; omega))) (by omega)
 have er:bc low (s.top+1)=(aI low (s.top+1 - low).toNat).map PyData.int:=rfl
 simp_arith only [mj,es,c1,el,c2,ew,qA r1 r2,er,eL]
 rfl
end My
set_option Elab.async false
set_option linter.all false
set_option maxRecDepth 100000
set_option exponentiation.threshold 9000
namespace My
open PySem PySem.Spec PyProof.Rows L2 Tw Bar
noncomputable def aF (s:Shp) (d:Nat):List (List Int)->Int->Int
 | []=>ca s []
 | day::rest=>if rest.length < d then ca s (day::rest) else cst (csm s d (day::rest) (aF s d rest)) s.top (prd (day::rest) * s.start) (prd (day::rest) * s.piece)
noncomputable def aL (s:Shp) (d:Nat):List (List Int)->Int->Int
 | []=>λ_=>0
 | day::rest=>lvl (csm s d (day::rest) (aF s d rest)) s.top (prd (day::rest) * s.start)
theorem kJ {s:Shp} {d:Nat}:∀ {fs:List (List Int)},fs.length<=d->aF s d fs=ca s fs
 | [],_=>rfl
 | day::rest,h=>by
  rw [List.length_cons] at h
  rw [aF,if_pos (by omega)]
theorem hX {s:Shp} {d:Nat} {day:List Int} {rest:List (List Int)} (h:d<=rest.length):aF s d (day::rest)=cst (csm s d (day::rest) (aF s d rest)) s.top (prd (day::rest) * s.start) (prd (day::rest) * s.piece):=by
 rw [aF,if_neg (by omega)]
theorem Zdz {s:Shp} (h:s.Ok) {fs:List (List Int)} (hf:FOk fs) {c:Int} (c1:-500<=c) (c2:c<=s.top):nb 450 (ca s fs c):=by
 have t0:=h.t0; have d0:=h.d0; have td:=h.td
 obtain ⟨w1,w2⟩:=ia hf
 exact aN (gK (a:=280) (b:=65) w1 λx x1 x2=>Zdm h (bD (by show -1048576 < _; omega) (by show _ < 1048576; omega))) (by omega)
theorem Zef {s:Shp} (h:s.Ok) {d:Nat} {day:List Int} {rest:List (List Int)} (hf:FOk (day::rest)) {F:Int->Int} {k:Nat} (hF:∀ x,-500+16 * (rest.length:Int)<=x->x<=s.top->nb (712+160 * k) (F x)) {y:Int} (y1:-500+16 * ((rest.length:Int)+1)<=y) (y2:y<=s.top):nb (760+160 * k) (csm s d (day::rest) F y):=by
 have t0:=h.t0; have d0:=h.d0; have td:=h.td
 have hlen:=hf.len
 obtain ⟨w1,w2⟩:=ia (hf.take (d+1))
 have hy:nb 20 y:=bD (by show -1048576 < y; omega) (by show y < 1048576; omega)
 have p1:=c6 hf.B
 have p2:=c6 (hf.drop (d+1)).B
 have q1:((day::rest).drop (d+1)).length<=6:=(hf.drop (d+1)).len
 have hdd:DayB day:=(hf.b day (by simp)).1
 have hdl:=hdd.len
 have a1:=bz (bz p1 h.piece) hy
 have a2:=bz p2 (gK (k:=0) (f:=λf=>s.day y f) (a:=280) (b:=100) w1 λx x1 x2=>gz h hy (bD (by show -1099511627776 < x; omega) (by show x < 1099511627776; omega)))
 have a3:=gK (k:=0) (f:=λx=>F (y - x)) (a:=30) (b:=712+160 * k) hdd.nb λx x1 x2=>hF (y - x) (by omega) (by omega)
 unfold csm
 exact aN (dl (dl a1 a2) a3) (by omega)
theorem jd {s:Shp} (h:s.Ok) {d:Nat}:∀ {fs:List (List Int)},FOk fs->∀ y,-500+16 * (fs.length:Int)<=y->y<=s.top->nb (712+160 * fs.length) (aF s d fs y)
 | [],hf,y,y1,y2=>aN (Zdz h hf (by rw [List.length_nil] at y1; omega) y2) (by omega)
 | day::rest,hf,y,y1,y2=>by
  rw [List.length_cons] at y1
  by_cases hd:rest.length < d
  ·rw [aF,if_pos hd]
   exact aN (Zdz h hf (by omega) y2) (by omega)
  ·rw [aF,if_neg hd]
   have t0:=h.t0; have d0:=h.d0; have td:=h.td
   have hr:FOk rest:=hf.drop 1
   have hlen:=hf.len
   rw [List.length_cons] at hlen ⊢
   have ih:=jd h (d:=d) hr
   have hc:∀ z,y<=z->z<=s.top->nb (760+160 * rest.length) (csm s d (day::rest) (aF s d rest) z):=λz z1 z2=>Zef h hf ih (by omega) z2
   have p1:=c6 hf.B
   rw [List.length_cons] at p1
   have hx:nb 20 y:=bD (by show -1048576 < _; omega) (by show _ < 1048576; omega)
   unfold cst
   have k1:=Zcf (b:=760+160 * rest.length) (K:=prd (day::rest) * s.start) y2 hc (aN (bz p1 h.start) (by omega))
   exact aN (fM k1 (bz (bz p1 h.piece) hx)) (by omega)
theorem lu:∀ (fs:List (List Int)) (t:Nat),reach (fs.take t)+reach (fs.drop t)=reach fs
 | [],t=>by rw [List.take_nil,List.drop_nil]; rfl
 | d::fs,0=>by rw [List.take_zero,List.drop_zero]; show 0+_=_; omega
 | d::fs,t+1=>by
  rw [List.take_succ_cons,List.drop_succ_cons,gO,gO,<- lu fs t]
  omega
theorem Zg5 {fs:List (List Int)} {t:Nat} {day:List Int} {rest:List (List Int)} (h:fs.drop t=day::rest):reach (fs.take (t+1))=reach (fs.take t)+great day:=by
 have e1:=lu fs t
 have e2:=lu fs (t+1)
 have e3:fs.drop (t+1)=rest:=by rw [<- List.drop_drop,h]; rfl
 rw [h,gO] at e1
 rw [e3] at e2
 omega
noncomputable def lw (fs:List (List Int)) (x:Int) (t:Nat):Int:=x - reach (fs.take t)
noncomputable def nn (s:Shp) (fs:List (List Int)) (x:Int) (t:Nat):Nat:=(s.top+1 - lw fs x t).toNat
noncomputable def dM (s:Shp) (d:Nat) (fs:List (List Int)) (x:Int) (t:Nat):PyData:=.tuple ((aI (lw fs x t) (nn s fs x t)).map λy=>cT (aF s d (fs.drop t) y) (prd (fs.drop t)) (aL s d (fs.drop t) y))
noncomputable def cq (s:Shp) (d:Nat) (fs:List (List Int)) (x:Int) (o:Nat):Nat->List PyData
 | 0=>[]
 | p+1=>cq s d fs x o p++[dM s d fs x (o - (p+1))]
theorem lm (s:Shp) (d:Nat) (fs:List (List Int)) (x:Int) (o:Nat):∀ p,(cq s d fs x o p).length=p
 | 0=>rfl
 | p+1=>by rw [cq,List.length_append,lm s d fs x o p]; rfl
theorem j6 {s:Shp} {fs:List (List Int)} (hf:FOk fs) {x:Int} (x1:reach fs - s.depth<=x) (t:Nat):-s.depth<=lw fs x t:=by
 have e:=lu fs t
 have:=fF (fs:=fs.drop t) λl hl=>(hf.b l (List.mem_of_mem_drop hl)).2
 unfold lw
 omega
theorem iI {fs:List (List Int)} (hf:FOk fs) (x:Int) (t:Nat):lw fs x t<=x:=by
 have:=fF (fs:=fs.take t) λl hl=>(hf.b l (List.mem_of_mem_take hl)).2
 unfold lw
 omega
theorem Zdv {g:Int->Int} {top K P B:Int} (hB:B≠0) (hn:nb 7000 B):∀ l:List Int,aU (bS (aX (ak (ah 0) (ak (ah 1) aW))) lB [.un,.un,.d (.int B)]) (l.map (cg g top K P))=.ret (l.map λx=>cT (cst g top K P x) B (lvl g top K x))
 | []=>rfl
 | x::l=>by
  have ih:=Zdv (g:=g) (top:=top) (K:=K) (P:=P) hB hn l
  have e0:bS (aX (ak (ah 0) (ak (ah 1) aW))) lB [.un,.un,.d (.int B)] (cg g top K P x)=.ret (cT (cst g top K P x) B (lvl g top K x)):=by
   have e2:=qH (t:=cst g top K P x) hB hn
   simp_arith only [lB,cg,e2]
   rfl
  rw [List.map_cons,aU,e0,Tr.ret_bind,ih]
  rfl
theorem ZdX {g:Int->Int} {top K P lo:Int}:∀ (n k:Nat),aU (λx=>(Tr.of (aX (ak (ah 0) (ak (aX (ak (ah 1) (ak (ah 2) aW))) aW)) x [.un,.un,.un,.d (.int lo)])).bind (gy lA lz)) ((List.range' k n).zipWith (λ(i:Nat) x=>PyData.tuple [.int i,x]) ((aI (lo+k) n).map (cg g top K P)))=.ret ((aI (lo+k) n).map λc=>.tuple [.int c,.int (cst g top K P c)])
 | 0,k=>rfl
 | n+1,k=>by
  have ih:=ZdX (g:=g) (top:=top) (K:=K) (P:=P) (lo:=lo) n (k+1)
  rw [show lo+((k+1:Nat):Int)=lo+k+1 by omega] at ih
  rw [jx,List.map_cons,List.range'_succ,List.zipWith_cons_cons,aU]
  have e0:(Tr.of (aX (ak (ah 0) (ak (aX (ak (ah 1) (ak (ah 2) aW))) aW)) (.tuple [.int (k:Int),cg g top K P (lo+k)]) [.un,.un,.un,.d (.int lo)])).bind (gy lA lz)=.ret (.tuple [.int (lo+k),.int (cst g top K P (lo+k))]):=rfl
  rw [e0,Tr.ret_bind,ih]
  rfl
theorem Zl6 {fs:List (List Int)} {t:Nat} (h:t < fs.length):∃ day,fs.drop t=day::fs.drop (t+1):=⟨fs[t],List.drop_eq_getElem_cons h⟩
theorem fJ:∀ {fs:List (List Int)},(∀ l∈fs,DayB l)->0 < prd fs
 | [],_=>by show (0:Int) < 1; decide
 | d::fs,h=>by
  rw [prd]
  exact Int.mul_pos (fJ λl hl=>h l (List.mem_cons_of_mem _ hl)) (h d (by simp)).pos
theorem Zgs {s:Shp} (h:s.Ok) {fs:List (List Int)} (hf:FOk fs) {d:Nat} {x:Int} (x1:reach fs - s.depth<=x) (x2:x<=s.top) {t:Nat} (ht:t+d < fs.length) (O:Sl) (acc:List PyData) (ha:acc.length<=100) (J8 J9 J10:Sl) :
  ∃ K8 K9 K10:Sl,mv [.d s.d,.d (fD fs),.d (.int d),.d (.int x),O,.d (cM (lw fs x (t+1)) (nn s fs x (t+1)) (aF s d (fs.drop (t+1)))),.own acc,.d (.int t),J8,J9,J10]=.ret (.next [.d s.d,.d (fD fs),.d (.int d),.d (.int x),O,.d (cM (lw fs x t) (nn s fs x t) (aF s d (fs.drop t))),.own (acc++[dM s d fs x t]),.d (.int t),K8,K9,K10]):=by
 have t0:=h.t0; have d0:=h.d0; have td:=h.td
 obtain ⟨day,hD⟩:=Zl6 (show t < fs.length by omega)
 have hF:=hf.drop t
 have hFl:=hF.len
 have hr:FOk (fs.drop (t+1)):=hf.drop (t+1)
 have l1:=j6 hf x1 t
 have l2:=iI hf x t
 have l3:=j6 hf x1 (t+1)
 have l4:=iI hf x (t+1)
 have hw:lw fs x (t+1)=lw fs x t - great day:=by have:=Zg5 hD; unfold lw; omega
 have c1:=ZdI hf (t:=t) (by omega) x
 have c2:=kl hF.B (by omega)
 have hrl:(fs.drop (t+1)).length=fs.length - (t+1):=List.length_drop
 rw [hD] at hF c2
 have hlen:=hF.len
 rw [List.length_cons] at hlen
 have c3:=Zl4 h hF (d:=d) (by omega) (lo':=lw fs x (t+1)) (n':=nn s fs x (t+1)) (F:=aF s d (fs.drop (t+1))) (b:=712+160 * (fs.drop (t+1)).length) (λz z1 z2=>jd h hr z (by omega) (by unfold nn at z2; omega)) (by omega) (low:=lw fs x t) (by omega) (by omega) (λz hz=>by have:=Zdg hz; omega) (by unfold nn; omega)
 have p0:=fJ hF.B
 have p1:=c6 hF.B
 rw [List.length_cons] at p1
 have c4:=ZdM h (low:=lw fs x t) (by omega) (by omega) (g:=csm s d (day::fs.drop (t+1)) (aF s d (fs.drop (t+1)))) (b:=760+160 * (fs.drop (t+1)).length) (λz z1 z2=>Zef h hF (jd h hr) (by omega) z2) (sc:=prd (day::fs.drop (t+1))) (aN p1 (by omega)) (Int.mul_nonneg (Int.le_of_lt p0) h.start0) (by omega)
 have em:(aI (lw fs x t) (s.top+1 - lw fs x t).toNat).map (λy=>PyData.int (csm s d (day::fs.drop (t+1)) (aF s d (fs.drop (t+1))) y))=((aI (lw fs x t) (s.top+1 - lw fs x t).toNat).map (csm s d (day::fs.drop (t+1)) (aF s d (fs.drop (t+1))))).map PyData.int:=by rw [List.map_map]; rfl
 rw [em] at c3
 have c5:=Zdv (g:=csm s d (day::fs.drop (t+1)) (aF s d (fs.drop (t+1)))) (top:=s.top) (K:=prd (day::fs.drop (t+1)) * s.start) (P:=prd (day::fs.drop (t+1)) * s.piece) (Int.ne_of_gt p0) (aN p1 (by omega)) (aI (lw fs x t) (s.top+1 - lw fs x t).toNat)
 have e6:aF s d (fs.drop t)=cst (csm s d (day::fs.drop (t+1)) (aF s d (fs.drop (t+1)))) s.top (prd (day::fs.drop (t+1)) * s.start) (prd (day::fs.drop (t+1)) * s.piece):=by rw [hD]; exact hX (by omega)
 have erow:dM s d fs x t=.tuple ((aI (lw fs x t) (s.top+1 - lw fs x t).toNat).map λy=>cT (cst (csm s d (day::fs.drop (t+1)) (aF s d (fs.drop (t+1)))) s.top (prd (day::fs.drop (t+1)) * s.start) (prd (day::fs.drop (t+1)) * s.piece) y) (prd (day::fs.drop (t+1))) (lvl (csm s d (day::fs.drop (t+1)) (aF s d (fs.drop (t+1)))) s.top (prd (day::fs.drop (t+1)) * s.start) y)):=by
  unfold dM nn
  rw [e6,hD]
  rfl
 rw [erow,e6]
 unfold nn
 have cf:=kr fs t
 rw [hD] at cf
 have hlow:x - reach (fs.take t)=lw fs x t:=rfl
 rw [hlow] at c1
 unfold nn at c3
 generalize csm s d (day::fs.drop (t+1)) (aF s d (fs.drop (t+1)))=g at *
 generalize hK:prd (day::fs.drop (t+1))=B at *
 have hsm:small ((aI (lw fs x t) (s.top+1 - lw fs x t).toNat).map (cg g s.top (B * s.start) (B * s.piece))).length=true:=bO (by rw [List.length_map,eQ]; omega)
 have hsm2:small (acc.length+1)=true:=bO (by omega)
 have hsm3:small (ck ((aI (lw fs x t) (s.top+1 - lw fs x t).toNat).map (cg g s.top (B * s.start) (B * s.piece)))).length=true:=bO (by rw [Zds,List.length_map,eQ]; omega)
 have ed:=ZdX (g:=g) (top:=s.top) (K:=B * s.start) (P:=B * s.piece) (lo:=lw fs x t) (s.top+1 - lw fs x t).toNat 0
 rw [Int.natCast_zero,Int.add_zero] at ed
 have ee:ck ((aI (lw fs x t) (s.top+1 - lw fs x t).toNat).map (cg g s.top (B * s.start) (B * s.piece)))=(List.range' 0 (s.top+1 - lw fs x t).toNat).zipWith (λ(i:Nat) x=>PyData.tuple [.int i,x]) ((aI (lw fs x t) (s.top+1 - lw fs x t).toNat).map (cg g s.top (B * s.start) (B * s.piece))):=by
  unfold ck
  rw [List.length_map,eQ,List.range_eq_range']
 rw [<- ee] at ed
 have edc:∀ X5 X6:Sl,fY (e9 (aa 10)) 3 [8] (aX (ak (ah 0) (ak (aX (ak (ah 1) (ak (ah 2) aW))) aW))) lA lz [.d s.d,.d (fD fs),.d (.int d),.d (.int x),O,X5,X6,.d (.int t),.d (.int (lw fs x t)),.d (.int B),.d (.list ((aI (lw fs x t) (s.top+1 - lw fs x t).toNat).map (cg g s.top (B * s.start) (B * s.piece))))]=.ret (cM (lw fs x t) (s.top+1 - lw fs x t).toNat (cst g s.top (B * s.start) (B * s.piece))):=λX5 X6 =>
  Zdq (xs:=ck ((aI (lw fs x t) (s.top+1 - lw fs x t).toNat).map (cg g s.top (B * s.start) (B * s.piece)))) (by simp_arith only [List.isEmpty_cons]) hsm3 ed (Zd5 _ _ _)
 unfold lI at c4
 refine ⟨.d (.int (lw fs x t)),.d (.int B),.d (.list ((aI (lw fs x t) (s.top+1 - lw fs x t).toNat).map (cg g s.top (B * s.start) (B * s.piece)))),?_⟩
 simp_arith only [mv,c1,cf,c2,c3,c4,hsm,c5,hsm2,edc]
theorem ZdD {s:Shp} (h:s.Ok) {fs:List (List Int)} (hf:FOk fs) {d:Nat} (d1:d<=fs.length) {x:Int} (x1:reach fs - s.depth<=x) (x2:x<=s.top) :
  jU [.d s.d,.d (fD fs),.d (.int d),.d (.int x)]=.ret (.d (.tuple [.list (cq s d fs x (fs.length - d) (fs.length - d)).reverse,.int (aF s d fs x)])):=by
 have t0:=h.t0; have d0:=h.d0; have td:=h.td
 have hl:=hf.len
 generalize ho:fs.length - d=o
 have ho':(fs.length:Int) - d=(o:Int):=by omega
 have l1:=j6 hf x1 o
 have l2:=iI hf x o
 have ea:=Zl2 h hf (o:=o) (by omega) (x:=x) (by unfold lw at l1; omega) (by unfold lw at l2; omega)
 have hend:ca s (fs.drop o)=aF s d (fs.drop o):=(kJ (by rw [List.length_drop]; omega)).symm
 rw [hend] at ea
 have hln:bE dA [fD fs]=.ret (.int fs.length):=by
  unfold fD
  rw [ki,List.length_map]
 have r1:ef [.int (o:Int)]=.ret (bc 0 (o:Int)):=gZ (dm (by omega) (by omega))
 apply m8
 simp_arith only [jU,hln,ho',ea,r1,gb]
 refine dU (n:=0) (n':=0) (P:=λz=>∃ J7 J8 J9 J10:Sl,z=.next [.d s.d,.d (fD fs),.d (.int d),.d (.int x),.d (.int o),.d (cM (lw fs x 0) (nn s fs x 0) (aF s d fs)),.own (cq s d fs x o o),J7,J8,J9,J10]) ?_ (by decide) ?_
 ·refine kC (n:=0) (λpre ρ=>pre.length<=o/\∃ J7 J8 J9 J10:Sl,ρ=[.d s.d,.d (fD fs),.d (.int d),.d (.int x),.d (.int o),.d (cM (lw fs x (o - pre.length)) (nn s fs x (o - pre.length)) (aF s d (fs.drop (o - pre.length)))),.own (cq s d fs x o pre.length),J7,J8,J9,J10]) ⟨Nat.zero_le _,.un,.un,.un,.un,rfl⟩ (by simp) ?_ ?_
  ·rintro pre v post ρ e ⟨hp,J7,J8,J9,J10,rfl⟩
   obtain ⟨rfl,hpl⟩:=Zbw e
   have ht:(o:Int) - 1 - pre.length=((o - (pre.length+1):Nat):Int):=by omega
   rw [ht]
   refine ⟨_,rfl,?_⟩
   have hq:o - pre.length=o - (pre.length+1)+1:=by omega
   obtain ⟨K8,K9,K10,et⟩:=Zgs h hf (d:=d) x1 x2 (t:=o - (pre.length+1)) (by omega) (.d (.int o)) (cq s d fs x o pre.length) (by rw [lm]; omega) J8 J9 J10
   rw [<- hq] at et
   show Al (mv [.d s.d,.d (fD fs),.d (.int d),.d (.int x),.d (.int o),.d (cM (lw fs x (o - pre.length)) (nn s fs x (o - pre.length)) (aF s d (fs.drop (o - pre.length)))),.own (cq s d fs x o pre.length),.d (.int ((o - (pre.length+1):Nat):Int)),J8,J9,J10]) _ _
   rw [et]
   refine cz ⟨_,rfl,?_,.d (.int ((o - (pre.length+1):Nat):Int)),K8,K9,K10,?_⟩
   ·rw [List.length_append]; show pre.length+1<=o; omega
   ·rw [List.length_append]
    rfl
  ·rintro ρ ⟨hp,J7,J8,J9,J10,rfl⟩
   refine ⟨J7,J8,J9,J10,?_⟩
   rw [List.length_reverse,cD,show ((o:Int) - 0).toNat=o by omega,Nat.sub_self,List.drop_zero]
 ·rintro _ ⟨J7,J8,J9,J10,rfl⟩
  have eg:aV eW (cM (lw fs x 0) (nn s fs x 0) (aF s d fs)) (.int x)=.ret (.int (aF s d fs x)):=by
   have e0:lw fs x 0=x:=by unfold lw; rw [List.take_zero]; show x - 0=x; omega
   unfold aV nn
   rw [e0,qK (Int.le_refl x) (by omega)]
   rfl
  simp_arith only [eg]
  exact cz rfl
end My
set_option Elab.async false
set_option linter.all false
set_option maxRecDepth 100000
set_option exponentiation.threshold 9000
namespace My
open PySem PySem.Spec PyProof.Rows L2 Tw Bar
noncomputable def drB (ρ:List Sl) (_:PyData):Tr Ou:=.ret (.next ρ)
theorem Zdo {i:List Sl->Tr PyData} {ρ:List Sl}:ni i ρ=(i ρ).bind (drB ρ):=rfl
theorem Zdp {ρ:List Sl} {x:PyData}:drB ρ x=.ret (.next ρ):=rfl
noncomputable def bU (s:Shp) (fs:List (List Int)) (x:Int):Nat->Int
 | 0=>0
 | t+1=>bU s fs x t+prd (fs.drop (t+1)) * ws (λf=>s.day x f) 0 (bm (fs.take (t+1)))
noncomputable def am (s:Shp) (d:Nat) (fs:List (List Int)) (x:Int):Int:=aF s d fs x+bU s fs x d
theorem ZcG {s:Shp} (h:s.Ok) {fs:List (List Int)} (hf:FOk fs) {x:Int} (hx:nb 20 x) (Dd T:Sl) (c:Int):∀ (n k:Nat) (J:Sl),k+n<=fs.length->∃ K:Sl,cj (ah 6) mx ((aI k n).map PyData.int) [.d s.d,.d (fD fs),Dd,.d (.int x),T,.d (.int (c+bU s fs x k)),J]=.ret (.next [.d s.d,.d (fD fs),Dd,.d (.int x),T,.d (.int (c+bU s fs x (k+n))),K])
 | 0,k,J,_=>⟨J,rfl⟩
 | n+1,k,J,hk=>by
  obtain ⟨K,e⟩:=ZcG h hf hx Dd T c n (k+1) (.d (.int k)) (by omega)
  refine ⟨K,?_⟩
  have e1:=kl (hf.drop (k+1)).B (by have:=(hf.drop (k+1)).len; omega)
  have e2:=qF (hf.take (k+1)).P (by have:=(hf.take (k+1)).len; omega)
  obtain ⟨w1,w2⟩:=ia (hf.take (k+1))
  have e3:=ZdB h w1 (by decide) (by omega) hx
  have c1:dL (fD fs) (some ((k:Int)+1)) none=.ret (fD (fs.drop (k+1))):=kr fs (k+1)
  have c2:dL (fD fs) none (some ((k:Int)+1))=.ret (fD (fs.take (k+1))):=qL fs (t:=k+1) (by omega)
  have p2:=c6 (hf.drop (k+1)).B
  have q1:(fs.drop (k+1)).length<=6:=(hf.drop (k+1)).len
  have f1:=aH p2 (by omega)
  have f2:=aH (gK (k:=0) (f:=λf=>s.day x f) (a:=280) (b:=100) w1 λz x1 x2=>gz h hx (bD (by show -1099511627776 < z; omega) (by show z < 1099511627776; omega))) (by omega)
  have et:mx [.d s.d,.d (fD fs),Dd,.d (.int x),T,.d (.int (c+bU s fs x k)),.d (.int k)]=.ret (.next [.d s.d,.d (fD fs),Dd,.d (.int x),T,.d (.int (c+bU s fs x (k+1))),.d (.int k)]):=by
   simp_arith only [mx,c1,e1,c2,e2,e3,f1,f2,bU,Int.add_assoc]
  have eg:ah 6 (.int (k:Int)) [.d s.d,.d (fD fs),Dd,.d (.int x),T,.d (.int (c+bU s fs x k)),J]=some [.d s.d,.d (fD fs),Dd,.d (.int x),T,.d (.int (c+bU s fs x k)),.d (.int k)]:=rfl
  rw [show ((k+1:Nat):Int)=(k:Int)+1 by omega] at e
  rw [jx,List.map_cons,gv,eg,Tr.of_some,Tr.ret_bind,gw,et,Tr.ret_bind,fU,e,show k+1+n=k+(n+1) by omega]
theorem g6 {s:Shp} (h:s.Ok) {fs:List (List Int)} (hf:FOk fs) {d:Nat} (d1:d<=fs.length) {x:Int} (x1:reach fs - s.depth<=x) (x2:x<=s.top) :
  fk [.d s.d,.d (fD fs),.d (.int d),.d (.int x)]=.ret (.d (ap (am s d fs x) (prd fs))):=by
 have t0:=h.t0; have d0:=h.d0; have td:=h.td
 have hl:=hf.len
 have hr:=fF (fs:=fs) λl hl=>(hf.b l hl).2
 have hx:nb 20 x:=bD (by show -1048576 < x; omega) (by show x < 1048576; omega)
 have e1:=ZdN hf x1
 have e2:=ZdD h hf d1 x1 x2
 obtain ⟨K,e3⟩:=ZcG h hf hx (.d (.int d)) (.d (.list (cq s d fs x (fs.length - d) (fs.length - d)).reverse)) (aF s d fs x) d 0 .un (by omega)
 have e4:=kl hf.B (by omega)
 have r1:ef [.int (d:Int)]=.ret (bc 0 (d:Int)):=gZ (dm (by omega) (by omega))
 have er:bc 0 (d:Int)=(aI ((0:Nat):Int) d).map PyData.int:=by
  unfold bc
  rw [show ((d:Int) - 0).toNat=d by omega]
  rfl
 have p1:=c6 hf.B
 have e5:=qH (t:=aF s d fs x+bU s fs x d) (b:=prd fs) (Int.ne_of_gt (fJ hf.B)) (aN p1 (by omega))
 have ez:aF s d fs x+bU s fs x 0=aF s d fs x:=Int.add_zero _
 rw [ez,Nat.zero_add] at e3
 simp_arith only [fk,Zdo,Zdp,e1,e2,r1,er,e3,e4,e5]
 rfl
theorem qG {s:Shp} (h:s.Ok) {fs:List (List Int)} (hf:FOk fs) {d:Nat} (d1:d<=fs.length) {x:Int} (x1:reach fs - s.depth<=x) (x2:x<=s.top) :
  iD [.d s.d,.d (fD fs),.d (.int d),.d (.int x)]=.ret (.d (.tuple (cq s d fs x (fs.length - d) (fs.length - d)).reverse)):=by
 have e1:=ZdN hf x1
 have e2:=ZdD h hf d1 x1 x2
 simp_arith only [iD,Zdo,Zdp,e1,e2]
end My
set_option Elab.async false
set_option linter.all false
set_option maxRecDepth 100000
set_option exponentiation.threshold 9000
namespace My
open PySem PySem.Spec PyProof.Rows L2 Tw Bar
theorem mP {g:Int->Int} {top K P x y:Int} (h1:x<=y) (h2:y<=top):cst g top K P x<=g y+(if x < y then K else 0) - P * x:=by
 unfold cst
 obtain ⟨p1,p2⟩:=ZhJ (g:=g) (K:=K) (show x<=top by omega)
 by_cases e:x < y
 ·rw [if_pos e]; have:=p2 y e h2; omega
 ·rw [if_neg e]
  have:y=x:=by omega
  subst this
  omega
theorem Zec {g:Int->Int} {top K P x:Int} (hx:x<=top):∃ y,x<=y/\y<=top/\cst g top K P x=g y+(if x < y then K else 0) - P * x:=by
 obtain ⟨h1,h2,h3⟩:=pI (g:=g) (K:=K) hx
 refine ⟨(pck g top K x).2,h1,h2,?_⟩
 unfold cst
 rcases h3 with ⟨e1,e2⟩ | ⟨e1,e2,-⟩
 ·rw [if_neg (by omega),e2,e1]; omega
 ·rw [if_pos e1,e2]; omega
theorem Zmb (s:Shp) (y f w:Int):s.day (y - f) w=s.day y (f+w):=by
 have e:y - f - w=y - (f+w):=by omega
 unfold Shp.day Shp.nx
 rw [e]
theorem FOk.tl {d:List Int} {fs:List (List Int)} (h:FOk (d::fs)):FOk fs:=h.drop 1
theorem FOk.L {fs:List (List Int)} (h:FOk fs):∀ l∈fs,0 < l.length:=λl hl=>(h.P l hl).2
theorem Zad {day:List Int} {T:List (List Int)} (h:∀ l∈day::T,0 < l.length) (f:Int->Int):ws f 0 (bm (day::T))=ws (λi=>ws (λj=>f (i+j)) 0 (bm T)) 0 day:=by
 rw [gJ f h,sv]
 exact cX λi _=>(gJ _ λl hl=>h l (List.mem_cons_of_mem _ hl)).symm
theorem ZiA {s:Shp} {d:Nat}:∀ (rest:List (List Int)) (day:List Int),FOk (day::rest)->d<=rest.length->∀ x,x<=s.top->ws (λf=>aF s d rest (x - f)) 0 day<=aF s (d+1) (day::rest) x:=by
 have base:∀ (rest:List (List Int)) (day:List Int),FOk (day::rest)->rest.length<=d->∀ x,ws (λf=>aF s d rest (x - f)) 0 day<=aF s (d+1) (day::rest) x:=by
  intro rest day hf hd x
  rw [kJ hd,kJ (show (day::rest).length<=d+1 by rw [List.length_cons]; omega)]
  unfold ca
  rw [Zad hf.L]
  refine Int.le_of_eq (cX λf _=>cX λj _=>?_)
  rw [show x - f - j=x - (f+j) by omega]
 intro rest
 induction rest with
 | nil=>exact λday hf hd x hx=>base [] day hf (Nat.zero_le _) x
 | cons d2 rest2 ih =>
  intro day hf hd x hx
  by_cases he:(d2::rest2).length<=d
  ·exact base _ day hf he x
  rw [List.length_cons] at he hd
  have hd2:d<=rest2.length:=by omega
  rw [hX (s:=s) (d:=d+1) (day:=day) (rest:=d2::rest2) (by rw [List.length_cons]; omega)]
  obtain ⟨y,y1,y2,ey⟩:=Zec (g:=csm s (d+1) (day::d2::rest2) (aF s (d+1) (d2::rest2))) (K:=prd (day::d2::rest2) * s.start) (P:=prd (day::d2::rest2) * s.piece) hx
  rw [ey]
  have hdd:DayB day:=(hf.b day (by simp)).1
  have step:∀ f:Int,0<=f->aF s d (d2::rest2) (x - f)<=(prd (d2::rest2) * s.piece * (y - x)+(if x < y then prd (d2::rest2) * s.start else 0))+(prd ((d2::rest2).drop (d+1)) * ws (λw=>s.day y (f+w)) 0 (bm ((d2::rest2).take (d+1)))+aF s (d+1) (d2::rest2) (y - f)):=λf f0=>by
   rw [hX hd2]
   have u:=mP (g:=csm s d (d2::rest2) (aF s d rest2)) (K:=prd (d2::rest2) * s.start) (P:=prd (d2::rest2) * s.piece) (top:=s.top) (x:=x - f) (y:=y - f) (by omega) (by omega)
   have i:=ih d2 hf.tl hd2 (y - f) (by omega)
   have eif:(if x - f < y - f then prd (d2::rest2) * s.start else 0)=if x < y then prd (d2::rest2) * s.start else 0:=by
    by_cases q:x < y
    ·rw [if_pos q,if_pos (by omega)]
    ·rw [if_neg q,if_neg (by omega)]
   rw [eif] at u
   have ec:csm s d (d2::rest2) (aF s d rest2) (y - f)=prd (d2::rest2) * s.piece * (y - f)+prd ((d2::rest2).drop (d+1)) * ws (λw=>s.day y (f+w)) 0 (bm ((d2::rest2).take (d+1)))+ws (λg=>aF s d rest2 (y - f - g)) 0 d2:=by
    unfold csm
    have:(λw=>s.day (y - f) w)=λw=>s.day y (f+w):=funext λw=>Zmb s y f w
    rw [this]
    rfl
   rw [ec] at u
   have e3:prd (d2::rest2) * s.piece * (y - f) - prd (d2::rest2) * s.piece * (x - f)=prd (d2::rest2) * s.piece * (y - x):=by grind
   omega
  obtain ⟨c,hc⟩:∃ c,c=prd (d2::rest2) * s.piece * (y - x)+(if x < y then prd (d2::rest2) * s.start else 0):=⟨_,rfl⟩
  rw [<- hc] at step
  have m:=nP (l:=day) (k:=0) hdd.w0 step
  rw [gL,kU,gL,fv] at m
  have ew:ws (λf=>s.day y f) 0 (bm ((day::d2::rest2).take (d+1+1)))=ws (λf=>ws (λw=>s.day y (f+w)) 0 (bm ((d2::rest2).take (d+1)))) 0 day:=by
   rw [List.take_succ_cons]
   exact Zad (λl hl=>hf.L l (by
    rcases List.mem_cons.mp hl with rfl | hl
    ·simp
    ·exact List.mem_cons_of_mem _ (List.mem_of_mem_take hl))) _
  have ec:csm s (d+1) (day::d2::rest2) (aF s (d+1) (d2::rest2)) y=prd (day::d2::rest2) * s.piece * y+prd ((d2::rest2).drop (d+1)) * ws (λf=>ws (λw=>s.day y (f+w)) 0 (bm ((d2::rest2).take (d+1)))) 0 day+ws (λf=>aF s (d+1) (d2::rest2) (y - f)) 0 day:=by
   unfold csm
   rw [ew,List.drop_succ_cons]
   rfl
  rw [ec]
  have ep:prd (day::d2::rest2)=prd (d2::rest2) * day.sum:=rfl
  rw [ep]
  refine Int.le_trans m ?_
  rw [hc]
  clear ih step m ec ew ey hc
  generalize prd (d2::rest2)=a
  generalize day.sum=D
  have e1:(a * s.piece * (y - x)+(if x < y then a * s.start else 0)) * D=a * D * s.piece * y+(if x < y then a * D * s.start else 0) - a * D * s.piece * x:=by
   by_cases q:x < y
   ·rw [if_pos q,if_pos q]; grind
   ·rw [if_neg q,if_neg q]; grind
  rw [e1]
  omega
theorem ZiB {s:Shp} {d:Nat} {fs:List (List Int)} (hf:FOk fs) (hd:d+1<=fs.length) {x:Int} (hx:x<=s.top):am s d fs x<=am s (d+1) fs x:=by
 cases fs with
 | nil=>exact absurd hd (by simp)
 | cons day rest =>
  rw [List.length_cons] at hd
  have k:=ZiA (s:=s) (d:=d) rest day hf (by omega) x hx
  have u:=mP (g:=csm s d (day::rest) (aF s d rest)) (K:=prd (day::rest) * s.start) (P:=prd (day::rest) * s.piece) (top:=s.top) (Int.le_refl x) hx
  rw [if_neg (by omega)] at u
  unfold am
  rw [bU]
  have e:aF s d (day::rest)=cst (csm s d (day::rest) (aF s d rest)) s.top (prd (day::rest) * s.start) (prd (day::rest) * s.piece):=hX (by omega)
  rw [e]
  have ec:csm s d (day::rest) (aF s d rest) x=prd (day::rest) * s.piece * x+prd ((day::rest).drop (d+1)) * ws (λf=>s.day x f) 0 (bm ((day::rest).take (d+1)))+ws (λf=>aF s d rest (x - f)) 0 day:=rfl
  rw [ec] at u
  omega
theorem Zfa {s:Shp}:∀ {fs:List (List Int)},FOk fs->∀ x,reach fs - s.depth<=x->x<=s.top->aF s 0 fs x=(s.bk fs).1 x
 | [],hf,x,_,_=>by
  show ca s [] x=s.fin x
  unfold ca
  rw [gJ _ (by simp),sv,Int.sub_zero]
 | day::rest,hf,x,x1,x2=>by
  have hr:0<=reach rest:=fF λl hl=>(hf.b l (List.mem_cons_of_mem _ hl)).2
  have hdd:DayB day:=(hf.b day (by simp)).1
  rw [gO] at x1
  rw [hX (Nat.zero_le _),Shp.bk]
  refine qM (λy y1 y2=>?_) (by rw [prd,jE s]) (by rw [prd,jE s]) x2
  have hp:prd rest=(s.bk rest).2:=jE s rest
  have e1:csm s 0 (day::rest) (aF s 0 rest) y=prd (day::rest) * s.piece * y+prd rest * ws (λf=>s.day y f) 0 (bm [day])+ws (λf=>aF s 0 rest (y - f)) 0 day:=rfl
  have e2:ws (λf=>s.day y f) 0 (bm [day])=ws (λf=>s.day y f) 0 day:=by
   rw [gJ _ (λl hl=>hf.L l (by rw [List.mem_singleton] at hl; subst hl; simp)),sv]
   exact cX λi _=>by show s.day y (i+0)=_; rw [Int.add_zero]
  rw [e1,e2,prd,hp]
  unfold Shp.sm Shp.wg
  rw [gL,fv]
  have e3:ws (λf=>aF s 0 rest (y - f)) 0 day=ws (λf=>(s.bk rest).1 (s.nx y f)) 0 day:=nM hdd.w0 λf hf'=>by
   have g:=Zdg hf'
   have f0:(0:Int)<=f:=by have:=(jn hf').1; omega
   have en:s.nx y f=y - f:=by
    unfold Shp.nx cE
    split <;> omega
   rw [en]
   exact Zfa hf.tl (y - f) (by omega) (by omega)
  rw [e3]
  have ee:(s.bk rest).2 * ws (s.day y) 0 day=(s.bk rest).2 * ws (λf=>s.day y f) 0 day:=rfl
  omega
end My
set_option Elab.async false
set_option linter.all false
set_option maxRecDepth 100000
set_option exponentiation.threshold 9000
namespace My
open PySem PySem.Spec PyProof.Rows L2 Tw Bar
theorem Zdy (s:Shp) (m:Int) (fs:List (List Int)) (c:Int):ca (s.tm m) fs c=m * ca s fs c:=by
 unfold ca
 rw [<- fv]
 exact cX λf _=>ZfI s m _
theorem Zed (s:Shp) (m:Int) (d:Nat) (fs:List (List Int)) (F:Int->Int) (y:Int):csm (s.tm m) d fs (λz=>m * F z) y=m * csm s d fs F y:=by
 unfold csm
 have e1:ws (λf=>(s.tm m).day y f) 0 (bm (fs.take (d+1)))=m * ws (λf=>s.day y f) 0 (bm (fs.take (d+1))):=by
  rw [<- fv]
  exact cX λf _=>Zaw s m y f
 rw [e1,fv,show (s.tm m).piece=m * s.piece from rfl]
 generalize ws (λf=>s.day y f) 0 (bm (fs.take (d+1)))=a
 generalize ws (λx=>F (y - x)) 0 (fs.headD [])=b
 grind
theorem mQ {s:Shp} {d:Nat} {fs:List (List Int)} {F F':Int->Int} {y:Int} (h:∀ z,z<=y->F z=F' z):csm s d fs F y=csm s d fs F' y:=by
 unfold csm
 congr 1
 exact cX λf hf=>h _ (by omega)
theorem ng {s:Shp} {m:Int} (hm:0 < m) {d:Nat}:∀ (fs:List (List Int)) (x:Int),x<=s.top->aF (s.tm m) d fs x=m * aF s d fs x
 | [],x,_=>Zdy s m [] x
 | day::rest,x,hx=>by
  by_cases hd:rest.length < d
  ·rw [aF,aF,if_pos hd,if_pos hd,Zdy]
  ·rw [aF,aF,if_neg hd,if_neg hd,<- Zeb hm hx]
   refine qM (λy y1 y2=>?_) (by show _ * (m * _)=_; grind) (by show _ * (m * _)=_; grind) hx
   rw [<- Zed]
   exact mQ λz hz=>ng hm rest z (Int.le_trans hz y2)
theorem Zn2 {s:Shp} {m:Int} (hm:0 < m) {d:Nat}:∀ (fs:List (List Int)) (x:Int),x<=s.top->aL (s.tm m) d fs x=aL s d fs x
 | [],x,_=>rfl
 | day::rest,x,hx=>by
  rw [aL,aL,<- ZcC hm hx]
  refine ZcD (λy y1 y2=>?_) (by show _ * (m * _)=_; grind) hx
  rw [<- Zed]
  exact mQ λz hz=>ng hm rest z (Int.le_trans hz y2)
theorem ZcR (s:Shp) (m:Int) (fs:List (List Int)) (x:Int):∀ t:Nat,bU (s.tm m) fs x t=m * bU s fs x t
 | 0=>(Int.mul_zero m).symm
 | t+1=>by
  have e1:ws (λf=>(s.tm m).day x f) 0 (bm (fs.take (t+1)))=m * ws (λf=>s.day x f) 0 (bm (fs.take (t+1))):=by
   rw [<- fv]
   exact cX λf _=>Zaw s m x f
  rw [bU,bU,ZcR s m fs x t,e1]
  grind
theorem ZiD {s:Shp} {m:Int} (hm:0 < m) (d:Nat) (fs:List (List Int)) {x:Int} (hx:x<=s.top):am (s.tm m) d fs x=m * am s d fs x:=by
 unfold am
 rw [ng hm fs x hx,ZcR,Int.mul_add]
theorem ZdA (s o:Shp) (fs:List (List Int)) (c:Int):ca (s.ad o) fs c=ca s fs c+ca o fs c:=by
 unfold ca
 rw [<- gL]
 exact cX λf _=>ZnX s o _
theorem Zaj {s o:Shp} (ed:o.depth=s.depth) (y:Int) (l:List Int):ws (λf=>(s.ad o).day y f) 0 l=ws (λf=>s.day y f) 0 l+ws (λf=>o.day y f) 0 l:=by
 rw [<- gL]
 exact cX λf _=>ZnY ed y f
theorem Zfb {s o:Shp} (et:o.top=s.top) (ed:o.depth=s.depth) {d:Nat}:∀ {fs:List (List Int)},FOk fs->∀ x,x<=s.top->aF s d fs x+aF o d fs x<=aF (s.ad o) d fs x
 | [],_,x,_=>Int.le_of_eq (ZdA s o [] x).symm
 | day::rest,hf,x,hx=>by
  by_cases hd:rest.length < d
  ·rw [aF,aF,aF,if_pos hd,if_pos hd,if_pos hd]
   exact Int.le_of_eq (ZdA s o (day::rest) x).symm
  ·rw [aF,aF,aF,if_neg hd,if_neg hd,if_neg hd]
   obtain ⟨y,y1,y2,ey⟩:=Zec (g:=csm (s.ad o) d (day::rest) (aF (s.ad o) d rest)) (K:=prd (day::rest) * (s.ad o).start) (P:=prd (day::rest) * (s.ad o).piece) (show x<=(s.ad o).top from hx)
   have y3:y<=s.top:=y2
   have u1:=mP (g:=csm s d (day::rest) (aF s d rest)) (K:=prd (day::rest) * s.start) (P:=prd (day::rest) * s.piece) (top:=s.top) y1 y3
   have u2:=mP (g:=csm o d (day::rest) (aF o d rest)) (K:=prd (day::rest) * o.start) (P:=prd (day::rest) * o.piece) (top:=o.top) y1 (by omega)
   have hdd:DayB day:=(hf.b day (by simp)).1
   have m:ws (λf=>aF s d rest (y - f)+aF o d rest (y - f)) 0 day<=ws (λf=>aF (s.ad o) d rest (y - f)) 0 day:=nP hdd.w0 λf f0=>Zfb et ed hf.tl (y - f) (by omega)
   rw [gL] at m
   rw [ey]
   have c1:csm s d (day::rest) (aF s d rest) y=prd (day::rest) * s.piece * y+prd ((day::rest).drop (d+1)) * ws (λf=>s.day y f) 0 (bm ((day::rest).take (d+1)))+ws (λf=>aF s d rest (y - f)) 0 day:=rfl
   have c2:csm o d (day::rest) (aF o d rest) y=prd (day::rest) * o.piece * y+prd ((day::rest).drop (d+1)) * ws (λf=>o.day y f) 0 (bm ((day::rest).take (d+1)))+ws (λf=>aF o d rest (y - f)) 0 day:=rfl
   have c3:csm (s.ad o) d (day::rest) (aF (s.ad o) d rest) y=prd (day::rest) * (s.piece+o.piece) * y+prd ((day::rest).drop (d+1)) * ws (λf=>(s.ad o).day y f) 0 (bm ((day::rest).take (d+1)))+ws (λf=>aF (s.ad o) d rest (y - f)) 0 day:=rfl
   rw [c1] at u1
   rw [c2] at u2
   rw [c3,Zaj ed,show (s.ad o).start=s.start+o.start from rfl,show (s.ad o).piece=s.piece+o.piece from rfl]
   rw [Int.mul_add (prd ((day::rest).drop (d+1)))]
   have e1:prd (day::rest) * (s.piece+o.piece) * y=prd (day::rest) * s.piece * y+prd (day::rest) * o.piece * y:=by grind
   have e2:prd (day::rest) * (s.piece+o.piece) * x=prd (day::rest) * s.piece * x+prd (day::rest) * o.piece * x:=by grind
   have e3:(if x < y then prd (day::rest) * (s.start+o.start) else 0)=(if x < y then prd (day::rest) * s.start else 0)+(if x < y then prd (day::rest) * o.start else 0):=by
    by_cases q:x < y
    ·rw [if_pos q,if_pos q,if_pos q,Int.mul_add]
    ·rw [if_neg q,if_neg q,if_neg q]; rfl
   rw [e1,e2,e3]
   omega
theorem ZcU {s o:Shp} (ed:o.depth=s.depth) (fs:List (List Int)) (x:Int):∀ t:Nat,bU (s.ad o) fs x t=bU s fs x t+bU o fs x t
 | 0=>rfl
 | t+1=>by
  rw [bU,bU,bU,ZcU ed fs x t,Zaj ed,Int.mul_add]
  omega
theorem ZiC {s o:Shp} (et:o.top=s.top) (ed:o.depth=s.depth) (d:Nat) {fs:List (List Int)} (hf:FOk fs) {x:Int} (hx:x<=s.top):am s d fs x+am o d fs x<=am (s.ad o) d fs x:=by
 have:=Zfb et ed (d:=d) hf x hx
 unfold am
 rw [ZcU ed]
 omega
noncomputable def thk:List (List Int)->List Int->List (List Int)
 | d::fs,b::bs=>d.map (b * ·)::thk fs bs
 | _,_=>[]
noncomputable def bR:List (List Int)->List Int->Int
 | _::fs,b::bs=>bR fs bs * b
 | _,_=>1
theorem jk:∀ {fs:List (List Int)} {bs:List Int},fs.length=bs.length->(thk fs bs).length=fs.length
 | [],_,_=>rfl
 | d::fs,[],h=>by simp at h
 | d::fs,b::bs,h=>by
  rw [thk,List.length_cons,List.length_cons,jk (by simpa using h)]
theorem gP:∀ {fs:List (List Int)} {bs:List Int},fs.length=bs.length->prd (thk fs bs)=bR fs bs * prd fs
 | [],[],_=>rfl
 | [],b::bs,h=>by simp at h
 | d::fs,[],h=>by simp at h
 | d::fs,b::bs,h=>by
  rw [thk,prd,prd,bR,gP (by simpa using h),oj]
  grind
theorem ZaI:∀ {fs:List (List Int)} {bs:List Int} (f:Int->Int),fs.length=bs.length->sv (thk fs bs) f=bR fs bs * sv fs f
 | [],[],f,_=>(Int.one_mul _).symm
 | [],b::bs,f,h=>by simp at h
 | d::fs,[],f,h=>by simp at h
 | d::fs,b::bs,f,h=>by
  rw [thk,sv,sv,bR,nL]
  have e:(λi=>sv (thk fs bs) λj=>f (i+j))=λi=>bR fs bs * sv fs λj=>f (i+j):=funext λi=>ZaI _ (by simpa using h)
  rw [e,fv]
  grind
theorem jF:∀ {fs:List (List Int)} {bs:List Int},(∀ b∈bs,0 < b)->0 < bR fs bs
 | [],_,_=>by show (0:Int) < 1; decide
 | d::fs,[],_=>by show (0:Int) < 1; decide
 | d::fs,b::bs,h=>by
  rw [bR]
  exact Int.mul_pos (jF λq hq=>h q (List.mem_cons_of_mem _ hq)) (h b (by simp))
end My
set_option Elab.async false
set_option linter.all false
set_option maxRecDepth 100000
set_option exponentiation.threshold 9000
namespace My
open PySem PySem.Spec PyProof.Rows L2 Tw Bar
theorem n9:∀ (t:Nat) {fs:List (List Int)} {bs:List Int},fs.length=bs.length->(thk fs bs).drop t=thk (fs.drop t) (bs.drop t)
 | 0,_,_,_=>rfl
 | t+1,[],bs,_=>by rw [List.drop_nil]; cases bs <;> rfl
 | t+1,d::fs,[],h=>by simp at h
 | t+1,d::fs,b::bs,h=>by
  rw [thk,List.drop_succ_cons,List.drop_succ_cons,List.drop_succ_cons,n9 t (by simpa using h)]
theorem n8:∀ (t:Nat) {fs:List (List Int)} {bs:List Int},fs.length=bs.length->(thk fs bs).take t=thk (fs.take t) (bs.take t)
 | 0,fs,bs,_=>by rw [List.take_zero,List.take_zero]; rfl
 | t+1,[],bs,_=>by rw [List.take_nil]; cases bs <;> rfl
 | t+1,d::fs,[],h=>by simp at h
 | t+1,d::fs,b::bs,h=>by
  rw [thk,List.take_succ_cons,List.take_succ_cons,List.take_succ_cons,thk,n8 t (by simpa using h)]
theorem Zb7:∀ (t:Nat) {fs:List (List Int)} {bs:List Int},fs.length=bs.length->bR (fs.drop t) (bs.drop t) * bR (fs.take t) (bs.take t)=bR fs bs
 | 0,fs,bs,_=>by rw [List.drop_zero,List.drop_zero,List.take_zero,List.take_zero]; exact Int.mul_one _
 | t+1,[],bs,_=>by rw [List.take_nil,List.drop_nil]; cases bs <;> rfl
 | t+1,d::fs,[],h=>by simp at h
 | t+1,d::fs,b::bs,h=>by
  rw [List.drop_succ_cons,List.drop_succ_cons,List.take_succ_cons,List.take_succ_cons,bR,bR,<- Int.mul_assoc,Zb7 t (by simpa using h)]
theorem Zay:∀ {fs:List (List Int)} {bs:List Int},(∀ l∈fs,0 < l.length)->∀ l∈thk fs bs,0 < l.length
 | [],bs,_,l,hl=>by cases bs <;> cases hl
 | d::fs,[],_,l,hl=>by cases hl
 | d::fs,b::bs,h,l,hl=>by
  rcases List.mem_cons.mp hl with rfl | hl
  ·rw [List.length_map]; exact h d (by simp)
  ·exact Zay (λq hq=>h q (List.mem_cons_of_mem _ hq)) l hl
theorem Zab {fs:List (List Int)} {bs:List Int} (h:∀ l∈fs,0 < l.length) (hl:fs.length=bs.length) (f:Int->Int):ws f 0 (bm (thk fs bs))=bR fs bs * ws f 0 (bm fs):=by
 rw [gJ f (Zay h),gJ f h,ZaI f hl]
theorem Zax {fs:List (List Int)} {bs:List Int} (h:fs.length=bs.length) (t:Nat):(fs.take t).length=(bs.take t).length:=by rw [List.length_take,List.length_take,h]
theorem mN {fs:List (List Int)} {bs:List Int} (h:fs.length=bs.length) (t:Nat):(fs.drop t).length=(bs.drop t).length:=by rw [List.length_drop,List.length_drop,h]
theorem Zci {s:Shp} {fs:List (List Int)} {bs:List Int} (h:∀ l∈fs,0 < l.length) (hl:fs.length=bs.length) (t:Nat) (f:Int->Int):prd ((thk fs bs).drop t) * ws f 0 (bm ((thk fs bs).take t))=bR fs bs * (prd (fs.drop t) * ws f 0 (bm (fs.take t))):=by
 rw [n9 t hl,n8 t hl,gP (mN hl t),Zab (λl hm=>h l (List.mem_of_mem_take hm)) (Zax hl t),<- Zb7 t hl]
 grind
theorem Zee {s:Shp} {d:Nat} {day:List Int} {rest:List (List Int)} {b:Int} {bs:List Int} (h:∀ l∈day::rest,0 < l.length) (hl:(day::rest).length=(b::bs).length) (F:Int->Int) (y:Int):csm s d (thk (day::rest) (b::bs)) (λz=>bR rest bs * F z) y=bR (day::rest) (b::bs) * csm s d (day::rest) F y:=by
 have e1:=Zci (s:=s) h hl (d+1) (λf=>s.day y f)
 have e2:ws (λx=>bR rest bs * F (y - x)) 0 ((thk (day::rest) (b::bs)).headD [])=b * (bR rest bs * ws (λx=>F (y - x)) 0 day):=by
  show ws (λx=>bR rest bs * F (y - x)) 0 (day.map (b * ·))=_
  rw [nL,fv]
 unfold csm
 rw [e1,e2,gP hl]
 show _=bR (day::rest) (b::bs) * (prd (day::rest) * s.piece * y+prd ((day::rest).drop (d+1)) * ws (λf=>s.day y f) 0 (bm ((day::rest).take (d+1)))+ws (λx=>F (y - x)) 0 day)
 generalize prd ((day::rest).drop (d+1)) * ws (λf=>s.day y f) 0 (bm ((day::rest).take (d+1)))=u
 generalize ws (λx=>F (y - x)) 0 day=v
 generalize prd (day::rest)=w
 have e3:bR (day::rest) (b::bs)=bR rest bs * b:=rfl
 rw [e3]
 grind
theorem ZlP {s:Shp} {fs:List (List Int)} {bs:List Int} (h:∀ l∈fs,0 < l.length) (hl:fs.length=bs.length) (c:Int):ca s (thk fs bs) c=bR fs bs * ca s fs c:=Zab h hl _
theorem nh {s:Shp} {d:Nat}:∀ {fs:List (List Int)} {bs:List Int},(∀ l∈fs,0 < l.length)->fs.length=bs.length->(∀ b∈bs,0 < b)->∀ x,x<=s.top->aF s d (thk fs bs) x=bR fs bs * aF s d fs x
 | [],[],h,hl,_,x,_=>by show ca s [] x=1 * ca s [] x; rw [Int.one_mul]
 | [],b::bs,_,hl,_,_,_=>by simp at hl
 | d0::fs,[],_,hl,_,_,_=>by simp at hl
 | day::rest,b::bs,h,hl,hb,x,hx=>by
  have hl':rest.length=bs.length:=by simpa using hl
  by_cases hd:rest.length < d
  ·have e1:aF s d (thk (day::rest) (b::bs))=ca s (thk (day::rest) (b::bs)):=kJ (by rw [jk hl,List.length_cons]; omega)
   have e2:aF s d (day::rest)=ca s (day::rest):=kJ (by rw [List.length_cons]; omega)
   rw [e1,e2,ZlP h hl]
  ·have e1:aF s d (thk (day::rest) (b::bs))=cst (csm s d (thk (day::rest) (b::bs)) (aF s d (thk rest bs))) s.top (prd (thk (day::rest) (b::bs)) * s.start) (prd (thk (day::rest) (b::bs)) * s.piece):=hX (by rw [jk hl']; omega)
   have e2:aF s d (day::rest)=cst (csm s d (day::rest) (aF s d rest)) s.top (prd (day::rest) * s.start) (prd (day::rest) * s.piece):=hX (by omega)
   rw [e1,e2,<- Zeb (jF hb) hx,gP hl]
   refine qM (λy y1 y2=>?_) (Int.mul_assoc _ _ _) (Int.mul_assoc _ _ _) hx
   rw [<- Zee h hl]
   exact mQ λz hz=>nh (λl hm=>h l (List.mem_cons_of_mem _ hm)) hl' (λq hq=>hb q (List.mem_cons_of_mem _ hq)) z (Int.le_trans hz y2)
theorem Zn3 {s:Shp} {d:Nat}:∀ {fs:List (List Int)} {bs:List Int},(∀ l∈fs,0 < l.length)->fs.length=bs.length->(∀ b∈bs,0 < b)->∀ x,x<=s.top->aL s d (thk fs bs) x=aL s d fs x
 | [],bs,_,_,_,x,_=>by cases bs <;> rfl
 | d0::fs,[],_,hl,_,_,_=>by simp at hl
 | day::rest,b::bs,h,hl,hb,x,hx=>by
  have hl':rest.length=bs.length:=by simpa using hl
  have e1:aL s d (thk (day::rest) (b::bs))=lvl (csm s d (thk (day::rest) (b::bs)) (aF s d (thk rest bs))) s.top (prd (thk (day::rest) (b::bs)) * s.start):=rfl
  rw [e1,aL,gP hl]
  refine Eq.trans (ZcD (g':=λy=>bR (day::rest) (b::bs) * csm s d (day::rest) (aF s d rest) y) (λy y1 y2=>?_) (Int.mul_assoc _ _ _) hx) (ZcC (jF hb) hx)
  show _=bR (day::rest) (b::bs) * csm s d (day::rest) (aF s d rest) y
  rw [<- Zee h hl]
  exact mQ λz hz=>nh (λl hm=>h l (List.mem_cons_of_mem _ hm)) hl' (λq hq=>hb q (List.mem_cons_of_mem _ hq)) z (Int.le_trans hz y2)
theorem ZcS {s:Shp} {fs:List (List Int)} {bs:List Int} (h:∀ l∈fs,0 < l.length) (hl:fs.length=bs.length) (x:Int):∀ t:Nat,bU s (thk fs bs) x t=bR fs bs * bU s fs x t
 | 0=>(Int.mul_zero _).symm
 | t+1=>by
  rw [bU,bU,ZcS h hl x t,Zci (s:=s) h hl (t+1),Int.mul_add]
theorem ZiE {s:Shp} {d:Nat} {fs:List (List Int)} {bs:List Int} (h:∀ l∈fs,0 < l.length) (hl:fs.length=bs.length) (hb:∀ b∈bs,0 < b) {x:Int} (hx:x<=s.top):am s d (thk fs bs) x=bR fs bs * am s d fs x:=by
 unfold am
 rw [nh h hl hb x hx,ZcS h hl,Int.mul_add]
theorem ZaO {b:Int} (hb:0 < b):∀ (l:List Int) (k:Nat),b9 k (l.map (b * ·))=b9 k l
 | [],k=>rfl
 | w::l,k=>by
  rw [List.map_cons,b9,b9,ZaO hb l (k+1)]
  by_cases q:w > 0
  ·rw [if_pos q,if_pos (Int.mul_pos hb q)]
  ·rw [if_neg q,if_neg]
   intro z
   have:b * w<=0:=Int.mul_nonpos_of_nonneg_of_nonpos (by omega) (by omega)
   omega
theorem o6:∀ {fs:List (List Int)} {bs:List Int},fs.length=bs.length->(∀ b∈bs,0 < b)->reach (thk fs bs)=reach fs
 | [],bs,_,_=>by cases bs <;> rfl
 | d::fs,[],h,_=>by simp at h
 | d::fs,b::bs,h,hb=>by
  rw [thk,gO,gO,o6 (by simpa using h) λq hq=>hb q (List.mem_cons_of_mem _ hq)]
  congr 1
  unfold great
  rw [ZaO (hb b (by simp))]
theorem ZgT {s:Shp} {d:Nat} {fs:List (List Int)} {bs:List Int} (hf:FOk fs) (hl:fs.length=bs.length) (hb:∀ b∈bs,0 < b) {x:Int} (hx:x<=s.top) (t:Nat):dM s d (thk fs bs) x t=dM s d fs x t:=by
 have e0:lw (thk fs bs) x t=lw fs x t:=by
  unfold lw
  rw [n8 t hl,o6 (Zax hl t) λq hq=>hb q (List.mem_of_mem_take hq)]
 unfold dM nn
 rw [e0]
 congr 1
 refine List.map_congr_left λy hy=>?_
 have hy':=lx hy
 have l2:=iI hf x t
 have hF:∀ l∈fs.drop t,0 < l.length:=λl hm=>hf.L l (List.mem_of_mem_drop hm)
 have hB:∀ b∈bs.drop t,0 < b:=λq hq=>hb q (List.mem_of_mem_drop hq)
 rw [n9 t hl,nh hF (mN hl t) hB y (by omega),Zn3 hF (mN hl t) hB y (by omega),gP (mN hl t)]
 unfold cT
 rw [oz (fJ (hf.drop t).B) (jF hB)]
theorem Zbv {s:Shp} {d:Nat} {fs:List (List Int)} {bs:List Int} (hf:FOk fs) (hl:fs.length=bs.length) (hb:∀ b∈bs,0 < b) {x:Int} (hx:x<=s.top) (o:Nat):∀ p,cq s d (thk fs bs) x o p=cq s d fs x o p
 | 0=>rfl
 | p+1=>by rw [cq,cq,Zbv hf hl hb hx o p,ZgT hf hl hb hx]
end My
set_option Elab.async false
set_option linter.all false
set_option maxRecDepth 100000
set_option exponentiation.threshold 9000
namespace My
open PySem PySem.Spec PyProof.Rows L2 Tw
theorem ZdH {t b:Int} (hb:0 < b) (nB:nb 7000 b):jY [.d (.int t),.d (.int b)]=.ret (.d (ap t b)):=by
 obtain ⟨z,rfl⟩:∃ z:Nat,b=(z:Int):=⟨b.toNat,by omega⟩
 have key:=euclid (p:=nS) (s:=qi) (E:=λa b'=>[.d (.int t),.d (.int z),.d (.int a),.d (.int b')]) (λa b=>by
  simp_arith only [nS]
  by_cases h:b=0
  ·subst h; rfl
  ·rw [decide_eq_true h]
   congr 1
   simp
   omega) (λa b h=>by
  have h':(b:Int)≠0:=by omega
  simp_arith only [qi,mK h',Zdl]) 8000 83999 t.natAbs z (Nat.lt_of_lt_of_le (show z < 2 ^ 7000 from by unfold nb at nB; rwa [Int.natAbs_natCast] at nB) (Nat.pow_le_pow_right (by decide) (by decide)))
 have e:2 * 8000+1+83999=100000:=rfl
 rw [e] at key
 have hd:=Gc.km (t:=t) (b:=(z:Int)) (by omega)
 have hf:=aH (ZdZ (t:=t) nB (by omega)) (by decide)
 have ed:Gc.den t (z:Int)=((Nat.gcd t.natAbs z:Nat):Int):=by unfold Gc.den Gc.gu; rw [if_neg (by omega),Int.natAbs_natCast]
 unfold ap Gc.bT Gc.bH
 rw [ed] at hd hf ⊢
 simp_arith only [jY,Ze7,key,mM hd hf]
end My
set_option Elab.async false
set_option linter.all false
set_option maxRecDepth 100000
set_option exponentiation.threshold 9000
namespace My
open PySem PySem.Spec PyProof.Rows L2 Tw Bar
theorem iU (s:Shp):dL s.d none (some 2)=.ret (.tuple [.int s.top,.int s.depth]):=by unfold Shp.d; rfl
theorem kn (s:Shp):dL s.d (some 2) none=.ret (.tuple [.int s.start,.int s.piece,.int s.keep,.int s.lack,.int s.lost,.int s.back,.int s.late]):=by unfold Shp.d; rfl
theorem j8 {c B:Int} (hB:0 < B):Gc.bT c B * B=c * Gc.bH c B/\0 < Gc.bH c B:=by
 obtain ⟨p1,p2,p3,p4⟩:=Gc.j7 (t:=c) (b:=B) (by omega)
 refine ⟨?_,p3⟩
 generalize Gc.bT c B=T at *
 generalize Gc.bH c B=C at *
 generalize Gc.den c B=d at *
 have e1:T * (d * C)=(d * T) * C:=by grind
 have e2:T * B=T * (d * C):=by rw [<- p2]
 rw [e2,e1,<- p1]
theorem qa {t b t' b':Int} (b0:0 < b) (b0':0 < b') (h:t * b'<=t' * b):Gc.bT t b * Gc.bH t' b'<=Gc.bT t' b' * Gc.bH t b:=by
 obtain ⟨k1,k2⟩:=j8 (c:=t) b0
 obtain ⟨k3,k4⟩:=j8 (c:=t') b0'
 generalize Gc.bT t b=T at *
 generalize Gc.bH t b=C at *
 generalize Gc.bT t' b'=T' at *
 generalize Gc.bH t' b'=C' at *
 refine Int.le_of_mul_le_mul_right (a:=b * b') ?_ (Int.mul_pos b0 b0')
 have e1:T * C' * (b * b')=(T * b) * (C' * b'):=by grind
 have e2:T' * C * (b * b')=(T' * b') * (C * b):=by grind
 rw [e1,e2,k1,k3]
 have e3:t * C * (C' * b')=(t * b') * (C * C'):=by grind
 have e4:t' * C' * (C * b)=(t' * b) * (C * C'):=by grind
 rw [e3,e4]
 exact Int.mul_le_mul_of_nonneg_right h (Int.le_of_lt (Int.mul_pos k2 k4))
theorem oy (t b:Int):aV aK (ap t b) (.int 0)=.ret (.int (Gc.bT t b)):=by unfold ap; rw [cS]; exact congrArg Tr.of hI
theorem ox (t b:Int):aV aK (ap t b) (.int 1)=.ret (.int (Gc.bH t b)):=by unfold ap; rw [cS]; exact congrArg Tr.of mT
theorem ZdE {t b t' b':Int} (b0:0 < b) (b0':0 < b') (n1:nb 7000 t) (n2:nb 7000 b) (n3:nb 7000 t') (n4:nb 7000 b') (h:t * b'<=t' * b):iE [.d (ap t b),.d (ap t' b')]=.ret (.d (.bool true)):=by
 obtain ⟨l1,l2⟩:=iJ n1 n2 (by omega)
 obtain ⟨l3,l4⟩:=iJ n3 n4 (by omega)
 have f1:=aH l1 (by decide)
 have f2:=aH l2 (by decide)
 have f3:=aH l3 (by decide)
 have f4:=aH l4 (by decide)
 have hle:=qa b0 b0' h
 simp_arith only [iE,oy,ox,f1,f2,f3,f4,decide_eq_true hle]
theorem ZcT {s:Shp} (h:s.Ok) {fs:List (List Int)} (hf:FOk fs) {x:Int} (hx:nb 20 x):∀ t:Nat,nb (760+t) (bU s fs x t)
 | 0=>Nat.pos_of_ne_zero (by simp)
 | t+1=>by
  obtain ⟨w1,w2⟩:=ia (hf.take (t+1))
  have p2:=c6 (hf.drop (t+1)).B
  have q1:(fs.drop (t+1)).length<=6:=(hf.drop (t+1)).len
  have a2:=bz p2 (gK (k:=0) (f:=λf=>s.day x f) (a:=280) (b:=100) w1 λz x1 x2=>gz h hx (bD (by show -1099511627776 < z; omega) (by show z < 1099511627776; omega)))
  rw [bU]
  exact aN (dl (ZcT h hf hx t) a2) (by omega)
theorem gX {s:Shp} (h:s.Ok) {fs:List (List Int)} (hf:FOk fs) {d:Nat} (hd:d<=6) {x:Int} (x1:-100<=x) (x2:x<=s.top):nb 1700 (am s d fs x):=by
 have t0:=h.t0; have d0:=h.d0; have td:=h.td
 have hl:=hf.len
 have hx:nb 20 x:=bD (by show -1048576 < x; omega) (by show x < 1048576; omega)
 have a1:=jd h (d:=d) hf x (by omega) x2
 have a2:=ZcT h hf hx d
 unfold am
 exact aN (dl a1 a2) (by omega)
theorem Zl3 {s o:Shp} (h:s.Ok) (ho:o.Ok) (ha:(s.ad o).Ok) (et:o.top=s.top) (ed:o.depth=s.depth) {fs:List (List Int)} (hf:FOk fs) {d:Nat} (d1:d<=fs.length) {x:Int} (x1:reach fs - s.depth<=x) (x2:x<=s.top):l8 [.d s.d,.d o.d,.d (fD fs),.d (.int d),.d (.int x)]=.ret (.d (.bool true)):=by
 have t0:=h.t0; have d0:=h.d0; have td:=h.td
 have hl:=hf.len
 have hr:=fF (fs:=fs) λl hl=>(hf.b l hl).2
 have e1:=g6 h hf d1 x1 x2
 have e2:=g6 ho hf d1 (x:=x) (by rw [ed]; exact x1) (by omega)
 have e3:=g6 ha hf d1 (x:=x) x1 x2
 have n1:=gX h hf (d:=d) (by omega) (x:=x) (by omega) x2
 have n2:=gX ho hf (d:=d) (by omega) (x:=x) (by omega) (by omega)
 have n3:=gX ha hf (d:=d) (by omega) (x:=x) (by omega) x2
 have hle:=ZiC et ed d hf x2
 have p0:=fJ hf.B
 have p1:=aN (c6 hf.B) (show _<=300 by omega)
 generalize am s d fs x=t1 at *
 generalize am o d fs x=t2 at *
 generalize am (s.ad o) d fs x=t3 at *
 generalize prd fs=B at *
 obtain ⟨l1,l2⟩:=iJ n1 p1 (by omega)
 obtain ⟨l3,l4⟩:=iJ n2 p1 (by omega)
 obtain ⟨k1,k2⟩:=j8 (c:=t1) p0
 obtain ⟨k3,k4⟩:=j8 (c:=t2) p0
 have hs:=ZdH (t:=Gc.bT t1 B * Gc.bH t2 B+Gc.bT t2 B * Gc.bH t1 B) (b:=Gc.bH t1 B * Gc.bH t2 B) (Int.mul_pos k2 k4) (aN (bz l2 l4) (by decide))
 have hn:=ZdE (t:=Gc.bT t1 B * Gc.bH t2 B+Gc.bT t2 B * Gc.bH t1 B) (b:=Gc.bH t1 B * Gc.bH t2 B) (t':=t3) (b':=B) (Int.mul_pos k2 k4) p0 (aN (dl (bz l1 l4) (bz l3 l2)) (by decide)) (aN (bz l2 l4) (by decide)) (aN n3 (by decide)) (aN p1 (by decide)) (by
  generalize Gc.bT t1 B=T at *
  generalize Gc.bH t1 B=C at *
  generalize Gc.bT t2 B=T' at *
  generalize Gc.bH t2 B=C' at *
  have q1:(T * C'+T' * C) * B=(T * B) * C'+(T' * B) * C:=by grind
  have q2:t1 * C * C'+t2 * C' * C=(t1+t2) * (C * C'):=by grind
  rw [q1,k1,k3,q2]
  exact Int.mul_le_mul_of_nonneg_right hle (Int.le_of_lt (Int.mul_pos k2 k4)))
 have f1:=aH l1 (by decide)
 have f2:=aH l2 (by decide)
 have f3:=aH l3 (by decide)
 have f4:=aH l4 (by decide)
 have hz:aU (bS (aX (ak (ah 0) (ak (ah 1) aW))) Zb3 [.un,.un]) (dh [.int s.start,.int s.piece,.int s.keep,.int s.lack,.int s.lost,.int s.back,.int s.late] [.int o.start,.int o.piece,.int o.keep,.int o.lack,.int o.lost,.int o.back,.int o.late])=.ret [.int (s.start+o.start),.int (s.piece+o.piece),.int (s.keep+o.keep),.int (s.lack+o.lack),.int (s.lost+o.lost),.int (s.back+o.back),.int (s.late+o.late)]:=rfl
 have hsm:small (dh [.int s.start,.int s.piece,.int s.keep,.int s.lack,.int s.lost,.int s.back,.int s.late] [.int o.start,.int o.piece,.int o.keep,.int o.lack,.int o.lost,.int o.back,.int o.late]).length=true:=rfl
 have hd3:PyData.tuple [.int s.top,.int s.depth,.int (s.start+o.start),.int (s.piece+o.piece),.int (s.keep+o.keep),.int (s.lack+o.lack),.int (s.lost+o.lost),.int (s.back+o.back),.int (s.late+o.late)]=(s.ad o).d:=by unfold Shp.d; rfl
 simp_arith only [l8,iU,kn,hz,hsm,hd3,e1,e2,e3,oy,ox,f1,f2,f3,f4,hs,hn]
end My
set_option Elab.async false
set_option linter.all false
set_option maxRecDepth 100000
set_option exponentiation.threshold 9000
namespace My
open PySem PySem.Spec PyProof.Rows L2 Tw Bar
theorem ZfK {s:Shp} (h:s.Ok) {fs:List (List Int)} (hf:FOk fs) (h0:0 < fs.length) {x:Int} (x1:reach fs - s.depth<=x) (x2:x<=s.top):∃ row l:PyData,aV aK (.tuple (s.tab fs)) (.int 0)=.ret row/\aV aK row (.int (x+s.depth))=.ret (.tuple [ap (am s 0 fs x) (prd fs),l]):=by
 have hr:=fF (fs:=fs) λl hl=>(hf.b l hl).2
 have e0:am s 0 fs x=(s.bk fs).1 x:=by
  unfold am
  rw [Zfa hf x x1 x2]
  exact Int.add_zero _
 cases fs with
 | nil=>exact absurd h0 (by simp)
 | cons day rest =>
  refine ⟨s.tday day rest,.int (s.lv day rest x),?_,?_⟩
  ·rw [cS,Shp.tab]; exact congrArg Tr.of hI
  ·unfold Shp.tday
   rw [cS,iX (v:=cT ((s.bk (day::rest)).1 x) (s.bk (day::rest)).2 (s.lv day rest x)) (by omega) (by
    unfold aI
    rw [List.map_map,List.getElem?_map,List.getElem?_range (by unfold Shp.n; omega)]
    have eq:(λ(k:Nat)=>-s.depth+(k:Int)) (x+s.depth).toNat=x:=by show -s.depth+(((x+s.depth).toNat:Nat):Int)=x; omega
    show some (cT ((s.bk (day::rest)).1 ((λ(k:Nat)=>-s.depth+(k:Int)) (x+s.depth).toNat)) (s.bk (day::rest)).2 (s.lv day rest ((λ(k:Nat)=>-s.depth+(k:Int)) (x+s.depth).toNat)))=_
    rw [eq])]
   rw [e0,jE s]
   rfl
theorem ZlY {s:Shp} (h:s.Ok) {fs:List (List Int)} (hf:FOk fs) (h2:2<=fs.length) {x:Int} (x1:reach fs - s.depth<=x) (x2:x<=s.top):iF [.d s.d,.d (fD fs),.d (.int x)]=.ret (.d (.bool true)):=by
 have t0:=h.t0; have d0:=h.d0; have td:=h.td
 have hl:=hf.len
 have hr:=fF (fs:=fs) λl hl=>(hf.b l hl).2
 obtain ⟨row,lv,r1,r2⟩:=ZfK h hf (by omega) x1 x2
 have el:=ZlX h hf.B (by omega)
 have p0:=fJ hf.B
 have p1:=aN (c6 hf.B) (show _<=7000 by omega)
 have hln:bE dA [fD fs]=.ret (.int fs.length):=by
  unfold fD
  rw [ki,List.length_map]
 have sh0:aV aK (.tuple [ap (am s 0 fs x) (prd fs),lv]) (.int 0)=.ret (ap (am s 0 fs x) (prd fs)):=by rw [cS]; exact congrArg Tr.of hI
 have et:∀ (d:Nat) (acc:List PyData),d<=fs.length->acc.length<=10->j9 [.d s.d,.d (fD fs),.d (.int x),.own acc,.d (.int d)]=.ret (.next [.d s.d,.d (fD fs),.d (.int x),.own (acc++[ap (am s d fs x) (prd fs)]),.d (.int d)]):=λd acc hd ha=>by
  have e1:=g6 h hf hd x1 x2
  have hsm:small (acc.length+1)=true:=bO (by omega)
  simp_arith only [j9,e1,hsm]
 have hno:∀ d:Nat,d+1<=fs.length->iE [.d (ap (am s d fs x) (prd fs)),.d (ap (am s (d+1) fs x) (prd fs))]=.ret (.d (.bool true)):=λd hd =>
  ZdE p0 p0 (aN (gX h hf (by omega) (by omega) x2) (by decide)) p1 (aN (gX h hf (by omega) (by omega) x2) (by decide)) p1 (Int.mul_le_mul_of_nonneg_right (ZiB hf hd x2) (Int.le_of_lt p0))
 have hq:∀ d:Nat,d+1<=fs.length->bS (aX (ak (ah 0) (ak (ah 1) aW))) ir [.un,.un] (.tuple [ap (am s d fs x) (prd fs),ap (am s (d+1) fs x) (prd fs)])=.ret (.bool true):=λd hd=>by
  have e1:=hno d hd
  simp_arith only [ir,e1]
 have eg:∀ (d:Nat) (acc:List PyData) (J:Sl),ah 4 (.int (d:Int)) [.d s.d,.d (fD fs),.d (.int x),.own acc,J]=some [.d s.d,.d (fD fs),.d (.int x),.own acc,.d (.int d)]:=λ_ _ _=>rfl
 have one:∀ (d:Nat) (acc:List PyData) (J:Sl) (xs:List PyData),d<=fs.length->acc.length<=10->cj (ah 4) j9 (.int (d:Int)::xs) [.d s.d,.d (fD fs),.d (.int x),.own acc,J]=cj (ah 4) j9 xs [.d s.d,.d (fD fs),.d (.int x),.own (acc++[ap (am s d fs x) (prd fs)]),.d (.int d)]:=λd acc J xs hd ha=>by
  rw [gv,eg,Tr.of_some,Tr.ret_bind,gw,et d acc hd ha,Tr.ret_bind,fU]
 have alT:∀ bs:List Bool,(∀ b∈bs,b=true)->bE kB [.list (bs.map .bool)]=.ret (.bool true):=λbs hb=>by
  rw [Zdr]
  congr 2
  rw [List.all_eq_true]
  exact hb
 have a1:=alT [true] (by simp)
 have a2:=alT [true,true] (by simp)
 have a3:=alT [true,true,true] (by simp)
 simp only [List.map_cons,List.map_nil] at a1 a2 a3
 have hD:fi 3 ((fs.length:Int) - 1)=1/\2<=fs.length\/fi 3 ((fs.length:Int) - 1)=2/\3<=fs.length\/fi 3 ((fs.length:Int) - 1)=3/\4<=fs.length:=by
  unfold fi
  split <;> omega
 have h1:=hq 0
 have h3:=hq 1
 have h4:=hq 2
 rcases hD with ⟨hm,hk⟩ | ⟨hm,hk⟩ | ⟨hm,hk⟩
 ·have r:gc [.int 1,.int (1+1)]=.ret [.int ((1:Nat):Int)]:=rfl
  simp_arith only [iF,el,r1,r2,sh0,hln,hm,r]
  rw [one 1 _ _ _ (by omega) (by simp)]
  simp_arith only [List.isEmpty_cons]
  have hz:dh [ap (am s 0 fs x) (prd fs),ap (am s 1 fs x) (prd fs)] (L2.dC [ap (am s 0 fs x) (prd fs),ap (am s 1 fs x) (prd fs)] (some 1) none)=[.tuple [ap (am s 0 fs x) (prd fs),ap (am s (0+1) fs x) (prd fs)]]:=rfl
  have hs:small [PyData.tuple [ap (am s 0 fs x) (prd fs),ap (am s (0+1) fs x) (prd fs)]].length=true:=rfl
  rw [hz,mL hs]
  have hm2:aU (bS (aX (ak (ah 0) (ak (ah 1) aW))) ir [.un,.un]) [.tuple [ap (am s 0 fs x) (prd fs),ap (am s (0+1) fs x) (prd fs)]]=.ret [.bool true]:=by
   rw [aU,h1 (by omega),Tr.ret_bind,aU]
   rfl
  have hb:blk 2 [] [.d s.d,.d (fD fs),.d (.int x),.d (.list [ap (am s 0 fs x) (prd fs),ap (am s 1 fs x) (prd fs)]),.d (.int ((1:Nat):Int))]=[.un,.un]:=rfl
  rw [hb,hm2,Tr.ret_bind,a1]
  rfl
 ·have r:gc [.int 1,.int (2+1)]=.ret [.int ((1:Nat):Int),.int ((2:Nat):Int)]:=rfl
  simp_arith only [iF,el,r1,r2,sh0,hln,hm,r]
  rw [one 1 _ _ _ (by omega) (by simp)]
  rw [one 2 _ _ _ (by omega) (by simp)]
  simp_arith only [List.isEmpty_cons]
  have hz:dh [ap (am s 0 fs x) (prd fs),ap (am s 1 fs x) (prd fs),ap (am s 2 fs x) (prd fs)] (L2.dC [ap (am s 0 fs x) (prd fs),ap (am s 1 fs x) (prd fs),ap (am s 2 fs x) (prd fs)] (some 1) none)=[.tuple [ap (am s 0 fs x) (prd fs),ap (am s (0+1) fs x) (prd fs)],.tuple [ap (am s 1 fs x) (prd fs),ap (am s (1+1) fs x) (prd fs)]]:=rfl
  have hs:small [PyData.tuple [ap (am s 0 fs x) (prd fs),ap (am s (0+1) fs x) (prd fs)],.tuple [ap (am s 1 fs x) (prd fs),ap (am s (1+1) fs x) (prd fs)]].length=true:=rfl
  rw [hz,mL hs]
  have hm2:aU (bS (aX (ak (ah 0) (ak (ah 1) aW))) ir [.un,.un]) [.tuple [ap (am s 0 fs x) (prd fs),ap (am s (0+1) fs x) (prd fs)],.tuple [ap (am s 1 fs x) (prd fs),ap (am s (1+1) fs x) (prd fs)]]=.ret [.bool true,.bool true]:=by
   rw [aU,h1 (by omega),Tr.ret_bind,aU,h3 (by omega),Tr.ret_bind,aU]
   rfl
  have hb:blk 2 [] [.d s.d,.d (fD fs),.d (.int x),.d (.list [ap (am s 0 fs x) (prd fs),ap (am s 1 fs x) (prd fs),ap (am s 2 fs x) (prd fs)]),.d (.int ((2:Nat):Int))]=[.un,.un]:=rfl
  rw [hb,hm2,Tr.ret_bind,a2]
  rfl
 ·have r:gc [.int 1,.int (3+1)]=.ret [.int ((1:Nat):Int),.int ((2:Nat):Int),.int ((3:Nat):Int)]:=rfl
  simp_arith only [iF,el,r1,r2,sh0,hln,hm,r]
  rw [one 1 _ _ _ (by omega) (by simp)]
  rw [one 2 _ _ _ (by omega) (by simp)]
  rw [one 3 _ _ _ (by omega) (by simp)]
  simp_arith only [List.isEmpty_cons]
  have hz:dh [ap (am s 0 fs x) (prd fs),ap (am s 1 fs x) (prd fs),ap (am s 2 fs x) (prd fs),ap (am s 3 fs x) (prd fs)] (L2.dC [ap (am s 0 fs x) (prd fs),ap (am s 1 fs x) (prd fs),ap (am s 2 fs x) (prd fs),ap (am s 3 fs x) (prd fs)] (some 1) none)=[.tuple [ap (am s 0 fs x) (prd fs),ap (am s (0+1) fs x) (prd fs)],.tuple [ap (am s 1 fs x) (prd fs),ap (am s (1+1) fs x) (prd fs)],.tuple [ap (am s 2 fs x) (prd fs),ap (am s (2+1) fs x) (prd fs)]]:=rfl
  have hs:small [PyData.tuple [ap (am s 0 fs x) (prd fs),ap (am s (0+1) fs x) (prd fs)],.tuple [ap (am s 1 fs x) (prd fs),ap (am s (1+1) fs x) (prd fs)],.tuple [ap (am s 2 fs x) (prd fs),ap (am s (2+1) fs x) (prd fs)]].length=true:=rfl
  rw [hz,mL hs]
  have hm2:aU (bS (aX (ak (ah 0) (ak (ah 1) aW))) ir [.un,.un]) [.tuple [ap (am s 0 fs x) (prd fs),ap (am s (0+1) fs x) (prd fs)],.tuple [ap (am s 1 fs x) (prd fs),ap (am s (1+1) fs x) (prd fs)],.tuple [ap (am s 2 fs x) (prd fs),ap (am s (2+1) fs x) (prd fs)]]=.ret [.bool true,.bool true,.bool true]:=by
   rw [aU,h1 (by omega),Tr.ret_bind,aU,h3 (by omega),Tr.ret_bind,aU,h4 (by omega),Tr.ret_bind,aU]
   rfl
  have hb:blk 2 [] [.d s.d,.d (fD fs),.d (.int x),.d (.list [ap (am s 0 fs x) (prd fs),ap (am s 1 fs x) (prd fs),ap (am s 2 fs x) (prd fs),ap (am s 3 fs x) (prd fs)]),.d (.int ((3:Nat):Int))]=[.un,.un]:=rfl
  rw [hb,hm2,Tr.ret_bind,a3]
  rfl
end My
set_option Elab.async false
set_option linter.all false
set_option maxRecDepth 100000
set_option exponentiation.threshold 9000
namespace My
open PySem PySem.Spec PyProof.Rows L2 Tw Bar
theorem pY {h:PyData->Tr PyData} {f:Int->Int}:∀ {l:List Int},(∀ p∈l,h (.int p)=.ret (.int (f p)))->aU h (l.map PyData.int)=.ret ((l.map f).map PyData.int)
 | [],_=>rfl
 | p::l,hp=>by
  have ih:=pY (h:=h) (f:=f) (l:=l) λq hq=>hp q (List.mem_cons_of_mem _ hq)
  rw [List.map_cons,aU,hp p (by simp),Tr.ret_bind,ih]
  rfl
theorem pX {α:Type} {h:PyData->Tr PyData} {f g:α->PyData}:∀ {l:List α},(∀ p∈l,h (f p)=.ret (g p))->aU h (l.map f)=.ret (l.map g)
 | [],_=>rfl
 | p::l,hp=>by
  have ih:=pX (h:=h) (f:=f) (g:=g) (l:=l) λq hq=>hp q (List.mem_cons_of_mem _ hq)
  rw [List.map_cons,aU,hp p (by simp),Tr.ret_bind,ih]
  rfl
theorem ZlU {s:Shp} (h:s.Ok) {m:Int} (hm:nb 20 m):l6 [.d s.d,.d (.int m)]=.ret (.d (s.tm m).d):=by
 have e:=pY (h:=bS (ah 0) po [.un,.d (.int m)]) (f:=(m * ·)) (l:=[s.start,s.piece,s.keep,s.lack,s.lost,s.back,s.late]) λp hp=>by
  have g1:=aH hm (by decide)
  have g2:fit p=true:=by
   simp only [List.mem_cons,List.not_mem_nil,or_false] at hp
   rcases hp with rfl | rfl | rfl | rfl | rfl | rfl | rfl
   ·exact aH h.start (by decide)
   ·exact aH h.piece (by decide)
   ·exact aH h.keep (by decide)
   ·exact aH h.lack (by decide)
   ·exact aH h.lost (by decide)
   ·exact aH h.back (by decide)
   ·exact aH h.late (by decide)
  simp_arith only [po,g1,g2]
  rw [Int.mul_comm]
 simp only [List.map_cons,List.map_nil] at e
 simp_arith only [l6,iU,kn,e]
 rw [ow]
 rfl
theorem ZdG {t b m:Int} (b0:0 < b) (nt:nb 2000 t) (nB:nb 2000 b) (m0:0 < m) (hm:nb 20 m):jX [.d (ap t b),.d (.int m)]=.ret (.d (ap (m * t) b)):=by
 obtain ⟨l1,l2⟩:=iJ nt nB (by omega)
 obtain ⟨k1,k2⟩:=j8 (c:=t) b0
 have f1:=aH l1 (by decide)
 have f2:=aH hm (by decide)
 have es:=ZdH (t:=Gc.bT t b * m) (b:=Gc.bH t b) k2 (aN l2 (by decide))
 have eq:ap (Gc.bT t b * m) (Gc.bH t b)=ap (m * t) b:=by
  obtain ⟨p1,p2,p3,p4⟩:=Gc.j7 (t:=t) (b:=b) (by omega)
  generalize Gc.bT t b=T at *
  generalize Gc.bH t b=C at *
  generalize Gc.den t b=g at *
  have g0:0 < g:=by
   rcases Int.lt_or_le 0 g with q | q
   ·exact q
   ·have:g * C<=0:=Int.mul_nonpos_of_nonpos_of_nonneg q (Int.le_of_lt k2)
    omega
  have e1:m * t=g * (T * m):=by rw [p1]; grind
  rw [e1,p2,oz k2 g0]
 simp_arith only [jX,oy,ox,f1,f2,es,eq]
theorem lp (s:Shp) (d:Nat) (fs:List (List Int)) (x:Int) (o:Nat):∀ p,cq s d fs x o p=(List.range p).map λi=>dM s d fs x (o - (i+1))
 | 0=>rfl
 | p+1=>by rw [cq,lp s d fs x o p,List.range_succ,List.map_append]; rfl
theorem Zhc {s:Shp} (h:s.Ok) {fs:List (List Int)} (hf:FOk fs) {d:Nat} {x:Int} (x1:reach fs - s.depth<=x) (x2:x<=s.top) {m:Int} (m0:0 < m) (hm:nb 20 m) (t:Nat):lE [.d (dM s d fs x t),.d (.int m)]=.ret (dM (s.tm m) d fs x t):=by
 have t0:=h.t0; have d0:=h.d0; have td:=h.td
 have l1:=j6 hf x1 t
 have l2:=iI hf x t
 have hF:=hf.drop t
 have hFl:=hF.len
 have p0:=fJ hF.B
 have p1:=aN (c6 hF.B) (show _<=2000 by omega)
 have hn:nn (s.tm m) fs x t=nn s fs x t:=rfl
 have hmap:aU (bS (aX (ak (ah 0) (ak (ah 1) aW))) pj [.un,.un,.d (.int m)]) ((aI (lw fs x t) (nn s fs x t)).map λy=>cT (aF s d (fs.drop t) y) (prd (fs.drop t)) (aL s d (fs.drop t) y))=.ret ((aI (lw fs x t) (nn s fs x t)).map λy=>cT (aF (s.tm m) d (fs.drop t) y) (prd (fs.drop t)) (aL (s.tm m) d (fs.drop t) y)):=pX λy hy=>by
  have hy':=lx hy
  have y2:y<=s.top:=by unfold nn at hy'; omega
  have e1:=ZdG (t:=aF s d (fs.drop t) y) p0 (aN (jd h hF y (by omega) y2) (by omega)) p1 m0 hm
  rw [ng m0 _ y y2,Zn2 m0 _ y y2]
  unfold cT
  simp_arith only [pj,e1]
 have hs:small ((aI (lw fs x t) (nn s fs x t)).map λy=>cT (aF s d (fs.drop t) y) (prd (fs.drop t)) (aL s d (fs.drop t) y)).length=true:=bO (by rw [List.length_map,eQ]; unfold nn; omega)
 unfold dM
 rw [hn]
 simp_arith only [lE,hs,hmap]
theorem Zhb {day:List Int} {b:Int} (hd:DayB day) (hb:nb 20 b):jz [.d (tI day),.d (.int b)]=.ret (tI (day.map (b * ·))):=by
 have e:=pY (h:=bS (ah 0) pi [.un,.d (.int b)]) (f:=(b * ·)) (l:=day) λp hp=>by
  have g1:=aH hb (by decide)
  have g2:=aH (hd.nb p hp) (by decide)
  simp_arith only [pi,g1,g2]
  rw [Int.mul_comm]
 have hs:small (day.map PyData.int).length=true:=bO (by rw [List.length_map]; have:=hd.len; omega)
 simp_arith only [jz,qm,hs,e]
 rfl
theorem ZcA:∀ {fs:List (List Int)} {bs:List Int},(∀ l∈fs,DayB l)->(∀ b∈bs,nb 20 b)->aU (bS (aX (ak (ah 0) (ak (ah 1) aW))) jz [.un,.un]) (dh (fs.map tI) (bs.map PyData.int))=.ret ((thk fs bs).map tI)
 | [],bs,_,_=>by cases bs <;> rfl
 | d::fs,[],_,_=>rfl
 | d::fs,b::bs,hf,hb=>by
  have ih:=ZcA (fs:=fs) (bs:=bs) (λl hl=>hf l (List.mem_cons_of_mem _ hl)) λq hq=>hb q (List.mem_cons_of_mem _ hq)
  have e:bS (aX (ak (ah 0) (ak (ah 1) aW))) jz [.un,.un] (.tuple [tI d,.int b])=.ret (tI (d.map (b * ·))):=Zhb (hf d (by simp)) (hb b (by simp))
  show aU _ (.tuple [tI d,.int b]::dh (fs.map tI) (bs.map PyData.int))=_
  rw [aU,e,Tr.ret_bind,ih]
  rfl
end My
set_option Elab.async false
set_option linter.all false
set_option maxRecDepth 100000
set_option exponentiation.threshold 9000
namespace My
open PySem PySem.Spec PyProof.Rows L2 Tw Bar
theorem o0 {t b:Int} (nt:nb 1900 t) (nB:nb 1900 b) (h0:b≠0):Rp (ap t b) 1 3816:=by
 obtain ⟨l1,l2⟩:=iJ nt nB h0
 unfold ap
 exact im (jt (k:=0) (n:=1901) λx hx=>by
  simp only [List.mem_cons,List.not_mem_nil,or_false] at hx
  rcases hx with rfl | rfl
  ·exact o4 l1
  ·exact o4 l2) (Nat.le_refl _) (by show 2 * 1901+2 * 2+10<=3816; decide)
theorem ZgQ {t b l:Int} (nt:nb 1900 t) (nB:nb 1900 b) (h0:b≠0) (nl:nb 1900 l):Rp (cT t b l) 2 7646:=by
 unfold cT
 exact im (jt (k:=1) (n:=3816) λx hx=>by
  simp only [List.mem_cons,List.not_mem_nil,or_false] at hx
  rcases hx with rfl | rfl
  ·exact o0 nt nB h0
  ·exact im (o4 nl) (by decide) (by decide)) (Nat.le_refl _) (by show 2 * 3816+2 * 2+10<=7646; decide)
theorem Zn4 {s:Shp} {d:Nat}:∀ (fs:List (List Int)) {y:Int},-500<=y->y<=s.top->0<=s.top->s.top<=500->nb 1900 (aL s d fs y)
 | [],y,_,_,_,_=>by show (0:Int).natAbs < 2 ^ 1900; exact Nat.pos_of_ne_zero (by simp)
 | day::rest,y,y1,y2,t0,t1=>by
  rw [aL]
  obtain ⟨h1,h2,-⟩:=pI (g:=csm s d (day::rest) (aF s d rest)) (K:=prd (day::rest) * s.start) y2
  unfold lvl
  exact aN (k:=20) (bD (by show -1048576 < _; omega) (by show _ < 1048576; omega)) (by decide)
theorem ZgP {s:Shp} (h:s.Ok) {fs:List (List Int)} (hf:FOk fs) {d:Nat} {x:Int} (x1:reach fs - s.depth<=x) (x2:x<=s.top) (t:Nat):Rp (dM s d fs x t) 3 772458:=by
 have t0:=h.t0; have d0:=h.d0; have td:=h.td
 have l1:=j6 hf x1 t
 have l2:=iI hf x t
 have hF:=hf.drop t
 have hFl:=hF.len
 have p0:=fJ hF.B
 have p1:=aN (c6 hF.B) (show _<=1900 by omega)
 unfold dM
 have hl:((aI (lw fs x t) (nn s fs x t)).map λy=>cT (aF s d (fs.drop t) y) (prd (fs.drop t)) (aL s d (fs.drop t) y)).length<=101:=by rw [List.length_map,eQ]; unfold nn; omega
 refine im (jt (k:=2) (n:=7646) λv hv=>?_) (Nat.le_refl _) (by omega)
 obtain ⟨y,hy,rfl⟩:=List.mem_map.mp hv
 have hy':=lx hy
 have y2:y<=s.top:=by unfold nn at hy'; omega
 exact ZgQ (aN (jd h hF y (by omega) y2) (by omega)) p1 (Int.ne_of_gt p0) (Zn4 _ (by omega) y2 t0 (by omega))
theorem Zbt {s:Shp} (h:s.Ok) {fs:List (List Int)} (hf:FOk fs) {d:Nat} {x:Int} (x1:reach fs - s.depth<=x) (x2:x<=s.top) (o:Nat) {p:Nat} (hp:p<=6):Rp (.tuple (cq s d fs x o p).reverse) 4 4634770:=by
 have hl:(cq s d fs x o p).reverse.length<=6:=by rw [List.length_reverse,lm]; exact hp
 refine im (jt (k:=3) (n:=772458) λv hv=>?_) (Nat.le_refl _) (by omega)
 rw [List.mem_reverse,lp] at hv
 obtain ⟨i,-,rfl⟩:=List.mem_map.mp hv
 exact ZgP h hf x1 x2 _
theorem ZlT {s:Shp} (h:s.Ok) {m:Int} (m0:0 < m) (hm:nb 20 m) (hsm:(s.tm m).Ok) {fs:List (List Int)} (hf:FOk fs) {bs:List Int} (hl:fs.length=bs.length) (hb:∀ b∈bs,0 < b/\nb 20 b) (hk:FOk (thk fs bs)) {d:Nat} (d1:d<=fs.length) {x:Int} (x1:reach fs - s.depth<=x) (x2:x<=s.top) :
  l0 [.d s.d,.d (fD fs),.d (.int d),.d (.int x),.d (.int m),.d (lI bs)]=.ret (.d (.bool true)):=by
 have t0:=h.t0; have d0:=h.d0; have td:=h.td
 have hfl:=hf.len
 have hr:=fF (fs:=fs) λl hl=>(hf.b l hl).2
 have hb0:∀ b∈bs,0 < b:=λb hm=>(hb b hm).1
 have p0:=fJ hf.B
 have p1:=aN (c6 hf.B) (show _<=1900 by omega)
 have e1:=g6 h hf d1 x1 x2
 have e2:=qG h hf d1 x1 x2
 have e3:=ZlU h hm
 have e4:=g6 hsm hf d1 (x:=x) x1 x2
 have e5:=qG hsm hf d1 (x:=x) x1 x2
 have n1:=gX h hf (d:=d) (by omega) (x:=x) (by omega) x2
 have n2:=gX hsm hf (d:=d) (by omega) (x:=x) (by omega) x2
 have e6:=ZdG (t:=am s d fs x) p0 (aN n1 (by decide)) (aN p1 (by decide)) m0 hm
 rw [<- ZiD m0 d fs x2] at e6
 have hkl:(thk fs bs).length=fs.length:=jk hl
 have hre:reach (thk fs bs)=reach fs:=o6 hl hb0
 have e7:=g6 h hk (d:=d) (by omega) (x:=x) (by rw [hre]; exact x1) x2
 have e8:=qG h hk (d:=d) (by omega) (x:=x) (by rw [hre]; exact x1) x2
 rw [hkl,Zbv hf hl hb0 x2] at e8
 rw [ZiE hf.L hl hb0 x2,gP hl,oz p0 (jF hb0)] at e7
 have r1:=qB (o3 (o0 (aN n2 (by decide)) p1 (Int.ne_of_gt p0)) (by decide) (by decide))
 have R2:=Zbt hsm hf (d:=d) (x:=x) x1 x2 (fs.length - d) (p:=fs.length - d) (by omega)
 have r2:=qB (o3 R2 (by decide) (by decide))
 have R3:=Zbt h hf (d:=d) (x:=x) x1 x2 (fs.length - d) (p:=fs.length - d) (by omega)
 have r3:=qB (o3 (jt (xs:=[ap (am s d fs x) (prd fs),.tuple (cq s d fs x (fs.length - d) (fs.length - d)).reverse]) (k:=4) (n:=4634770) λv hv=>by
  simp only [List.mem_cons,List.not_mem_nil,or_false] at hv
  rcases hv with rfl | rfl
  ·exact im (o0 (aN n1 (by decide)) p1 (Int.ne_of_gt p0)) (by decide) (by decide)
  ·exact R3) (by decide) (by show 2 * 4634770+2 * 2+10<=10000000; decide))
 have hq:aU (bS (ah 0) lE [.un,.d (.int m)]) (cq s d fs x (fs.length - d) (fs.length - d)).reverse=.ret (cq (s.tm m) d fs x (fs.length - d) (fs.length - d)).reverse:=by
  rw [lp,lp,<- List.map_reverse,<- List.map_reverse]
  exact pX λi _=>Zhc h hf x1 x2 m0 hm _
 have hs1:small (cq s d fs x (fs.length - d) (fs.length - d)).reverse.length=true:=bO (by rw [List.length_reverse,lm]; omega)
 have hz:=ZcA (fs:=fs) (bs:=bs) hf.B λb hm=>(hb b hm).2
 have hs2:small (dh (fs.map tI) (bs.map PyData.int)).length=true:=bO (by unfold dh; rw [List.length_map,List.length_zip,List.length_map]; omega)
 have hfk:PyData.tuple ((thk fs bs).map tI)=fD (thk fs bs):=rfl
 simp_arith only [l0,lI,e1,e2,e3,e4,e6,r1,hs1,hq,e5,r2,iN,hs2,hz,hfk,e7,e8,r3,beq_self_eq_true,Bool.not_true]
end My
set_option Elab.async false
set_option linter.all false
set_option maxRecDepth 100000
set_option exponentiation.threshold 9000
namespace My
open PySem PySem.Spec PyProof.Rows L2 Tw Bar
theorem bB (n:Int):cL [.pen,.d (.int n)]=.draw n λr=>.ret (.d (.int r)):=rfl
theorem ZgL:Al (l9 [.pen,.d (.int 5)]) 8 λr=>∃ d,r=.d (tI d)/\DayOk 8 d:=by
 simp_arith only [l9,bB]
 refine cV (n:=7) (by decide) (by decide) (by decide) λi i0 i1=>?_
 obtain ⟨be,hbe,be0,be1⟩:=pC (xs:=[PyData.int 0,.int 0,.int 1,.int 3]) (lo:=0) (hi:=3) (by simp [fR]) i0 i1
 simp_arith only [bB,hbe]
 refine cV (n:=6) (by decide) (by decide) (by decide) λj j0 j1=>?_
 obtain ⟨bo,hbo,bo0,bo1⟩:=pC (xs:=[PyData.int 2,.int 4,.int 20,.int 1001]) (lo:=2) (hi:=1001) (by simp [fR]) j0 j1
 simp_arith only [bB,hbo]
 refine cV (n:=5) (by decide) (by decide) (by decide) λc c0 c1=>?_
 have rr:ef [.int c]=.ret (bc 0 c):=gZ (dm (by omega) (by omega))
 have hs:small (bc 0 c).length=true:=bO (by rw [cD]; omega)
 simp_arith only [bB,rr,hs]
 refine dU (n:=4) (n':=1) (m7 (n:=1) (P:=fR 0 1000) (Q:=λys=>∃ ps:List Int,ys=ps.map PyData.int/\ps.length=c.toNat/\∀ p∈ps,0<=p/\p<=1000) (by rw [cD]; omega) (λx hx=>?_) λys hl hys=>?_) (by decide) ?_
 ·simp_arith only [Zb4,bB]
  refine cV (n:=0) (by omega) (by omega) (by decide) λv v0 v1=>?_
  try simp_arith only [bB]
  exact cz ⟨v,rfl,v0,by omega⟩
 ·obtain ⟨ns,e,hn⟩:=mB hys
  refine ⟨ns,e,?_,hn⟩
  rw [e,List.length_map,cD] at hl
  omega
 ·rintro _ ⟨ps,rfl,hl,hb⟩
  try simp_arith only [bB]
  refine cV (n:=0) (by omega) (by omega) (by decide) λw w0 w1=>?_
  have hmul:aV bA (.list [.int 0]) (.int be)=.ret (.list ((List.replicate be.toNat (0:Int)).map PyData.int)):=by
   have:be=0\/be=1\/be=2\/be=3:=by omega
   rcases this with rfl | rfl | rfl | rfl <;> rfl
  have e2:aV bf (.list (ps.map PyData.int)) (.list [.int (1+w)])=.ret (.list (ps.map PyData.int++[.int (1+w)])):=qD (bO (by rw [List.length_map]; show ps.length+1<=_; omega))
  have e3:aV bf (.list (ps.map PyData.int++[.int (1+w)])) (.list ((List.replicate be.toNat (0:Int)).map PyData.int))=.ret (.list (ps.map PyData.int++[.int (1+w)]++(List.replicate be.toNat (0:Int)).map PyData.int)):=qD (bO (by rw [List.length_append,List.length_map,List.length_map,List.length_replicate]; show ps.length+1+_<=_; omega))
  simp_arith only [bB,hmul,e2,e3]
  refine cz ⟨ps++[1+w]++List.replicate be.toNat 0,?_,?_⟩
  ·unfold tI
   rw [List.map_append,List.map_append]
   rfl
  ·refine ⟨by simp; omega,⟨1+w,by simp,by omega⟩,λn hn=>?_⟩
   simp only [List.mem_append,List.mem_singleton,List.mem_replicate] at hn
   rcases hn with (hn | rfl) | ⟨-,rfl⟩
   ·have:=hb n hn; omega
   ·omega
   ·omega
theorem Zba:Al (jZ [.pen]) 10 λr=>∃ ps:List Int,r=.d (tI ps)/\ps.length=7/\∀ p∈ps,0<=p/\p<=200000:=by
 have pw:aV lM (.int 10) (.int 5)=.ret (.int 100000):=rfl
 simp_arith only [jZ,bB,pw]
 refine cV (n:=9) (by decide) (by decide) (by decide) λi i0 i1=>?_
 obtain ⟨bo,hbo,bo0,bo1⟩:=pC (xs:=[PyData.int 3,.int 10,.int 60,.int 100000]) (lo:=3) (hi:=100000) (by simp [fR]) i0 i1
 have r7:ef [.int 7]=.ret (bc 0 7):=gZ (dm (by decide) (by decide))
 have hs:small (bc 0 7).length=true:=bO (by rw [cD]; decide)
 simp_arith only [bB,hbo,r7,hs]
 refine dU (n:=7) (n':=2) (m7 (n:=1) (P:=fR 0 100000) (Q:=λys=>∃ ps:List Int,ys=ps.map PyData.int/\ps.length=7/\∀ p∈ps,0<=p/\p<=100000) (by rw [cD]; decide) (λx hx=>?_) λys hl hys=>?_) (by decide) ?_
 ·simp_arith only [Zb2,bB]
  refine cV (n:=0) (by omega) (by omega) (by decide) λv v0 v1=>?_
  try simp_arith only [bB]
  exact cz ⟨v,rfl,v0,by omega⟩
 ·obtain ⟨ns,e,hn⟩:=mB hys
  refine ⟨ns,e,?_,hn⟩
  rw [e,List.length_map,cD] at hl
  exact hl
 ·rintro _ ⟨ps,rfl,hl,hb⟩
  obtain ⟨p2,p3,p4,p5,p6,p7,p8,rfl⟩:=qc hl
  have hp5:=hb p5 (by simp)
  have b2:=hb p2 (by simp)
  have b3:=hb p3 (by simp)
  have b4:=hb p4 (by simp)
  have b6:=hb p6 (by simp)
  have b7:=hb p7 (by simp)
  have b8:=hb p8 (by simp)
  have f5:fit p5=true:=aH (k:=40) (bD (by show -1099511627776 < _; omega) (by show _ < 1099511627776; omega)) (by decide)
  have f53:fit (p5 * 3)=true:=aH (k:=40) (bD (by show -1099511627776 < _; omega) (by show _ < 1099511627776; omega)) (by decide)
  have i0:∀ a b c d e f g:PyData,L2.c7 [a,b,c,d,e,f,g].length 0=some 0:=λ_ _ _ _ _ _ _=>rfl
  have i3:∀ a b c d e f g:PyData,L2.c7 [a,b,c,d,e,f,g].length 3=some 3:=λ_ _ _ _ _ _ _=>rfl
  have hmod:aV fh (.int (p5 * 3)) (.int 100003)=.ret (.int (p5 * 3 % 100003)):=by rw [mK (by decide),Int.fmod_eq_emod_of_nonneg _ (by decide)]
  have m0:=Int.emod_nonneg (p5 * 3) (show (100003:Int)≠0 by decide)
  have m1:=Int.emod_lt_of_pos (p5 * 3) (show (0:Int) < 100003 by decide)
  have f3:fit (3:Int)=true:=aH (k:=40) (bD (by show -1099511627776 < (3:Int); omega) (by show (3:Int) < 1099511627776; omega)) (by decide)
  try simp_arith only [bB]
  refine cV (n:=1) (by decide) (by decide) (by decide) λa a0 a1=>?_
  cases ha:(a == 0)
  ·simp_arith only [bB,ha]
   refine cV (n:=0) (by decide) (by decide) (by decide) λc c0 c1=>?_
   cases hc:(c == 0)
   ·simp_arith only [bB,hc]
    exact cz ⟨[p2,p3,p4,p5,p6,p7,p8],rfl,rfl,λp hp=>by have:=hb p hp; omega⟩
   ·simp_arith only [bB,hc,f5,f3,hmod,qz (i3 _ _ _ _ _ _ _)]
    exact cz ⟨[p2,p3,p4,p5 * 3 % 100003,p6,p7,p8],rfl,rfl,λp hp=>by
     clear hb
     simp only [List.mem_cons,List.not_mem_nil,or_false] at hp
     rcases hp with rfl | rfl | rfl | rfl | rfl | rfl | rfl <;> omega⟩
  ·simp_arith only [bB,ha,qz (i0 _ _ _ _ _ _ _)]
   refine cV (n:=0) (by decide) (by decide) (by decide) λc c0 c1=>?_
   cases hc:(c == 0)
   ·simp_arith only [bB,hc]
    exact cz ⟨[0,p3,p4,p5,p6,p7,p8],rfl,rfl,λp hp=>by
     clear hb
     simp only [List.mem_cons,List.not_mem_nil,or_false] at hp
     rcases hp with rfl | rfl | rfl | rfl | rfl | rfl | rfl <;> omega⟩
   ·simp_arith only [bB,hc,f5,f3,hmod,qz (i3 _ _ _ _ _ _ _)]
    exact cz ⟨[0,p3,p4,p5 * 3 % 100003,p6,p7,p8],rfl,rfl,λp hp=>by
     clear hb
     simp only [List.mem_cons,List.not_mem_nil,or_false] at hp
     rcases hp with rfl | rfl | rfl | rfl | rfl | rfl | rfl <;> omega⟩
theorem Zgr (ls:List Int) (hl:ls.length<=100):cR (gt (ah 0) jI jA [.un,.d (tI ls)]) (bc 0 (ls.length:Int))=.ret ((b9 0 ls).map PyData.int):=by
 have hmap:=Zcy (h:=gt (ah 0) jI jA [.un,.d (tI ls)]) (F:=λq=>.int q.1) ls 0 λi v hv=>by
  have e0:((0:Nat):Int)+(i:Int)=i:=by omega
  rw [e0]
  have hat:aV aK (tI ls) (.int i)=.ret (.int v):=by
   unfold tI
   rw [cS,iX (v:=.int v) (by omega) (by rw [Int.toNat_natCast,List.getElem?_map,hv]; rfl)]
   rfl
  by_cases h:v > 0
  ·simp_arith only [jI,jA,hat,decide_eq_true h,if_pos h]
  ·simp_arith only [jI,jA,hat,decide_eq_false h,if_neg h]
 have z:((0:Nat):Int)+(ls.length:Int)=(ls.length:Int):=by omega
 rw [z] at hmap
 rw [<- ZaP]
 exact hmap
theorem ZlV {fs:List (List Int)} (hf:∀ l∈fs,DayOk 8 l) (hl:fs.length<=100):l7 [.d (fD fs)]=.ret (.d (.int (reach fs))):=by
 have hq:∀ l∈fs,bS (ah 0) pq [.un] (tI l)=.ret (.int (great l)):=λl hm=>by
  have hlen:=(hf l hm).len
  have hln:bE dA [tI l]=.ret (.int l.length):=by unfold tI; rw [ki,List.length_map]
  have r1:ef [.int (l.length:Int)]=.ret (bc 0 (l.length:Int)):=gZ (dm (by omega) (by omega))
  have hs:small (bc 0 (l.length:Int)).length=true:=bO (by rw [cD]; omega)
  have h1:=Zgr l (by omega)
  have h2:=Zcw (hf l hm).pos
  rw [qf]
  simp_arith only [pq,hln,r1,hs,h1,h2]
 have hm:=p9 hq
 have hs:small (fs.map tI).length=true:=bO (by rw [List.length_map]; omega)
 have er:(List.map great fs).sum=reach fs:=rfl
 simp_arith only [l7,iN,hs,hm,er]
end My
set_option Elab.async false
set_option linter.all false
set_option maxRecDepth 100000
set_option exponentiation.threshold 9000
namespace My
open PySem PySem.Spec PyProof.Rows L2 Tw Bar
noncomputable def fK (s:Shp):List Int:=[s.start,s.piece,s.keep,s.lack,s.lost,s.back,s.late]
structure Ask (s:Shp) (fs:List (List Int)) (x:Int):Prop where
 days:∀ l∈fs,DayOk 8 l
 l2:2<=fs.length
 l5:fs.length<=5
 t0:0<=s.top
 t1:s.top<=5
 dep:reach fs<=s.depth/\s.depth<=reach fs+2
 x1:reach fs - s.depth<=x
 x2:x<=s.top
 ps:∀ p∈fK s,0<=p/\p<=200000
theorem ok_of {s:Shp} {k:Int} (k0:0<=k) (k1:k<=10000000000) (t0:0<=s.top) (d0:0<=s.depth) (td:s.top+s.depth<=100) (ps:∀ p∈fK s,0<=p/\p<=k):s.Ok:=by
 have nbp:∀ p∈fK s,nb 45 p:=λp hp=>by
  have:=ps p hp
  exact bD (by show -35184372088832 < _; omega) (by show _ < 35184372088832; omega)
 unfold fK at *
 exact ⟨t0,d0,td,(ps s.start (by simp)).1,nbp _ (by simp),nbp _ (by simp),nbp _ (by simp),nbp _ (by simp),nbp _ (by simp),nbp _ (by simp),nbp _ (by simp)⟩
theorem Ask.r {s:Shp} {fs:List (List Int)} {x:Int} (h:Ask s fs x):0<=reach fs/\reach fs<=35:=by
 obtain ⟨a,b⟩:=o7 (most:=8) (by decide) h.days
 have:=h.l5
 exact ⟨a,by have e:((8:Nat):Int) - 1=7:=rfl; rw [e] at b; omega⟩
theorem Ask.ok {s:Shp} {fs:List (List Int)} {x:Int} (h:Ask s fs x):s.Ok:=by
 have r:=h.r
 have:=h.dep
 have:=h.t0
 have:=h.t1
 exact ok_of (k:=200000) (by decide) (by decide) h.t0 (by omega) (by omega) h.ps
theorem Ask.f {s:Shp} {fs:List (List Int)} {x:Int} (h:Ask s fs x):FOk fs:=⟨λl hl=>⟨(h.days l hl).B (by decide),(h.days l hl).pos⟩,by have:=h.l5; omega⟩
noncomputable def Zc6 (v:PyData):Prop:=∃ d,v=tI d/\DayOk 8 d
theorem Zd7:∀ {xs:List PyData},(∀ v∈xs,Zc6 v)->∃ fs:List (List Int),xs=fs.map tI/\∀ l∈fs,DayOk 8 l
 | [],_=>⟨[],rfl,by simp⟩
 | v::xs,h=>by
  obtain ⟨d,rfl,hd⟩:=h v (by simp)
  obtain ⟨fs,rfl,hf⟩:=Zd7 (xs:=xs) λq hq=>h q (List.mem_cons_of_mem _ hq)
  exact ⟨d::fs,rfl,λl hl=>by
   rcases List.mem_cons.mp hl with rfl | hl
   ·exact hd
   ·exact hf l hl⟩
theorem ZgM:Al (ma [.pen]) 54 λr=>∃ (s:Shp) (fs:List (List Int)) (x:Int),r=.d (.tuple [s.d,fD fs,.int x])/\Ask s fs x:=by
 simp_arith only [ma,bB]
 refine cV (n:=53) (by decide) (by decide) (by decide) λc c0 c1=>?_
 have rr:ef [.int (2+c)]=.ret (bc 0 (2+c)):=gZ (dm (by omega) (by omega))
 have hs:small (bc 0 (2+c)).length=true:=bO (by rw [cD]; omega)
 simp_arith only [bB,rr,hs]
 refine dU (n:=40) (n':=13) (m7 (n:=8) (P:=Zc6) (Q:=λys=>∃ fs:List (List Int),ys=fs.map tI/\2<=fs.length/\fs.length<=5/\∀ l∈fs,DayOk 8 l) (by rw [cD]; omega) (λx hx=>?_) λys hl hys=>?_) (by decide) ?_
 ·simp_arith only [Zb5,bB]
  refine dU (n':=0) ZgL (by decide) ?_
  rintro _ ⟨d,rfl,hd⟩
  simp_arith only [bB]
  exact cz ⟨d,rfl,hd⟩
 ·obtain ⟨fs,rfl,hf⟩:=Zd7 hys
  rw [List.length_map,cD] at hl
  exact ⟨fs,rfl,by omega,by omega,hf⟩
 ·rintro _ ⟨fs,rfl,l2,l5,hd⟩
  have hfD:PyData.tuple (fs.map tI)=fD fs:=rfl
  simp_arith only [bB,hfD]
  refine cV (n:=12) (by decide) (by decide) (by decide) λmo mo0 mo1=>?_
  try simp_arith only [bB]
  refine cV (n:=11) (by decide) (by decide) (by decide) λtp tp0 tp1=>?_
  have eg:=ZlV hd (by omega)
  simp_arith only [bB,eg]
  refine cV (n:=10) (by omega) (by omega) (by decide) λst st0 st1=>?_
  try simp_arith only [bB]
  refine dU (n:=10) (n':=0) Zba (by decide) ?_
  rintro _ ⟨ps,rfl,hl,hp⟩
  obtain ⟨p2,p3,p4,p5,p6,p7,p8,rfl⟩:=qc hl
  simp_arith only [tI,bB]
  obtain ⟨r0,r1⟩:=o7 (most:=8) (by decide) hd
  refine cz ⟨⟨tp,reach fs+mo,p2,p3,p4,p5,p6,p7,p8⟩,fs,st - mo,by rw [<- ow],⟨hd,l2,l5,tp0,?_,⟨?_,?_⟩,?_,?_,hp⟩⟩
  ·show tp<=5; omega
  ·show reach fs<=reach fs+mo; omega
  ·show reach fs+mo<=reach fs+2; omega
  ·show reach fs - (reach fs+mo)<=st - mo; omega
  ·show st - mo<=tp; omega
end My
set_option Elab.async false
set_option linter.all false
set_option maxRecDepth 100000
set_option exponentiation.threshold 9000
namespace My
open PySem PySem.Spec PyProof.Rows L2 Tw Bar
theorem Zij (ns:List Int) (h:ns≠[]):bE fP [tI ns]=.ret (.int (bY ns)):=by
 unfold bE fP fg tI
 simp [h]
theorem Zii {l:List Int} {k:Int} (h:l≠[]) (hk:∀ n∈l,n<=k):bY l<=k/\∀ n∈l,n<=bY l:=⟨hk _ (gT h).1,(gT h).2⟩
theorem ZgK {l:List Int} (hd:DayOk 8 l):Al (bS (ah 0) pz [.un,.pen] (tI l)) 1 λv=>fR 1 50 v:=by
 obtain ⟨n,hn,n0⟩:=hd.pos
 have hne:l≠[]:=λe=>by subst e; cases hn
 obtain ⟨m1,m2⟩:=Zii (k:=1001) hne λn hn=>(hd.le n hn).2
 have m3:=m2 n hn
 have hmx:=Zij l hne
 have hfd:aV fm (.int 1000) (.int (bY l))=.ret (.int (Int.fdiv 1000 (bY l))):=mM (m:=1000) (n:=bY l) (by omega) (aH (k:=40) (bD (by show -1099511627776 < _; omega) (by show _ < 1099511627776; omega)) (by decide))
 have hM:1<=cE 1 (Int.fdiv 1000 (bY l)):=by unfold cE; split <;> omega
 simp_arith only [pz,bB]
 refine cV (n:=0) (by decide) (by decide) (by decide) λr r0 r1=>?_
 have hmd:aV fh (.int r) (.int (cE 1 (Int.fdiv 1000 (bY l))))=.ret (.int (r.fmod (cE 1 (Int.fdiv 1000 (bY l))))):=mK (by omega)
 simp_arith only [bB,hmx,hfd,hmd]
 rw [Int.fmod_eq_emod_of_nonneg _ (by omega)]
 have e1:=Int.emod_nonneg r (show cE 1 (Int.fdiv 1000 (bY l))≠0 by omega)
 have e2:r % cE 1 (Int.fdiv 1000 (bY l))<=r:=by
  have:=Int.emod_add_mul_ediv r (cE 1 (Int.fdiv 1000 (bY l)))
  have:=Int.mul_nonneg (show 0<=cE 1 (Int.fdiv 1000 (bY l)) by omega) (Int.ediv_nonneg r0 (show 0<=cE 1 (Int.fdiv 1000 (bY l)) by omega))
  omega
 exact cz ⟨_,rfl,by omega,by omega⟩
theorem ZfJ {fs:List (List Int)} (hf:∀ l∈fs,DayOk 8 l):∀ {bs:List Int},(∀ b∈bs,1<=b/\b<=50)->∀ l∈thk fs bs,DayB l/\∃ n∈l,n > 0:=by
 induction fs with
 | nil=>intro bs _ l hl; cases bs <;> cases hl
 | cons d fs ih =>
  intro bs hb l hl
  cases bs with
  | nil=>cases hl
  | cons b bs =>
   rcases List.mem_cons.mp hl with rfl | hl
   ·have hd:=hf d (by simp)
    have hB:=hb b (by simp)
    have hD:=hd.B (by decide)
    obtain ⟨n,hn,n0⟩:=hd.pos
    refine ⟨⟨by rw [List.length_map]; exact hD.len,λw hw=>?_,λw hw=>?_,?_⟩,b * n,List.mem_map_of_mem hn,Int.mul_pos (by omega) n0⟩
    ·obtain ⟨v,hv,rfl⟩:=List.mem_map.mp hw
     have h1:=hd.le v hv
     have h2:b * v<=50 * 1001:=Int.mul_le_mul hB.2 h1.2 h1.1 (by decide)
     have h3:0<=b * v:=Int.mul_nonneg (by omega) h1.1
     exact bD (by show -1073741824 < b * v; omega) (by show b * v < 1073741824; omega)
    ·obtain ⟨v,hv,rfl⟩:=List.mem_map.mp hw
     exact Int.mul_nonneg (by omega) (hd.le v hv).1
    ·rw [oj]; exact Int.mul_pos (by omega) hD.pos
   ·exact ih (λq hq=>hf q (List.mem_cons_of_mem _ hq)) (λq hq=>hb q (List.mem_cons_of_mem _ hq)) l hl
theorem la (J2 J3 J4 J5 J6 J7 J8 J9:Sl):Al (qj [.un,.pen,J2,J3,J4,J5,J6,J7,J8,J9]) 71 λo=>∃ K3 K4 K5 K6 K7 K8 K9:Sl,o=.next [.un,.pen,J2,K3,K4,K5,K6,K7,K8,K9]:=by
 simp_arith only [qj,bB]
 refine cV (n:=70) (by decide) (by decide) (by decide) λmm mm0 mm1=>?_
 try simp_arith only [bB]
 refine dU (n:=54) (n':=16) ZgM (by decide) ?_
 rintro _ ⟨s,fs,x,rfl,ha⟩
 simp_arith only [bB,iU]
 refine dU (n:=10) (n':=6) Zba (by decide) ?_
 rintro _ ⟨ps,rfl,hpl,hp⟩
 obtain ⟨p2,p3,p4,p5,p6,p7,p8,rfl⟩:=qc hpl
 obtain ⟨o,ho⟩:∃ o:Shp,o=⟨s.top,s.depth,p2,p3,p4,p5,p6,p7,p8⟩:=⟨_,rfl⟩
 have hod:PyData.tuple [.int s.top,.int s.depth,.int p2,.int p3,.int p4,.int p5,.int p6,.int p7,.int p8]=o.d:=by rw [ow,ho]
 have hs5:small (fs.map tI).length=true:=bO (by rw [List.length_map]; have:=ha.l5; omega)
 simp_arith only [tI,bB,hod,iN,hs5]
 refine dU (n:=5) (n':=1) (m7 (n:=1) (P:=fR 1 50) (Q:=λys=>∃ bs:List Int,ys=bs.map PyData.int/\bs.length=fs.length/\∀ b∈bs,1<=b/\b<=50) (by rw [List.length_map]; have:=ha.l5; omega) (λv hv=>?_) λys hl hys=>?_) (by decide) ?_
 ·obtain ⟨l,hl,rfl⟩:=List.mem_map.mp hv
  exact ZgK (ha.days l hl)
 ·obtain ⟨ns,e,hn⟩:=mB hys
  refine ⟨ns,e,?_,hn⟩
  rw [e,List.length_map,List.length_map] at hl
  exact hl
 ·rintro _ ⟨bs,rfl,hbl,hb⟩
  have l2:=ha.l2
  have l5:=ha.l5
  have r:=ha.r
  have dp:=ha.dep
  have t0:=ha.t0
  have t1:=ha.t1
  have hln:bE dA [fD fs]=.ret (.int fs.length):=by
   unfold fD
   rw [ki,List.length_map]
  have hmn:1<=fi 3 ((fs.length:Int) - 1)/\fi 3 ((fs.length:Int) - 1)<=3/\fi 3 ((fs.length:Int) - 1)<=(fs.length:Int) - 1:=by unfold fi; split <;> omega
  simp_arith only [bB,hln]
  refine cV (n:=0) (by omega) (by omega) (by decide) λq q0 q1=>?_
  obtain ⟨d,hdq⟩:∃ d:Nat,1+q=(d:Int):=⟨(1+q).toNat,by omega⟩
  have hs:=ha.ok
  have hF:=ha.f
  have pl:∀ p∈fK o,0<=p/\p<=200000:=by rw [ho]; exact hp
  have hoo:o.Ok:=ok_of (k:=200000) (by decide) (by decide) (by rw [ho]; exact t0) (by rw [ho]; show 0<=s.depth; omega) (by rw [ho]; show s.top+s.depth<=100; omega) pl
  have hso:(s.ad o).Ok:=ok_of (k:=400000) (by decide) (by decide) t0 (show 0<=s.depth by omega) (show s.top+s.depth<=100 by omega) (λp hp'=>by
   have a1:=ha.ps
   unfold fK at a1 pl hp'
   simp only [List.mem_cons,List.not_mem_nil,or_false,forall_eq_or_imp,forall_eq] at a1 pl hp'
   unfold Shp.ad at hp'
   dsimp only at hp'
   omega)
  have hst:(s.tm (2+mm)).Ok:=ok_of (k:=2000000) (by decide) (by decide) t0 (show 0<=s.depth by omega) (show s.top+s.depth<=100 by omega) (λp hp'=>by
   have key:∀ v∈fK s,0<=(2+mm) * v/\(2+mm) * v<=2000000:=λv hv=>by
    have h1:=ha.ps v hv
    have h2:=Int.mul_nonneg (show 0<=2+mm by omega) h1.1
    have h3:(2+mm) * v<=10 * 200000:=Int.mul_le_mul (by omega) h1.2 h1.1 (by decide)
    omega
   have e:fK (s.tm (2+mm))=(fK s).map ((2+mm) * ·):=rfl
   rw [e] at hp'
   obtain ⟨v,hv,rfl⟩:=List.mem_map.mp hp'
   exact key v hv)
  have c1:=ZlY hs hF l2 ha.x1 ha.x2
  have c2:=Zl3 hs hoo hso (by rw [ho]) (by rw [ho]) hF (d:=d) (by omega) ha.x1 ha.x2
  have hbb:∀ b∈bs,0 < b/\nb 20 b:=λb hm=>by
   have:=hb b hm
   exact ⟨by omega,bD (by show -1048576 < _; omega) (by show _ < 1048576; omega)⟩
  have c3:=ZlT hs (m:=2+mm) (by omega) (bD (by show -1048576 < _; omega) (by show _ < 1048576; omega)) hst hF hbl.symm hbb ⟨ZfJ ha.days hb,by rw [jk hbl.symm]; omega⟩ (d:=d) (by omega) ha.x1 ha.x2
  unfold lI at c3
  simp_arith only [bB,hdq,c1,c2,c3,Bool.not_true]
  exact cz ⟨_,_,_,_,_,_,_,rfl⟩
theorem law_true:Al (md qh) 3000 λo=>o=.ret (.d (.bool true)):=by
 have r2:ef [.int 2]=.ret (bc 0 2):=gZ (dm (by decide) (by decide))
 simp_arith only [md,qh,bB,r2]
 refine dU (n:=142) (n':=0) (P:=λo=>∃ J2 J3 J4 J5 J6 J7 J8 J9:Sl,o=.next [.un,.pen,J2,J3,J4,J5,J6,J7,J8,J9]) ?_ (by decide) ?_
 ·refine kC (n:=71) (λpre ρ=>∃ J2 J3 J4 J5 J6 J7 J8 J9:Sl,ρ=[.un,.pen,J2,J3,J4,J5,J6,J7,J8,J9]) ⟨_,_,_,_,_,_,_,_,rfl⟩ (by rw [cD]; decide) ?_ ?_
  ·rintro pre x post ρ e ⟨J2,J3,J4,J5,J6,J7,J8,J9,rfl⟩
   refine ⟨_,rfl,ZnM (la (.d x) J3 J4 J5 J6 J7 J8 J9) (Nat.le_refl _) ?_⟩
   rintro _ ⟨K3,K4,K5,K6,K7,K8,K9,rfl⟩
   exact ⟨_,rfl,_,_,_,_,_,_,_,_,rfl⟩
  ·rintro ρ ⟨J2,J3,J4,J5,J6,J7,J8,J9,rfl⟩
   exact ⟨_,_,_,_,_,_,_,_,rfl⟩
 ·rintro _ ⟨J2,J3,J4,J5,J6,J7,J8,J9,rfl⟩
  simp_arith only [bB]
  exact cz rfl
end My
set_option Elab.async false
set_option linter.all false
set_option maxRecDepth 100000
open PySem PySem.W PyProof.Rows L2
theorem My.g_mk {K:PySem.W.Frag} {mg:Str->Option Value} {h:Heap} (X:K.In h) (G:h.Ns mainGlobals mg) {n:Str} {v:Int} {t:Tok} (z:PySem.W.nsIn K mainGlobals n=some (some (.int v t))):∃ t,mg n=some (.int v t):=⟨_,PySem.W.mg_of X G z⟩
set_option maxRecDepth 100000 in
set_option maxHeartbeats 0 in
theorem PySem.Challenge.cw_twomarks_k45_later_and_dearer_holds : PySem.Challenge.rw_twomarks_k45_later_and_dearer.Holds := by
 refine My.hd ?_
 k_fill
 refine L2.Zfq (l:=PySem.Challenge.rw_twomarks_k45_later_and_dearer) (n:=63) (k:=8) (x:="_law_script") (CX:=gI) (sp:=L2.ZaM) rfl (by decide) rfl ⟨rfl,by decide,by decide,rfl⟩ (λw h Y=>PySem.W.kIn_of Y) ?F ?S ?C
 case F =>
  intro w mg fa h KX G hmg
  have T:My.Txt (L2.KOf KX) mg:=by
   dsimp only [L2.KOf]
   constructor
   all_goals first
    | (refine PySem.W.mg_none_of KX G ?_; k_is)
    | (refine' My.g_mk KX G ?z; (case z=>k_is))
    | (refine' L2.Zma KX G ?a ?l ?c ?k ?b; (case a=>k_is); (case l=>k_is); (case c=>k_is); (case k=>k_is); (case b=>intro _ _ _ _ _ _ us hl; first | (obtain ⟨_,rfl⟩:=L2.ZcO hl; rfl) | (obtain ⟨_,_,rfl⟩:=L2.ZcN hl; rfl) | (obtain ⟨_,_,_,rfl⟩:=L2.ZcM hl; rfl) | (obtain ⟨_,_,_,_,rfl⟩:=L2.ZcL hl; rfl) | (obtain ⟨_,_,_,_,_,rfl⟩:=L2.ZcK hl; rfl) | (obtain ⟨_,_,_,_,_,_,rfl⟩:=L2.Ziv hl; rfl)))
  obtain ⟨f,fd,F,hm,_⟩:=T.Zmr.ex
  have e0:=hmg.symm.trans hm
  cases e0
  refine ⟨fd,?_,λbase _ _=>My.ZhX T F (L2.Tr.ok_mono (L2.Tr.all_ok My.law_true.out (by decide)) λ_ _ h=>h.2)⟩
  obtain ⟨oc,od,kV,doc,pm,an,cdv,ct,osl,rfl,lk,hcd⟩:=F.ex
  exact λs u=>.of_eq rfl
 case S=>exact λK H a ns hl _ hS=>⟨a,ns,rfl,hS,hl,λ_=>rfl⟩
 case C=>exact λ_ _ _ _ z=>z
