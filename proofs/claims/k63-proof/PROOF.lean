import PyProof.Rows.All
import Wide.All
import OpenK.AllK
import Wide.FinOn
import Lean
import PyProof.EqAt
import PyProof.EqKinds
import PyProof.TupleCall
import PySem.Challenge.RW_twomarks_k63_whole_days_kept
set_option Elab.async false
set_option linter.all false
set_option maxRecDepth 100000
set_option maxHeartbeats 0
noncomputable abbrev My.vw : PySem.Program := PySem.W.view
 PySem.Challenge.rw_twomarks_k63_whole_days_kept.row.prog [1, 2, 3, 4, 5, 7, 8, 10, 11, 12, 13, 14, 15, 16, 17, 18, 19, 20, 21, 22, 23, 24, 26, 28, 29, 31, 32, 33, 34, 36, 38, 39, 40, 41, 42, 43, 44, 45, 46, 47, 48, 49, 50, 51, 52, 53, 54]
open PySem PySem.W in
theorem My.hd_l {p q:Program} {loose:List Str} {Xt:Shared->Bool} {α:Type} {Yf:Shared->α} {Ya:World->α} {N:Nat} (a:∀ w,(openEnds treeTable p w N).map (λs=>openSeen q loose (importedModules p.main.body) Xt true s)=some (openGood q loose)) (b:∀ w,(openEnds treeTable p w N).map Yf=some (Ya w)):LeftO p q loose Xt Yf Ya N:=λw=>by
 have h:=a w
 have g:=b w
 cases e:openEnds treeTable p w N with
 | none=>rw [e] at h;exact nomatch h
 | some s=>rw [e,Option.map_some] at h g;rw [Option.map_some,Option.some.inj h,Option.some.inj g]
theorem My.hd_b {A B C H:Prop} (f:A->B->C->H) (p:A∧B∧C):H:=f p.1 p.2.1 p.2.2
local macro_rules
 | `(tactic| o_head $H:term) => `(tactic| (
  refine My.hd_b (λa b c => PySem.W.holds_open (q := My.vw) (loose := [])
   (Xt := λs => PySem.W.xlAt My.vw [] s && PySem.W.recOk
    (PySem.W.RowW.records PySem.Challenge.rw_twomarks_k63_whole_days_kept.row.toRowW) s)
   (XP := PySem.W.XL My.vw []) (Yf := ($H).obs)
   (Ya := ($H).val) (YP := ($H).says) (N := 20000) (My.hd_l a b)
   ($H).of ($H).keeps (λs e => PySem.W.xl_of s
    (Bool.and_eq_true_iff.mp e).1) PySem.W.XL.keeps
   (by rfl) (by rfl) (by rfl)
   (λs e => PySem.W.recFacts_of
    (Bool.and_eq_true_iff.mp e).2)
   (by rfl) ?k1 (by decide +kernel)
   ⟨rfl, rfl, rfl, rfl, rfl, by decide +kernel⟩ ?hw c) ?hc
  (case k1 => assumption)))
open_top My.hd_0 for PySem.Challenge.rw_twomarks_k63_whole_days_kept
noncomputable def My.hd_1:=λb c=>My.hd_0 ⟨λw=>by kernel_rfl,b,c⟩
noncomputable def My.hd:=λc=>My.hd_1 (λw=>by kernel_rfl) c
set_option maxHeartbeats 4000000
namespace L2
open PySem PySem.Spec PyProof.Rows
noncomputable abbrev cX:=Sum Int Str
noncomputable def Zdj:cX->Value->Bool
 | .inl k,v=>Value.isInt k v
 | .inr x,v=>Value.isStrOf x v
noncomputable def ZjN (w:World):cX->Int
 | .inl k=>hashInt k
 | .inr x=>hashStr w x
theorem iQ:∀ {k:cX} {v:Value},Zdj k v=true->(∃ i t,k=Sum.inl i/\v=Value.int i t)\/(∃ x t,k=Sum.inr x/\v=Value.str x t)
 | .inl i,v,h=>by
  obtain ⟨t,e⟩:=Value.isInt_shape (k:=i) (v:=v) h
  exact .inl ⟨i,t,rfl,e⟩
 | .inr x,v,h=>by
  obtain ⟨t,e⟩:=Value.isStrOf_shape (x:=x) (v:=v) h
  exact .inr ⟨x,t,rfl,e⟩
theorem ZjM (a b:Int):decide ((Sum.inl a:cX)=Sum.inl b)=(a == b):=by
 by_cases e:a=b
 ·subst e; simp
 ·have h:¬ (Sum.inl a:cX)=Sum.inl b:=λq=>e (Sum.inl.inj q)
  rw [decide_eq_false h]
  exact (beq_eq_false_iff_ne.mpr e).symm
theorem ZjJ (a b:Str):decide ((Sum.inr a:cX)=Sum.inr b)=decide (a=b):=by
 by_cases e:a=b
 ·subst e; simp
 ·have h:¬ (Sum.inr a:cX)=Sum.inr b:=λq=>e (Sum.inr.inj q)
  rw [decide_eq_false h,decide_eq_false e]
theorem ZjL (a:Int) (b:Str):decide ((Sum.inl a:cX)=Sum.inr b)=false:=decide_eq_false (λq=>nomatch q)
theorem ZjK (a:Str) (b:Int):decide ((Sum.inr a:cX)=Sum.inl b)=false:=decide_eq_false (λq=>nomatch q)
noncomputable def tB (prog:Program) (w:World):PySem.KeyKind prog w cX where
 is:=Zdj
 hash:=ZjN w
 inj:=λv a b ha hb=>by
  rcases iQ ha with ⟨i,t,rfl,rfl⟩ | ⟨x,t,rfl,rfl⟩
  ·rcases iQ hb with ⟨j,u,rfl,e⟩ | ⟨y,u,rfl,e⟩
   ·injection e with e1 _; rw [e1]
   ·exact nomatch e
  ·rcases iQ hb with ⟨j,u,rfl,e⟩ | ⟨y,u,rfl,e⟩
   ·exact nomatch e
   ·injection e with e1 _; rw [e1]
 byValue:=λk v h=>by
  rcases iQ h with ⟨i,t,rfl,rfl⟩ | ⟨x,t,rfl,rfl⟩ <;> rfl
 pyHash:=λhv h=>by
  rcases iQ hv with ⟨i,t,rfl,rfl⟩ | ⟨x,t,rfl,rfl⟩
  ·exact wpAny_pyHash_int h
  ·exact wpAny_pyHash_str h
 eqBool:=λhu hv h=>by
  rcases iQ hu with ⟨i,t,rfl,rfl⟩ | ⟨x,t,rfl,rfl⟩
  ·rcases iQ hv with ⟨j,u,rfl,rfl⟩ | ⟨y,u,rfl,rfl⟩
   ·rw [ZjM] at h; exact wpAny_eqBool_int h
   ·rw [ZjL] at h; exact SeqAt.EqAt.int_str i t y u _ _ _ _ h
  ·rcases iQ hv with ⟨j,u,rfl,rfl⟩ | ⟨y,u,rfl,rfl⟩
   ·rw [ZjK] at h; exact SeqAt.EqAt.str_int x t j u _ _ _ _ h
   ·rw [ZjJ] at h; exact wpAny_eqBool_str h
 «strs»:=λk x t v h=>by
  rcases iQ h with ⟨i,u,rfl,e⟩ | ⟨y,u,rfl,e⟩
  ·exact nomatch e
  ·injection e with e1 _
   subst e1
   cases v <;> rfl
inductive V where
 | non | bl (b:Bool) | int (i:Int) | str (x:Str) | byt (b:Array UInt8) | flt (b:UInt64) | ref (a:Addr) | ty (n:String)
 deriving DecidableEq
noncomputable def RelV:V->Value->Prop
 | .non,u=>u=Value.none
 | .bl b,u=>u=Value.bool b
 | .int i,u=>∃ t,u=Value.int i t
 | .str x,u=>∃ t,u=Value.str x t
 | .byt b,u=>∃ t,u=Value.bytes b t
 | .flt b,u=>∃ t,u=Value.float b t
 | .ref a,u=>u=Value.ref a
 | .ty n,u=>u=Value.type n
noncomputable abbrev Vals:List V->List Value->Prop:=Paired RelV
theorem Vals.length {xs:List V} {us:List Value} (r:Vals xs us):xs.length=us.length:=Paired.length r
theorem Vals.get {xs:List V} {us:List Value} {i:Nat} {x:V} (h:Vals xs us) (e:xs[i]?=some x):∃ u,us[i]?=some u/\RelV x u:=by
 induction h generalizing i with
 | nil=>cases e
 | cons r t ih=>cases i with | zero=>cases e; exact ⟨_,rfl,r⟩ | succ i=>exact ih (i:=i) e
theorem Vals.set {x:V} {u:Value} (r:RelV x u) {xs:List V} {us:List Value} (i:Nat) (h:Vals xs us):Vals (xs.set i x) (us.set i u):=by
 induction h generalizing i with
 | nil=>exact .nil
 | cons q t ih=>cases i with | zero=>exact .cons r t | succ i=>exact .cons q (ih i)
theorem Vals.append {xs ys:List V} {us ws:List Value} (h:Vals xs us) (s:Vals ys ws):Vals (xs++ys) (us++ws):=by
 induction h with
 | nil=>exact s
 | cons r t ih=>exact .cons r ih
theorem Vals.take {xs:List V} {us:List Value} (n:Nat) (h:Vals xs us):Vals (xs.take n) (us.take n):=by
 induction h generalizing n with
 | nil=>rw [List.take_nil,List.take_nil]; exact .nil
 | cons r t ih=>cases n with | zero=>exact .nil | succ n=>exact .cons r (ih n)
theorem Vals.drop {xs:List V} {us:List Value} (n:Nat) (h:Vals xs us):Vals (xs.drop n) (us.drop n):=by
 induction h generalizing n with
 | nil=>rw [List.drop_nil,List.drop_nil]; exact .nil
 | cons r t ih=>cases n with | zero=>exact .cons r t | succ n=>exact ih n
theorem Vals.none_of:∀ {xs:List V} {us:List Value} {i:Nat},Vals xs us->xs[i]?=none->us[i]?=none:=λ{xs us i} r e=>by
 have h1:=r.length
 have h2:xs.length<=i:=List.getElem?_eq_none_iff.mp e
 exact List.getElem?_eq_none_iff.mpr (by omega)
noncomputable def RelO:Option V->Option Value->Prop
 | some v,some u=>RelV v u
 | none,none=>True
 | _,_=>False
noncomputable def KV {κ:Type}:List (κ×V)->List (κ×Value)->Prop:=Paired λ(p:κ×V) (q:κ×Value)=>p.1=q.1/\RelV p.2 q.2
noncomputable def kV:cX->V
 | .inl i=>.int i
 | .inr x=>.str x
inductive HO where
 /-- a list -/
 | lst (xs:List V)
 /-- a tuple (never changes) -/
 | tup (xs:List V)
 /-- a dict whose keys are ints and texts; one whose keys are tuples of ints and texts (the empty one is both) -/
 | dK (kvs:List (cX×V)) | dT (kvs:List (List cX×V))
 /-- a set of ints: its members,its size -/
 | set (S:Int->Bool) (n:Nat)
 /-- an instance of the class at C,its dict at dx,its attributes -/
 | ins (C dx:Addr) (fs:List (Str×V))
 /-- the dict of the instance at x -/
 | own (x:Addr)
 /-- the dict of an exception -/
 | xd (fs:List (Str×V))
 /-- a bound method,f of x -/
 | met (f x:Addr)
 /-- a range object lo,lo+1,.. below hi -/
 | rng (lo hi:Int)
 /-- a thing that is known to the object (the script; a dict while a loop walks it): read,never written while it is so -/
 | frz (o:Obj) (u:HO)
 /-- a code object's table -/
 | tbl (ps:Array Value)
 /-- any other thing,by what is true of its one object (a def of one's own: SetO a S n:=HO.ext λh=>..) -/
 | ext (φ:Heap->Prop)
 | cod (ps:Array Value)
 /-- a thing of the law's own that changes by many hands -/
 | chg (u:HO)
noncomputable abbrev Hp:=Addr->Option HO
noncomputable def upd (H:Hp) (a:Addr) (o:HO):Hp:=λb=>if b=a then some o else H b
theorem cA {H:Hp} {a:Addr} {o:HO}:upd H a o a=some o:=by unfold upd; rw [if_pos rfl]
theorem bG {H:Hp} {a b:Addr} {o:HO} (h:b≠a):upd H a o b=H b:=by unfold upd; rw [if_neg h]
theorem l7 {H:Hp} {a:Addr} {o u:HO}:upd (upd H a o) a u=upd H a u:=by
 funext b; unfold upd; split <;> rfl
theorem c7 {H:Hp} {a b:Addr} {o:HO} (h:H a=some o) (h':H b=none):a≠b:=by
 intro e; subst e; rw [h] at h'; cases h'
section
variable (P:Program) (w:World)
noncomputable def ObjOk (H:Hp) (h:Heap) (a:Addr):HO->Prop
 | .lst xs=>xs.length<=sizeLine/\∃ (its:List Value) (n:Nat),Vals xs its/\h.get? a=some { cls:=.type "list",data:=.seq its.toArray n }
 | .tup xs=>xs.length<=sizeLine/\∃ its:List Value,Vals xs its/\IsTup h a its.toArray
 | .dK kvs=>kvs.length<=sizeLine/\(a == sysModules)=false/\∃ vs,KV kvs vs/\h.DictOf (tB P w) a vs
 | .dT kvs=>kvs.length<=sizeLine/\(a == sysModules)=false/\∃ xs:List (List cX×Addr×Value),
   Paired (λ(p:List cX×V) (q:List cX×Addr×Value)=>p.1=q.1/\H q.2.1=some (.tup (p.1.map kV))/\RelV p.2 q.2.2) kvs xs /\
   ∃ o es ep,h.get? a=some o/\o.ExactDict/\o.data=.dict es ep/\es.toList=xs.map (entryOfKey (tupleKind (tB P w)))/\(xs.map (·.1)).Nodup
 | .set S n=>h.SetOf (intKind P w) a S n
 | .ins C dx fs=>H dx=some (.own a)/\fs.length<=1000/\dx≠a/\h.get? a=some (PySem.W.instObj C dx) /\
   ∃ mA,h.Ns1 dx mA/\(∀ f,RelO (fs.lookup f) (mA f))/\PySem.Within mA (fs.map (·.1))
 | .own _=>∃ o,h.get? a=some o
 | .xd fs=>∃ mA,h.Ns1 a mA/\∀ f,RelO (fs.lookup f) (mA f)
 | .rng lo hi=>∃ t u v,h.get? a=some { cls:=.type "range",data:=.fields #[.int lo t,.int hi u,.int 1 v] }
 | .frz o u=>h.get? a=some o/\ObjOk H h a u
 | .tbl ps=>h.get? a=some { cls:=.none,data:=.fields ps }
 | .met f x=>h.get? a=some (PySem.W.methodObj (.ref f) (.ref x))
 | .ext φ=>φ h/\(∃ o,h.get? a=some o)/\∀ h1 h2:Heap,φ h1->(∀ o,h1.get? a=some o->h2.get? a=some o)->φ h2
 | .cod ps=>∃ more:Array Value,h.get? a=some { cls:=.none,data:=.fields (ps++more) }/\PySem.TriplesOk (ps++more).toList/\∀ (po:Pos) (v:Value),codeAmong po (ps++more).toList=some v->∃ (c:Addr) (ob:Obj) (vs:Array Value) (q:Str) (t:Tok),v=.ref c/\H c=some (.frz ob (.own 0))/\ob.data=.fields vs/\vs[1]?=some (.str q t)
 | .chg u=>ObjOk H h a u
noncomputable def HOk (H:Hp) (h:Heap):Prop:=∀ a o,H a=some o->ObjOk P w H h a o
end
section
variable {P:Program} {w:World} {H H':Hp} {h h':Heap} {a:Addr} {o:HO}
theorem ObjOk.lt (x:ObjOk P w H h a o):a < h.objs.size:=by
 induction o with
 | lst xs=>obtain ⟨_,_,_,_,e⟩:=x; exact Heap.lt_size e
 | tup xs=>obtain ⟨_,_,_,p⟩:=x; exact p.lt
 | dK kvs=>obtain ⟨_,_,_,_,o,_,_,e,_⟩:=x; exact Heap.lt_size e
 | dT kvs=>obtain ⟨_,_,_,_,o,_,_,e,_⟩:=x; exact Heap.lt_size e
 | set S n=>obtain ⟨o,_,_,_,e,_⟩:=x; exact Heap.lt_size e
 | ins C dx fs=>obtain ⟨_,_,_,e,_⟩:=x; exact Heap.lt_size e
 | own y=>obtain ⟨_,e⟩:=x; exact Heap.lt_size e
 | xd fs=>obtain ⟨_,⟨_,_,_,e,_⟩,_⟩:=x; exact Heap.lt_size e
 | rng lo hi=>obtain ⟨_,_,_,e⟩:=x; exact Heap.lt_size e
 | frz ob u _=>obtain ⟨e,_⟩:=x; exact Heap.lt_size e
 | tbl ps=>exact Heap.lt_size (show h.get? a=some _ from x)
 | met f y=>exact Heap.lt_size (show h.get? a=some _ from x)
 | ext φ=>obtain ⟨_,⟨_,e⟩,_⟩:=x; exact Heap.lt_size e
 | cod ps=>obtain ⟨_,e,_⟩:=x; exact Heap.lt_size e
 | chg u ih=>exact ih x
theorem Paired.mapP {α β:Type} {F G:α->β->Prop} {l₁:List α} {l₂:List β} (h:Paired F l₁ l₂) (f:∀ a b,F a b->G a b):Paired G l₁ l₂:=by
 induction h with
 | nil=>exact .nil
 | cons r t ih=>exact .cons (f _ _ r) ih
theorem ObjOk.stay (x:ObjOk P w H h a o) (k:∀ b u,(b=a\/H b=some (.own a))->h.get? b=some u->h'.get? b=some u)
  (ho:∀ b,H b=some (.own a)->H' b=some (.own a)) (ht:∀ b xs,H b=some (.tup xs)->H' b=some (.tup xs)) (hf:∀ b ob u vs,H b=some (.frz ob u)->ob.data=.fields vs->H' b=some (.frz ob u)):ObjOk P w H' h' a o:=by
 induction o with
 | lst xs=>obtain ⟨z,its,n,r,e⟩:=x; exact ⟨z,its,n,r,k _ _ (.inl rfl) e⟩
 | tup xs=>obtain ⟨z,its,r,ob,e,c⟩:=x; exact ⟨z,its,r,ob,k _ _ (.inl rfl) e,c⟩
 | dK kvs=>obtain ⟨z,y,vs,r,ob,es,ep,e,c⟩:=x; exact ⟨z,y,vs,r,ob,es,ep,k _ _ (.inl rfl) e,c⟩
 | dT kvs =>
  obtain ⟨z,y,xs,r,ob,es,ep,e,c⟩:=x
  exact ⟨z,y,xs,Paired.mapP r λp q z=>⟨z.1,ht _ _ z.2.1,z.2.2⟩,ob,es,ep,k _ _ (.inl rfl) e,c⟩
 | set S n=>obtain ⟨ob,es,ep,t,e,c⟩:=x; exact ⟨ob,es,ep,t,k _ _ (.inl rfl) e,c⟩
 | ins C dx fs =>
  obtain ⟨d,z,ne,e,mA,⟨od,es,ep,e2,c⟩,r⟩:=x
  exact ⟨ho _ d,z,ne,k _ _ (.inl rfl) e,mA,⟨od,es,ep,k _ _ (.inr d) e2,c⟩,r⟩
 | own y=>obtain ⟨ob,e⟩:=x; exact ⟨ob,k _ _ (.inl rfl) e⟩
 | xd fs=>obtain ⟨mA,⟨od,es,ep,e,c⟩,r⟩:=x; exact ⟨mA,⟨od,es,ep,k _ _ (.inl rfl) e,c⟩,r⟩
 | rng lo hi=>obtain ⟨t,u,v,e⟩:=x; exact ⟨t,u,v,k _ _ (.inl rfl) e⟩
 | frz ob u ih=>obtain ⟨e,q⟩:=x; exact ⟨k _ _ (.inl rfl) e,ih q⟩
 | tbl ps =>
  have e:h.get? a=some { cls:=.none,data:=.fields ps }:=x
  show h'.get? a=some { cls:=.none,data:=.fields ps }
  exact k a _ (.inl rfl) e
 | met f y =>
  have e:h.get? a=some (PySem.W.methodObj (.ref f) (.ref y)):=x
  show h'.get? a=some (PySem.W.methodObj (.ref f) (.ref y))
  exact k a _ (.inl rfl) e
 | ext φ=>obtain ⟨p,⟨o,e⟩,st⟩:=x; exact ⟨st _ _ p λo q=>k _ _ (.inl rfl) q,⟨o,k _ _ (.inl rfl) e⟩,st⟩
 | cod ps =>
  obtain ⟨more,e,tr,al⟩:=x
  refine ⟨more,k _ _ (.inl rfl) e,tr,λpo v hv=>?_⟩
  obtain ⟨c,ob,vs,q,t,r1,r2,r3⟩:=al po v hv
  exact ⟨c,ob,vs,q,t,r1,hf _ _ _ _ r2 r3.1,r3⟩
 | chg u ih=>exact ih x
theorem HOk.lt (x:HOk P w H h) (e:H a=some o):a < h.objs.size:=(x a o e).lt
theorem HOk.fresh (x:HOk P w H h) (e:h.objs.size<=a):H a=none:=by
 cases q:H a with
 | none=>rfl
 | some u=>exact absurd (Nat.lt_of_lt_of_le (x.lt q) e) (Nat.lt_irrefl _)
theorem HOk.kept (x:HOk P w H h) (k:∀ b u,h.get? b=some u->h'.get? b=some u):HOk P w H h':=λa o e =>
 (x a o e).stay (λb u _ q=>k b u q) (λ_ q=>q) (λ_ _ q=>q) λ_ _ _ _ q _=>q
theorem HOk.laid (x:HOk P w H h) (k:∀ b u,h.get? b=some u->h'.get? b=some u) (hp:h.objs.size<=a) (new:ObjOk P w (upd H a o) h' a o):HOk P w (upd H a o) h':=λb u e=>by
 have hn:=x.fresh hp
 by_cases hb:b=a
 ·subst hb; rw [cA] at e; cases e; exact new
 ·rw [bG hb] at e
  exact (x b u e).stay (λc v _ q=>k c v q) (λc q=>by rw [bG (c7 q hn)]; exact q) (λc xs q=>by rw [bG (c7 q hn)]; exact q) λc ob xs _ q _=>by rw [bG (c7 q hn)]; exact q
end
noncomputable def Rd (H:Hp) (a:Addr) (u:HO):Prop:=H a=some u\/(∃ o,H a=some (.frz o u))\/H a=some (.chg u)
noncomputable def Rd0 (H:Hp) (a:Addr) (u:HO):Prop:=H a=some u\/∃ o,H a=some (.frz o u)
theorem Rd.ok {P:Program} {w:World} {H:Hp} {h:Heap} {a:Addr} {u:HO} (r:Rd H a u) (x:HOk P w H h):ObjOk P w H h a u:=by
 rcases r with r | ⟨o,r⟩ | r
 ·exact x a u r
 ·obtain ⟨_,q⟩:=x a _ r
  exact q
 ·exact (show ObjOk P w H h a (.chg u) from x a _ r)
noncomputable def qP:Option HO->Prop
 | some (.lst _)=>True
 | some (.dK _)=>True
 | some (.dT _)=>True
 | some (.set _ _)=>True
 | some (.ins _ _ _)=>True
 | some (.ext _)=>True
 | _=>False
section
variable {P:Program} {w:World} {H:Hp} {h h':Heap} {x e:Addr} {o':HO}
theorem HOk.write (ok:HOk P w H h) (mu:qP (H x)) (he:e=x\/H e=some (.own x)) (k:∀ b u,b≠e->h.get? b=some u->h'.get? b=some u) (heo:∃ u,h'.get? e=some u)
  (new:ObjOk P w (upd H x o') h' x o'):HOk P w (upd H x o') h':=λb u q=>by
 have nown:∀ c y,H c=some (.own y)->c≠x:=λc y r z=>by subst z; rw [r] at mu; exact mu
 have ntup:∀ c xs,H c=some (.tup xs)->c≠x:=λc xs r z=>by subst z; rw [r] at mu; exact mu
 have nfrz:∀ c ob u,H c=some (.frz ob u)->c≠x:=λc ob u r z=>by subst z; rw [r] at mu; exact mu
 by_cases hb:b=x
 ·subst hb; rw [cA] at q; cases q; exact new
 ·rw [bG hb] at q
  by_cases hbe:b=e
  ·have q':H b=some (.own x):=by
    rcases he with z | z
    ·exact absurd (hbe.trans z) hb
    ·rw [hbe]; exact z
   rw [q] at q'; cases q'
   obtain ⟨v,hv⟩:=heo
   exact ⟨v,by rw [hbe]; exact hv⟩
  ·refine (ok b u q).stay (λc v hc r=>k c v ?_ r) (λc r=>by rw [bG (nown c b r)]; exact r) (λc xs r=>by rw [bG (ntup c xs r)]; exact r) λc ob xs _ r _=>by rw [bG (nfrz c ob xs r)]; exact r
   rcases hc with rfl | hc
   ·exact hbe
   ·rintro rfl
    rcases he with z | z
    ·exact nown c b hc z
    ·rw [hc] at z; cases z; exact hb rfl
end
structure Un (fs ex:List Addr) (H H':Hp) (h h':Heap):Prop where
 keep:∀ b o,h.get? b=some o->H b=none->b ∉ fs->b ∉ ex->h'.get? b=some o
 slot:∀ b o,h.get? b=some o->H b=none->b∈fs->b ∉ ex->∃ sl,h'.get? b=some { o with slots:=sl }
 free:∀ b o,h.get? b=some o->H b=none->b ∉ ex->H' b=none
 there:∀ b o,h.get? b=some o->b ∉ ex->∃ o',h'.get? b=some o'
 tups:∀ b xs,H b=some (.tup xs)->H' b=some (.tup xs)
 frzs:∀ b o u,H b=some (.frz o u)->H' b=some (.frz o u)
 tbls:∀ b ps,H b=some (.tbl ps)->∃ more,H' b=some (.tbl (ps++more))
section
variable {fs fs' ex ex':List Addr} {H H1 H2:Hp} {h h1 h2 h':Heap} {a x e:Addr} {o:HO}
theorem Un.any (u:Un fs ex H H1 h h1) {b:Addr} {ob:Obj} (q:h.get? b=some ob) (n:H b=none) (hx:b ∉ ex):∃ sl,h1.get? b=some { ob with slots:=sl }:=by
 by_cases hb:b∈fs
 ·exact u.slot b ob q n hb hx
 ·exact ⟨ob.slots,u.keep b ob q n hb hx⟩
theorem Un.kept (k:∀ b u,h.get? b=some u->h'.get? b=some u):Un fs ex H H h h' :=
 ⟨λb ob q _ _ _=>k b ob q,λb ob q _ _ _=>⟨ob.slots,k b ob q⟩,λ_ _ _ n _=>n,λb ob q _=>⟨ob,k b ob q⟩,λ_ _ q=>q,λ_ _ _ q=>q,λ_ ps q=>⟨#[],by rw [q]; simp⟩⟩
theorem Un.refl:Un fs ex H H h h:=Un.kept λ_ _ q=>q
theorem Un.laid (k:∀ b u,h.get? b=some u->h'.get? b=some u) (hp:h.objs.size<=a) (hn:H a=none):Un fs ex H (upd H a o) h h' where
 keep:=λb u q _ _ _=>k b u q
 slot:=λb u q _ _ _=>⟨u.slots,k b u q⟩
 free:=λb u q n _=>by rw [bG (Nat.ne_of_lt (Nat.lt_of_lt_of_le (Heap.lt_size q) hp))]; exact n
 there:=λb u q _=>⟨u,k b u q⟩
 tups:=λb xs q=>by rw [bG (c7 q hn)]; exact q
 frzs:=λb u xs q=>by rw [bG (c7 q hn)]; exact q
 tbls:=λb ps q=>⟨#[],by rw [bG (c7 q hn),q]; simp⟩
theorem Un.write (mu:qP (H x)) (he:e=x\/H e=some (.own x)) (k:∀ b u,b≠e->h.get? b=some u->h'.get? b=some u) (heo:∃ u,h'.get? e=some u):Un fs ex H (upd H x o) h h':=by
 have hx:∀ b,H b=none->b≠x:=λb n z=>by subst z; rw [n] at mu; exact mu
 have hb:∀ b,H b=none->b≠e:=λb n z=>by
  subst z
  rcases he with r | r
  ·exact hx b n r
  ·rw [n] at r; cases r
 have hm:∀ b u,H b=some u->¬ qP (some u)->b≠x:=λb u q nm z=>by subst z; rw [q] at mu; exact nm mu
 refine ⟨λb u q n _ _=>k b u (hb b n) q,λb u q n _ _=>⟨u.slots,k b u (hb b n) q⟩,λb u q n _=>by rw [bG (hx b n)]; exact n,λb u q _=>?_,
  λb xs q=>by rw [bG (hm b _ q λz=>z)]; exact q,λb u xs q=>by rw [bG (hm b _ q λz=>z)]; exact q,λb ps q=>⟨#[],by rw [bG (hm b _ q λz=>z),q]; simp⟩⟩
 by_cases hbe:b=e
 ·subst hbe; exact heo
 ·exact ⟨u,k b u hbe q⟩
end
noncomputable def trk (h:Heap) (H:Hp):List Addr:=(List.range h.objs.size).filter λa=>(H a).isSome
noncomputable def iu (h:Heap) (H:Hp):Heap:=PySem.W.hideAll h (trk h H)
theorem Zkc (h:Heap) (H:Hp):(iu h H).objs.size=h.objs.size:=PySem.W.hideAll_size _ _
theorem Zkd {h:Heap} {H:Hp} {b:Addr} {o:Obj} (e:h.get? b=some o) (n:H b=none):(iu h H).get? b=some o :=
 PySem.W.hideAll_get _ e λhm=>by
  have q:(H b).isSome=true:=(List.mem_filter.mp hm).2
  rw [n] at q; simp at q
theorem ZiV {h:Heap} {H:Hp} {b:Addr} {o:Obj} (e:(iu h H).get? b=some o):h.get? b=some o/\H b=none:=by
 have e':h.get? b=some o:=PySem.W.of_hideAll (trk h H) e
 refine ⟨e',?_⟩
 cases q:H b with
 | none=>rfl
 | some x =>
  have hm:b∈trk h H:=List.mem_filter.mpr ⟨List.mem_range.mpr (Heap.lt_size e'),by simp [q]⟩
  have z:(iu h H).get? b=none:=PySem.W.hideAll_none (trk h H) hm
  rw [z] at e; cases e
noncomputable def Zpd (g h:Heap) (L:Addr):List (Addr×Obj):=(List.range h.objs.size).filterMap λa=>if a=L\/(g.get? a).isSome=true then none else (h.get? a).map λo=>(a,o)
noncomputable def rest (g h:Heap) (L d:Addr):List (Addr×Obj):=(Zpd g h L).filter λp=>decide (p.1≠d)
structure Mod (K:PySem.W.Frag) (mg:Str->Option Value) (base:Heap):Prop where
 kin:K.In base
 glob:base.Ns mainGlobals mg
 blt:∃ mb,base.Ns builtinsNs mb/\∀ x:Str,x≠"__name__"->mb x=bootBuiltins x
 nolimit:base.NoLimit
 nodig:base.NoDigits
structure Cx where
 prog:Program
 w:World
 K:PySem.W.Frag
 mg:Str->Option Value
 base:Heap
 A:Around
 N:List Str
 s₀:Shared
 H₀:Hp
 env:Env
 outer:List Env
 stack:List Env
 ex:List Addr
 fn:Str->Bool
 calm:Bool
 pn:List (Addr×Obj)
 xe:Value->Shared->Prop
noncomputable def frs (l:List Env):List Addr:=l.filterMap (·.frame)
noncomputable abbrev Cx.fs (X:Cx):List Addr:=frs X.outer
noncomputable def qH (sc:Scope) (x:Str):Prop:=sc.names.lookup x=some .local\/sc.names.lookup x=some .cell\/sc.names.lookup x=some .free
noncomputable def nS (sc:Scope) (x:Str):Prop:=sc.names.lookup x=some .local\/sc.names.lookup x=some .cell
noncomputable def Zp3 (env:Env) (h:Heap) (m:Str->Option Value) (x:Str) (u:Value):Prop :=
 (env.kindOf x=some .local/\m x=some u)\/((env.kindOf x=some .cell\/env.kindOf x=some .free)/\∃ c,env.cells.lookup x=some c/\h.IsCell c (some u))
structure Cx.Ok (X:Cx):Prop where
 mod:Mod X.K X.mg X.base
 kind:X.env.scope.kind=.function
 glob:X.env.globals=mainGlobals
 blt:X.env.builtins=builtinsNs
 above:X.s₀.heap.objs.size<=X.env.locals
 inj:∀ x y c,X.env.cells.lookup x=some c->X.env.cells.lookup y=some c->x=y
 has:∀ x,(X.env.kindOf x=some .cell\/X.env.kindOf x=some .free)->∃ c,X.env.cells.lookup x=some c
 cab:∀ x c,X.fn x=true->X.env.cells.lookup x=some c->X.s₀.heap.objs.size<=c
 hd:X.calm=true->X.A.handled=none
 frames:X.A.frames=some X.stack
 stk:X.stack=X.outer\/(X.stack=X.env::X.outer/\X.env.frame=some X.env.locals)
 exf:∀ b∈X.ex,b≠X.env.locals/\∀ x c,X.env.cells.lookup x=some c->c≠b
 bs:∀ b o,X.base.get? b=some o->X.s₀.heap.get? b=some o/\X.H₀ b=none
 bsz:X.base.objs.size<=X.s₀.heap.objs.size
 noex:∀ b o,X.base.get? b=some o->b ∉ X.ex
 exfs:∀ b∈X.ex,b ∉ X.fs
 funs:X.s₀.heap.FunFrames X.base X.outer
 frf:∀ b∈X.fs,X.H₀ b=none
structure Inv (X:Cx) (pins:List (Addr×Obj)) (σ:List (Option V)) (H:Hp) (s:Shared):Prop where
 ok:X.Ok
 os:s.os=X.s₀.os
 bare:AllBare s.gens
 base:Un X.fs X.ex X.H₀ H X.s₀.heap s.heap
 loc:∃ m,s.heap.Ns X.env.locals m/\∀ (i:Nat) (x:Str) (v:V),X.N[i]?=some x->σ[i]?=some (some v)->qH X.env.scope x->∃ u,RelV v u/\Zp3 X.env s.heap m x u
 cell:∀ x c,X.env.cells.lookup x=some c->∃ v,s.heap.IsCell c v
 free:H X.env.locals=none
 freeC:∀ x c,X.env.cells.lookup x=some c->H c=none
 pin:∀ p∈X.pn++pins,s.heap.get? p.1=some p.2/\H p.1=none/\p.1≠X.env.locals/\p.1 ∉ X.fs/\∀ v,p.2.data≠.cell v
 hok:HOk X.prog X.w H s.heap
 len:σ.length=X.N.length
section
variable {X:Cx} {pins:List (Addr×Obj)} {σ:List (Option V)} {H H':Hp} {s:Shared} {h':Heap}
theorem Cx.Ok.nofr (ok:X.Ok) {b:Addr} {o:Obj} (e:X.base.get? b=some o):b ∉ X.fs:=λhb=>by
 have:=(ok.funs.mem hb).1
 rw [e] at this; cases this
theorem Inv.bs (I:Inv X pins σ H s):∀ b o,X.base.get? b=some o->s.heap.get? b=some o/\H b=none:=λb o e =>
 ⟨I.base.keep b o (I.ok.bs b o e).1 (I.ok.bs b o e).2 (I.ok.nofr e) (I.ok.noex b o e),I.base.free b o (I.ok.bs b o e).1 (I.ok.bs b o e).2 (I.ok.noex b o e)⟩
theorem Inv.bk (I:Inv X pins σ H s):∀ b o,X.base.get? b=some o->s.heap.get? b=some o:=λb o e=>(I.bs b o e).1
theorem Inv.mod (I:Inv X pins σ H s):Mod X.K X.mg X.base:=I.ok.mod
theorem Inv.kIn (I:Inv X pins σ H s):X.K.In s.heap:=I.ok.mod.kin.keeps I.bk
theorem Inv.lt (I:Inv X pins σ H s):X.env.locals < s.heap.objs.size:=let ⟨_,hn,_⟩:=I.loc; hn.lt
theorem Inv.sz (I:Inv X pins σ H s):X.s₀.heap.objs.size<=s.heap.objs.size:=Nat.le_trans I.ok.above (Nat.le_of_lt I.lt)
theorem Inv.nofs (I:Inv X pins σ H s) {a:Addr} (h:s.heap.objs.size<=a):a ∉ X.fs:=λhb=>by
 obtain ⟨_,o,ho,_⟩:=I.ok.funs.mem hb
 exact absurd (Nat.lt_of_lt_of_le (Heap.lt_size ho) (Nat.le_trans I.sz h)) (Nat.lt_irrefl _)
theorem Inv.cne (I:Inv X pins σ H s):∀ x c,X.env.cells.lookup x=some c->c≠X.env.locals:=λx c e z=>by
 obtain ⟨v,o,ho,hd⟩:=I.cell x c e
 obtain ⟨m,⟨o',es,ep,ho',hd',_⟩,_⟩:=I.loc
 rw [z,ho'] at ho; cases ho; rw [hd'] at hd; cases hd
theorem Inv.funs (I:Inv X pins σ H s):s.heap.FunFrames X.base X.outer:=by
 have all:∀ (l:List Env),(∀ b∈frs l,b∈X.fs)->X.s₀.heap.FunFrames X.base l->s.heap.FunFrames X.base l:=by
  intro l
  induction l with
  | nil=>intro _ _; trivial
  | cons env r ih =>
   intro hs hl
   obtain ⟨hk,⟨L,o,hf,hn,ho,hd⟩,hr⟩:=hl
   have hL:L∈X.fs:=hs L (by unfold frs; rw [List.filterMap_cons,hf]; exact List.mem_cons_self)
   obtain ⟨sl,e⟩:=I.base.slot L o ho (I.ok.frf L hL) hL λz=>I.ok.exfs L z hL
   exact ⟨hk,⟨L,_,hf,hn,e,hd⟩,ih (λb hb=>hs b (by unfold frs; rw [List.filterMap_cons,hf]; exact List.mem_cons_of_mem _ hb)) hr⟩
 exact all X.outer (λ_ hb=>hb) I.ok.funs
theorem Inv.stack (I:Inv X pins σ H s):s.heap.FunFrames X.base X.stack:=by
 rcases I.ok.stk with e | ⟨e,hf⟩
 ·rw [e]; exact I.funs
 ·rw [e]
  obtain ⟨m,hn,_⟩:=I.loc
  refine .cons (by rw [I.ok.kind]; decide) hf hn ?_ I.funs
  exact Heap.get?_none_of_le (Nat.le_trans I.ok.bsz I.ok.above)
theorem Inv.stkSub (I:Inv X pins σ H s):∀ b∈frs X.stack,b∈X.env.locals::X.fs:=λb hb=>by
 rcases I.ok.stk with e | ⟨e,hf⟩
 ·rw [e] at hb; exact List.mem_cons_of_mem _ hb
 ·rw [e] at hb
  unfold frs at hb
  rw [List.filterMap_cons,hf] at hb
  exact hb
theorem Inv.stkFree (I:Inv X pins σ H s):∀ b∈frs X.stack,H b=none:=λb hb=>by
 rcases List.mem_cons.mp (I.stkSub b hb) with e | hb
 ·rw [e]; exact I.free
 ·obtain ⟨_,o,ho,_⟩:=I.ok.funs.mem hb
  exact I.base.free b o ho (I.ok.frf b hb) λz=>I.ok.exfs b z hb
theorem Inv.step {g':Array GenState} {t':Nat} {d':Drawn} {ch:List Addr} (I:Inv X pins σ H s)
  (hch:∀ b∈ch,(b∈X.ex\/X.s₀.heap.objs.size<=b)/\b≠X.env.locals/\(∀ x c,X.env.cells.lookup x=some c->c≠b)/\∀ p∈X.pn++pins,p.1≠b)
  (keep:∀ b o,b≠X.env.locals->b ∉ X.fs->b ∉ ch->s.heap.get? b=some o->H b=none->h'.get? b=some o)
  (slot:∀ b o,b≠X.env.locals->b∈X.fs->b ∉ ch->s.heap.get? b=some o->H b=none->∃ sl,h'.get? b=some { o with slots:=sl }) (free:∀ b o,b ∉ ch->s.heap.get? b=some o->H b=none->H' b=none)
  (there:∀ b o,b ∉ ch->s.heap.get? b=some o->∃ o',h'.get? b=some o')
  (tups:∀ b xs,H b=some (.tup xs)->H' b=some (.tup xs)) (frzs:∀ b o u,H b=some (.frz o u)->H' b=some (.frz o u)) (tbls:∀ b ps,H b=some (.tbl ps)->∃ more,H' b=some (.tbl (ps++more)))
  (ns:∀ m,s.heap.Ns X.env.locals m->h'.Ns X.env.locals m) (hok:HOk X.prog X.w H' h') (hg:AllBare g') :
  Inv X pins σ H' { s with heap:=h',gens:=g',drawn:=d',toks:=t' }:=by
 have neL:∀ b o,X.s₀.heap.get? b=some o->b≠X.env.locals:=λb o e=>Nat.ne_of_lt (Nat.lt_of_lt_of_le (Heap.lt_size e) I.ok.above)
 have neC:∀ b o,X.s₀.heap.get? b=some o->b ∉ X.ex->b ∉ ch:=λb o e hx hb=>by
  rcases (hch b hb).1 with z | z
  ·exact hx z
  ·exact absurd (Nat.lt_of_lt_of_le (Heap.lt_size e) z) (Nat.lt_irrefl _)
 have cellK:∀ x c,X.env.cells.lookup x=some c->∀ v,s.heap.IsCell c v->h'.IsCell c v:=λx c e v hz0=>by
  obtain ⟨o,ho,hd⟩:=hz0
  have nch:c ∉ ch:=λz=>(hch c z).2.2.1 x c e rfl
  by_cases hc:c∈X.fs
  ·obtain ⟨sl,q⟩:=slot c o (I.cne x c e) hc nch ho (I.freeC x c e)
   exact ⟨_,q,hd⟩
  ·exact ⟨o,keep c o (I.cne x c e) hc nch ho (I.freeC x c e),hd⟩
 refine ⟨I.ok,I.os,hg,⟨λb o e n hb hx=>?_,λb o e n hb hx=>?_,λb o e n hx=>?_,λb o e hx=>?_,λb xs e=>tups b xs (I.base.tups b xs e),λb o xs e=>frzs b o xs (I.base.frzs b o xs e),λb ps e=>?_⟩,?_,λx c e=>?_,?_,λx c e=>?_,λp hp=>?_,hok,I.len⟩
 ·exact keep b o (neL b o e) hb (neC b o e hx) (I.base.keep b o e n hb hx) (I.base.free b o e n hx)
 ·obtain ⟨sl,e1⟩:=I.base.slot b o e n hb hx
  obtain ⟨sl',e2⟩:=slot b _ (neL b o e) hb (neC b o e hx) e1 (I.base.free b o e n hx)
  exact ⟨sl',e2⟩
 ·obtain ⟨o',e1⟩:=I.base.there b o e hx
  exact free b o' (neC b o e hx) e1 (I.base.free b o e n hx)
 ·obtain ⟨o',e1⟩:=I.base.there b o e hx
  exact there b o' (neC b o e hx) e1
 ·obtain ⟨m1,e1⟩:=I.base.tbls b ps e
  obtain ⟨m2,e2⟩:=tbls b _ e1
  exact ⟨m1++m2,by rw [e2,Array.append_assoc]⟩
 ·obtain ⟨m,hn,hl⟩:=I.loc
  refine ⟨m,ns m hn,λi x v e1 e2 e3=>?_⟩
  obtain ⟨u,r,l⟩:=hl i x v e1 e2 e3
  refine ⟨u,r,?_⟩
  rcases l with l | ⟨k,c,e,z⟩
  ·exact .inl l
  ·exact .inr ⟨k,c,e,cellK x c e _ z⟩
 ·obtain ⟨v,z⟩:=I.cell x c e
  exact ⟨v,cellK x c e v z⟩
 ·obtain ⟨m,⟨o,_,_,ho,_⟩,_⟩:=I.loc
  exact free _ o (λz=>(hch _ z).2.1 rfl) ho I.free
 ·obtain ⟨v,o,ho,hd⟩:=I.cell x c e
  exact free c o (λz=>(hch c z).2.2.1 x c e rfl) ho (I.freeC x c e)
 ·obtain ⟨e,n,ne,nf,d⟩:=I.pin p hp
  have nch:p.1 ∉ ch:=λz=>(hch p.1 z).2.2.2 p hp rfl
  exact ⟨keep p.1 p.2 ne nf nch e n,free p.1 p.2 nch e n,ne,nf,d⟩
theorem Inv.un {t':Nat} (I:Inv X pins σ H s) (u:Un X.fs [] H H' s.heap h') (hok:HOk X.prog X.w H' h'):Inv X pins σ H' { s with heap:=h',toks:=t' }:=by
 obtain ⟨m,⟨o,es,ep,ho,r⟩,_⟩:=id I.loc
 obtain ⟨sl,hL⟩:=u.any ho I.free (by simp)
 exact I.step (g':=s.gens) (d':=s.drawn) (ch:=[]) (λ_ z=>nomatch z) (λb o _ hb _ e n=>u.keep b o e n hb (by simp)) (λb o _ hb _ e n=>u.slot b o e n hb (by simp)) (λb o _ e n=>u.free b o e n (by simp)) (λb o _ e=>u.there b o e (by simp)) u.tups u.frzs u.tbls (λm' hm=>by
  obtain ⟨o',es',ep',ho',r'⟩:=hm
  rw [ho] at ho'; cases ho'
  exact ⟨_,es',ep',hL,r'⟩) hok I.bare
theorem Inv.call {g':Array GenState} {t':Nat} {d':Drawn} {ch:List Addr} (I:Inv X pins σ H s) (u:Un (frs X.stack) ch H H' s.heap h') (hok:HOk X.prog X.w H' h') (hg:AllBare g')
  (hch:∀ b∈ch,(b∈X.ex\/X.s₀.heap.objs.size<=b)/\b≠X.env.locals/\(∀ x c,X.env.cells.lookup x=some c->c≠b)/\∀ p∈X.pn++pins,p.1≠b) :
  Inv X pins σ H' { s with heap:=h',gens:=g',drawn:=d',toks:=t' }:=by
 obtain ⟨m,⟨o,es,ep,ho,r⟩,_⟩:=id I.loc
 obtain ⟨sl,hL⟩:=u.any ho I.free λz=>(hch _ z).2.1 rfl
 exact I.step (ch:=ch) hch (λb o hL hb hc e n=>u.keep b o e n (λz=>(List.mem_cons.mp (I.stkSub b z)).elim hL hb) hc) (λb o _ _ hc e n=>u.any e n hc) (λb o hc e n=>u.free b o e n hc) (λb o hc e=>u.there b o e hc) u.tups u.frzs u.tbls (λm' hm=>by
  obtain ⟨o',es',ep',ho',r'⟩:=hm
  rw [ho] at ho'; cases ho'
  exact ⟨_,es',ep',hL,r'⟩) hok hg
theorem Inv.turned {t':Nat} {it:Addr} (I:Inv X pins σ H s) (k:∀ b o,b≠it->s.heap.get? b=some o->h'.get? b=some o) (hn:H it=none) (hL:it≠X.env.locals)
  (h1:it∈X.ex\/X.s₀.heap.objs.size<=it) (h2:∀ x c,X.env.cells.lookup x=some c->c≠it) (h3:∀ p∈X.pn++pins,p.1≠it):Inv X pins σ H { s with heap:=h',toks:=t' }:=by
 have nit:∀ b u,H b=some u->b≠it:=λb u e z=>by rw [z,hn] at e; cases e
 refine I.step (g':=s.gens) (d':=s.drawn) (ch:=[it]) (λb hb=>?_) (λb o _ _ hc e _=>k b o (λz=>hc (by simp [z])) e) (λb o _ _ hc e _=>⟨o.slots,k b o (λz=>hc (by simp [z])) e⟩) (λ_ _ _ _ n=>n)
  (λb o hc e=>⟨o,k b o (λz=>hc (by simp [z])) e⟩) (λ_ _ e=>e) (λ_ _ _ e=>e) (λb ps e=>⟨#[],by rw [e]; simp⟩) (λm hm=>?_) (λb u e=>?_) I.bare
 ·have e:b=it:=by simpa using hb
  subst e
  exact ⟨h1,hL,h2,h3⟩
 ·obtain ⟨o,es,ep,ho,r⟩:=hm
  exact ⟨o,es,ep,k _ o (Ne.symm hL) ho,r⟩
 ·refine (I.hok b u e).stay (λc v hc q=>k c v ?_ q) (λ_ q=>q) (λ_ _ q=>q) λ_ _ _ _ q _=>q
  rcases hc with z | z
  ·rw [z]; exact nit b u e
  ·exact nit c _ z
theorem Inv.tok (I:Inv X pins σ H s) (t:Nat):Inv X pins σ H { s with toks:=t }:=I.un (h':=s.heap) (t':=t) Un.refl I.hok
theorem Inv.kept {t':Nat} (I:Inv X pins σ H s) (k:∀ b u,s.heap.get? b=some u->h'.get? b=some u):Inv X pins σ H { s with heap:=h',toks:=t' }:=I.un (Un.kept k) (I.hok.kept k)
theorem Inv.laid {a:Addr} {o:HO} {t':Nat} (I:Inv X pins σ H s) (k:∀ b u,s.heap.get? b=some u->h'.get? b=some u) (hp:s.heap.objs.size<=a) (new:ObjOk X.prog X.w (upd H a o) h' a o) :
  Inv X pins σ (upd H a o) { s with heap:=h',toks:=t' }:=I.un (Un.laid k hp (I.hok.fresh hp)) (I.hok.laid k hp new)
theorem Inv.write {x e:Addr} {o:HO} {t':Nat} (I:Inv X pins σ H s) (mu:qP (H x)) (he:e=x\/H e=some (.own x)) (k:∀ b u,b≠e->s.heap.get? b=some u->h'.get? b=some u) (heo:∃ u,h'.get? e=some u)
  (new:ObjOk X.prog X.w (upd H x o) h' x o):Inv X pins σ (upd H x o) { s with heap:=h',toks:=t' }:=I.un (Un.write mu he k heo) (I.hok.write mu he k heo new)
theorem Inv.pins_of {pins':List (Addr×Obj)} (I:Inv X pins σ H s) (h:∀ p∈pins',s.heap.get? p.1=some p.2/\H p.1=none/\p.1≠X.env.locals/\p.1 ∉ X.fs/\∀ v,p.2.data≠.cell v):Inv X pins' σ H s :=
 ⟨I.ok,I.os,I.bare,I.base,I.loc,I.cell,I.free,I.freeC,λp hp=>(List.mem_append.mp hp).elim (λz=>I.pin p (List.mem_append_left _ z)) (h p),I.hok,I.len⟩
theorem ZcS {N:List Str} (hN:N.Nodup) {i j:Nat} {x:Str} (a:N[i]?=some x) (b:N[j]?=some x):i=j:=by
 obtain ⟨h1,e1⟩:=List.getElem?_eq_some_iff.mp a
 obtain ⟨h2,e2⟩:=List.getElem?_eq_some_iff.mp b
 exact (List.getElem_inj hN).mp (e1.trans e2.symm)
theorem ZaI {M:Model} {A:Around} {E:Value->Shared->Prop} {i:Nat} {x:Str} {v:V} {u:Value} {Q:Unit->Shared->Prop} (I:Inv X pins σ H s) (hN:X.N.Nodup) (hi:X.N[i]?=some x) (hx:nS X.env.scope x) (r:RelV v u)
  (h:∀ s',Inv X pins (σ.set i (some v)) H s'->(∃ a,Heap.SameBut a s.heap s'.heap/\(a=X.env.locals\/X.env.cells.lookup x=some a))->Q () s') (hf:X.fn x=true\/X.env.scope.names.lookup x=some .local:=by first | exact .inl rfl | exact .inr rfl | assumption):wpAny M A (storeName X.env x u) Q E s:=by
 obtain ⟨m,hn,hl⟩:=id I.loc
 have hcls:(X.env.scope.kind == .class || (X.env.scope.kind == .module && X.env.locals != X.env.globals))=false:=by rw [I.ok.kind]; rfl
 have hiσ:i < σ.length:=by rw [I.len]; exact (List.getElem?_eq_some_iff.mp hi).1
 have cne:=I.cne
 have tracked:∀ {a:Addr} {h':Heap},(∃ o,s.heap.get? a=some o/\H a=none)->Heap.SameBut a s.heap h'->HOk X.prog X.w H h':=λ{a h'} ha hs b ob e=>by
  obtain ⟨_,_,hfree⟩:=ha
  refine (I.hok b ob e).stay (λc w' hc q=>(hs.2 c ?_).trans q) (λ_ q=>q) (λ_ _ q=>q) λ_ _ _ _ q _=>q
  rintro rfl
  rcases hc with rfl | hc
  ·rw [hfree] at e; cases e
  ·rw [hfree] at hc; cases hc
 rcases hx with hk | hk
 ·refine wpAny_storeName_local hk hn (λh' hn' hs=>?_) hcls
  obtain ⟨oL,_,_,hoL,_⟩:=id hn
  refine h _ ⟨I.ok,I.os,I.bare,⟨λb o e n hb hx=>?_,λb o e n hb hx=>?_,I.base.free,λb o e hx=>?_,I.base.tups,I.base.frzs,I.base.tbls⟩,⟨_,hn',λj y v' e1 e2 e3=>?_⟩,λy c e=>?_,I.free,I.freeC,λp hp=>?_,tracked ⟨oL,hoL,I.free⟩ hs,by simpa using I.len⟩ ⟨_,hs,.inl rfl⟩
  ·exact (hs.2 b (Nat.ne_of_lt (Nat.lt_of_lt_of_le (Heap.lt_size e) I.ok.above))).trans (I.base.keep b o e n hb hx)
  ·obtain ⟨sl,e1⟩:=I.base.slot b o e n hb hx
   exact ⟨sl,(hs.2 b (Nat.ne_of_lt (Nat.lt_of_lt_of_le (Heap.lt_size e) I.ok.above))).trans e1⟩
  ·obtain ⟨o',e1⟩:=I.base.there b o e hx
   exact ⟨o',(hs.2 b (Nat.ne_of_lt (Nat.lt_of_lt_of_le (Heap.lt_size e) I.ok.above))).trans e1⟩
  ·by_cases hj:j=i
   ·subst hj
    rw [hi] at e1; cases e1
    rw [List.getElem?_set_self hiσ] at e2
    cases e2
    exact ⟨u,r,.inl ⟨hk,by simp⟩⟩
   ·rw [List.getElem?_set_ne (Ne.symm hj)] at e2
    obtain ⟨u',r',q⟩:=hl j y v' e1 e2 e3
    refine ⟨u',r',?_⟩
    rcases q with ⟨k,e⟩ | ⟨k,c,e,z⟩
    ·refine .inl ⟨k,?_⟩
     have:y≠x:=λe=>hj (ZcS hN e1 (e ▸ hi))
     simp [this,e]
    ·exact .inr ⟨k,c,e,z.sameBut hs (cne y c e)⟩
  ·obtain ⟨w',z⟩:=I.cell y c e
   exact ⟨w',z.sameBut hs (cne y c e)⟩
  ·obtain ⟨e,n,ne,nf,d⟩:=I.pin p hp
   exact ⟨(hs.2 p.1 ne).trans e,n,ne,nf,d⟩
 ·have hfn:X.fn x=true:=by
   rcases hf with z | z
   ·exact z
   ·rw [z] at hk; cases hk
  obtain ⟨c,hc⟩:=I.ok.has x (.inl hk)
  obtain ⟨w',z⟩:=I.cell x c hc
  refine wpAny_storeName_cell I.ok.kind hk hc z (λh' hc' hs=>?_)
  obtain ⟨oc,hoc,hocd⟩:=id z
  refine h { s with heap:=h' } ⟨I.ok,I.os,I.bare,⟨λb o e n hb hx=>?_,λb o e n hb hx=>?_,I.base.free,λb o e hx=>?_,I.base.tups,I.base.frzs,I.base.tbls⟩,⟨m,hn.sameBut hs (Ne.symm (cne x c hc)),λj y v' e1 e2 e3=>?_⟩,λy c' e=>?_,I.free,I.freeC,λp hp=>?_,tracked ⟨oc,hoc,I.freeC x c hc⟩ hs,by simpa using I.len⟩ ⟨c,hs,.inr hc⟩
  ·exact (hs.2 b (Nat.ne_of_lt (Nat.lt_of_lt_of_le (Heap.lt_size e) (I.ok.cab x c hfn hc)))).trans (I.base.keep b o e n hb hx)
  ·obtain ⟨sl,e1⟩:=I.base.slot b o e n hb hx
   exact ⟨sl,(hs.2 b (Nat.ne_of_lt (Nat.lt_of_lt_of_le (Heap.lt_size e) (I.ok.cab x c hfn hc)))).trans e1⟩
  ·obtain ⟨o',e1⟩:=I.base.there b o e hx
   exact ⟨o',(hs.2 b (Nat.ne_of_lt (Nat.lt_of_lt_of_le (Heap.lt_size e) (I.ok.cab x c hfn hc)))).trans e1⟩
  ·by_cases hj:j=i
   ·subst hj
    rw [hi] at e1; cases e1
    rw [List.getElem?_set_self hiσ] at e2
    cases e2
    exact ⟨u,r,.inr ⟨.inl hk,c,hc,hc'⟩⟩
   ·rw [List.getElem?_set_ne (Ne.symm hj)] at e2
    obtain ⟨u',r',q⟩:=hl j y v' e1 e2 e3
    refine ⟨u',r',?_⟩
    rcases q with q | ⟨k,c',e,z'⟩
    ·exact .inl q
    ·refine .inr ⟨k,c',e,z'.sameBut hs ?_⟩
     rintro rfl
     exact hj (ZcS hN e1 (I.ok.inj _ _ _ e hc ▸ hi))
  ·by_cases hcc:c'=c
   ·subst hcc; exact ⟨_,hc'⟩
   ·obtain ⟨w2,z2⟩:=I.cell y c' e
    exact ⟨w2,z2.sameBut hs hcc⟩
  ·obtain ⟨e,n,ne,nf,d⟩:=I.pin p hp
   refine ⟨(hs.2 p.1 ?_).trans e,n,ne,nf,d⟩
   intro q
   rw [q,hoc] at e
   have q':oc=p.2:=Option.some.inj e
   exact d w' (by rw [<- q']; exact hocd)
theorem mi {M:Model} {A:Around} {E:Value->Shared->Prop} {i:Nat} {x:Str} {v:V} {u:Value} {Q:Unit->Shared->Prop} (I:Inv X pins σ H s) (hN:X.N.Nodup) (hi:X.N[i]?=some x) (hx:nS X.env.scope x) (r:RelV v u)
  (h:∀ s',Inv X pins (σ.set i (some v)) H s'->Q () s') (hf:X.fn x=true\/X.env.scope.names.lookup x=some .local:=by first | exact .inl rfl | exact .inr rfl | assumption):wpAny M A (storeName X.env x u) Q E s :=
 ZaI I hN hi hx r (λs' I' _=>h s' I') hf
theorem Inv.call' {s':Shared} {ch:List Addr} (I:Inv X pins σ H s) (ho:s'.os=s.os) (u:Un (frs X.stack) ch H H' s.heap s'.heap) (hok:HOk X.prog X.w H' s'.heap) (hg:AllBare s'.gens)
  (hch:∀ b∈ch,(b∈X.ex\/X.s₀.heap.objs.size<=b)/\b≠X.env.locals/\(∀ x c,X.env.cells.lookup x=some c->c≠b)/\∀ p∈X.pn++pins,p.1≠b):Inv X pins σ H' s':=by
 obtain ⟨h',g',d',t',o'⟩:=s'
 have e:o'=s.os:=ho
 subst e
 exact I.call (g':=g') (t':=t') (d':=d') u hok hg hch
end
noncomputable abbrev XK:=Value->Option Addr->Hp->Prop
noncomputable abbrev St:=List (Option V)
noncomputable abbrev VK:=V->Hp->Prop
noncomputable abbrev TE:=St->Hp->VK->Prop
noncomputable abbrev TT:=St->Hp->(Bool->Hp->Prop)->Prop
noncomputable abbrev TA:=St->Hp->(List V->Hp->Prop)->Prop
structure Ends where
 nx:St->Hp->Prop
 rt:VK
 bk:St->Hp->Prop:=λ_ _=>False
 ct:St->Hp->Prop:=λ_ _=>False
noncomputable abbrev TS:=Ends->St->Hp->Prop
noncomputable def EP (X:Cx) (pins:List (Addr×Obj)) (σ:St) (Q:VK) (u:Value) (s':Shared):Prop:=∃ v H',Inv X pins σ H' s'/\RelV v u/\Q v H'
noncomputable def TP (X:Cx) (pins:List (Addr×Obj)) (σ:St) (Q:Bool->Hp->Prop) (b:Bool) (s':Shared):Prop:=∃ H',Inv X pins σ H' s'/\Q b H'
noncomputable def AP (X:Cx) (pins:List (Addr×Obj)) (σ:St) (Q:List V->Hp->Prop) (us:List Value) (s':Shared):Prop:=∃ vs H',Inv X pins σ H' s'/\Vals vs us/\Q vs H'
noncomputable def SP (X:Cx) (pins:List (Addr×Obj)) (D:Ends) (f:Flow) (s':Shared):Prop :=
 match f with
 | .next=>∃ σ' H',Inv X pins σ' H' s'/\D.nx σ' H'
 | .brk=>∃ σ' H',Inv X pins σ' H' s'/\D.bk σ' H'
 | .cont=>∃ σ' H',Inv X pins σ' H' s'/\D.ct σ' H'
 | .ret u=>∃ v σ' H',Inv X pins σ' H' s'/\RelV v u/\D.rt v H'
noncomputable def PE (X:Cx) (e:Expr) (t:TE):Prop :=
 ∀ (pins:List (Addr×Obj)) (s:Shared) (σ:St) (H:Hp) (Q:VK),Inv X pins σ H s->t σ H Q->wpAny (model X.prog X.w) X.A (eval e X.env) (EP X pins σ Q) X.xe s
noncomputable def PT (X:Cx) (e:Expr) (t:TT):Prop :=
 ∀ (pins:List (Addr×Obj)) (s:Shared) (σ:St) (H:Hp) (Q:Bool->Hp->Prop),Inv X pins σ H s->t σ H Q->wpAny (model X.prog X.w) X.A (isTrue e X.env (eval e X.env)) (TP X pins σ Q) X.xe s
noncomputable def PW (X:Cx) (e:Expr) (t:TT):Prop :=
 ∀ (whole:Sem Value) (pins:List (Addr×Obj)) (s:Shared) (σ:St) (H:Hp) (Q:Bool->Hp->Prop),Inv X pins σ H s->t σ H Q->wpAny (model X.prog X.w) X.A (isTrue e X.env whole) (TP X pins σ Q) X.xe s
theorem PW.pt {X:Cx} {e:Expr} {t:TT} (h:PW X e t):PT X e t:=h _
noncomputable def PA (X:Cx) (es:List Expr) (t:TA):Prop :=
 ∀ (pos:Pos) (pins:List (Addr×Obj)) (s:Shared) (σ:St) (H:Hp) (Q:List V->Hp->Prop),Inv X pins σ H s->t σ H Q->wpAny (model X.prog X.w) X.A (spliced (backTo pos (starEach es X.env))) (AP X pins σ Q) X.xe s
noncomputable def PS (X:Cx) (st:Stmt) (t:TS):Prop :=
 ∀ (pins:List (Addr×Obj)) (s:Shared) (σ:St) (H:Hp) (D:Ends),Inv X pins σ H s->t D σ H->wpAny (model X.prog X.w) X.A (exec st X.env) (SP X pins D) X.xe s
noncomputable def PSs (X:Cx) (st:List Stmt) (t:TS):Prop :=
 ∀ (pins:List (Addr×Obj)) (s:Shared) (σ:St) (H:Hp) (D:Ends),Inv X pins σ H s->t D σ H->wpAny (model X.prog X.w) X.A (execs st X.env) (SP X pins D) X.xe s
theorem thn {α:Type} {t:Sem α} {Q Q':α->Shared->Prop} {M:Model} {A:Around} {E:Value->Shared->Prop} {s:Shared} (h:wpAny M A t Q E s) (hQ:∀ a s,Q a s->Q' a s):wpAny M A t Q' E s:=wpAny_mono h hQ λ_ _ x=>x
section
variable {X:Cx}
noncomputable def i8 (i:Nat):TE:=λσ H Q=>∃ v,σ[i]?=some (some v)/\Q v H
noncomputable def tC (v:V):TE:=λ_ H Q=>Q v H
theorem Zih {i:Nat} {x:Str} {pos:Pos} (hN:X.N[i]?=some x) (hv:qH X.env.scope x) (hd:(x == ("__debug__":Str))=false:=by decide) (hcd:(x == ("__classdict__":Str))=false:=by decide):PE X (.Name x pos) (i8 i):=by
 intro pins s σ H Q I h
 obtain ⟨v,e,h⟩:=h
 obtain ⟨m,hn,hl⟩:=I.loc
 obtain ⟨u,r,l⟩:=hl i x v hN e hv
 have fin:EP X pins σ Q u s:=⟨v,H,I,r,h⟩
 rcases l with ⟨hk,hm⟩ | ⟨hk,c,hc,hcell⟩
 ·exact wpAny_Name (wpAny_loadName_local I.ok.kind hk hn hm fin) hd
 ·rcases hk with hk | hk
  ·exact wpAny_Name (wpAny_loadName_cell I.ok.kind hk hc hcell fin) hd
  ·exact wpAny_Name (wpAny_loadName_free I.ok.kind hk hc hcell fin hcd) hd
theorem cP {i j pos}:PE X (.Constant (.int i) j pos) (tC (.int i)):=λ_ _ _ H _ I h=>wpAny_Constant_int ⟨.int i,H,I.tok _,⟨_,rfl⟩,h⟩
theorem Ziz {b j pos}:PE X (.Constant (.bool b) j pos) (tC (.bl b)):=λ_ _ _ H _ I h=>Constant_bool ⟨.bl b,H,I,rfl,h⟩
theorem Zin {j pos}:PE X (.Constant .none j pos) (tC .non):=λ_ _ _ H _ I h=>Constant_none ⟨.non,H,I,rfl,h⟩
theorem Zik {x j pos}:PE X (.Constant (.str x) j pos) (tC (.str x)):=λ_ _ _ H _ I h=>Calls.Constant_str ⟨.str x,H,I.tok _,⟨_,rfl⟩,h⟩
noncomputable def Gl (X:Cx) (x:Str):Prop:=X.env.kindOf x=some .globalImplicit
theorem pJ {E:Value->Shared->Prop} {pins:List (Addr×Obj)} {s:Shared} {σ:St} {H:Hp} {x:Str} {u:Value} {pos:Pos} {Q:Value->Shared->Prop} (I:Inv X pins σ H s) (hg:Gl X x) (hm:X.mg x=some u) (h:Q u s)
  (hd:(x == ("__debug__":Str))=false:=by decide):wpAny (model X.prog X.w) X.A (eval (.Name x pos) X.env) Q E s :=
 Calls.Name_function_global I.ok.kind hg (Calls.loadGlobal_global (by rw [I.ok.glob]; exact I.mod.glob.keeps I.bk) hm h) hd
theorem iP {E:Value->Shared->Prop} {pins:List (Addr×Obj)} {s:Shared} {σ:St} {H:Hp} {x:Str} {u:Value} {pos:Pos} {Q:Value->Shared->Prop} (I:Inv X pins σ H s) (hg:Gl X x) (hm:X.mg x=none) (hv:bootBuiltins x=some u) (h:Q u s)
  (hn:x≠"__name__":=by decide) (hd:(x == ("__debug__":Str))=false:=by decide):wpAny (model X.prog X.w) X.A (eval (.Name x pos) X.env) Q E s:=by
 obtain ⟨mb,h1,h2⟩:=I.mod.blt
 exact Calls.Name_function_global I.ok.kind hg (Calls.loadGlobal_builtin (by rw [I.ok.glob]; exact I.mod.glob.keeps I.bk) hm (by rw [I.ok.blt]; exact h1.keeps I.bk) ((h2 x hn).trans hv) h) hd
theorem Zit {x:Str} {v:V} {u:Value} {pos:Pos} (hg:Gl X x) (hm:X.mg x=some u) (r:RelV v u) (hd:(x == ("__debug__":Str))=false:=by decide):PE X (.Name x pos) (tC v) :=
 λ_ _ _ H _ I h=>pJ I hg hm ⟨v,H,I,r,h⟩ hd
theorem mI {x:Str} {v:V} {u:Value} {pos:Pos} (hg:Gl X x) (hm:X.mg x=none) (hv:bootBuiltins x=some u) (r:RelV v u) (hn:x≠"__name__":=by decide) (hd:(x == ("__debug__":Str))=false:=by decide):PE X (.Name x pos) (tC v) :=
 λ_ _ _ H _ I h=>iP I hg hm hv ⟨v,H,I,r,h⟩ hn hd
variable {a b:Expr} {ta tb:TE} {pos:Pos}
variable {tA tB':TT} {rest:List Expr}
noncomputable def Zgs (t u:TT):TT:=λσ H Q=>t σ H λc H1=>if c=true then u σ H1 Q else Q false H1
noncomputable def tOr (t u:TT):TT:=λσ H Q=>t σ H λc H1=>if c=true then Q true H1 else u σ H1 Q
noncomputable def Zgf (t:TT):TT:=λσ H Q=>t σ H λc H1=>Q (!c) H1
theorem Zcp (ha:PT X a tA):PW X (.BoolOp .And [a] pos) tA:=by
 intro wh pins s σ H Q I h
 refine isTrue_and (thn (ha pins s σ H Q I h) λc s1 e=>?_)
 cases c with
 | true=>exact isTrue_and_nil e
 | false=>exact e
theorem ZhU (ha:PT X a tA):PW X (.BoolOp .Or [a] pos) tA:=by
 intro wh pins s σ H Q I h
 refine isTrue_or (thn (ha pins s σ H Q I h) λc s1 e=>?_)
 cases c with
 | false=>exact isTrue_or_nil e
 | true=>exact e
theorem Zcq (ha:PT X a tA) (hb:PW X (.BoolOp .And (b::rest) pos) tB'):PW X (.BoolOp .And (a::b::rest) pos) (Zgs tA tB'):=by
 intro wh pins s σ H Q I h
 refine isTrue_and (thn (ha pins s σ H _ I h) λc s1 hz0=>?_)
 obtain ⟨H1,I1,q1⟩:=hz0
 cases c with
 | true=>exact hb wh pins s1 σ H1 Q I1 q1
 | false=>exact ⟨H1,I1,q1⟩
theorem ZhV (ha:PT X a tA) (hb:PW X (.BoolOp .Or (b::rest) pos) tB'):PW X (.BoolOp .Or (a::b::rest) pos) (tOr tA tB'):=by
 intro wh pins s σ H Q I h
 refine isTrue_or (thn (ha pins s σ H _ I h) λc s1 hz0=>?_)
 obtain ⟨H1,I1,q1⟩:=hz0
 cases c with
 | true=>exact ⟨H1,I1,q1⟩
 | false=>exact hb wh pins s1 σ H1 Q I1 q1
theorem ZhW (ha:PT X a tA):PT X (.UnaryOp .Not a pos) (Zgf tA):=by
 intro pins s σ H Q I h
 exact isTrue_not (ha pins s σ H (λc H1=>Q (!c) H1) I h)
noncomputable def Zgr (ta tb:TE):TE:=λσ H Q=>ta σ H λx H1=>∃ c,x=.bl c/\if c=true then tb σ H1 Q else Q (.bl false) H1
noncomputable def Zge (ta:TE):TE:=λσ H Q=>ta σ H λx H1=>∃ c,x=.bl c/\Q (.bl (!c)) H1
theorem Zil {op} {t:TE} (h:PE X a t):PE X (.BoolOp op [a] pos) t:=λpins s σ H Q I hw=>BoolOp_one (h pins s σ H Q I hw)
theorem ZiA (ha:PE X a ta) (hb:PE X (.BoolOp .And (b::rest) pos) tb):PE X (.BoolOp .And (a::b::rest) pos) (Zgr ta tb):=by
 intro pins s σ H Q I h
 refine BoolOp_and (thn (ha pins s σ H _ I h) λv s1 hz0=>?_)
 obtain ⟨x,H1,I1,r1,q1⟩:=hz0
 obtain ⟨c,rfl,q1⟩:=q1
 cases r1
 refine wpAny_truthy_bool ?_
 cases c with
 | true=>exact hb pins s1 σ H1 Q I1 q1
 | false=>exact ⟨.bl false,H1,I1,rfl,q1⟩
theorem Zim (ha:PE X a ta):PE X (.UnaryOp .Not a pos) (Zge ta):=by
 intro pins s σ H Q I h
 refine UnaryOp_ (thn (ha pins s σ H _ I h) λv s1 hz0=>?_)
 obtain ⟨x,H1,I1,r1,q1⟩:=hz0
 obtain ⟨c,rfl,q1⟩:=q1
 cases r1
 exact not_of (wpAny_truthy_bool ⟨.bl (!c),H1,I1,rfl,q1⟩)
noncomputable def tIf (t:TT) (ta tb:TE):TE:=λσ H Q=>t σ H λc H1=>if c=true then ta σ H1 Q else tb σ H1 Q
theorem Zis {c:Expr} (hc:PT X c tA) (ha:PE X a ta) (hb:PE X b tb):PE X (.IfExp c a b pos) (tIf tA ta tb):=by
 intro pins s σ H Q I h
 refine wpAny_IfExp (thn (hc pins s σ H _ I h) λd s1 hz0=>?_)
 obtain ⟨H1,I1,q1⟩:=hz0
 cases d with
 | true=>exact ha pins s1 σ H1 Q I1 q1
 | false=>exact hb pins s1 σ H1 Q I1 q1
end
noncomputable def SqL (K:PySem.W.Frag) (H:Hp) (a:Addr) (xs:List V):Prop :=
 Rd H a (.lst xs) \/
  ∃ (o:Obj) (its:Array Value) (n:Nat),K.lookup a=some o/\o.cls=.type "list"/\o.dict=none/\o.data=.seq its n/\its.size<=sizeLine/\Vals xs its.toList
noncomputable def SqT (K:PySem.W.Frag) (H:Hp) (a:Addr) (xs:List V):Prop :=
 Rd H a (.tup xs) \/
  ∃ (o:Obj) (its:Array Value) (n:Nat),K.lookup a=some o/\o.cls=.type "tuple"/\o.data=.seq its n/\its.size<=sizeLine/\Vals xs its.toList
noncomputable def Zpn:Value->Option V
 | .none=>some .non
 | .bool b=>some (.bl b)
 | .int i _=>some (.int i)
 | .str x _=>some (.str x)
 | .bytes b _=>some (.byt b)
 | .float b _=>some (.flt b)
 | .ref a=>some (.ref a)
 | .type n=>some (.ty n)
 | _=>none
theorem RelV.abs {x:V} {u:Value} (r:RelV x u):Zpn u=some x:=by
 cases x with
 | non=>cases r; rfl
 | bl _=>cases r; rfl
 | int _=>obtain ⟨t,rfl⟩:=r; rfl
 | str _=>obtain ⟨t,rfl⟩:=r; rfl
 | byt _=>obtain ⟨t,rfl⟩:=r; rfl
 | flt _=>obtain ⟨t,rfl⟩:=r; rfl
 | ref _=>cases r; rfl
 | ty _=>cases r; rfl
theorem RelV.inj {x y:V} {u:Value} (r:RelV x u) (q:RelV y u):x=y:=Option.some.inj (r.abs.symm.trans q.abs)
theorem Vals.inj {xs ys:List V} {us:List Value} (h:Vals xs us) (h':Vals ys us):xs=ys:=by
 induction h generalizing ys with
 | nil=>cases h'; rfl
 | cons r t ih=>cases h' with | cons r' t'=>rw [r.inj r',ih t']
section
variable {X:Cx} {pins:List (Addr×Obj)} {σ:St} {H:Hp} {s:Shared} {a:Addr} {xs ys:List V}
theorem SqL.of {K:PySem.W.Frag} (h:H a=some (.lst xs)):SqL K H a xs:=.inl (.inl h)
theorem SqT.of {K:PySem.W.Frag} (h:H a=some (.tup xs)):SqT K H a xs:=.inl (.inl h)
theorem Inv.list (I:Inv X pins σ H s) (h:SqL X.K H a xs):∃ its:List Value,Vals xs its/\PlainL s.heap a its.toArray/\xs.length<=sizeLine:=by
 rcases h with h | ⟨o,its,n,hk,hc,hd,hs,hz,r⟩
 ·obtain ⟨z,its,n,r,e⟩:=h.ok I.hok
  exact ⟨its,r,⟨_,n,e,rfl,rfl,rfl⟩,z⟩
 ·refine ⟨its.toList,r,⟨o,n,I.kIn a o hk,hc,hd,by simpa using hs⟩,?_⟩
  have e:=r.length
  simp only [Array.length_toList] at e
  omega
theorem Inv.tuple (I:Inv X pins σ H s) (h:SqT X.K H a xs):∃ its:List Value,Vals xs its/\IsTup s.heap a its.toArray/\xs.length<=sizeLine:=by
 rcases h with h | ⟨o,its,n,hk,hc,hs,hz,r⟩
 ·obtain ⟨z,its,r,p⟩:=h.ok I.hok
  exact ⟨its,r,p,z⟩
 ·refine ⟨its.toList,r,⟨o,I.kIn a o hk,hc,n,by simpa using hs⟩,?_⟩
  have e:=r.length
  simp only [Array.length_toList] at e
  omega
theorem Inv.list_inj (I:Inv X pins σ H s) (h:SqL X.K H a xs) (h':SqL X.K H a ys):xs=ys:=by
 obtain ⟨its,r,⟨o,n,e,_,_,d⟩,_⟩:=I.list h
 obtain ⟨its',r',⟨o',n',e',_,_,d'⟩,_⟩:=I.list h'
 rw [e] at e'; cases e'
 rw [d] at d'
 injection d' with d1 _
 have:its=its':=by simpa using congrArg Array.toList d1
 subst this
 exact r.inj r'
theorem Inv.tuple_inj (I:Inv X pins σ H s) (h:SqT X.K H a xs) (h':SqT X.K H a ys):xs=ys:=by
 obtain ⟨its,r,⟨o,e,_,n,d⟩,_⟩:=I.tuple h
 obtain ⟨its',r',⟨o',e',_,n',d'⟩,_⟩:=I.tuple h'
 rw [e] at e'; cases e'
 rw [d] at d'
 injection d' with d1 _
 have:its=its':=by simpa using congrArg Array.toList d1
 subst this
 exact r.inj r'
end
noncomputable abbrev Cx.wish (X:Cx) (E:Value->Shared->Prop):Cx:={ X with xe:=E }
noncomputable abbrev Cx.nox (X:Cx):Cx:=X.wish λ_ _=>False
theorem Cx.Ok.wish {X:Cx} (ok:X.Ok) (E:Value->Shared->Prop):(X.wish E).Ok :=
 ⟨ok.mod,ok.kind,ok.glob,ok.blt,ok.above,ok.inj,ok.has,ok.cab,ok.hd,ok.frames,ok.stk,ok.exf,ok.bs,ok.bsz,ok.noex,ok.exfs,ok.funs,ok.frf⟩
theorem Cx.Ok.unwish {X:Cx} {E:Value->Shared->Prop} (ok:(X.wish E).Ok):X.Ok :=
 ⟨ok.mod,ok.kind,ok.glob,ok.blt,ok.above,ok.inj,ok.has,ok.cab,ok.hd,ok.frames,ok.stk,ok.exf,ok.bs,ok.bsz,ok.noex,ok.exfs,ok.funs,ok.frf⟩
section
variable {X:Cx} {pins:List (Addr×Obj)} {σ:St} {H:Hp} {s:Shared} {E:Value->Shared->Prop}
theorem Inv.wish (I:Inv X pins σ H s) (E:Value->Shared->Prop):Inv (X.wish E) pins σ H s:=⟨I.ok.wish E,I.os,I.bare,I.base,I.loc,I.cell,I.free,I.freeC,I.pin,I.hok,I.len⟩
theorem Inv.unwish (I:Inv (X.wish E) pins σ H s):Inv X pins σ H s:=⟨I.ok.unwish,I.os,I.bare,I.base,I.loc,I.cell,I.free,I.freeC,I.pin,I.hok,I.len⟩
theorem SP.unwish {D:Ends} {f:Flow} {s':Shared} (h:SP (X.wish E) pins D f s'):SP X pins D f s':=by
 cases f with
 | next=>obtain ⟨σ',H',I,q⟩:=h; exact ⟨σ',H',I.unwish,q⟩
 | brk=>obtain ⟨σ',H',I,q⟩:=h; exact ⟨σ',H',I.unwish,q⟩
 | cont=>obtain ⟨σ',H',I,q⟩:=h; exact ⟨σ',H',I.unwish,q⟩
 | ret u=>obtain ⟨v,σ',H',I,r,q⟩:=h; exact ⟨v,σ',H',I.unwish,r,q⟩
theorem PSs.nox {st:List Stmt} {t:TS} (h:PSs X.nox st t):PSs X st t:=λpins s σ H D I hw =>
 wpAny_mono (h pins s σ H D (I.wish _) hw) (λ_ _ q=>q.unwish) λ_ _ z=>False.elim z
end
section
variable {X:Cx} {st:Stmt} {rest:List Stmt} {t u:TS} {e:Expr} {te:TE} {pos:Pos}
noncomputable def Zgh:TS:=λD σ H=>D.nx σ H
noncomputable def rE (t u:TS):TS:=λD σ H=>t { D with nx:=u D } σ H
theorem oH:PSs X [] Zgh:=λ_ _ σ H _ I h=>wpAny_execs_nil ⟨σ,H,I,h⟩
theorem f7 (h1:PS X st t) (h2:PSs X rest u):PSs X (st::rest) (rE t u):=by
 intro pins s σ H D I h
 refine wpAny_execs_cons (thn (h1 pins s σ H { D with nx:=u D } I h) λf s1 q=>?_)
 cases f with
 | next =>
  obtain ⟨σ',H',I',q⟩:=q
  exact h2 pins s1 σ' H' D I' q
 | ret v=>exact q
 | brk=>exact q
 | cont=>exact q
theorem jJ (h1:PS X st t):PSs X [st] t:=by
 intro pins s σ H D I h
 refine wpAny_execs_cons (thn (h1 pins s σ H D I h) λf s1 q=>?_)
 cases f with
 | next=>exact wpAny_execs_nil q
 | ret v=>exact q
 | brk=>exact q
 | cont=>exact q
theorem Inv.quiet {pins:List (Addr×Obj)} {σ:St} {H:Hp} {s:Shared} (I:Inv X pins σ H s):interactive X.env=false:=by simp [interactive,I.ok.kind]
noncomputable def rH (te:TE):TS:=λD σ H=>te σ H λ_ H1=>D.nx σ H1
theorem jK (he:PE X e te) (hs:swapsWith e none pos.line X.env=pure false:=by rfl):PS X (.Expr e pos) (rH te):=by
 intro pins s σ H D I h
 exact wpAny_Expr_any (thn (he pins s σ H _ I h) λv s1 ⟨x,H1,I1,r1,q1⟩=>⟨σ,H1,I1,q1⟩) I.quiet hs
noncomputable def Zgb (te:TE):TS:=λD σ H=>te σ H D.rt
theorem jc (he:PE X e te):PS X (.Return (some e) pos) (Zgb te):=by
 intro pins s σ H D I h
 exact wpAny_Return_some (thn (he pins s σ H _ I h) λv s1 ⟨x,H1,I1,r1,q1⟩=>⟨x,σ,H1,I1,r1,q1⟩)
noncomputable def Zga:TS:=λD _ H=>D.rt .non H
theorem Zh1:PS X (.Return none pos) Zga:=λ_ _ σ H _ I h=>wpAny_Return_none ⟨.non,σ,H,I,rfl,h⟩
noncomputable def Zgm (c:TT) (t u:TS):TS:=λD σ H=>c σ H λb H1=>if b=true then t D σ H1 else u D σ H1
theorem mG {c:Expr} {a b:List Stmt} {tc:TT} (hc:PT X c tc) (ha:PSs X a t) (hb:PSs X b u):PS X (.If c a b pos) (Zgm tc t u):=by
 intro pins s σ H D I h
 refine wpAny_If (thn (hc pins s σ H _ I h) λd s1 hz0=>?_)
 obtain ⟨H1,I1,q1⟩:=hz0
 cases d with
 | true=>exact ha pins s1 σ H1 D I1 q1
 | false=>exact hb pins s1 σ H1 D I1 q1
end
noncomputable abbrev TG:=V->St->Hp->(St->Hp->Prop)->Prop
noncomputable abbrev i0:=List V->St->Hp->(St->Hp->Prop)->Prop
noncomputable def PG (X:Cx) (target:Expr) (t:TG):Prop :=
 ∀ (pins:List (Addr×Obj)) (s:Shared) (σ:St) (H:Hp) (v:V) (u:Value) (Q:St->Hp->Prop),Inv X pins σ H s->RelV v u->t v σ H Q ->
  wpAny (model X.prog X.w) X.A (assign target X.env u) (λ_ s'=>∃ σ' H',Inv X pins σ' H' s'/\Q σ' H') X.xe s
noncomputable def PGs (X:Cx) (ts:List Expr) (t:i0):Prop :=
 ∀ (pins:List (Addr×Obj)) (s:Shared) (σ:St) (H:Hp) (vs:List V) (us:List Value) (Q:St->Hp->Prop),Inv X pins σ H s->Vals vs us->t vs σ H Q ->
  wpAny (model X.prog X.w) X.A (assignInOrder ((assignEach ts X.env).map (·.2)) us) (λ_ s'=>∃ σ' H',Inv X pins σ' H' s'/\Q σ' H') X.xe s
noncomputable abbrev ve:=V->V->V->Hp->(Hp->Prop)->Prop
noncomputable def Zff (X:Cx) (t:ve):Prop :=
 ∀ (pins:List (Addr×Obj)) (s:Shared) (σ:St) (H:Hp) (o i v:V) (ov iv u:Value) (Q:Hp->Prop),Inv X pins σ H s->RelV o ov->RelV i iv->RelV v u->t o i v H Q ->
  wpAny (model X.prog X.w) X.A (setItem ov iv u) (λ_ s'=>∃ H',Inv X pins σ H' s'/\Q H') X.xe s
noncomputable abbrev vf:=V->V->Hp->VK->Prop
noncomputable def PIp (X:Cx) (op:Operator) (t:vf):Prop :=
 ∀ (pins:List (Addr×Obj)) (s:Shared) (σ:St) (H:Hp) (x y:V) (v u:Value) (Q:VK),Inv X pins σ H s->RelV x v->RelV y u->t x y H Q ->
  wpAny (model X.prog X.w) X.A (inplaceOp op v u) (EP X pins σ Q) X.xe s
section
variable {X:Cx} {pos:Pos}
noncomputable def jr (i:Nat):TG:=λv σ H Q=>Q (σ.set i (some v)) H
theorem ca {i:Nat} {x:Str} (hN:X.N.Nodup) (hi:X.N[i]?=some x) (hx:nS X.env.scope x) (hf:X.fn x=true\/X.env.scope.names.lookup x=some .local:=by first | exact .inl rfl | exact .inr rfl | assumption):PG X (.Name x pos) (jr i):=by
 intro pins s σ H v u Q I r h
 exact wpAny_assign_Name (mi I hN hi hx r (λs' I'=>⟨_,H,I',h⟩) hf)
noncomputable def Zkx:i0:=λvs σ H Q=>vs=[]/\Q σ H
noncomputable def Zky (t:TG) (u:i0):i0:=λvs σ H Q=>∃ v r,vs=v::r/\t v σ H λσ' H'=>u r σ' H' Q
theorem Zie:PGs X [] Zkx:=by
 intro pins s σ H vs us Q I r h
 obtain ⟨e,h⟩:=h
 subst e
 cases r
 exact assignInOrder_nil ⟨σ,H,I,h⟩
theorem Zif {e:Expr} {es:List Expr} {t:TG} {u:i0} (h1:PG X e t) (h2:PGs X es u)
  (hs:(assignEach (e::es) X.env).map (·.2)=assign e X.env::(assignEach es X.env).map (·.2):=by rfl):PGs X (e::es) (Zky t u):=by
 intro pins s σ H vs us Q I r h
 obtain ⟨v,vr,e1,h⟩:=h
 subst e1
 cases r with
 | cons r rr =>
  rw [hs]
  refine assignInOrder_cons (thn (h1 pins s σ H _ _ _ I r h) λ_ s1 hz0=>?_)
  obtain ⟨σ1,H1,I1,q1⟩:=hz0
  exact h2 pins s1 σ1 H1 _ _ Q I1 rr q1
noncomputable def Zkw (K:PySem.W.Frag) (n:Nat) (t:i0):TG:=λv σ H Q=>∃ a xs,v=.ref a/\SqT K H a xs/\xs.length=n/\t xs σ H Q
theorem Zig {es:List Expr} {k:Nat} {t:i0} {n:Nat} (hc:X.calm=true) (h:PGs X es t)
  (hn:(assignEach es X.env).length=n:=by rfl) (hst:(assignEach es X.env).findIdx? (·.1)=none:=by rfl):PG X (.Tuple es k pos) (Zkw X.K n t):=by
 intro pins s σ H v u Q I r hw
 obtain ⟨a,xs,e1,hq,hl,hw⟩:=hw
 subst e1
 cases r
 obtain ⟨its,rv,ht,hz⟩:=I.tuple hq
 refine assign_Tuple_tuple (I.ok.hd hc) ht (by simp [hn,<- hl,rv.length]) hst λh' hx=>?_
 have I1:Inv X pins σ H { s with heap:=h' }:=I.kept (t':=s.toks) λb o e=>hx b o (Nat.ne_of_lt (Heap.lt_size e)) e
 exact h pins _ σ H xs _ Q I1 (by simpa using rv) hw
noncomputable def ZdC (to ti:TE) (t:ve):TG:=λv σ H Q=>to σ H λo H1=>ti σ H1 λi H2=>t o i v H2 λH3=>Q σ H3
theorem oM {o i:Expr} {to ti:TE} {t:ve} (ho:PE X o to) (hi:PE X i ti) (hs:Zff X t)
  (ha:∀ v,assign (.Subscript o i pos) X.env v=(do
   let ov <- holding [v] (eval o X.env)
   let iv <- holding [v,ov] (eval i X.env)
   standAt pos
   holding [v,ov,iv] (setItem ov iv v)
   release [v,ov,iv] []):=by intro _; rfl):PG X (.Subscript o i pos) (ZdC to ti t):=by
 intro pins s σ H v u Q I r h
 rw [ha]
 refine wpAny_bind (wpAny_holding (thn (ho pins s σ H _ I h) λov s1 hz0=>?_))
 obtain ⟨x,H1,I1,r1,q1⟩:=hz0
 refine wpAny_bind (wpAny_holding (thn (hi pins s1 σ H1 _ I1 q1) λiv s2 hz0=>?_))
 obtain ⟨y,H2,I2,r2,q2⟩:=hz0
 refine wpAny_bind (wpAny_standAt (wpAny_bind (wpAny_holding (thn (hs pins s2 σ H2 x y v ov iv u _ I2 r1 r2 r q2) λ_ s3 hz0=>?_))))
 obtain ⟨H3,I3,q3⟩:=hz0
 exact wpAny_release ⟨σ,H3,I3,q3⟩
noncomputable def ig (te:TE) (g:TG):TS:=λD σ H=>te σ H λx H1=>g x σ H1 D.nx
theorem jd {tg e:Expr} {te:TE} {g:TG} (he:PE X e te) (hg:PG X tg g) (hs:swapsWithSole [tg] e pos.line X.env=pure false:=by rfl) (hw:swappedStores [tg] e X.env=pure none:=by rfl)
  (h1:(assignEach [tg] X.env).map (·.2)=[assign tg X.env]:=by rfl):PS X (.Assign [tg] e pos) (ig te g):=by
 intro pins s σ H D I h
 refine wpAny_Assign_stores (thn (he pins s σ H _ I h) λv s1 hz0=>?_) hs hw
 obtain ⟨x,H1,I1,r1,q1⟩:=hz0
 rw [h1]
 exact thn (hg pins s1 σ H1 x v _ I1 r1 q1) λ_ s2 q=>q
theorem bY {i:Nat} {x:Str} {e:Expr} {te:TE} {pos':Pos} (hN:X.N.Nodup) (hi:X.N[i]?=some x) (hx:nS X.env.scope x) (he:PE X e te) (hs:swapsWith e (some (.Name x pos')) pos.line X.env=pure false:=by rfl) (hf:X.fn x=true\/X.env.scope.names.lookup x=some .local:=by first | exact .inl rfl | exact .inr rfl | assumption) :
  PS X (.Assign [.Name x pos'] e pos) (ig te (jr i)):=by
 intro pins s σ H D I h
 refine wpAny_Assign_Name (thn (he pins s σ H _ I h) λv s1 hz0=>?_) hs
 obtain ⟨y,H1,I1,r1,q1⟩:=hz0
 exact mi I1 hN hi hx r1 (λs2 I2=>⟨_,H1,I2,q1⟩) hf
noncomputable def ZaC (i j:Nat) (ta:TA):TS:=λD σ H=>ta σ H λvs H1=>∃ v w,vs=[v,w]/\D.nx ((σ.set i (some v)).set j (some w)) H1
theorem oI {i j:Nat} {x y:Str} {a b:Expr} {ta:TA} {px py pt:Pos} {kt k2 pt2} (hc:X.calm=true) (hN:X.N.Nodup) (hi:X.N[i]?=some x) (hj:X.N[j]?=some y) (hij:i≠j)
  (hx:X.env.scope.names.lookup x=some .local) (hy:X.env.scope.names.lookup y=some .local) (ha:PA X [a,b] ta)
  (hw:swappedStores [.Tuple [.Name x px,.Name y py] kt pt] (.Tuple [a,b] k2 pt2) X.env=pure (some [x,y]))
  (hs:swapsWithSole [.Tuple [.Name x px,.Name y py] kt pt] (.Tuple [a,b] k2 pt2) pos.line X.env=pure false:=by rfl) :
  PS X (.Assign [.Tuple [.Name x px,.Name y py] kt pt] (.Tuple [a,b] k2 pt2) pos) (ZaC i j ta):=by
 intro pins s σ H D I h
 rw [exec_Assign_arm]
 refine wpAny_bind (wpAny_standAt ?_)
 rw [hs]
 refine wpAny_bind (wpAny_pure ?_)
 rw [if_neg (by decide)]
 refine wpAny_bind (Tuple_ (thn (ha _ pins s σ H _ I h) λus s1 hz0=>?_))
 obtain ⟨vs,H1,I1,r1,q1⟩:=hz0
 obtain ⟨v,w,e1,q1⟩:=q1
 subst e1
 obtain ⟨u1,u2,rfl,rv,rw'⟩:∃ u1 u2,us=[u1,u2]/\RelV v u1/\RelV w u2:=by
  cases r1 with
  | cons p q =>
   cases q with
   | cons p' q' =>
    cases q'
    exact ⟨_,_,rfl,p,p'⟩
 refine wpAny_newObj_type ?_ (by show 2<=sizeLine; decide)
 have I2:Inv X pins σ H1 { s1 with heap:=s1.heap.push { cls:=.type "tuple",data:=.seq [u1,u2].toArray } }:=I1.kept (t':=s1.toks) λb o e=>Heap.get?_push_of_some _ e
 rw [hw]
 refine wpAny_bind (wpAny_pure ?_)
 show wpAny (model X.prog X.w) X.A (do rule "assign.swapped-stores"; let items <- unpackItems (.ref s1.heap.objs.size) 2 none; assignInOrder [λv=>bindName X.env y v,λv=>bindName X.env x v] items.reverse; pure Flow.next) _ _ _
 refine wpAny_bind (wpAny_rule (wpAny_bind (unpackItems_tuple (items:=#[u1,u2]) (I.ok.hd hc) (IsTup.new s1.heap _) λh' hx'=>?_)))
 have I3:=I2.kept (h':=h') (t':=s1.toks) λb o e=>hx' b o (Nat.ne_of_lt (Heap.lt_size e)) e
 show wpAny _ _ (assignInOrder [λv=>bindName X.env y v,λv=>bindName X.env x v] [u2,u1] >>= λ_=>pure Flow.next) _ _ _
 refine wpAny_bind (assignInOrder_cons (wpAny_bindName (mi I3 hN hj (.inl hy) rw' (λs2 I4=>?_) (.inr hy))))
 refine assignInOrder_cons (wpAny_bindName (mi I4 hN hi (.inl hx) rv (λs3 I5=>assignInOrder_nil (wpAny_pure ?_)) (.inr hx)))
 rw [List.set_comm _ _ (Ne.symm hij)] at I5
 exact ⟨_,H1,I5,q1⟩
noncomputable def ZaG (i:Nat) (te:TE) (ti:vf):TS:=λD σ H=>∃ x,σ[i]?=some (some x)/\te σ H λy H1=>ti x y H1 λz H2=>D.nx (σ.set i (some z)) H2
theorem Zcs {i:Nat} {x:Str} {e:Expr} {te:TE} {op:Operator} {ti:vf} {pos':Pos} (hN:X.N.Nodup) (hi:X.N[i]?=some x) (hx:nS X.env.scope x) (he:PE X e te) (ho:PIp X op ti) (hf:X.fn x=true\/X.env.scope.names.lookup x=some .local:=by first | exact .inl rfl | exact .inr rfl | assumption) :
  PS X (.AugAssign (.Name x pos') op e pos) (ZaG i te ti):=by
 intro pins s σ H D I h
 obtain ⟨v,e1,h⟩:=h
 obtain ⟨m,hn,hl⟩:=I.loc
 have vis:qH X.env.scope x:=by rcases hx with k | k; exact .inl k; exact .inr (.inl k)
 obtain ⟨u,r,l⟩:=hl i x v hi e1 vis
 refine wpAny_AugAssign_Name ?_
 have go:wpAny (model X.prog X.w) X.A (eval e X.env) (λw s₂=>wpAny (model X.prog X.w) X.A (inplaceOp op u w) (λr s₃=>wpAny (model X.prog X.w) X.A (storeName X.env x r) (λ_=>SP X pins D .next) X.xe s₃) X.xe s₂) X.xe s:=by
  refine thn (he pins s σ H _ I h) λw s1 hz0=>?_
  obtain ⟨y,H1,I1,r1,q1⟩:=hz0
  refine thn (ho pins s1 σ H1 v y u w _ I1 r r1 q1) λz s2 hz0=>?_
  obtain ⟨zv,H2,I2,r2,q2⟩:=hz0
  exact mi I2 hN hi hx r2 (λs3 I3=>⟨_,H2,I3,q2⟩) hf
 rcases l with ⟨hk,hm⟩ | ⟨hk,c,hc,hcell⟩
 ·exact wpAny_loadName_local I.ok.kind hk hn hm go
 ·rcases hk with hk | hk
  ·exact wpAny_loadName_cell I.ok.kind hk hc hcell go
  ·rcases hx with k | k
   ·have:X.env.scope.names.lookup x=some .free:=hk
    rw [k] at this; cases this
   ·have:X.env.scope.names.lookup x=some .free:=hk
    rw [k] at this; cases this
end
section
variable {X:Cx} {pos:Pos}
noncomputable def Zf3 (c:TT) (tb:TS):TS:=λD σ H=>∃ W:Nat->St->Hp->Prop,(∃ m,W m σ H)/\∀ m σ H,W m σ H ->
 c σ H λb H1=>if b=true then ∃ N:St->Hp->Prop,(∀ σ' H',N σ' H'->∃ m',m' < m/\W m' σ' H')/\tb { D with nx:=N,ct:=N,bk:=D.nx } σ H1 else D.nx σ H1
theorem ZhY {c:Expr} {body:List Stmt} {tc:TT} {tb:TS} (hp:PassesOwn (model X.prog X.w) X.A X.env X.xe) (hc:PT X c tc) (hb:PSs X body tb):PS X (.While c body [] pos) (Zf3 tc tb):=by
 intro pins s σ H D I h
 obtain ⟨W,⟨m0,w0⟩,turn⟩:=h
 refine wpAny_While (codeAny_whileLoop (λn s'=>∃ σ' H',Inv X pins σ' H' s'/\W n σ' H') ?_ m0 ⟨σ,H,I,w0⟩)
 rintro n s1 ⟨σ1,H1,I1,w1⟩
 refine wpAny_passesOwn hp (thn (hc pins s1 σ1 H1 _ I1 (turn n σ1 H1 w1)) λb s2 hz0=>?_)
 obtain ⟨H2,I2,q2⟩:=hz0
 cases b with
 | true =>
  obtain ⟨N,hN,q2⟩:=q2
  rw [if_pos rfl]
  refine wpAny_passesOwn hp (thn (hb pins s2 σ1 H2 _ I2 q2) λf s3 q3=>?_)
  cases f with
  | next =>
   obtain ⟨σ3,H3,I3,n3⟩:=q3
   obtain ⟨m',hm,w3⟩:=hN σ3 H3 n3
   exact ⟨m',hm,σ3,H3,I3,w3⟩
  | cont =>
   obtain ⟨σ3,H3,I3,n3⟩:=q3
   obtain ⟨m',hm,w3⟩:=hN σ3 H3 n3
   exact ⟨m',hm,σ3,H3,I3,w3⟩
  | brk=>exact q3
  | ret v=>exact q3
 | false =>
  rw [if_neg Bool.false_ne_true]
  exact wpAny_execs_nil ⟨σ1,H2,I2,q2⟩
end
structure It where
 go:Nat->Hp->Prop
 yld:Nat->Hp->V->Hp->Prop
 stop:Nat->Hp->Prop
noncomputable def gE (X:Cx) (pins:List (Addr×Obj)) (H:Hp) (b:Addr):Prop :=
 H b=none/\b≠X.env.locals/\b ∉ X.fs/\(b∈X.ex\/X.s₀.heap.objs.size<=b)/\(∀ x c,X.env.cells.lookup x=some c->c≠b)/\∀ p∈X.pn++pins,p.1≠b
theorem Inv.fpOk {X:Cx} {pins:List (Addr×Obj)} {σ:St} {H H':Hp} {s:Shared} {b:Addr} (I:Inv X pins σ H s) (hb:s.heap.objs.size<=b) (hn:H' b=none):gE X pins H' b:=by
 refine ⟨hn,Nat.ne_of_gt (Nat.lt_of_lt_of_le I.lt hb),I.nofs hb,.inr (Nat.le_trans I.sz hb),λx c e z=>?_,λp hp z=>?_⟩
 ·obtain ⟨v,q⟩:=I.cell x c e
  exact absurd (Nat.lt_of_lt_of_le q.lt (by rw [z]; exact hb)) (Nat.lt_irrefl _)
 ·exact absurd (Nat.lt_of_lt_of_le (Heap.lt_size (I.pin p hp).1) (by rw [z]; exact hb)) (Nat.lt_irrefl _)
structure Turn (P:Program) (w:World) (K:PySem.W.Frag) (tg:Expr) (J:It) (fp:List Addr) (it:Addr) (tn:Nat->Heap->Prop):Prop where
 mem:it∈fp
 obj:∀ i h,tn i h->∀ b∈fp,∃ o,h.get? b=some o/\∀ v,o.data≠.cell v
 keep:∀ i h h',tn i h->(∀ b∈fp,∀ o,h.get? b=some o->h'.get? b=some o)->tn i h'
 item:∀ (X:Cx),X.prog=P->X.w=w->X.K=K->X.calm=true->∀ (i:Nat) (pins:List (Addr×Obj)) (s:Shared) (σ:St) (H:Hp) (E:Value->Shared->Prop),Inv X pins σ H s->(∀ b∈fp,gE X pins H b)->tn i s.heap->J.go i H ->
  wpAny (model P w) X.A (pyNext (.ref it)) (λr s1=>∃ u,r=some u /\
   wpAny (model P w) X.A (letOwnedTupleGo tg (.ref it) u) (λ_ s2=>∃ x H',Inv X pins σ H' s2/\RelV x u/\J.yld i H x H'/\tn (i+1) s2.heap/\∀ b∈fp,H' b=none) E s1) E s
 done:∀ (X:Cx),X.prog=P->X.w=w->X.K=K->X.calm=true->∀ (i:Nat) (pins:List (Addr×Obj)) (s:Shared) (σ:St) (H:Hp) (E:Value->Shared->Prop),Inv X pins σ H s->(∀ b∈fp,gE X pins H b)->tn i s.heap->J.stop i H ->
  wpAny (model P w) X.A (pyNext (.ref it)) (λr s1=>r=none/\Inv X pins σ H s1) E s
 self:∀ (A:Around) (i:Nat) (s:Shared) (Q:Value->Shared->Prop) (E:Value->Shared->Prop),tn i s.heap->Q (.ref it) s->wpAny (model P w) A (pyIter (.ref it)) Q E s
noncomputable abbrev TI:=St->Hp->(It->Hp->Prop)->Prop
noncomputable def qK (X:Cx) (pins:List (Addr×Obj)) (σ:St) (tg:Expr) (R:It->Hp->Prop) (itv:Value) (s2:Shared):Prop :=
 ∃ (it:Addr) (fp:List Addr) (tn:Nat->Heap->Prop) (J:It) (H':Hp),itv=.ref it/\Inv X pins σ H' s2/\Turn X.prog X.w X.K tg J fp it tn/\tn 0 s2.heap/\(∀ b∈fp,gE X pins H' b)/\R J H'
noncomputable def PI (X:Cx) (tg iter:Expr) (wi:TI):Prop :=
 ∀ (pins:List (Addr×Obj)) (s:Shared) (σ:St) (H:Hp) (R:It->Hp->Prop),Inv X pins σ H s->wi σ H R ->
  wpAny (model X.prog X.w) X.A (eval iter X.env) (λv s1=>wpAny (model X.prog X.w) X.A (pyIter v) (qK X pins σ tg R) X.xe s1) X.xe s
theorem nh {M:Model} {A:Around} {E:Value->Shared->Prop} {s:Shared} {tg:Expr} {it:Addr} {u:Value} {o:Obj} {n:String} {vs:Array Value} {Q:Unit->Shared->Prop} (ho:s.heap.get? it=some o) (hc:o.cls=.type n) (hd:o.data=.fields vs)
  (hn:["enumerate","zip","dict_itemiterator","dict_reverseitemiterator","odict_iterator","itertools.zip_longest","itertools.pairwise"].contains n=false) (hQ:Q () s):wpAny M A (letOwnedTupleGo tg (.ref it) u) Q E s:=by
 unfold letOwnedTupleGo
 cases tg <;> first
  | exact wpAny_pure hQ
  | (cases u <;> first
    | exact wpAny_pure hQ
    | (refine wpAny_bind (wpAny_load ho ?_)
       rw [hc,hd]
       show wpAny M A (if (["enumerate","zip","dict_itemiterator","dict_reverseitemiterator","odict_iterator","itertools.zip_longest","itertools.pairwise"].contains n && vs[0]? == some (rawInt _))=true then _ else _) Q E s
       rw [if_neg (by intro h; rw [hn,Bool.false_and] at h; cases h)]
       exact wpAny_pure hQ))
noncomputable def qQ (K:PySem.W.Frag) (a:Addr):It :=
 ⟨λi H=>∃ xs x,SqL K H a xs/\xs[i]?=some x,λi H x H'=>H'=H/\∀ xs,SqL K H a xs->xs[i]?=some x,λi H=>∃ xs,SqL K H a xs/\xs.length<=i⟩
noncomputable def vk (K:PySem.W.Frag) (a:Addr):It :=
 ⟨λi H=>∃ xs x,SqT K H a xs/\xs[i]?=some x,λi H x H'=>H'=H/\∀ xs,SqT K H a xs->xs[i]?=some x,λi H=>∃ xs,SqT K H a xs/\xs.length<=i⟩
noncomputable def kq (lo:Int) (n:Nat):It:=⟨λi _=>i < n,λi H x H'=>H'=H/\x=.int (lo+i),λi _=>n<=i⟩
theorem Zas {P:Program} {w:World} {K:PySem.W.Frag} {tg:Expr} (a it:Addr):Turn P w K tg (qQ K a) [it] it (λi h=>h.IsListIter it a i) where
 mem:=by simp
 obj:=λi h st b hb=>by
  have e:b=it:=by simpa using hb
  subst e
  obtain ⟨o,e,c,d⟩:=st
  exact ⟨o,e,λv z=>by rw [d] at z; cases z⟩
 keep:=λi h h' st k=>st.at λo e=>k it (by simp) o e
 item:=by
  intro X hP hw hK hc i pins s σ H E I hf st hg
  subst hP hw hK
  obtain ⟨xs,x,hq,hx⟩:=hg
  obtain ⟨its,rv,p,hz⟩:=I.list hq
  obtain ⟨u,hu,ru⟩:=rv.get hx
  obtain ⟨f0,f1,f2,f3,f4,f5⟩:=hf it (by simp)
  refine wpAny_pyNext_list_item st p.isList (x:=u) (by simpa using hu) λh' st' sb=>?_
  have I1:Inv X pins σ H { s with heap:=h' }:=I.turned (t':=s.toks) (λb o hb e=>(sb.2 b hb).trans e) f0 f1 f3 f4 f5
  obtain ⟨o,e,c,d⟩:=id st'
  exact ⟨u,rfl,nh (s:={ s with heap:=h' }) e c d (by decide) ⟨x,H,I1,ru,⟨rfl,λys hy=>by rw [I.list_inj hy hq]; exact hx⟩,st',λb hb=>(hf b hb).1⟩⟩
 done:=by
  intro X hP hw hK hc i pins s σ H E I hf st hg
  subst hP hw hK
  obtain ⟨xs,hq,hx⟩:=hg
  obtain ⟨its,rv,p,hz⟩:=I.list hq
  obtain ⟨f0,f1,f2,f3,f4,f5⟩:=hf it (by simp)
  have hl:=rv.length
  exact wpAny_pyNext_list_end (I.ok.hd hc) st p.isList (by simp; omega) λh' eb=>⟨rfl,I.turned (t':=s.toks) (λb o hb e=>eb b o hb e) f0 f1 f3 f4 f5⟩
 self:=λ_ _ _ _ _ st h=>wpAny_pyIter_listiter st h
theorem ZfU {P:Program} {w:World} {K:PySem.W.Frag} {tg:Expr} (a it:Addr):Turn P w K tg (vk K a) [it] it (λi h=>h.IsTupleIter it a i) where
 mem:=by simp
 obj:=λi h st b hb=>by
  have e:b=it:=by simpa using hb
  subst e
  obtain ⟨o,e,c,d⟩:=st
  exact ⟨o,e,λv z=>by rw [d] at z; cases z⟩
 keep:=λi h h' st k=>st.at λo e=>k it (by simp) o e
 item:=by
  intro X hP hw hK hc i pins s σ H E I hf st hg
  subst hP hw hK
  obtain ⟨xs,x,hq,hx⟩:=hg
  obtain ⟨its,rv,p,hz⟩:=I.tuple hq
  obtain ⟨u,hu,ru⟩:=rv.get hx
  obtain ⟨f0,f1,f2,f3,f4,f5⟩:=hf it (by simp)
  refine wpAny_pyNext_tuple_item st (show s.heap.IsTuple a its.toArray from p) (x:=u) (by simpa using hu) λh' st' sb=>?_
  have I1:Inv X pins σ H { s with heap:=h' }:=I.turned (t':=s.toks) (λb o hb e=>(sb.2 b hb).trans e) f0 f1 f3 f4 f5
  obtain ⟨o,e,c,d⟩:=id st'
  exact ⟨u,rfl,nh (s:={ s with heap:=h' }) e c d (by decide) ⟨x,H,I1,ru,⟨rfl,λys hy=>by rw [I.tuple_inj hy hq]; exact hx⟩,st',λb hb=>(hf b hb).1⟩⟩
 done:=by
  intro X hP hw hK hc i pins s σ H E I hf st hg
  subst hP hw hK
  obtain ⟨xs,hq,hx⟩:=hg
  obtain ⟨its,rv,p,hz⟩:=I.tuple hq
  obtain ⟨f0,f1,f2,f3,f4,f5⟩:=hf it (by simp)
  have hl:=rv.length
  exact wpAny_pyNext_tuple_end (I.ok.hd hc) st (show s.heap.IsTuple a its.toArray from p) (by simp; omega) λh' eb=>⟨rfl,I.turned (t':=s.toks) (λb o hb e=>eb b o hb e) f0 f1 f3 f4 f5⟩
 self:=λ_ _ _ _ _ st h=>wpAny_pyIter_tupleiter st h
theorem ZfW {P:Program} {w:World} {K:PySem.W.Frag} {tg:Expr} (it:Addr) (lo:Int) (n:Nat):Turn P w K tg (kq lo n) [it] it (λi h=>IsRangeIter h it (lo+(i:Nat) * 1) ((n:Int) - (i:Nat)) 1) where
 mem:=by simp
 obj:=λi h st b hb=>by
  have e:b=it:=by simpa using hb
  subst e
  exact ⟨_,st,λv z=>by
   have z':Data.fields _=Data.cell v:=z
   cases z'⟩
 keep:=λi h h' st k=>k it (by simp) _ st
 item:=by
  intro X hP hw hK hc i pins s σ H E I hf st hg
  subst hP hw hK
  obtain ⟨f0,f1,f2,f3,f4,f5⟩:=hf it (by simp)
  have W:=Walks.range (prog:=X.prog) (w:=X.w) (I.ok.hd hc) it lo 1 n
  refine W.item i s _ _ hg st λv h' tk hv st' kk=>?_
  obtain ⟨t,rfl⟩:=hv
  have I1:Inv X pins σ H { s with heap:=h',toks:=tk }:=I.turned (λb o hb e=>kk b o (by simpa using hb) e) f0 f1 f3 f4 f5
  refine ⟨_,rfl,nh (s:={ s with heap:=h',toks:=tk }) (n:="range_iterator") st' rfl rfl (by decide) ⟨.int (lo+i),H,I1,⟨t,?_⟩,⟨rfl,rfl⟩,st',λb hb=>(hf b hb).1⟩⟩
  rw [Int.mul_one]
 done:=by
  intro X hP hw hK hc i pins s σ H E I hf st hg
  subst hP hw hK
  obtain ⟨f0,f1,f2,f3,f4,f5⟩:=hf it (by simp)
  exact wpAny_pyNext_range_end (I.ok.hd hc) st (by have:n<=i:=hg; omega) λh' eb=>⟨rfl,I.turned (t':=s.toks) (λb o hb e=>eb b o hb e) f0 f1 f3 f4 f5⟩
 self:=λ_ _ _ _ _ st h=>wpAny_pyIter_rangeiter st h
section
variable {X:Cx} {tg:Expr}
noncomputable def Zkb (K:PySem.W.Frag) (tl:TE):TI:=λσ H R=>tl σ H λx H1=>∃ a,x=.ref a/\(∃ xs,SqL K H1 a xs)/\R (qQ K a) H1
theorem Zid {l:Expr} {tl:TE} (hl:PE X l tl):PI X tg l (Zkb X.K tl):=by
 intro pins s σ H R I h
 refine thn (hl pins s σ H _ I h) λv s1 hz0=>?_
 obtain ⟨x,H1,I1,r1,q1⟩:=hz0
 obtain ⟨a,e,⟨xs,hq⟩,q⟩:=q1
 subst e
 cases r1
 obtain ⟨its,rv,p,hz⟩:=I1.list hq
 refine wpAny_pyIter_list p.isList ?_
 refine ⟨s1.heap.objs.size,[s1.heap.objs.size],_,_,H1,rfl,I1.kept (t':=s1.toks) λb o e=>Heap.get?_push_of_some _ e,Zas a _,⟨_,Heap.get?_push_size _ rfl,rfl,rfl⟩,λb hb=>?_,q⟩
 have e:b=s1.heap.objs.size:=by simpa using hb
 subst e
 exact I1.fpOk (Nat.le_refl _) (I1.hok.fresh (Nat.le_refl _))
theorem ZbX {pins:List (Addr×Obj)} {σ:St} {H:Hp} {s:Shared} {R:It->Hp->Prop} {E:Value->Shared->Prop} {lo hi:Int} {t u v:Tok} {tk:Nat} (I:Inv X pins σ H s) (h1:-(2 ^ 62)<=lo) (h2:lo < 2 ^ 62) (h3:-(2 ^ 62)<=hi) (h4:hi < 2 ^ 62)
  (q:R (kq lo (hi - lo).toNat) H):wpAny (model X.prog X.w) X.A (pyIter (.ref s.heap.objs.size)) (qK X pins σ tg R) E { s with heap:=s.heap.push { cls:=.type "range",data:=.fields #[.int lo t,.int hi u,.int 1 v] },toks:=tk }:=by
 refine wpAny_pyIter_range (IsRange.new ..) (small_one h1 h2 h3 h4) ?_
 have I1:Inv X pins σ H { s with heap:=s.heap.push { cls:=.type "range",data:=.fields #[.int lo t,.int hi u,.int 1 v] },toks:=tk }:=I.kept λb o e=>Heap.get?_push_of_some _ e
 refine ⟨(s.heap.push { cls:=.type "range",data:=.fields #[.int lo t,.int hi u,.int 1 v] }).objs.size,[(s.heap.push { cls:=.type "range",data:=.fields #[.int lo t,.int hi u,.int 1 v] }).objs.size],_,_,H,rfl,
  I1.kept (t':=tk) λb o e=>Heap.get?_push_of_some _ e,ZfW _ lo (hi - lo).toNat,?_,λb hb=>?_,q⟩
 ·have e1:lo+((0:Nat):Int) * 1=lo:=by simp
  have e2:(((hi - lo).toNat:Nat):Int) - ((0:Nat):Int)=Builtin.Range.rangeSize lo hi 1:=by rw [rangeSize_one]; split <;> omega
  show IsRangeIter _ _ (lo+((0:Nat):Int) * 1) ((((hi - lo).toNat:Nat):Int) - ((0:Nat):Int)) 1
  rw [e1,e2]
  exact Heap.get?_push_size _ rfl
 ·have e:b=(s.heap.push { cls:=.type "range",data:=.fields #[.int lo t,.int hi u,.int 1 v] }).objs.size:=by simpa using hb
  subst e
  exact I1.fpOk (Nat.le_refl _) (I1.hok.fresh (Nat.le_refl _))
noncomputable def Zdv (ta:TA):TI:=λσ H R=>ta σ H λvs H1=>∃ j:Int,vs=[.int j]/\-(2 ^ 62)<=j/\j < 2 ^ 62/\R (kq 0 j.toNat) H1
noncomputable def Zdu (ta:TA):TI:=λσ H R=>ta σ H λvs H1=>∃ i j:Int,vs=[.int i,.int j]/\(-(2 ^ 62)<=i/\i < 2 ^ 62/\-(2 ^ 62)<=j/\j < 2 ^ 62)/\R (kq i (j - i).toNat) H1
theorem jL {a:Expr} {ta:TA} {p pos:Pos} (hg:Gl X "range") (hm:X.mg "range"=none) (ha:PA X [a] ta) (hs:starEach [a] X.env=[(false,eval a X.env)]:=by rfl):PI X tg (.Call (.Name "range" p) [a] [] pos) (Zdv ta):=by
 intro pins s σ H R I h
 refine Call_ (iP I hg hm boot_range (PyProof.Rows.callWith_type1 (thn (ha pos pins s σ H _ I h) λus s1 hz0=>?_) hs rfl))
 obtain ⟨vs,H1,I1,r1,q1⟩:=hz0
 obtain ⟨j,e,q1,q2,q⟩:=q1
 subst e
 cases r1 with
 | cons r rr =>
  cases rr
  obtain ⟨t,rfl⟩:=r
  exact call_range_1 (ZbX I1 (by omega) (by omega) q1 q2 (by simpa using q))
theorem Zic {a b:Expr} {ta:TA} {p pos:Pos} (hg:Gl X "range") (hm:X.mg "range"=none) (ha:PA X [a,b] ta) (hs:starEach [a,b] X.env=[(false,eval a X.env),(false,eval b X.env)]:=by rfl) (hs2:starEach [b] X.env=[(false,eval b X.env)]:=by rfl) :
  PI X tg (.Call (.Name "range" p) [a,b] [] pos) (Zdu ta):=by
 intro pins s σ H R I h
 refine Call_ (iP I hg hm boot_range (PyProof.Rows.callWith_type1 (thn (ha pos pins s σ H _ I h) λus s1 hz0=>?_) (by rw [hs,hs2]) (by rw [hs2]; rfl)))
 obtain ⟨vs,H1,I1,r1,q1⟩:=hz0
 obtain ⟨i,j,e,⟨q1,q2,q3,q4⟩,q⟩:=q1
 subst e
 cases r1 with
 | cons r rr =>
  cases rr with
  | cons r' rr =>
   cases rr
   obtain ⟨t,rfl⟩:=r
   obtain ⟨t',rfl⟩:=r'
   exact call_range_2 (ZbX I1 q1 q2 q3 q4 q)
noncomputable def Zgo (wi:TI) (g:TG) (tb:TS):TS:=λD σ H=>wi σ H λJ H1=>∃ W:Nat->Nat->St->Hp->Prop,(∃ m,W 0 m σ H1)/\∀ i m σ H,W i m σ H ->
 (J.stop i H/\D.nx σ H)\/(J.go i H/\∃ N:St->Hp->Prop,(∀ σ' H',N σ' H'->∃ m',m' < m/\W (i+1) m' σ' H')/\∀ x H',J.yld i H x H'->g x σ H' λσ2 H2=>tb { D with nx:=N,ct:=N,bk:=D.nx } σ2 H2)
noncomputable def oK (fp:List Addr) (h:Heap):List (Addr×Obj):=fp.filterMap λb=>(h.get? b).map λo=>(b,o)
theorem jl {fp:List Addr} {h:Heap} {b:Addr} {o:Obj} (hb:b∈fp) (e:h.get? b=some o):(b,o)∈oK fp h:=List.mem_filterMap.mpr ⟨b,hb,by rw [e]; rfl⟩
theorem ZiU {fp:List Addr} {h:Heap} {p:Addr×Obj} (hp:p∈oK fp h):p.1∈fp/\h.get? p.1=some p.2:=by
 obtain ⟨b,hb,e⟩:=List.mem_filterMap.mp hp
 cases q:h.get? b with
 | none=>rw [q] at e; cases e
 | some o =>
  rw [q] at e
  have e':(b,o)=p:=Option.some.inj e
  subst e'
  exact ⟨hb,q⟩
theorem Inv.pinned {pins:List (Addr×Obj)} {σ:St} {H:Hp} {s:Shared} {fp:List Addr} (I:Inv X pins σ H s) (hf:∀ b∈fp,gE X pins H b) (ho:∀ b∈fp,∃ o,s.heap.get? b=some o/\∀ v,o.data≠.cell v):Inv X (pins++oK fp s.heap) σ H s :=
 I.pins_of λp hp=>(List.mem_append.mp hp).elim (λz=>I.pin p (List.mem_append_right _ z)) λz=>by
  obtain ⟨hb,e⟩:=ZiU z
  obtain ⟨f0,f1,f2,_⟩:=hf p.1 hb
  obtain ⟨o,e',d⟩:=ho p.1 hb
  rw [e] at e'; cases e'
  exact ⟨e,f0,f1,f2,d⟩
theorem Inv.unpinned {pins pl:List (Addr×Obj)} {σ:St} {H:Hp} {s:Shared} (I:Inv X (pins++pl) σ H s):Inv X pins σ H s:=I.pins_of λp hp=>I.pin p (List.mem_append_right _ (List.mem_append_left _ hp))
theorem Zh3 {iter:Expr} {body:List Stmt} {wi:TI} {g:TG} {tb:TS} {pos:Pos} (hp:PassesOwn (model X.prog X.w) X.A X.env X.xe) (hc:X.calm=true) (hi:PI X tg iter wi) (hg:PG X tg g) (hb:PSs X body tb)
  (hs:∀ x,foldedSetIterable iter X.env x=pure x:=by intro _; rfl):PS X (.For tg iter body [] pos) (Zgo wi g tb):=by
 intro pins s σ H D I h
 refine wpAny_For (thn (hi pins s σ H _ I h) λv s1 h1=>thn h1 λitv s2 h2=>?_) hs
 obtain ⟨it,fp,tn,J,H2,e,I2,T,st2,f2,W,⟨m0,w0⟩,turn⟩:=h2
 subst e
 -- what stays true of the iterator's objects through the loop
 have stat:∀ {H':Hp},(∀ b∈fp,H' b=none)->∀ b∈fp,gE X pins H' b:=λhn b hb=>⟨hn b hb,(f2 b hb).2⟩
 refine codeAny_forLoop_any (λn s'=>∃ i σ' H',Inv X pins σ' H' s'/\tn i s'.heap/\(∀ b∈fp,H' b=none)/\W i n σ' H') ?_ m0 ⟨0,σ,H2,I2,st2,λb hb=>(f2 b hb).1,w0⟩
 rintro n s3 ⟨i,σ3,H3,I3,st3,fr3,w3⟩
 rcases turn i n σ3 H3 w3 with ⟨stop,qn⟩ | ⟨go,N,hN,step⟩
 ·refine wpAny_passesOwn hp (thn (T.done X rfl rfl rfl hc i pins s3 σ3 H3 X.xe I3 (stat fr3) st3 stop) λr s4 hz0=>?_)
  obtain ⟨hr,I4⟩:=hz0
  subst hr
  exact wpAny_execs_nil ⟨σ3,H3,I4,qn⟩
 ·refine wpAny_passesOwn hp (thn (T.item X rfl rfl rfl hc i pins s3 σ3 H3 X.xe I3 (stat fr3) st3 go) λr s4 hz0=>?_)
  obtain ⟨u,hr,h4⟩:=hz0
  subst hr
  refine wpAny_passesOwn hp (thn h4 λ_ s5 hz0=>?_)
  obtain ⟨x,H5,I5,r5,y5,st5,fr5⟩:=hz0
  have I5':=I5.pinned (stat fr5) (T.obj _ _ st5)
  refine wpAny_passesOwn hp (thn (hg _ s5 σ3 H5 x u _ I5' r5 (step x H5 y5)) λ_ s6 hz0=>?_)
  obtain ⟨σ6,H6,I6,q6⟩:=hz0
  refine wpAny_passesOwn hp (thn (hb _ s6 σ6 H6 _ I6 q6) λf s7 q7=>?_)
  have again:∀ {σ7:St} {H7:Hp},Inv X (pins++oK fp s5.heap) σ7 H7 s7->N σ7 H7->∃ m,m < n/\∃ i σ' H',Inv X pins σ' H' s7/\tn i s7.heap/\(∀ b∈fp,H' b=none)/\W i m σ' H':=λ{σ7 H7} I7 n7=>by
   obtain ⟨m',hm,w7⟩:=hN σ7 H7 n7
   refine ⟨m',hm,i+1,σ7,H7,I7.unpinned,T.keep _ _ _ st5 λb hb o e=>(I7.pin (b,o) (List.mem_append_right _ (List.mem_append_right _ (jl hb e)))).1,λb hb=>?_,w7⟩
   obtain ⟨o,e,d⟩:=T.obj _ _ st5 b hb
   exact (I7.pin (b,o) (List.mem_append_right _ (List.mem_append_right _ (jl hb e)))).2.1
  cases f with
  | next=>obtain ⟨σ7,H7,I7,n7⟩:=q7; exact again I7 n7
  | cont=>obtain ⟨σ7,H7,I7,n7⟩:=q7; exact again I7 n7
  | brk=>obtain ⟨σ7,H7,I7,q7⟩:=q7; exact ⟨σ7,H7,I7.unpinned,q7⟩
  | ret v=>obtain ⟨x7,σ7,H7,I7,r7,q7⟩:=q7; exact ⟨x7,σ7,H7,I7.unpinned,r7,q7⟩
end
noncomputable abbrev R2:=V->V->Hp->VK->Prop
noncomputable def OpR (X:Cx) (f:Value->Value->Sem Value) (r:R2):Prop :=
 ∀ (pins:List (Addr×Obj)) (s:Shared) (σ:St) (H:Hp) (x y:V) (v u:Value) (Q:VK),Inv X pins σ H s->RelV x v->RelV y u->r x y H Q ->
  wpAny (model X.prog X.w) X.A (f v u) (EP X pins σ Q) X.xe s
noncomputable def vd (X:Cx) (f:Value->Sem Value) (r:V->Hp->VK->Prop):Prop :=
 ∀ (pins:List (Addr×Obj)) (s:Shared) (σ:St) (H:Hp) (x:V) (v:Value) (Q:VK),Inv X pins σ H s->RelV x v->r x H Q ->
  wpAny (model X.prog X.w) X.A (f v) (EP X pins σ Q) X.xe s
noncomputable def gg (X:Cx) (f:Value) (r:List V->Hp->VK->Prop):Prop :=
 ∀ (pins:List (Addr×Obj)) (s:Shared) (σ:St) (H:Hp) (xs:List V) (us:List Value) (Q:VK),Inv X pins σ H s->Vals xs us->r xs H Q ->
  wpAny (model X.prog X.w) X.A (call f us) (EP X pins σ Q) X.xe s
noncomputable def Zpu (X:Cx) (r:V->Hp->(Bool->Hp->Prop)->Prop):Prop :=
 ∀ (pins:List (Addr×Obj)) (s:Shared) (σ:St) (H:Hp) (x:V) (v:Value) (Q:Bool->Hp->Prop),Inv X pins σ H s->RelV x v->r x H Q ->
  wpAny (model X.prog X.w) X.A (truthy v) (TP X pins σ Q) X.xe s
noncomputable def jB (r:R2) (ta tb:TE):TE:=λσ H Q=>ta σ H λx H1=>tb σ H1 λy H2=>r x y H2 Q
noncomputable def tUn (r:V->Hp->VK->Prop) (ta:TE):TE:=λσ H Q=>ta σ H λx H1=>r x H1 Q
noncomputable def rI (C:Int->Int->Prop) (g:Int->Int->V):R2:=λx y H Q=>∃ i j,x=.int i/\y=.int j/\C i j/\Q (g i j) H
noncomputable def gj (g:Int->Int->V):R2:=λx y H Q=>∃ i j,x=.int i/\y=.int j/\Q (g i j) H
noncomputable def rU (g:Int->V):V->Hp->VK->Prop:=λx H Q=>∃ i,x=.int i/\Q (g i) H
section
variable {X:Cx} {a b c:Expr} {ta tb tc:TE} {pos:Pos}
theorem uF (ha:PE X a ta) (hb:PE X b tb) {pins:List (Addr×Obj)} {s:Shared} {σ:St} {H:Hp} {R:V->V->Hp->Prop} (I:Inv X pins σ H s)
  (h:ta σ H λx H1=>tb σ H1 λy H2=>R x y H2) {Q:Value->Shared->Prop} {f:Value->Value->Sem Value}
  (hf:∀ v u s2 x y H2,Inv X pins σ H2 s2->RelV x v->RelV y u->R x y H2->wpAny (model X.prog X.w) X.A (f v u) Q X.xe s2) :
  wpAny (model X.prog X.w) X.A (eval a X.env) (λv s₁=>wpAny (model X.prog X.w) X.A (eval b X.env) (λu s₂=>wpAny (model X.prog X.w) X.A (f v u) Q X.xe s₂) X.xe s₁) X.xe s:=by
 refine thn (ha pins s σ H _ I h) λv s1 hz0=>?_
 obtain ⟨x,H1,I1,r1,q1⟩:=hz0
 refine thn (hb pins s1 σ H1 _ I1 q1) λu s2 hz0=>?_
 obtain ⟨y,H2,I2,r2,q2⟩:=hz0
 exact hf v u s2 x y H2 I2 r1 r2 q2
theorem dk {op:Operator} {r:R2} (ho:OpR X (binaryOp op) r) (ha:PE X a ta) (hb:PE X b tb):PE X (.BinOp a op b pos) (jB r ta tb):=by
 intro pins s σ H Q I h
 exact wpAny_BinOp (uF ha hb I h λv u s2 x y H2 I2 rx ry q=>ho pins s2 σ H2 x y v u Q I2 rx ry q)
theorem Zii {op:UnaryOp} {r:V->Hp->VK->Prop} (ho:vd X (unaryOp op) r) (ha:PE X a ta):PE X (.UnaryOp op a pos) (tUn r ta):=by
 intro pins s σ H Q I h
 exact UnaryOp_ (thn (ha pins s σ H _ I h) λv s1 ⟨x,H1,I1,r1,q1⟩=>ho pins s1 σ H1 x v Q I1 r1 q1)
theorem jh {f:Value->Value->Sem Value} {C:Int->Int->Prop} {g:Int->Int->Int}
  (rule:∀ (i j:Int) (t u:Tok) (s:Shared) (Q:Value->Shared->Prop) (E:Value->Shared->Prop),C i j->Q (.int (g i j) s.toks) { s with toks:=s.toks+1 }->wpAny (model X.prog X.w) X.A (f (.int i t) (.int j u)) Q E s) :
  OpR X f (rI C λi j=>.int (g i j)):=by
 intro pins s σ H x y v u Q I rx ry h
 obtain ⟨i,j,rfl,rfl,hc,q⟩:=h
 obtain ⟨t,rfl⟩:=rx
 obtain ⟨t',rfl⟩:=ry
 exact rule i j t t' s _ _ hc ⟨.int (g i j),H,I.tok _,⟨_,rfl⟩,q⟩
theorem sW {f:Value->Value->Sem Value} {g:Int->Int->Int}
  (rule:∀ (i j:Int) (t u:Tok) (s:Shared) (Q:Value->Shared->Prop) (E:Value->Shared->Prop),Q (.int (g i j) s.toks) { s with toks:=s.toks+1 }->wpAny (model X.prog X.w) X.A (f (.int i t) (.int j u)) Q E s) :
  OpR X f (gj λi j=>.int (g i j)):=by
 intro pins s σ H x y v u Q I rx ry h
 obtain ⟨i,j,rfl,rfl,q⟩:=h
 obtain ⟨t,rfl⟩:=rx
 obtain ⟨t',rfl⟩:=ry
 exact rule i j t t' s _ _ ⟨.int (g i j),H,I.tok _,⟨_,rfl⟩,q⟩
theorem oU {f:Value->Value->Sem Value} {g:Int->Int->Bool}
  (rule:∀ (i j:Int) (t u:Tok) (s:Shared) (Q:Value->Shared->Prop) (E:Value->Shared->Prop),Q (.bool (g i j)) s->wpAny (model X.prog X.w) X.A (f (.int i t) (.int j u)) Q E s) :
  OpR X f (gj λi j=>.bl (g i j)):=by
 intro pins s σ H x y v u Q I rx ry h
 obtain ⟨i,j,rfl,rfl,q⟩:=h
 obtain ⟨t,rfl⟩:=rx
 obtain ⟨t',rfl⟩:=ry
 exact rule i j t t' s _ _ ⟨.bl (g i j),H,I,rfl,q⟩
noncomputable def Zp5 (i j:Int):Prop:=0 < j/\j < 1073741824
noncomputable def Zfi (i j:Int):Prop:=0<=j/\j<=1000000/\i.natAbs < 2 ^ 64
noncomputable def CMul (i j:Int):Prop:=(-(2 ^ 64) < i/\i < 2 ^ 64)\/(-(2 ^ 64) < j/\j < 2 ^ 64)
theorem CMul.ok {i j:Int} (h:CMul i j):IntMulOk i j:=by
 rcases h with ⟨h1,h2⟩ | ⟨h1,h2⟩
 ·exact .of_left (intBits_le_64 h1 h2)
 ·exact .of_right (intBits_le_64 h1 h2)
theorem jO:OpR X (binaryOp .Add) (gj λi j=>.int (i+j)):=sW λ_ _ _ _ _ _ _ q=>add_int q
theorem gm:OpR X (binaryOp .Sub) (gj λi j=>.int (i - j)):=sW λ_ _ _ _ _ _ _ q=>sub_int q
theorem oR:OpR X (binaryOp .Mult) (rI CMul λi j=>.int (i * j)):=jh λ_ _ _ _ _ _ _ hc q=>mul_int q hc.ok
theorem sU:OpR X (binaryOp .FloorDiv) (rI Zp5 λi j=>.int (i / j)):=jh λi j _ _ _ _ _ hc q=>by
 have h1:(0:Int) < j:=hc.1
 have h2:j < 1073741824:=hc.2
 exact floordiv_int (by omega) (by rw [Int.fdiv_eq_ediv_of_nonneg i (by omega)]; exact q) (.inl (PyProof.noPylong_small (by omega)))
theorem jN:OpR X (binaryOp .Mod) (rI (λ_ j=>0 < j) λi j=>.int (i % j)):=jh λi j _ _ _ _ _ hc q=>by
 have h1:(0:Int) < j:=hc
 exact mod_int' (by omega) (by rw [Int.fmod_eq_emod_of_nonneg i (by omega)]; exact q)
theorem ZcL:OpR X (binaryOp .Mod) (rI (λ_ j=>j≠0) λi j=>.int (i.fmod j)):=jh λ_ _ _ _ _ _ _ hc q=>mod_int' hc q
theorem oQ:OpR X (binaryOp .Pow) (rI Zfi λi j=>.int (i ^ j.toNat)):=jh λ_ _ _ _ _ _ _ hc q=>pow_int_small hc.1 hc.2.1 hc.2.2 q
theorem Zj5:OpR X (inplaceOp .Add) (gj λi j=>.int (i+j)):=sW λ_ _ _ _ _ _ _ q=>iadd_int q
theorem unI {f:Value->Sem Value} {g:Int->Int}
  (rule:∀ (i:Int) (t:Tok) (s:Shared) (Q:Value->Shared->Prop) (E:Value->Shared->Prop),Q (.int (g i) s.toks) { s with toks:=s.toks+1 }->wpAny (model X.prog X.w) X.A (f (.int i t)) Q E s) :
  vd X f (rU λi=>.int (g i)):=by
 intro pins s σ H x v Q I rx h
 obtain ⟨i,rfl,q⟩:=h
 obtain ⟨t,rfl⟩:=rx
 exact rule i t s _ _ ⟨.int (g i),H,I.tok _,⟨_,rfl⟩,q⟩
theorem ZfP:vd X (unaryOp .USub) (rU λi=>.int (-i)):=unI λ_ _ _ _ _ q=>neg_int q
end
noncomputable def scal:V->V->Bool
 | .non,.non=>true | .non,.int _=>true | .int _,.non=>true | .non,.bl _=>true | .bl _,.non=>true | .non,.str _=>true | .str _,.non=>true
 | .int _,.int _=>true | .bl _,.bl _=>true | .str _,.str _=>true | .byt _,.byt _=>true
 | .int _,.str _=>true | .str _,.int _=>true | .bl _,.str _=>true | .str _,.bl _=>true
 | _,_=>false
noncomputable def rEq:R2:=λx y H Q=>scal x y=true/\Q (.bl (decide (x=y))) H
noncomputable def rNe:R2:=λx y H Q=>scal x y=true/\Q (.bl (!decide (x=y))) H
theorem Zei {i j:Int}:decide (V.int i=V.int j)=(i == j):=by
 rw [Bool.eq_iff_iff]
 simp
theorem Zek {i j:Bool}:decide (V.bl i=V.bl j)=(i == j):=by
 rw [Bool.eq_iff_iff]
 simp
theorem pY {i j:Str}:decide (V.str i=V.str j)=(i == j):=by
 rw [Bool.eq_iff_iff]
 simp
theorem Zej {i j:Array UInt8}:decide (V.byt i=V.byt j)=(i.toList == j.toList):=by
 rw [Bool.eq_iff_iff]
 cases i
 cases j
 simp
section
variable {X:Cx} {a b c:Expr} {ta tb tc:TE} {pos:Pos}
theorem cQ {pins:List (Addr×Obj)} {σ:St} {H:Hp} {s:Shared} {Q:VK} {k k':Bool} (I:Inv X pins σ H s) (q:Q (.bl k) H) (e:k=k'):EP X pins σ Q (.bool k') s:=by
 subst e
 exact ⟨.bl k,H,I,rfl,q⟩
theorem ZiL:OpR X (compareOp .Eq) rEq:=by
 intro pins s σ H x y v u Q I rx ry h
 obtain ⟨hs,q⟩:=h
 cases x with
 | non =>
  cases rx
  cases y with
  | non=>cases ry; exact PySem.EqNone.eq_none_none (cQ I q (by simp))
  | bl j=>cases ry; exact PySem.EqNone.eq_none_bool (cQ I q (by simp))
  | int j=>obtain ⟨t',rfl⟩:=ry; exact PySem.EqNone.eq_none_int (cQ I q (by simp))
  | str j=>obtain ⟨t',rfl⟩:=ry; exact PySem.EqNone.eq_none_str (cQ I q (by simp))
  | _=>exact absurd (show false=true from hs) Bool.false_ne_true
 | bl i =>
  cases rx
  cases y with
  | non=>cases ry; exact PySem.EqNone.eq_bool_none (cQ I q (by simp))
  | bl j=>cases ry; exact eq_bool (cQ I q Zek)
  | str j=>obtain ⟨t',rfl⟩:=ry; exact PySem.EqMixed.eq_bool_str (cQ I q (by simp))
  | _=>exact absurd (show false=true from hs) Bool.false_ne_true
 | int i =>
  obtain ⟨t,rfl⟩:=rx
  cases y with
  | non=>cases ry; exact PySem.EqNone.eq_int_none (cQ I q (by simp))
  | int j=>obtain ⟨t',rfl⟩:=ry; exact eq_int (cQ I q Zei)
  | str j=>obtain ⟨t',rfl⟩:=ry; exact PySem.EqMixed.eq_int_str (cQ I q (by simp))
  | _=>exact absurd (show false=true from hs) Bool.false_ne_true
 | str i =>
  obtain ⟨t,rfl⟩:=rx
  cases y with
  | non=>cases ry; exact PySem.EqNone.eq_str_none (cQ I q (by simp))
  | bl j=>cases ry; exact PySem.EqMixed.eq_str_bool (cQ I q (by simp))
  | int j=>obtain ⟨t',rfl⟩:=ry; exact PySem.EqMixed.eq_str_int (cQ I q (by simp))
  | str j=>obtain ⟨t',rfl⟩:=ry; exact eq_str (cQ I q pY)
  | _=>exact absurd (show false=true from hs) Bool.false_ne_true
 | byt i =>
  obtain ⟨t,rfl⟩:=rx
  cases y with
  | byt j=>obtain ⟨t',rfl⟩:=ry; exact PySem.W.eq_bytes (cQ I q Zej)
  | _=>exact absurd (show false=true from hs) Bool.false_ne_true
 | _=>cases y <;> exact absurd (show false=true from hs) Bool.false_ne_true
theorem ZiG:OpR X (compareOp .NotEq) rNe:=by
 intro pins s σ H x y v u Q I rx ry h
 obtain ⟨hs,q⟩:=h
 cases x with
 | non =>
  cases rx
  cases y with
  | non=>cases ry; exact PySem.EqNone.ne_none_none (cQ I q (by simp))
  | bl j=>cases ry; exact PySem.EqNone.ne_none_bool (cQ I q (by simp))
  | int j=>obtain ⟨t',rfl⟩:=ry; exact PySem.EqNone.ne_none_int (cQ I q (by simp))
  | str j=>obtain ⟨t',rfl⟩:=ry; exact PySem.EqNone.ne_none_str (cQ I q (by simp))
  | _=>exact absurd (show false=true from hs) Bool.false_ne_true
 | bl i =>
  cases rx
  cases y with
  | non=>cases ry; exact PySem.EqNone.ne_bool_none (cQ I q (by simp))
  | bl j=>cases ry; exact ne_bool (cQ I q (congrArg not Zek))
  | str j=>obtain ⟨t',rfl⟩:=ry; exact PySem.EqMixed.ne_bool_str (cQ I q (by simp))
  | _=>exact absurd (show false=true from hs) Bool.false_ne_true
 | int i =>
  obtain ⟨t,rfl⟩:=rx
  cases y with
  | non=>cases ry; exact PySem.EqNone.ne_int_none (cQ I q (by simp))
  | int j=>obtain ⟨t',rfl⟩:=ry; exact ne_int (cQ I q (congrArg not Zei))
  | str j=>obtain ⟨t',rfl⟩:=ry; exact PySem.EqMixed.ne_int_str (cQ I q (by simp))
  | _=>exact absurd (show false=true from hs) Bool.false_ne_true
 | str i =>
  obtain ⟨t,rfl⟩:=rx
  cases y with
  | non=>cases ry; exact PySem.EqNone.ne_str_none (cQ I q (by simp))
  | bl j=>cases ry; exact PySem.EqMixed.ne_str_bool (cQ I q (by simp))
  | int j=>obtain ⟨t',rfl⟩:=ry; exact PySem.EqMixed.ne_str_int (cQ I q (by simp))
  | str j=>obtain ⟨t',rfl⟩:=ry; exact ne_str (cQ I q (congrArg not pY))
  | _=>exact absurd (show false=true from hs) Bool.false_ne_true
 | byt i =>
  obtain ⟨t,rfl⟩:=rx
  cases y with
  | byt j=>obtain ⟨t',rfl⟩:=ry; exact PySem.W.ne_bytes (cQ I q (congrArg not Zej))
  | _=>exact absurd (show false=true from hs) Bool.false_ne_true
 | _=>cases y <;> exact absurd (show false=true from hs) Bool.false_ne_true
theorem oS:OpR X (compareOp .Lt) (gj λi j=>.bl (decide (i < j))):=oU λ_ _ _ _ _ _ _ q=>lt_int q
theorem sT:OpR X (compareOp .LtE) (gj λi j=>.bl (decide (i<=j))):=oU λ_ _ _ _ _ _ _ q=>le_int q
theorem mJ:OpR X (compareOp .Gt) (gj λi j=>.bl (decide (j < i))):=oU λ_ _ _ _ _ _ _ q=>gt_int q
theorem ZiJ:OpR X (compareOp .GtE) (gj λi j=>.bl (decide (j<=i))):=oU λ_ _ _ _ _ _ _ q=>ge_int q
theorem ZcM:OpR X (compareOp .Is) (λx y H Q=>y=.non/\Q (.bl (decide (x=.non))) H):=by
 intro pins s σ H x y v u Q I rx ry h
 obtain ⟨rfl,q⟩:=h
 cases ry
 refine is_none_gen (cQ I q ?_)
 cases x <;> first
  | (cases rx; rfl)
  | (obtain ⟨t,rfl⟩:=rx; rfl)
theorem sS:OpR X (compareOp .IsNot) (λx y H Q=>y=.non/\Q (.bl (!decide (x=.non))) H):=by
 intro pins s σ H x y v u Q I rx ry h
 obtain ⟨rfl,q⟩:=h
 cases ry
 refine isnot_none_gen (cQ I q ?_)
 cases x <;> first
  | (cases rx; rfl)
  | (obtain ⟨t,rfl⟩:=rx; rfl)
theorem OpR.or {f:Value->Value->Sem Value} {r r':R2} (h:OpR X f r) (h':OpR X f r'):OpR X f (λx y H Q=>r x y H Q\/r' x y H Q):=by
 intro pins s σ H x y v u Q I rx ry q
 rcases q with q | q
 ·exact h pins s σ H x y v u Q I rx ry q
 ·exact h' pins s σ H x y v u Q I rx ry q
theorem nomark (b:Expr) {op:CmpOp} (h:op≠.In:=by decide) (h2:op≠.NotIn:=by decide):behindInMarks op b=false:=by
 have e1:(op == CmpOp.In)=false:=by cases op <;> first | rfl | exact absurd rfl h
 have e2:(op == CmpOp.NotIn)=false:=by cases op <;> first | rfl | exact absurd rfl h2
 cases b <;> first | rfl | (show (_ && (op == CmpOp.In || op == CmpOp.NotIn) && _)=false; rw [e1,e2,Bool.or_false,Bool.and_false,Bool.false_and])
theorem Ziw {op:CmpOp} {r:R2} (ho:OpR X (compareOp op) r) (ha:PE X a ta) (hb:PE X b tb) (hm:behindInMarks op b=false):PE X (.Compare a [op] [b] pos) (jB r ta tb):=by
 intro pins s σ H Q I h
 exact wpAny_Compare1 (uF ha hb I h λv u s2 x y H2 I2 rx ry q=>ho pins s2 σ H2 x y v u Q I2 rx ry q) hm
noncomputable def oh (t:TE):TT:=λσ H Q=>t σ H λx H'=>∃ k,x=.bl k/\Q k H'
theorem kK {op:CmpOp} {r:R2} (ho:OpR X (compareOp op) r) (ha:PE X a ta) (hb:PE X b tb) (hm:behindInMarks op b=false):PT X (.Compare a [op] [b] pos) (oh (jB r ta tb)):=by
 intro pins s σ H Q I h
 refine wpAny_isTrue_Compare1 (thn (ha pins s σ H _ I h) λv s1 ⟨x,H1,I1,r1,q1⟩=>thn (hb pins s1 σ H1 _ I1 q1) λu s2 ⟨y,H2,I2,r2,q2⟩ =>
  thn (ho pins s2 σ H2 x y v u _ I2 r1 r2 q2) λc s3 ⟨z,H3,I3,r3,k,e,q3⟩=>?_) hm
 subst e
 cases r3
 exact wpAny_truthy_bool ⟨H3,I3,q3⟩
noncomputable def ZaD (r r':R2) (ta tb tc:TE):TE:=λσ H Q=>ta σ H λx H1=>tb σ H1 λy H2=>r x y H2 λz H3=>∃ k,z=.bl k /\
 (if k=true then tc σ H3 λw' H4=>r' y w' H4 Q else Q (.bl false) H3)
theorem Zix {op op':CmpOp} {r r':R2} (ho:OpR X (compareOp op) r) (ho':OpR X (compareOp op') r') (ha:PE X a ta) (hb:PE X b tb) (hc:PE X c tc)
  (hm:lastMarks [op,op'] [b,c]=false:=by with_unfolding_all rfl):PE X (.Compare a [op,op'] [b,c] pos) (ZaD r r' ta tb tc):=by
 intro pins s σ H Q I h
 refine Compare_chain (thn (ha pins s σ H _ I h) λv s1 ⟨x,H1,I1,r1,q1⟩=>chain_link (thn (hb pins s1 σ H1 _ I1 q1) λu s2 ⟨y,H2,I2,r2,q2⟩ =>
  thn (ho pins s2 σ H2 x y v u _ I2 r1 r2 q2) λd s3 ⟨z,H3,I3,r3,k,e,q3⟩=>?_)) hm
 subst e
 cases r3
 refine wpAny_truthy_bool ?_
 cases k with
 | false=>exact ite_ff ⟨.bl false,H3,I3,rfl,q3⟩
 | true=>exact ite_tt (chain_last (thn (hc pins s3 σ H3 _ I3 q3) λw' s4 ⟨z',H4,I4,r4,q4⟩=>ho' pins s4 σ H4 y z' u w' Q I4 r2 r4 q4))
noncomputable def Zfc (K:PySem.W.Frag) (x:V) (H:Hp) (k:Bool):Prop :=
 match x with
 | .non=>k=false
 | .bl b=>k=b
 | .int i=>k=(i != 0)
 | .str y=>y.length<=sizeLine/\k=((y.length:Int) != 0)
 | .byt y=>y.size<=sizeLine/\k=((y.size:Int) != 0)
 | .ref p=>(∃ xs,SqL K H p xs/\k=!xs.isEmpty)\/(∃ xs,SqT K H p xs/\k=!xs.isEmpty)\/∃ kvs,H p=some (.dK kvs)/\k=!kvs.isEmpty
 | _=>False
theorem Zj3 {κ:Type} {kvs:List (κ×V)} {vs:List (κ×Value)} (r:KV kvs vs):(!vs.isEmpty)=!kvs.isEmpty:=by
 cases r <;> rfl
theorem Zdo {xs:List V} {its:List Value} (r:Vals xs its):(!its.toArray.isEmpty)=!xs.isEmpty:=by
 cases r <;> simp
theorem jS:(sizeLine:Nat) < 2 ^ 63:=by rw [sizeLine_eq]; decide
theorem ZfZ:Zpu X (λx H Q=>∃ k,Zfc X.K x H k/\Q k H):=by
 intro pins s σ H x v Q I rx h
 obtain ⟨k,e,q⟩:=h
 have hl:=jS
 have hs:sizeLine=16777216:=sizeLine_eq
 cases x with
 | non =>
  cases rx
  have e':k=false:=e
  subst e'
  exact truthy_none ⟨H,I,q⟩
 | bl b =>
  cases rx
  have e':k=b:=e
  subst e'
  exact wpAny_truthy_bool ⟨H,I,q⟩
 | int i =>
  obtain ⟨t,rfl⟩:=rx
  have e':k=(i != 0):=e
  subst e'
  exact PySem.P.truthy_int ⟨H,I,q⟩
 | str y =>
  obtain ⟨t,rfl⟩:=rx
  obtain ⟨hy,e'⟩:y.length<=sizeLine/\k=((y.length:Int) != 0):=e
  subst e'
  exact PySem.P.truthy_str (by omega) ⟨H,I.tok _,q⟩
 | byt y =>
  obtain ⟨t,rfl⟩:=rx
  obtain ⟨hy,e'⟩:y.size<=sizeLine/\k=((y.size:Int) != 0):=e
  subst e'
  exact PySem.W.truthy_bytes (by omega) ⟨H,I.tok _,q⟩
 | ref p =>
  cases rx
  have e':(∃ xs,SqL X.K H p xs/\k=!xs.isEmpty)\/(∃ xs,SqT X.K H p xs/\k=!xs.isEmpty)\/∃ kvs,H p=some (.dK kvs)/\k=!kvs.isEmpty:=e
  rcases e' with ⟨xs,hx,e'⟩ | ⟨xs,hx,e'⟩ | ⟨kvs,hx,e'⟩
  ·subst e'
   obtain ⟨its,r,pl,hz⟩:=I.list hx
   have hlen:=r.length
   exact wpAny_truthy_list pl.isList (by simp only [List.size_toArray]; omega) ⟨H,I.tok _,by rw [Zdo r]; exact q⟩
  ·subst e'
   obtain ⟨its,r,pl,hz⟩:=I.tuple hx
   have hlen:=r.length
   exact truthy_tuple pl (by simp only [List.size_toArray]; omega) ⟨H,I.tok _,by rw [Zdo r]; exact q⟩
  ·subst e'
   obtain ⟨hz,hS,vs,r,m⟩:kvs.length<=sizeLine/\(p == sysModules)=false/\∃ vs,KV kvs vs/\s.heap.DictOf (tB X.prog X.w) p vs:=I.hok p _ hx
   have hlen:kvs.length=vs.length:=Paired.length r
   exact wpAny_truthy_dict hS m (by omega) ⟨H,I.tok _,by rw [Zj3 r]; exact q⟩
 | _=>exact (show False from e).elim
theorem Zcr (ha:PE X a ta) (he:∀ whole,isTrue a X.env whole=(do let v <- whole; standAt a.pos; holding [v] (truthy v))) :
  PT X a (λσ H Q=>ta σ H λx H'=>∃ k,Zfc X.K x H' k/\Q k H'):=by
 intro pins s σ H Q I h
 exact isTrue_plain (thn (ha pins s σ H _ I h) λv s1 ⟨x,H1,I1,r1,q1⟩=>ZfZ pins s1 σ H1 x v Q I1 r1 q1) (he _)
theorem gS {x:V} {us:List Value} (r:Vals [x] us):∃ u,us=[u]/\RelV x u:=by
 cases r with
 | cons r1 r2=>cases r2; exact ⟨_,rfl,r1⟩
theorem n8 {x y:V} {us:List Value} (r:Vals [x,y] us):∃ u w',us=[u,w']/\RelV x u/\RelV y w':=by
 cases r with
 | cons r1 r2 =>
  cases r2 with
  | cons r3 r4=>cases r4; exact ⟨_,_,rfl,r1,r3⟩
theorem lG:gg X (.builtin "abs") (λxs H Q=>∃ i,xs=[.int i]/\Q (.int (if i < 0 then -i else i)) H):=by
 intro pins s σ H xs us Q I r h
 obtain ⟨i,rfl,q⟩:=h
 obtain ⟨u,rfl,t,rfl⟩:=gS r
 exact call_abs_int λu tk=>⟨.int (if i < 0 then -i else i),H,I.tok _,⟨_,rfl⟩,q⟩
theorem Zeu (hc:X.calm=true):gg X (.builtin "max") (λxs H Q=>∃ i j,xs=[.int i,.int j]/\Q (.int (if j > i then j else i)) H):=by
 intro pins s σ H xs us Q I r h
 obtain ⟨i,j,rfl,q⟩:=h
 obtain ⟨u,w',rfl,⟨t,rfl⟩,⟨t',rfl⟩⟩:=n8 r
 refine max_two_ints (I.ok.hd hc) λh' tk k=>⟨_,H,I.kept k,?_,q⟩
 by_cases hj:j > i
 ·rw [if_pos hj,if_pos hj]; exact ⟨_,rfl⟩
 ·rw [if_neg hj,if_neg hj]; exact ⟨_,rfl⟩
theorem uA:gg X (.type "int") (λxs H Q=>(∃ i,xs=[.int i]/\Q (.int i) H)\/∃ k,xs=[.bl k]/\Q (.int (if k then 1 else 0)) H):=by
 intro pins s σ H xs us Q I r h
 rcases h with ⟨i,rfl,q⟩ | ⟨k,rfl,q⟩
 ·obtain ⟨u,rfl,t,rfl⟩:=gS r
  exact call_int_int ⟨.int i,H,I,⟨_,rfl⟩,q⟩
 ·obtain ⟨u,rfl,r1⟩:=gS r
  cases r1
  exact call_int_bool ⟨.int (if k then 1 else 0),H,I.tok _,⟨_,rfl⟩,q⟩
end
structure ObjM (h:Heap) (x dx C:Addr) (mA:Str->Option Value):Prop where
 obj:h.get? x=some (PySem.W.instObj C dx)
 ns:h.Ns1 dx mA
 ne:dx≠x
theorem Zjr {h:Heap} {dx:Addr} {mA:Str->Option Value} (n:h.Ns1 dx mA):∃ od,h.get? dx=some od/\∀ name,PySem.W.lookIn name od=some (mA name):=by
 obtain ⟨o,es,ep,ho,hd,hk,_,hm⟩:=n
 refine ⟨o,ho,λname=>?_⟩
 have e:=hm name
 unfold nsFind findBy at e
 rw [<- Array.find?_toList] at e
 unfold PySem.W.lookIn
 rw [hd]
 dsimp only
 split
 ·rename_i y q
  rw [q] at e
  exact congrArg some e
 ·rename_i q
  rw [q] at e
  have a:es.toList.any (·.refKey)=false:=by
   rw [List.any_eq_false]
   intro y hy
   obtain ⟨z,t,hkey⟩:=hk y (Array.mem_toList_iff.mp hy)
   simp [DictEntry.refKey,hkey]
  have a':¬ es.toList.any (·.refKey)=true:=by rw [a]; exact Bool.false_ne_true
  rw [if_neg a']
  exact congrArg some e
theorem ObjM.look {h:Heap} {x dx C:Addr} {mA:Str->Option Value} (I:ObjM h x dx C mA):∃ od,PySem.W.InstAt h x (PySem.W.instObj C dx) C (some od)/\∀ name,PySem.W.lookIn name od=some (mA name) :=
 let ⟨od,ho,hl⟩:=Zjr I.ns
 ⟨od,⟨I.obj,rfl,rfl,ho⟩,hl⟩
section
variable {prog:Program} {w:World} {A:Around} {E:Value->Shared->Prop} {s:Shared} {K:PySem.W.Frag} {x dx C f:Addr} {mA:Str->Option Value} {name:Str} {v:Value}
theorem Zkh {expr:Bool} {Q:Value->Shared->Prop} (X:K.In s.heap) (I:ObjM s.heap x dx C mA) (hg:PySem.W.plainGet K C name=true) (hh:PySem.W.hasDictIn K C=true)
  (ha:PySem.W.findIn K (.ref C) name=some none) (hv:mA name=some v) (hv':PySem.W.handedIn v=true) (h:Q v { s with toks:=s.toks+1 }) :
  wpAny (model prog w) A (getAttr (.ref x) name expr) Q E s:=by
 obtain ⟨od,J,hl⟩:=I.look
 exact PySem.W.get_value X J (PySem.W.plainGet_of hg).1 (PySem.W.findObj_own hh ha rfl (by rw [hl,hv])) hv' h
theorem Zkg {pl:Sem Bool} {Q:Value×List Value->Shared->Prop} (X:K.In s.heap) (I:ObjM s.heap x dx C mA) (hg:PySem.W.plainGet K C name=true)
  (hf:PySem.W.findIn K (.ref C) name=some (some (.ref f))) (ht:PySem.W.isFn K (.ref f)=true) (hv:mA name=none) (h:Q (.ref f,[.ref x]) s) :
  wpAny (model prog w) A (getMethod (.ref x) name pl) Q E s:=by
 obtain ⟨od,J,hl⟩:=I.look
 exact PySem.W.method_fn X J (PySem.W.plainGet_of hg).1 (PySem.W.plainGet_of hg).2 hf (beq_iff_eq.mp ht) (by show (PySem.W.lookIn name od).map (·.isSome)=some false; rw [hl,hv]; rfl) h
theorem ZgQ {ns:List Str} {Q:Unit->Shared->Prop} (X:K.In s.heap) (I:ObjM s.heap x dx C mA)
  (hs:PySem.W.findIn K (.ref C) "__setattr__"=some (some (.builtin "object.__setattr__"))) (hp:PySem.W.plainOver K C=true) (ht:PySem.W.takerIn K C name=some none) (hh:PySem.W.hasDictIn K C=true)
  (hw:PySem.Within mA ns) (hsz:ns.length<=sizeLine)
  (h:∀ h',ObjM h' x dx C (λy=>if y=name then some v else mA y)->Heap.SameBut dx s.heap h'->Q () { s with heap:=h',toks:=s.toks+2 }) :
  wpAny (model prog w) A (setAttr (.ref x) name v) Q E s:=by
 obtain ⟨od,J,hl⟩:=I.look
 refine PySem.W.set_plain X J hs (PySem.W.osa_open (s:={ s with toks:=s.toks+1 }) (r:=none) X J hp ht λb=>?_)
 obtain ⟨cd,hc,hd'⟩:=PySem.W.any_some hh
 have hx:s.heap.get? x=some ⟨.ref C,some dx,.plain,#[]⟩:=I.obj
 refine wpAny_bind (wpAny_pure (wpAny_bind (wpAny_bind (wpAny_loadPart hx (wpAny_bind (PySem.W.Looks.here (s:={ s with toks:=s.toks+1 }) (PySem.W.looks_clsIn X hc) ?_))))))
 rw [hd']
 refine wpAny_pure (a:=some dx) (wpAny_bind (wpAny_pure (wpAny_bind ?_)))
 refine wpAny_nsSet1 (s:={ s with toks:=s.toks+1 }) I.ns λh' hn2 hs2=>?_
 obtain ⟨oD,esD,epD,hoD,ah,hcD⟩:=hn2.count (PySem.Within.cons name v hw)
 refine wpAny_bind (wpAny_lookBehind hoD (by rw [ah]; exact pastItsLine_dict (Nat.le_trans hcD (by rw [List.length_cons]; omega))) ?_)
 exact wpAny_pure (h _ ⟨(hs2.2 _ (Ne.symm I.ne)).trans I.obj,hn2,I.ne⟩ hs2)
theorem Zjl {R:Result->Shared->Prop} {vs:List Value} {kw:List (Str×Value)} (X:K.In s.heap) (hm:PySem.W.makesIn K C=true)
  (hi:PySem.W.findIn K (.ref C) "__init__"=some (some (.ref f))) (hf:PySem.W.typeIn K (.ref f)=some (.type "function"))
  (h:codeAny (model prog w) (A.under (.builtin "type.__call__" ⟨.ref C::vs,kw⟩)) (.call (.ref f) ⟨.ref (s.heap.objs.size+1)::vs,kw⟩) (PySem.W.InitBack (s.heap.objs.size+1) R)
   { s with heap:=(s.heap.push PySem.W.emptyDict).push (PySem.W.instObj C s.heap.objs.size) }) :
  codeAny (model prog w) A (.call (.ref C) ⟨vs,kw⟩) R s:=by
 obtain ⟨hh,g,d,t,os⟩:=s
 exact PySem.W.make_core (PySem.W.makes_of X hm) (PySem.W.looks_findIn X hi) (λself=>PySem.W.bind_fn X self hf) (.inl rfl) h
end
noncomputable def eF (f:Str) (v:V):List (Str×V)->List (Str×V)
 | []=>[(f,v)]
 | (g,x)::r=>if g=f then (g,v)::r else (g,x)::eF f v r
theorem Zc5 (f g:Str) (v:V):∀ fs:List (Str×V),(eF f v fs).lookup g=if g=f then some v else fs.lookup g
 | []=>by
  show List.lookup g [(f,v)]=_
  by_cases h:g=f
  ·have hb:(g == f)=true:=beq_iff_eq.mpr h
   simp only [List.lookup,hb,if_pos h]
  ·have hb:(g == f)=false:=beq_eq_false_iff_ne.mpr h
   simp only [List.lookup,hb,if_neg h]
 | (k,x)::r=>by
  have ih:=Zc5 f g v r
  rw [show eF f v ((k,x)::r)=(if k=f then (k,v)::r else (k,x)::eF f v r) from rfl]
  by_cases hk:k=f
  ·rw [if_pos hk]
   by_cases h:g=k
   ·have hb:(g == k)=true:=beq_iff_eq.mpr h
    simp only [List.lookup,hb,if_pos (h.trans hk)]
   ·have hb:(g == k)=false:=beq_eq_false_iff_ne.mpr h
    simp only [List.lookup,hb,if_neg (λe:g=f=>h (e.trans hk.symm))]
  ·rw [if_neg hk]
   by_cases h:g=k
   ·have hb:(g == k)=true:=beq_iff_eq.mpr h
    simp only [List.lookup,hb,if_neg (λe:g=f=>hk (h.symm.trans e))]
   ·have hb:(g == k)=false:=beq_eq_false_iff_ne.mpr h
    simp only [List.lookup,hb]
    exact ih
theorem tY (f:Str) (v:V):∀ fs:List (Str×V),f∈(eF f v fs).map (·.1)/\∀ g,g∈fs.map (·.1)->g∈(eF f v fs).map (·.1)
 | []=>⟨by simp [eF],λg h=>by simp at h⟩
 | (k,x)::r=>by
  obtain ⟨i1,i2⟩:=tY f v r
  rw [show eF f v ((k,x)::r)=(if k=f then (k,v)::r else (k,x)::eF f v r) from rfl]
  by_cases hk:k=f
  ·rw [if_pos hk]
   subst hk
   exact ⟨by simp,λg h=>by simpa using h⟩
  ·rw [if_neg hk]
   refine ⟨?_,λg h=>?_⟩
   ·rw [List.map_cons]
    exact List.mem_cons_of_mem _ i1
   ·rw [List.map_cons] at h ⊢
    rcases List.mem_cons.mp h with e | e
    ·exact List.mem_cons.mpr (.inl e)
    ·exact List.mem_cons_of_mem _ (i2 g e)
theorem Zc7 (f:Str) (v:V):∀ fs:List (Str×V),(eF f v fs).length<=fs.length+1
 | []=>by simp [eF]
 | (k,x)::r=>by
  have ih:=Zc7 f v r
  rw [show eF f v ((k,x)::r)=(if k=f then (k,v)::r else (k,x)::eF f v r) from rfl]
  by_cases hk:k=f
  ·rw [if_pos hk,List.length_cons,List.length_cons]; omega
  ·rw [if_neg hk,List.length_cons,List.length_cons]; omega
theorem RelO.some_of {v:V} {o:Option Value} (r:RelO (some v) o):∃ u,o=some u/\RelV v u:=by
 cases o with
 | none=>exact (show False from r).elim
 | some u=>exact ⟨u,rfl,r⟩
theorem RelO.none_of {o:Option Value} (r:RelO none o):o=none:=by
 cases o with
 | none=>rfl
 | some u=>exact (show False from r).elim
theorem Zkf {v:V} {u:Value} (r:RelV v u):PySem.W.handedIn u=true:=by
 cases v with
 | non=>cases (show u=Value.none from r); rfl
 | bl b=>cases (show u=Value.bool b from r); rfl
 | int i=>obtain ⟨t,e⟩:=(show ∃ t,u=Value.int i t from r); cases e; rfl
 | str x=>obtain ⟨t,e⟩:=(show ∃ t,u=Value.str x t from r); cases e; rfl
 | byt b=>obtain ⟨t,e⟩:=(show ∃ t,u=Value.bytes b t from r); cases e; rfl
 | flt b=>obtain ⟨t,e⟩:=(show ∃ t,u=Value.float b t from r); cases e; rfl
 | ref a=>cases (show u=Value.ref a from r); rfl
 | ty n=>cases (show u=Value.type n from r); rfl
section
variable {P:Program} {w:World} {H H':Hp} {h h':Heap} {a C dx:Addr} {fs fs':List (Str×V)}
theorem pS (hok:HOk P w H h) (e:H a=some (.ins C dx fs)):∃ mA,ObjM h a dx C mA/\(∀ f,RelO (fs.lookup f) (mA f))/\PySem.Within mA (fs.map (·.1))/\fs.length<=1000/\H dx=some (.own a):=by
 obtain ⟨d,z,ne,ob,mA,n,r,q⟩:=(show ObjOk P w H h a (.ins C dx fs) from hok a _ e)
 exact ⟨mA,⟨ob,n,ne⟩,r,q,z,d⟩
end
structure Cls (K:PySem.W.Frag) (C:Addr):Prop where
 pg:PySem.W.plainGet K C Str.empty=true
 hd:PySem.W.hasDictIn K C=true
 po:PySem.W.plainOver K C=true
 sa:PySem.W.findIn K (.ref C) "__setattr__"=some (some (.builtin "object.__setattr__"))
theorem Cls.get {K:PySem.W.Frag} {C:Addr} (c:Cls K C) (f:Str):PySem.W.plainGet K C f=true:=c.pg
noncomputable def NoAttr (K:PySem.W.Frag) (C:Addr) (f:Str):Prop:=PySem.W.findIn K (.ref C) f=some none
theorem NoAttr.taker {K:PySem.W.Frag} {C:Addr} {f:Str} (n:NoAttr K C f):PySem.W.takerIn K C f=some none:=by
 unfold PySem.W.takerIn
 rw [show PySem.W.findIn K (.ref C) f=some none from n]
 rfl
structure Meth (K:PySem.W.Frag) (C:Addr) (m:Str) (f:Addr):Prop where
 at_:PySem.W.findIn K (.ref C) m=some (some (.ref f))
 fn:PySem.W.isFn K (.ref f)=true
 kp:PySem.W.keepIn K (.ref f)=true
section
variable {X:Cx} {pins:List (Addr×Obj)} {σ:St} {H:Hp} {s:Shared} {a C dx:Addr} {fs:List (Str×V)} {f:Str} {v:V} {A:Around} {E:Value->Shared->Prop}
theorem Zdz {b:Bool} {Q:Value->Shared->Prop} (I:Inv X pins σ H s) (e:H a=some (.ins C dx fs)) (c:Cls X.K C) (n:NoAttr X.K C f) (l:fs.lookup f=some v)
  (h:∀ u s',Inv X pins σ H s'->RelV v u->Q u s'):wpAny (model X.prog X.w) A (getAttr (.ref a) f b) Q E s:=by
 obtain ⟨mA,O,r,_,_,_⟩:=pS I.hok e
 obtain ⟨u,hu,ru⟩:=RelO.some_of (v:=v) (o:=mA f) (by rw [<- l]; exact r f)
 exact Zkh I.kIn O (c.get f) c.hd n hu (Zkf ru) (h u _ (I.tok _) ru)
theorem ua {m:Str} {g:Addr} {pl:Sem Bool} {Q:Value×List Value->Shared->Prop} (I:Inv X pins σ H s) (e:H a=some (.ins C dx fs)) (c:Cls X.K C) (k:Meth X.K C m g) (l:fs.lookup m=none)
  (h:Q (.ref g,[.ref a]) s):wpAny (model X.prog X.w) A (getMethod (.ref a) m pl) Q E s:=by
 obtain ⟨mA,O,r,_,_,_⟩:=pS I.hok e
 have hn:mA m=none:=RelO.none_of (by rw [<- l]; exact r m)
 exact Zkg I.kIn O (c.get m) k.at_ k.fn hn h
theorem ZaY {y:V} {u:Value} {Q:Unit->Shared->Prop} (I:Inv X pins σ H s) (e:H a=some (.ins C dx fs)) (c:Cls X.K C) (n:NoAttr X.K C f) (hl:fs.length < 1000) (ry:RelV y u)
  (h:∀ s',Inv X pins σ (upd H a (.ins C dx (eF f y fs))) s'->Q () s'):wpAny (model X.prog X.w) A (setAttr (.ref a) f u) Q E s:=by
 obtain ⟨mA,O,r,wi,_,ho⟩:=pS I.hok e
 have hz:(fs.map (·.1)).length<=sizeLine:=by rw [List.length_map,sizeLine_eq]; omega
 refine ZgQ I.kIn O c.sa c.po n.taker c.hd wi hz λh' O' sb=>h _ ?_
 have hd:∃ o,h'.get? dx=some o:=let ⟨o,_,_,e',_⟩:=O'.ns; ⟨o,e'⟩
 refine I.write (x:=a) (e:=dx) (by rw [e]; exact True.intro) (.inr ho) (λb q hb z=>(sb.2 b hb).trans z) hd ?_
 refine ⟨by rw [bG O.ne]; exact ho,?_,O.ne,O'.obj,_,O'.ns,λg=>?_,λg hg=>?_⟩
 ·have:=Zc7 f y fs; omega
 ·show RelO ((eF f y fs).lookup g) (if g=f then some u else mA g)
  rw [Zc5]
  by_cases q:g=f
  ·rw [if_pos q,if_pos q]; exact ry
  ·rw [if_neg q,if_neg q]; exact r g
 ·by_cases q:g=f
  ·rw [q]; exact (tY f y fs).1
  ·refine (tY f y fs).2 g (wi g λz=>hg ?_)
   show (if g=f then some u else mA g)=none
   rw [if_neg q]; exact z
theorem Inv.made (I:Inv X pins σ H s):Inv X pins σ (upd (upd H s.heap.objs.size (.own (s.heap.objs.size+1))) (s.heap.objs.size+1) (.ins C s.heap.objs.size []))
  { s with heap:=(s.heap.push PySem.W.emptyDict).push (PySem.W.instObj C s.heap.objs.size) }:=by
 have e1:(s.heap.push PySem.W.emptyDict).get? s.heap.objs.size=some PySem.W.emptyDict:=Heap.get?_push_size s.heap rfl
 have e2:((s.heap.push PySem.W.emptyDict).push (PySem.W.instObj C s.heap.objs.size)).get? (s.heap.objs.size+1)=some (PySem.W.instObj C s.heap.objs.size):=by
  have:=Heap.get?_push_size (s.heap.push PySem.W.emptyDict) (o:=PySem.W.instObj C s.heap.objs.size) rfl
  rwa [Heap.size_push] at this
 have e3:(s.heap.push PySem.W.emptyDict).Ns s.heap.objs.size (λ_=>none):=⟨PySem.W.emptyDict,#[],_,e1,rfl,(λe he=>absurd he (by simp)),λ_=>rfl⟩
 have I1:=I.laid (a:=s.heap.objs.size) (o:=.own (s.heap.objs.size+1)) (h':=s.heap.push PySem.W.emptyDict) (t':=s.toks) (λb u q=>Heap.get?_push_of_some _ q) (Nat.le_refl _) ⟨_,e1⟩
 refine I1.laid (a:=s.heap.objs.size+1) (o:=.ins C s.heap.objs.size []) (t':=s.toks) (λb u q=>Heap.get?_push_of_some _ q) (Nat.le_of_eq (Heap.size_push _ _)) ?_
 have ne:s.heap.objs.size≠s.heap.objs.size+1:=Nat.ne_of_lt (Nat.lt_succ_self _)
 refine ⟨by rw [bG ne,cA],Nat.zero_le _,ne,e2,λ_=>none,(Heap.Ns1.of_empty e3).at λo q=>Heap.get?_push_of_some _ q,λ_=>True.intro,λy hy=>absurd rfl hy⟩
theorem ZoZ {prog:Program} {w:World} {env:Env} {e:Expr} {f:Str} {pos:Pos} {s:Shared} {Q:Value->Shared->Prop} (hb:attributeBase e f env (eval e env)=eval e env)
  (h:wpAny (model prog w) A (eval e env) (λo s₁=>wpAny (model prog w) A (getAttr o f true) Q E s₁) E s):wpAny (model prog w) A (eval (.Attribute e f pos) env) Q E s :=
 Attribute_any_ h (by rw [arm_eval_Attribute,hb])
end
noncomputable def Zgp (K:PySem.W.Frag) (ta:TE) (f:Str):TE:=λσ H Q=>ta σ H λx H1=>∃ a C dx fs v,x=.ref a/\H1 a=some (.ins C dx fs)/\Cls K C/\NoAttr K C f/\fs.lookup f=some v/\Q v H1
noncomputable def Zhq (K:PySem.W.Frag) (ta tv:TE) (f:Str):TS:=λD σ H=>tv σ H λy H1=>ta σ H1 λx H2=>∃ a C dx fs,x=.ref a/\H2 a=some (.ins C dx fs)/\Cls K C/\NoAttr K C f/\fs.length < 1000 /\
 D.nx σ (upd H2 a (.ins C dx (eF f y fs)))
noncomputable def qR (X:Cx) (op:Operator) (rd:V->V->Hp->VK->Prop):Prop :=
 ∀ (pins:List (Addr×Obj)) (s:Shared) (σ:St) (H:Hp) (x y:V) (u v:Value) (Q:VK),Inv X pins σ H s->RelV x u->RelV y v->rd x y H Q->wpAny (model X.prog X.w) X.A (inplaceOp op u v) (EP X pins σ Q) X.xe s
noncomputable def Zhp (K:PySem.W.Frag) (ta tv:TE) (rd:V->V->Hp->VK->Prop) (f:Str):TS:=λD σ H=>ta σ H λx H1=>∃ a C dx fs v,x=.ref a/\H1 a=some (.ins C dx fs)/\Cls K C/\NoAttr K C f/\fs.lookup f=some v /\
 tv σ H1 λy H2=>rd v y H2 λz H3=>∃ dx' fs',H3 a=some (.ins C dx' fs')/\fs'.length < 1000/\D.nx σ (upd H3 a (.ins C dx' (eF f z fs')))
section
variable {X:Cx} {o e value:Expr} {f:Str} {pos pos' tpos:Pos} {ta tv:TE}
theorem Ziv (he:PE X e ta) (hb:attributeBase e f X.env (eval e X.env)=eval e X.env):PE X (.Attribute e f pos) (Zgp X.K ta f):=by
 intro pins s σ H Q I h
 refine ZoZ hb (thn (he pins s σ H _ I h) λu s1 hz0=>?_)
 obtain ⟨x,H1,I1,rx,a,C,dx,fs,v,ex,ea,c,n,l,q⟩:=hz0
 subst ex
 obtain rfl:u=Value.ref a:=rx
 exact Zdz I1 ea c n l λu' s2 I2 ru=>⟨v,H1,I2,ru,q⟩
theorem Zh5 (ha:PE X o ta) (hv:PE X value tv) (hs:swapsWith value (some (.Attribute o f pos')) pos.line X.env=pure false):PS X (.Assign [.Attribute o f pos'] value pos) (Zhq X.K ta tv f):=by
 intro pins s σ H D I h
 refine plainObj_wpAny_Assign_Attribute (thn (hv pins s σ H _ I h) λu s1 ⟨y,H1,I1,ry,q⟩=>thn (ha pins s1 σ H1 _ I1 q) λov s2 hz0=>?_) hs
 obtain ⟨x,H2,I2,rx,a,C,dx,fs,ex,ea,c,n,l,q2⟩:=hz0
 subst ex
 obtain rfl:ov=Value.ref a:=rx
 exact ZaY I2 ea c n l ry λs3 I3=>⟨σ,_,I3,q2⟩
theorem Zh4 {op:Operator} {rd:V->V->Hp->VK->Prop} (ha:PE X o ta) (hv:PE X value tv) (hop:qR X op rd):PS X (.AugAssign (.Attribute o f tpos) op value pos) (Zhp X.K ta tv rd f):=by
 intro pins s σ H D I h
 refine wpAny_AugAssign_AttributeAny (thn (ha pins s σ H _ I h) λov s1 hz0=>?_)
 obtain ⟨x,H1,I1,rx,a,C,dx,fs,v,ex,ea,c,n,l,q⟩:=hz0
 subst ex
 obtain rfl:ov=Value.ref a:=rx
 refine Zdz I1 ea c n l λu s2 I2 ru=>thn (hv pins s2 σ H1 _ I2 q) λw3 s3 ⟨y,H2,I3,ry,q3⟩=>thn (hop pins s3 σ H2 v y u w3 _ I3 ru ry q3) λw4 s4 hz0=>?_
 obtain ⟨z,H3,I4,rz,dx',fs',ea',l',q4⟩:=hz0
 exact ZaY I4 ea' c n l' rz λs5 I5=>⟨σ,_,I5,q4⟩
noncomputable def Zck:V->V->Hp->VK->Prop:=λx y H Q=>∃ i j,x=.int i/\y=.int j/\Q (.int (i+j)) H
noncomputable def ZbY:V->V->Hp->VK->Prop:=λx y H Q=>∃ i j,x=.int i/\y=.int j/\Q (.int (i - j)) H
theorem Zdr:qR X .Add Zck:=by
 rintro pins s σ H x y u v Q I rx ry ⟨i,j,rfl,rfl,q⟩
 obtain ⟨t,rfl⟩:=(show ∃ t,u=Value.int i t from rx)
 obtain ⟨t',rfl⟩:=(show ∃ t',v=Value.int j t' from ry)
 exact PyProof.Rows.iadd_int ⟨.int (i+j),H,I.tok _,⟨_,rfl⟩,q⟩
theorem pT:qR X .Sub ZbY:=by
 rintro pins s σ H x y u v Q I rx ry ⟨i,j,rfl,rfl,q⟩
 obtain ⟨t,rfl⟩:=(show ∃ t,u=Value.int i t from rx)
 obtain ⟨t',rfl⟩:=(show ∃ t',v=Value.int j t' from ry)
 exact PyProof.Rows.isub_int ⟨.int (i - j),H,I.tok _,⟨_,rfl⟩,q⟩
end
section
variable {X:Cx} {pins:List (Addr×Obj)} {σ:St} {H:Hp} {s:Shared} {A:Around} {E:Value->Shared->Prop} {Q:Value->Shared->Prop} {c:Value} {b:Bool}
inductive TyOf (K:PySem.W.Frag) (H:Hp):V->Value->Prop where
 | non:TyOf K H .non (.type "NoneType")
 | bl (x:Bool):TyOf K H (.bl x) (.type "bool")
 | int (i:Int):TyOf K H (.int i) (.type "int")
 | str (x:Str):TyOf K H (.str x) (.type "str")
 | flt (x:UInt64):TyOf K H (.flt x) (.type "float")
 | lst {a:Addr} {xs:List V} (e:H a=some (.lst xs)):TyOf K H (.ref a) (.type "list")
 | frz {a:Addr} {o:Obj} {xs:List V} (e:H a=some (.frz o (.lst xs))):TyOf K H (.ref a) (.type "list")
 | tup {a:Addr} {xs:List V} (e:H a=some (.tup xs)):TyOf K H (.ref a) (.type "tuple")
 | dK {a:Addr} {kvs:List (cX×V)} (e:H a=some (.dK kvs)):TyOf K H (.ref a) (.type "dict")
 | dT {a:Addr} {kvs:List (List cX×V)} (e:H a=some (.dT kvs)):TyOf K H (.ref a) (.type "dict")
 | frzD {a:Addr} {o:Obj} {kvs:List (cX×V)} (e:H a=some (.frz o (.dK kvs))):TyOf K H (.ref a) (.type "dict")
 | frzE {a:Addr} {o:Obj} {kvs:List (List cX×V)} (e:H a=some (.frz o (.dT kvs))):TyOf K H (.ref a) (.type "dict")
 | ins {a C dx:Addr} {fs:List (Str×V)} (e:H a=some (.ins C dx fs)) (cl:Cls K C) (ha:PySem.W.findIn K (.ref C) "__class__"=some (some (.builtin "object.__class__")))
   (hn:PySem.W.specialIn K (.builtin "object.__class__") "__get__"=some (some (.builtin "getset_descriptor.__get__"))) (htk:PySem.W.takesIn K (.builtin "object.__class__")=some true)
   (hm:PySem.W.mroIn K C (.type "object")=some true):TyOf K H (.ref a) (.ref C)
theorem ZjZ {x:V} {u t:Value} (I:Inv X pins σ H s) (rx:RelV x u) (ty:TyOf X.K H x t) (e:PySem.W.kitOne X.K t c=some b) (h:∀ tk,Q (.bool b) { s with toks:=tk }) :
  wpAny (model X.prog X.w) A (call (.builtin "isinstance") [u,c]) Q E s:=by
 cases ty with
 | non=>cases (show u=Value.none from rx); exact PySem.W.kia_one PySem.W.kitx_none I.kIn True.intro e (λz=>nomatch z) h
 | bl y=>cases (show u=Value.bool y from rx); exact PySem.W.kia_one PySem.W.kitx_bool I.kIn True.intro e (λz=>nomatch z) h
 | int i=>obtain ⟨t,q⟩:=(show ∃ t,u=Value.int i t from rx); cases q; exact PySem.W.kia_one PySem.W.kitx_int I.kIn True.intro e (λz=>nomatch z) h
 | str y=>obtain ⟨t,q⟩:=(show ∃ t,u=Value.str y t from rx); cases q; exact PySem.W.kia_one PySem.W.kitx_str I.kIn True.intro e (λz=>nomatch z) h
 | flt y=>obtain ⟨t,q⟩:=(show ∃ t,u=Value.float y t from rx); cases q; exact PySem.W.kia_one PySem.W.kitx_float I.kIn True.intro e (λz=>nomatch z) h
 | @lst a xs ea =>
  cases (show u=Value.ref a from rx)
  obtain ⟨_,_,n,_,h1⟩:=(show ObjOk X.prog X.w H s.heap a (.lst xs) from I.hok a _ ea)
  exact PySem.W.kia_one PySem.W.kitx_list I.kIn ⟨_,h1,rfl⟩ e (λz=>nomatch z) h
 | @frz a ob xs ea =>
  cases (show u=Value.ref a from rx)
  obtain ⟨_,_,_,n,_,h1⟩:=(show ObjOk X.prog X.w H s.heap a (.frz ob (.lst xs)) from I.hok a _ ea)
  exact PySem.W.kia_one PySem.W.kitx_list I.kIn ⟨_,h1,rfl⟩ e (λz=>nomatch z) h
 | @tup a xs ea =>
  cases (show u=Value.ref a from rx)
  obtain ⟨_,_,_,p⟩:=(show ObjOk X.prog X.w H s.heap a (.tup xs) from I.hok a _ ea)
  obtain ⟨o,h1,h2,_⟩:=p
  exact PySem.W.kia_one PySem.W.kitx_tuple I.kIn ⟨o,h1,h2⟩ e (λz=>nomatch z) h
 | @dK a kvs ea =>
  cases (show u=Value.ref a from rx)
  obtain ⟨_,_,vs,_,p⟩:=(show ObjOk X.prog X.w H s.heap a (.dK kvs) from I.hok a _ ea)
  obtain ⟨o,es,ep,h1,h2,_⟩:=p
  exact PySem.W.kia_one PySem.W.kitx_dict I.kIn ⟨o,h1,h2.1⟩ e (λz=>nomatch z) h
 | @frzD a ob kvs ea =>
  cases (show u=Value.ref a from rx)
  obtain ⟨_,_,_,vs,_,p⟩:=(show ObjOk X.prog X.w H s.heap a (.frz ob (.dK kvs)) from I.hok a _ ea)
  obtain ⟨o,es,ep,h1,h2,_⟩:=p
  exact PySem.W.kia_one PySem.W.kitx_dict I.kIn ⟨o,h1,h2.1⟩ e (λz=>nomatch z) h
 | @frzE a ob kvs ea =>
  cases (show u=Value.ref a from rx)
  obtain ⟨_,_,_,xs,_,o,es,ep,h1,h2,_⟩:=(show ObjOk X.prog X.w H s.heap a (.frz ob (.dT kvs)) from I.hok a _ ea)
  exact PySem.W.kia_one PySem.W.kitx_dict I.kIn ⟨o,h1,h2.1⟩ e (λz=>nomatch z) h
 | @dT a kvs ea =>
  cases (show u=Value.ref a from rx)
  obtain ⟨_,_,xs,_,o,es,ep,h1,h2,_⟩:=(show ObjOk X.prog X.w H s.heap a (.dT kvs) from I.hok a _ ea)
  exact PySem.W.kia_one PySem.W.kitx_dict I.kIn ⟨o,h1,h2.1⟩ e (λz=>nomatch z) h
 | @ins a C dx fs ea cl ha hn htk hm =>
  cases (show u=Value.ref a from rx)
  obtain ⟨mA,O,_⟩:=pS I.hok ea
  obtain ⟨od,J,_⟩:=O.look
  exact PySem.W.kia_one (PySem.W.kitx_own (cl.get _) cl.hd ha hn htk hm) I.kIn J e (λz=>nomatch z) h
end
structure Room (k:Nat) (A:Around):Prop where
 hd:A.handled=none
 dp:A.depth+3 * k+5 < recursionLimit
 un:A.units+16 * k+200 < cLine
 gd:A.guards=some []
theorem Room.mono {j k:Nat} {A:Around} (r:Room k A) (h:j<=k):Room j A:=⟨r.hd,by have:=r.dp; omega,by have:=r.un; omega,r.gd⟩
theorem Room.deeper {k:Nat} {A:Around} (r:Room (k+1) A) (env:Env):Room k (A.deeper env) :=
 ⟨r.hd,by have:=r.dp; show A.depth+1+3 * k+5 < _; omega,by have:=r.un; show A.units+3+16 * k+200 < _; omega,r.gd⟩
theorem Zjm {A:Around} {C:Addr} {us:List Value} {kw:List (Str×Value)}:(A.under (.builtin "type.__call__" ⟨.ref C::us,kw⟩)).depth=A.depth+1:=by
 first | rfl | simp [Around.under,Code.weight,Code.isCreation,Code.isGuard,Code.isCaller,Code.frames,Code.isFrame,guardIds]
theorem Zjk {A:Around} {C:Addr} {us:List Value} {kw:List (Str×Value)}:(A.under (.builtin "type.__call__" ⟨.ref C::us,kw⟩)).units=A.units+1:=by
 first | rfl | simp [Around.under,Code.cUnits,Code.frames,Code.isFrame]
theorem Room.make {k:Nat} {A:Around} (r:Room (k+1) A) (C:Addr) (us:List Value) (kw:List (Str×Value)):Room k (A.under (.builtin "type.__call__" ⟨.ref C::us,kw⟩)) :=
 ⟨r.hd,by have:=r.dp; rw [Zjm]; omega,by have:=r.un; rw [Zjk]; omega,by first | exact r.gd | (simpa [Around.under,Code.guards,Code.isGuard,guardIds,pushGuards] using r.gd)⟩
theorem Room.depth {k:Nat} {A:Around} (r:Room k A):A.depth < recursionLimit:=by have:=r.dp; omega
theorem Room.units {k:Nat} {A:Around} (r:Room k A):A.units+64 < cLine:=by have:=r.un; omega
noncomputable def cw:TA:=λ_ H Q=>Q [] H
noncomputable def fg (ta:TE) (tr:TA):TA:=λσ H Q=>ta σ H λx H1=>tr σ H1 λxs H2=>Q (x::xs) H2
section
variable {X:Cx} {e:Expr} {es:List Expr} {te:TE} {t:TA} {pos:Pos}
theorem cU:PA X [] cw:=λ_ _ _ _ H Q I h=>Calls.spliced_nil ⟨[],H,I,.nil,h⟩
theorem cD (ha:PE X e te) (hr:PA X es t) (hs:starEach (e::es) X.env=(false,eval e X.env)::starEach es X.env:=by rfl):PA X (e::es) (fg te t):=by
 intro pos pins s σ H Q I h
 rw [hs]
 show wpAny _ _ (spliced ((false,eval e X.env)::backTo pos (starEach es X.env))) _ _ s
 refine Calls.spliced_cons (thn (ha pins s σ H _ I h) λu s1 hz0=>?_)
 obtain ⟨x,H1,I1,r1,q1⟩:=hz0
 exact thn (hr pos pins s1 σ H1 _ I1 q1) λus s2 hz0=>by
  obtain ⟨xs,H2,I2,r2,q2⟩:=hz0
  exact ⟨x::xs,H2,I2,.cons r1 r2,q2⟩
noncomputable def Zf5 (t:TA):TE:=λσ H Q=>t σ H λxs H1=>xs.length<=sizeLine/\∀ p,H1 p=none->Q (.ref p) (upd H1 p (.tup xs))
noncomputable def Zgj (t:TA):TE:=λσ H Q=>t σ H λxs H1=>xs.length<=sizeLine/\∀ p,H1 p=none->Q (.ref p) (upd H1 p (.lst xs))
theorem Zij {x1} (h:PA X es t):PE X (.Tuple es x1 pos) (Zf5 t):=by
 intro pins s σ H Q I hq
 refine wpAny_Tuple_spliced (thn (h pos pins s σ H _ I hq) λus s1 ⟨xs,H1,I1,r,z,q⟩=>⟨by rw [<- r.length]; exact z,?_⟩)
 have hf:H1 s1.heap.objs.size=none:=I1.hok.fresh (Nat.le_refl _)
 refine ⟨.ref s1.heap.objs.size,upd H1 s1.heap.objs.size (.tup xs),I1.laid (t':=s1.toks) (λb u e=>Heap.get?_push_of_some _ e) (Nat.le_refl _) ?_,rfl,q _ hf⟩
 exact ⟨z,us,r,⟨_,Heap.get?_push_size _ rfl,rfl,_,rfl⟩⟩
theorem oN (h:PA X es t):PE X (.List es pos) (Zgj t):=by
 intro pins s σ H Q I hq
 refine wpAny_List_spliced (thn (h pos pins s σ H _ I hq) λus s1 ⟨xs,H1,I1,r,z,q⟩=>⟨by rw [<- r.length]; exact z,?_⟩)
 have hf:H1 s1.heap.objs.size=none:=I1.hok.fresh (Nat.le_refl _)
 refine ⟨.ref s1.heap.objs.size,upd H1 s1.heap.objs.size (.lst xs),I1.laid (t':=s1.toks) (λb u e=>Heap.get?_push_of_some _ e) (Nat.le_refl _) ?_,rfl,q _ hf⟩
 exact ⟨z,us,0,r,Heap.get?_push_size _ rfl⟩
end
noncomputable abbrev Sp:=List V->Hp->VK->XK->Prop
noncomputable abbrev gQ:=List Env->Hp->Shared->XK->Value->Shared->Prop
structure Env0 (P:Program) (w:World) (K:PySem.W.Frag) (mg:Str->Option Value) (base:Heap) (A:Around) (outer:List Env) (s:Shared) (H:Hp):Prop where
 frames:A.frames=some outer
 mod:Mod K mg base
 bs:∀ b o,base.get? b=some o->s.heap.get? b=some o/\H b=none
 bsz:base.objs.size<=s.heap.objs.size
 funs:s.heap.FunFrames base outer
 frf:∀ b∈frs outer,H b=none
 hok:HOk P w H s.heap
 bare:AllBare s.gens
noncomputable def CE (outer:List Env) (P:Program) (w:World) (H:Hp) (s:Shared) (Q:VK) (u:Value) (s':Shared):Prop :=
 ∃ v H',s'.os=s.os/\AllBare s'.gens/\Un (frs outer) [] H H' s.heap s'.heap/\HOk P w H' s'.heap/\RelV v u/\Q v H'
noncomputable def CR (CX:gQ) (outer:List Env) (P:Program) (w:World) (H:Hp) (s:Shared) (Q:VK) (E:XK) (r:Result) (s':Shared):Prop :=
 match r with
 | .ok (.ret u)=>CE outer P w H s Q u s'
 | .ok _=>False
 | .error e=>CX outer H s E e s'
structure FnOk (P:Program) (w:World) (K:PySem.W.Frag) (mg:Str->Option Value) (base:Heap) (CX:gQ) (k:Nat) (f:Addr) (fd:FuncData) (ps:List Str) (sp:Sp):Prop where
 len:∀ vs H Q E,sp vs H Q E->vs.length=ps.length
 run:∀ (A:Around) (outer:List Env) (s:Shared) (H:Hp) (args:Args) (us:List Value) (vs:List V) (Q:VK) (E:XK),Room k A->Env0 P w K mg base A outer s H->BindsTo s fd args (ps.zip us)->Vals vs us->sp vs H Q E ->
  codeAny (model P w) A (.call (.ref f) args) (CR CX outer P w H s Q E) s
theorem FnOk.imp {P:Program} {w:World} {K:PySem.W.Frag} {mg:Str->Option Value} {base:Heap} {CX:gQ} {k:Nat} {f:Addr} {fd:FuncData} {ps:List Str} {sp sp':Sp} (F:FnOk P w K mg base CX k f fd ps sp)
  (h:∀ vs H Q E,sp' vs H Q E->sp vs H Q E):FnOk P w K mg base CX k f fd ps sp' :=
 ⟨λvs H Q E q=>F.len vs H Q E (h _ _ _ _ q),λA outer s H args us vs Q E hr he hb hv hs=>F.run A outer s H args us vs Q E hr he hb hv (h _ _ _ _ hs)⟩
theorem Env0.make {P:Program} {w:World} {K:PySem.W.Frag} {mg:Str->Option Value} {base:Heap} {A:Around} {outer:List Env} {s:Shared} {H:Hp} (e:Env0 P w K mg base A outer s H) (C:Addr) (us:List Value) (kw:List (Str×Value)) :
  Env0 P w K mg base (A.under (.builtin "type.__call__" ⟨.ref C::us,kw⟩)) outer s H:=⟨by first | exact e.frames | (simpa [Around.under,Code.envs,Code.isFrame,pushEnvs] using e.frames),e.mod,e.bs,e.bsz,e.funs,e.frf,e.hok,e.bare⟩
section
variable {X:Cx} {pins:List (Addr×Obj)} {σ:St} {H:Hp} {s s':Shared}
theorem Inv.env0 (I:Inv X pins σ H s):Env0 X.prog X.w X.K X.mg X.base X.A X.stack s H :=
 ⟨I.ok.frames,I.ok.mod,I.bs,Nat.le_trans I.ok.bsz I.sz,I.stack,I.stkFree,I.hok,I.bare⟩
theorem Inv.after {Q:VK} {u:Value} (I:Inv X pins σ H s) (h:CE X.stack X.prog X.w H s Q u s'):EP X pins σ Q u s':=by
 obtain ⟨v,H',os,bare,un,hok,r,q⟩:=h
 obtain ⟨hh,g,d,t,os'⟩:=s'
 obtain rfl:os'=s.os:=os
 exact ⟨v,H',I.call (h':=hh) (g':=g) (d':=d) (t':=t) (ch:=[]) un hok bare (λb z=>absurd z (by simp)),r,q⟩
end
noncomputable def ZaE (sp:Sp) (dvs:List V) (E:XK) (t:TA):TE:=λσ H Q=>t σ H λvs H1=>sp (vs++dvs) H1 Q E
noncomputable def rF (C:Addr) (m:Str) (sp:Sp) (dvs:List V) (E:XK) (ta:TE) (t:TA):TE:=λσ H Q=>ta σ H λx H1=>∃ a dx fs,x=.ref a/\H1 a=some (.ins C dx fs)/\fs.lookup m=none /\
 t σ H1 λvs H2=>sp (x::(vs++dvs)) H2 Q E
noncomputable def Zgi (C:Addr) (sp:Sp) (dvs:List V) (E:XK) (t:TA):TE:=λσ H Q=>t σ H λvs H1=>∀ x dx,H1 x=none->H1 dx=none->dx≠x ->
 sp (.ref x::(vs++dvs)) (upd (upd H1 dx (.own x)) x (.ins C dx [])) (λv H2=>v=.non/\Q (.ref x) H2) E
noncomputable def Binds (K:PySem.W.Frag) (fd:FuncData) (ps:List Str) (ds:List Value):Prop :=
 ∀ (s:Shared) (us:List Value),K.In s.heap->(us++ds).length=ps.length->BindsTo s fd ⟨us,[]⟩ (ps.zip (us++ds))
theorem Binds.all {K:PySem.W.Frag} {fd:FuncData} {ps:List Str} (h:∀ us:List Value,us.length=ps.length->bindArgs fd ⟨us,[]⟩=pure (ps.zip us)):Binds K fd ps []:=λs us _ hl=>by
 rw [List.append_nil] at hl ⊢
 exact .of_eq (h us hl)
noncomputable def ki (CX:gQ) (X:Cx) (E:XK):Prop:=∀ (pins:List (Addr×Obj)) (σ:St) (H:Hp) (s:Shared) (e:Value) (s':Shared),Inv X pins σ H s->CX X.stack H s E e s'->X.xe e s'
section
variable {X:Cx} {CX:gQ} {k:Nat} {f C:Addr} {fd:FuncData} {ps:List Str} {sp:Sp} {dvs:List V} {ds:List Value} {E:XK} {x m:Str} {p pos apos:Pos} {e o:Expr} {es:List Expr} {ta:TE} {t:TA}
theorem sy {pins:List (Addr×Obj)} {σ:St} {H:Hp} {s:Shared} {Q:VK} {us:List Value} {vs:List V} (F:FnOk X.prog X.w X.K X.mg X.base CX k f fd ps sp) (hr:Room k X.A) (hb:Binds X.K fd ps ds) (hd:Vals dvs ds) (hx:ki CX X E)
  (I:Inv X pins σ H s) (r:Vals vs us) (h:sp (vs++dvs) H Q E):wpAny (model X.prog X.w) X.A (call (.ref f) us) (EP X pins σ Q) X.xe s:=by
 have r2:Vals (vs++dvs) (us++ds):=r.append hd
 have hl:(us++ds).length=ps.length:=by rw [<- r2.length]; exact F.len _ _ _ _ h
 refine wpAny_call (codeAny_mono (F.run X.A X.stack s H ⟨us,[]⟩ (us++ds) (vs++dvs) Q E hr I.env0 (hb s us I.kIn hl) r2 h) λr s' hq=>?_)
 cases r with
 | error e=>exact hx pins σ H s e s' I hq
 | ok fl =>
  cases fl with
  | ret u=>exact I.after hq
  | next=>exact False.elim hq
  | brk=>exact False.elim hq
  | cont=>exact False.elim hq
theorem Ziy (F:FnOk X.prog X.w X.K X.mg X.base CX k f fd ps sp) (hr:Room k X.A) (hg:Gl X x) (hm:X.mg x=some (.ref f)) (hk:PySem.W.keepIn X.K (.ref f)=true) (hb:Binds X.K fd ps ds) (hd:Vals dvs ds) (hx:ki CX X E)
  (ha:PA X (e::es) t) (hdb:(x == ("__debug__":Str))=false:=by decide) (he:starEach (e::es) X.env=(false,eval e X.env)::starEach es X.env:=by rfl) (hpl:(backTo pos (starEach es X.env)).any (·.1)=false:=by rfl) :
  PE X (.Call (.Name x p) (e::es) [] pos) (ZaE sp dvs E t):=by
 intro pins s σ H Q I h
 refine wpAny_Call_Name_kw (pJ I hg hm ?_ hdb)
 refine PySem.W.callWith_K (h₀:=X.base) I.ok.mod.kin hk (thn (ha pos pins s σ H _ I h) λus s1 ⟨vs,H1,I1,r,q⟩=>⟨I1.kIn,?_⟩) he hpl
 exact sy F hr hb hd hx I1 r q
theorem Zip {pl:Sem Bool} (he:PE X o ta) (c:Cls X.K C) (hm:Meth X.K C m f) (F:FnOk X.prog X.w X.K X.mg X.base CX k f fd ps sp) (hr:Room k X.A) (hb:Binds X.K fd ps ds) (hd:Vals dvs ds) (hx:ki CX X E) (ha:PA X (e::es) t)
  (hst:starEach (e::es) X.env=(false,eval e X.env)::starEach es X.env:=by rfl) (hpl:(backTo pos (starEach es X.env)).any (·.1)=false:=by rfl)
  (ht:eval (.Call (.Attribute o m apos) (e::es) [] pos) X.env=(do
   let ov <- eval o X.env
   standAt apos.atName
   let (f,first) <- holding [ov] (getMethod ov m pl)
   callWith pos f first (backTo pos (starEach (e::es) X.env)) (backToKw pos (keywordEach [] X.env))):=by rfl) :
  PE X (.Call (.Attribute o m apos) (e::es) [] pos) (rF C m sp dvs E ta t):=by
 intro pins s σ H Q I h
 refine PySem.W.methodCall_KW (pl:=pl) (thn (he pins s σ H _ I h) λu s1 hz0=>?_) ht
 obtain ⟨x,H1,I1,rx,a,dx,fs,ex,ea,l,q⟩:=hz0
 subst ex
 obtain rfl:u=Value.ref a:=rx
 refine ua I1 ea c hm l ?_
 refine PySem.W.callWith_K (first:=[.ref a]) (h₀:=X.base) I.ok.mod.kin hm.kp (thn (ha pos pins s1 σ H1 _ I1 q) λus s2 ⟨vs,H2,I2,r,q2⟩=>⟨I2.kIn,?_⟩) hst hpl
 exact sy (us:=.ref a::us) (vs:=.ref a::vs) F hr hb hd hx I2 (.cons rfl r) q2
theorem Zio {pl:Sem Bool} (he:PE X o ta) (c:Cls X.K C) (hm:Meth X.K C m f) (F:FnOk X.prog X.w X.K X.mg X.base CX k f fd ps sp) (hr:Room k X.A) (hb:Binds X.K fd ps ds) (hd:Vals dvs ds) (hx:ki CX X E)
  (ht:eval (.Call (.Attribute o m apos) [] [] pos) X.env=(do
   let ov <- eval o X.env
   standAt apos.atName
   let (f,first) <- holding [ov] (getMethod ov m pl)
   callWith pos f first (backTo pos (starEach [] X.env)) (backToKw pos (keywordEach [] X.env))):=by rfl) :
  PE X (.Call (.Attribute o m apos) [] [] pos) (rF C m sp dvs E ta cw):=by
 intro pins s σ H Q I h
 refine PySem.W.methodCall_KW (pl:=pl) (thn (he pins s σ H _ I h) λu s1 hz0=>?_) ht
 obtain ⟨x,H1,I1,rx,a,dx,fs,ex,ea,l,q⟩:=hz0
 subst ex
 obtain rfl:u=Value.ref a:=rx
 refine ua I1 ea c hm l ?_
 exact PySem.W.callWith_K0 (first:=[.ref a]) I1.kIn hm.kp (sy (us:=[.ref a]) (vs:=[.ref a]) F hr hb hd hx I1 (.cons rfl .nil) q)
structure Mk (K:PySem.W.Frag) (C f:Addr):Prop where
 makes:PySem.W.makesIn K C=true
 init:PySem.W.findIn K (.ref C) "__init__"=some (some (.ref f))
 fn:PySem.W.isFn K (.ref f)=true
 kp:PySem.W.keepIn K (.ref C)=true
theorem Zhu {pins:List (Addr×Obj)} {σ:St} {H:Hp} {s:Shared} {Q:VK} {us:List Value} {vs:List V} (M:Mk X.K C f) (F:FnOk X.prog X.w X.K X.mg X.base CX k f fd ps sp) (hr:Room (k+1) X.A) (hb:Binds X.K fd ps ds) (hd:Vals dvs ds)
  (hx:ki CX X E) (I:Inv X pins σ H s) (r:Vals vs us)
  (h:∀ x dx,H x=none->H dx=none->dx≠x->sp (.ref x::(vs++dvs)) (upd (upd H dx (.own x)) x (.ins C dx [])) (λv H2=>v=.non/\Q (.ref x) H2) E) :
  wpAny (model X.prog X.w) X.A (call (.ref C) us) (EP X pins σ Q) X.xe s:=by
 have hq:=h (s.heap.objs.size+1) s.heap.objs.size (I.hok.fresh (Nat.le_succ _)) (I.hok.fresh (Nat.le_refl _)) (Nat.ne_of_lt (Nat.lt_succ_self _))
 have I2:=Inv.made (C:=C) I
 have r2:Vals (V.ref (s.heap.objs.size+1)::(vs++dvs)) (Value.ref (s.heap.objs.size+1)::(us++ds)):=.cons rfl (r.append hd)
 have hl:(Value.ref (s.heap.objs.size+1)::us++ds).length=ps.length:=by
  have e:=r2.length
  rw [F.len _ _ _ _ hq] at e
  exact e.symm
 refine wpAny_call (Zjl (f:=f) I.kIn M.makes M.init (beq_iff_eq.mp M.fn) (codeAny_mono (F.run _ X.stack _ _ ⟨Value.ref (s.heap.objs.size+1)::us,[]⟩ (Value.ref (s.heap.objs.size+1)::(us++ds)) _ _ E (hr.make C us [])
  (I2.env0.make C us []) (hb _ (Value.ref (s.heap.objs.size+1)::us) I2.kIn hl) r2 hq) λr s' hq'=>?_))
 cases r with
 | error e=>exact hx pins σ _ _ e s' I2 hq'
 | ok fl =>
  cases fl with
  | ret u =>
   obtain ⟨v,H',I3,rv,ev,q3⟩:=I2.after hq'
   subst ev
   exact ⟨rv,⟨V.ref (s.heap.objs.size+1),H',I3,rfl,q3⟩⟩
  | next=>exact False.elim hq'
  | brk=>exact False.elim hq'
  | cont=>exact False.elim hq'
theorem Ziq (M:Mk X.K C f) (F:FnOk X.prog X.w X.K X.mg X.base CX k f fd ps sp) (hr:Room (k+1) X.A) (hg:Gl X x) (hm:X.mg x=some (.ref C)) (hb:Binds X.K fd ps ds) (hd:Vals dvs ds) (hx:ki CX X E)
  (ha:PA X (e::es) t) (hdb:(x == ("__debug__":Str))=false:=by decide) (he:starEach (e::es) X.env=(false,eval e X.env)::starEach es X.env:=by rfl) (hpl:(backTo pos (starEach es X.env)).any (·.1)=false:=by rfl) :
  PE X (.Call (.Name x p) (e::es) [] pos) (Zgi C sp dvs E t):=by
 intro pins s σ H Q I h
 refine wpAny_Call_Name_kw (pJ I hg hm ?_ hdb)
 refine PySem.W.callWith_K (h₀:=X.base) I.ok.mod.kin M.kp (thn (ha pos pins s σ H _ I h) λus s1 ⟨vs,H1,I1,r,q⟩=>⟨I1.kIn,?_⟩) he hpl
 exact Zhu M F hr hb hd hx I1 r q
end
noncomputable def PK (X:Cx) (kws:List Keyword) (t:TA):Prop :=
 ∀ (pos:Pos) (pins:List (Addr×Obj)) (s:Shared) (σ:St) (H:Hp) (Q:List V->Hp->Prop),Inv X pins σ H s->t σ H Q->wpAny (model X.prog X.w) X.A (evalAll ((backToKw pos (keywordEach kws X.env)).map (·.2))) (AP X pins σ Q) X.xe s
section
variable {X:Cx} {CX:gQ} {k:Nat} {f C:Addr} {fd:FuncData} {ps ks:List Str} {sp:Sp} {E:XK} {x m:Str} {p pos apos kpos:Pos} {e o:Expr} {es:List Expr} {kws:List Keyword} {te ta:TE} {t tk:TA} {nm:Option Str}
variable {g:List Value->List Value->List Value} {gV:List V->List V->List V}
end
structure FnScope (N P:List Str) (sc:Scope):Prop where
 kind:sc.kind=.function
 co:sc.isCoroutine=false
 gen:sc.isGenerator=false
 nd:N.Nodup
 pre:N.take P.length=P
 par:∀ x∈P,sc.names.lookup x=some .local\/sc.names.lookup x=some .cell
 nofree:∀ y∈sc.names,y.2≠.free
theorem ZeG {kindOf:Str->Option NameKind} {x:Str}:∀ {binds:List (Str×Value)} {m:Str->Option Value},(∀ v,(x,v) ∉ binds)->bindL kindOf binds m x=m x
 | [],_,_=>rfl
 | (n,v)::r,m,h=>by
  unfold bindL
  rw [ZeG λw hw=>h w (List.mem_cons_of_mem _ hw)]
  split
  ·have:x≠n:=by rintro rfl; exact h v List.mem_cons_self
   simp [this]
  ·rfl
theorem ZeI {kindOf:Str->Option NameKind} {x:Str}:∀ {binds:List (Str×Value)} {m:Str->Option Value},(∀ v,(x,v) ∉ binds)->bindC kindOf binds m x=m x
 | [],_,_=>rfl
 | (n,v)::r,m,h=>by
  unfold bindC
  rw [ZeI λw hw=>h w (List.mem_cons_of_mem _ hw)]
  split
  ·rfl
  ·have:x≠n:=by rintro rfl; exact h v List.mem_cons_self
   simp [this]
theorem ZeH {kindOf:Str->Option NameKind} {x:Str} {v:Value}:∀ {P:List Str} {vs:List Value} {i:Nat} {m:Str->Option Value},P.Nodup->P[i]?=some x->vs[i]?=some v->kindOf x=some .local ->
  bindL kindOf (P.zip vs) m x=some v
 | [],_,_,_,_,h,_,_=>by simp at h
 | _::_,[],_,_,_,_,h,_=>by simp at h
 | p::P,w::vs,0,m,nd,h1,h2,hk=>by
  simp at h1 h2; subst h1; subst h2
  show bindL kindOf ((p,w)::P.zip vs) m p=_
  unfold bindL
  rw [ZeG λv hv=>(List.nodup_cons.mp nd).1 (List.of_mem_zip hv).1,if_pos hk]
  simp
 | p::P,w::vs,i+1,m,nd,h1,h2,hk=>by
  show bindL kindOf ((p,w)::P.zip vs) m x=_
  unfold bindL
  exact ZeH (i:=i) (List.nodup_cons.mp nd).2 (by simpa using h1) (by simpa using h2) hk
theorem ZeJ {kindOf:Str->Option NameKind} {x:Str} {v:Value}:∀ {P:List Str} {vs:List Value} {i:Nat} {m:Str->Option Value},P.Nodup->P[i]?=some x->vs[i]?=some v->kindOf x≠some .local ->
  bindC kindOf (P.zip vs) m x=some v
 | [],_,_,_,_,h,_,_=>by simp at h
 | _::_,[],_,_,_,_,h,_=>by simp at h
 | p::P,w::vs,0,m,nd,h1,h2,hk=>by
  simp at h1 h2; subst h1; subst h2
  show bindC kindOf ((p,w)::P.zip vs) m p=_
  unfold bindC
  rw [ZeI λv hv=>(List.nodup_cons.mp nd).1 (List.of_mem_zip hv).1,if_neg hk]
  simp
 | p::P,w::vs,i+1,m,nd,h1,h2,hk=>by
  show bindC kindOf ((p,w)::P.zip vs) m x=_
  unfold bindC
  exact ZeJ (i:=i) (List.nodup_cons.mp nd).2 (by simpa using h1) (by simpa using h2) hk
noncomputable def start (N:List Str) (vs:List V):St:=vs.map some++List.replicate (N.length - vs.length) none
noncomputable def fG (CX:gQ) (P:Program) (w:World) (K:PySem.W.Frag) (mg:Str->Option Value) (base:Heap) (N:List Str) (qual:Str) (scope:Scope) (f:Addr) (cd:Value) (A:Around) (outer:List Env) (s:Shared) (H:Hp) (E:XK):Cx where
 prog:=P
 w:=w
 K:=K
 mg:=mg
 base:=base
 A:=A.deeper (envOfC qual scope s.heap.objs.size f cd)
 N:=N
 s₀:=s
 H₀:=H
 env:=envOfC qual scope s.heap.objs.size f cd
 outer:=outer
 stack:=envOfC qual scope s.heap.objs.size f cd::outer
 ex:=[]
 calm:=true
 fn:=λ_=>true
 pn:=[]
 xe:=λe s'=>wpAny (model P w) (A.deeper (envOfC qual scope s.heap.objs.size f cd)) (leaving (envOfC qual scope s.heap.objs.size f cd) e) (λ_ s''=>CX outer H s E e s'') (λe' s''=>CX outer H s E e' s'') s'
theorem Zet {sc:Scope} {n:Nat} {x:Str} (h:sc.names.lookup x=some .cell):∃ c,(cellsFrom n sc.names []).lookup x=some c:=by
 have q:=PySem.W.cellsFrom_some sc.names n [] (.inl h)
 exact Option.isSome_iff_exists.mp q
theorem Zj6 {CX:gQ} {P:Program} {w:World} {K:PySem.W.Frag} {mg:Str->Option Value} {base:Heap} {N ps:List Str} {qual:Str} {scope:Scope} {f:Addr} {cd:Value} {A:Around} {outer:List Env} {s s1:Shared} {H:Hp} {E:XK} {us:List Value} {vs:List V}
  (S:FnScope N ps scope) (hd:A.handled=none) (e0:Env0 P w K mg base A outer s H) (hl:vs.length=ps.length) (r:Vals vs us)
  (x:InCallC s s.heap.objs.size (bindL (envOfC qual scope s.heap.objs.size f cd).kindOf (ps.zip us) λ_=>none) (cellsFrom (s.heap.objs.size+1) scope.names []) (bindC (envOfC qual scope s.heap.objs.size f cd).kindOf (ps.zip us) λ_=>none) s1) :
  Inv (fG CX P w K mg base N qual scope f cd A outer s H E) [] (start N vs) H s1:=by
 have hpl:ps.length<=N.length:=by have:=congrArg List.length S.pre; rw [List.length_take] at this; omega
 obtain ⟨h1,tk,rfl,hk⟩:=x.done
 have noA:∀ b:Addr,b ∉ (fG CX P w K mg base N qual scope f cd A outer s H E).ex:=λb z=>absurd (show b∈([]:List Addr) from z) (by simp)
 refine ⟨⟨e0.mod,S.kind,rfl,rfl,Nat.le_refl _,λy z c h1 h2=>?_,λy hy=>?_,λy c _ h=>?_,λ_=>hd,Around.frames_deeper e0.frames,.inr ⟨rfl,rfl⟩,λb z=>absurd z (noA b),e0.bs,e0.bsz,λb _ _=>noA b,λb z=>absurd z (noA b),e0.funs,e0.frf⟩,
  rfl,e0.bare,Un.kept hk,⟨_,x.toInCall.ns,λi y v h1 h2 h3=>?_⟩,λy c h=>⟨_,x.cell y c h⟩,e0.hok.fresh (Nat.le_refl _),λy c h=>?_,λp hp=>absurd (show p∈([]:List (Addr×Obj)) from hp) (by simp),e0.hok.kept hk,?_⟩
 ·exact name_of_addr x.apart (PySem.mem_of_lookup h1) (PySem.mem_of_lookup h2)
 ·have hy:scope.names.lookup y=some .cell\/scope.names.lookup y=some .free:=hy
  rcases hy with hy | hy
  ·exact Zet hy
  ·exact absurd rfl (S.nofree _ (PySem.mem_of_lookup hy))
 ·exact Nat.le_of_lt (x.above y c (PySem.mem_of_lookup h))
 ·have hi:i < vs.length:=by
   unfold start at h2
   by_cases hi:i < vs.length
   ·exact hi
   ·rw [List.getElem?_append_right (by simpa using hi)] at h2
    rw [List.getElem?_replicate] at h2
    split at h2 <;> cases h2
  have ha:vs[i]?=some v:=by
   unfold start at h2
   rw [List.getElem?_append_left (by simpa using hi),List.getElem?_map] at h2
   cases e:vs[i]? with
   | none=>rw [e] at h2; cases h2
   | some a=>rw [e] at h2; cases h2; rfl
  obtain ⟨u,hu,rv⟩:=r.get ha
  have hp:ps[i]?=some y:=by
   rw [<- S.pre,List.getElem?_take_of_lt (by omega)]; exact h1
  have ndP:ps.Nodup:=by rw [<- S.pre]; exact S.nd.sublist (List.take_sublist _ _)
  refine ⟨u,rv,?_⟩
  rcases S.par y (List.mem_of_getElem? hp) with k | k
  ·exact .inl ⟨k,ZeH ndP hp hu k⟩
  ·obtain ⟨c,e⟩:=Zet (n:=s.heap.objs.size+1) k
   refine .inr ⟨.inl k,c,e,?_⟩
   have q:=x.cell y c e
   rw [ZeJ ndP hp hu (by show scope.names.lookup y≠_; rw [k]; decide)] at q
   exact q
 ·exact e0.hok.fresh (Nat.le_of_lt (x.above y c (PySem.mem_of_lookup h)))
 ·unfold start
  show _=N.length
  rw [List.length_append,List.length_map,List.length_replicate]
  omega
theorem ZdH {CX:gQ} {P:Program} {w:World} {K:PySem.W.Frag} {mg:Str->Option Value} {base:Heap} {k:Nat} {f:Addr} {name qual:Str} {params:Arguments} {body:List Stmt} {scope:Scope} {dV kV doc pm cdv ct oc:Value} {an od:Option Addr}
  {osl:Array (Option Value)} {N ps:List Str} {sp:Sp} (lk:K.lookup f=some ⟨oc,od,.func (PySem.W.fnOf name qual params body scope dV kV doc pm an cdv ct),osl⟩) (hcd:PySem.W.codeIn K cdv qual=true) (S:FnScope N ps scope)
  (len:∀ vs H Q E,sp vs H Q E->vs.length=ps.length)
  (hbody:∀ (A:Around) (outer:List Env) (s:Shared) (H:Hp) (vs:List V) (Q:VK) (E:XK),Room k (A.deeper (envOfC qual scope s.heap.objs.size f cdv))->sp vs H Q E ->
   ∃ t,PSs (fG CX P w K mg base N qual scope f cdv A outer s H E) body t/\t { nx:=λ_ H'=>Q .non H',rt:=Q } (start N vs) H) :
  FnOk P w K mg base CX (k+1) f (PySem.W.fnOf name qual params body scope dV kV doc pm an cdv ct) ps sp:=by
 refine ⟨len,λA outer s H args us vs Q E hr e0 hb r hsp=>?_⟩
 have hl:=len _ _ _ _ hsp
 have KX:K.In s.heap:=e0.mod.kin.keeps λb o e=>(e0.bs b o e).1
 have lim:s.heap.NoLimit:=e0.mod.nolimit.keeps λb o e=>(e0.bs b o e).1
 have hkind:∀ y∈ps.zip us,scope.names.lookup y.1=some .local\/(scope.names.lookup y.1=some .cell/\((cellsFrom (s.heap.objs.size+1) scope.names []).lookup y.1).isSome=true):=λ⟨n,v⟩ hy=>by
  rcases S.par n (List.of_mem_zip hy).1 with q | q
  ·exact .inl q
  ·exact .inr ⟨q,PySem.W.cellsFrom_some _ _ _ (.inl q)⟩
 refine codeAny_call_function hr.depth (KX _ _ lk) rfl S.co S.gen rfl (PySem.W.codeRec_of KX hcd) (hb _ _ _ _ ?_)
 refine wpAny_newFunctionEnv_cells S.kind hkind λenv he s1 x=>?_
 subst he
 refine ⟨lim.keeps x.toInCall.keep,codeAny_func ?_⟩
 obtain ⟨t,ht,hq⟩:=hbody A outer s H vs Q E (hr.deeper _) hsp
 have I:Inv (fG CX P w K mg base N qual scope f cdv A outer s H E) [] (start N vs) H s1:=Zj6 S hr.hd e0 hl r x
 refine wpAny_mono (ht [] s1 (start N vs) H _ I hq) (λfl s' hs=>?_) λe s' hs=>hs
 have fin:∀ {σ':St} {H':Hp} {v:V} {u:Value},Inv (fG CX P w K mg base N qual scope f cdv A outer s H E) [] σ' H' s'->RelV v u->Q v H'->CE outer P w H s Q u s' :=
  λ{σ' H' v u} J rv q=>⟨v,H',J.os,J.bare,J.base,J.hok,rv,q⟩
 cases fl with
 | ret u =>
  obtain ⟨v,σ',H',J,rv,q⟩:=hs
  exact fin J rv q
 | next =>
  obtain ⟨σ',H',J,q⟩:=hs
  exact fin (v:=V.non) (u:=Value.none) J rfl q
 | brk =>
  obtain ⟨_,_,_,q⟩:=hs
  exact False.elim q
 | cont =>
  obtain ⟨_,_,_,q⟩:=hs
  exact False.elim q
section
variable {X:Cx} {x:Str} {p pos:Pos} {e:Expr} {es:List Expr} {t:TA} {id T:String} {r:List V->Hp->VK->Prop}
noncomputable def i9 (r:List V->Hp->VK->Prop) (t:TA):TE:=λσ H Q=>t σ H λvs H1=>r vs H1 Q
theorem c6 (hc:gg X (.builtin id) r) (hg:Gl X x) (hm:X.mg x=none) (hv:bootBuiltins x=some (.builtin id)) (ha:PA X (e::es) t) (hn:x≠"__name__":=by decide) (hdb:(x == ("__debug__":Str))=false:=by decide)
  (he:starEach (e::es) X.env=(false,eval e X.env)::starEach es X.env:=by rfl) (hpl:(backTo pos (starEach es X.env)).any (·.1)=false:=by rfl):PE X (.Call (.Name x p) (e::es) [] pos) (i9 r t):=by
 intro pins s σ H Q I h
 refine wpAny_Call_Name_kw (iP I hg hm hv ?_ hn hdb)
 exact PyProof.Rows.callWith_builtin1 (thn (ha pos pins s σ H _ I h) λus s1 ⟨vs,H1,I1,r1,q1⟩=>hc pins s1 σ H1 vs us Q I1 r1 q1) he hpl
theorem gk (hc:gg X (.type T) r) (hg:Gl X x) (hm:X.mg x=none) (hv:bootBuiltins x=some (.type T)) (ha:PA X (e::es) t) (hn:x≠"__name__":=by decide) (hdb:(x == ("__debug__":Str))=false:=by decide)
  (he:starEach (e::es) X.env=(false,eval e X.env)::starEach es X.env:=by rfl) (hpl:(backTo pos (starEach es X.env)).any (·.1)=false:=by rfl):PE X (.Call (.Name x p) (e::es) [] pos) (i9 r t):=by
 intro pins s σ H Q I h
 refine wpAny_Call_Name_kw (iP I hg hm hv ?_ hn hdb)
 exact PyProof.Rows.callWith_type1 (thn (ha pos pins s σ H _ I h) λus s1 ⟨vs,H1,I1,r1,q1⟩=>hc pins s1 σ H1 vs us Q I1 r1 q1) he hpl
end
end L2
namespace HT
open PySem PyProof.Rows
section
open PySem.SeqAt
open PySem.AutoSeq1 (wpAny_loadPart')
open PySem.MeetsSeq PySem.MeetsSeq2 PySem.MeetsSeq3
end
section
variable {prog:Program} {w:World} {A:Around} {E:Value->Shared->Prop} {s:Shared}
theorem Zok {t b:Addr} {vs ws:List Value} {Q:Value->Shared->Prop} (ht:IsTup s.heap t vs.toArray) (hb:IsTup s.heap b ws.toArray) (hv:vs≠[])
  (h1:ws=[]->Q (.ref t) s) (h2:ws≠[]->Q (.ref s.heap.objs.size) { s with heap:=s.heap.push { cls:=.type "tuple",data:=.seq (vs++ws).toArray } })
  (hsz:vs.length+ws.length<=sizeLine):wpAny (model prog w) A (binaryOp .Add (.ref t) (.ref b)) Q E s:=by
 obtain ⟨⟨cls,dd,data,sl⟩,ho,hc,n,hd⟩:=id ht
 obtain ⟨⟨cls2,dd2,data2,gi⟩,ho2,hc2,n2,hd2⟩:=id hb
 simp only at hc hd hc2 hd2
 subst hc hd hc2 hd2
 have e:vs.toArray++ws.toArray=(vs++ws).toArray:=by simp
 by_cases hw:ws=[]
 ·exact concat_meets ⟨_,ho,rfl⟩ ⟨_,ho2,rfl⟩ noFill_tuple_add seq_tuple_add PySem.F.slot_tuple_add PySem.F.entry_tuple_add (PySem.F.args_tuple_add_2 _ _)
   (tuple_addW1 t b vs.toArray ws.toArray n n2 dd dd2 sl gi (by simpa using hv) (by simp [hw])) ⟨ho,ho2,h1 hw⟩
 ·refine concat_meets ⟨_,ho,rfl⟩ ⟨_,ho2,rfl⟩ noFill_tuple_add seq_tuple_add PySem.F.slot_tuple_add PySem.F.entry_tuple_add (PySem.F.args_tuple_add_2 _ _)
   (tuple_addW2 t b vs.toArray ws.toArray n n2 dd dd2 sl gi (by simpa using hv) (by simpa using hw) (by rw [List.size_toArray,List.size_toArray]; exact hsz)) ⟨ho,ho2,?_⟩
  rw [e]
  exact h2 hw
noncomputable def bX (n d:Nat):Option Int->Nat
 | none=>d
 | some v=>if v < 0 then (v+(n:Int)).toNat else min v.toNat n
theorem Zhn (n d k:Nat):bX n d (some (k:Int))=min k n:=by
 show (if (k:Int) < 0 then ((k:Int)+(n:Int)).toNat else min (k:Int).toNat n)=min k n
 rw [if_neg (by omega),Int.toNat_natCast]
theorem Zho (n d:Nat) (hd:d<=n) (o:Option Int):bX n d o<=n:=by
 cases o with
 | none=>exact hd
 | some v =>
  show (if v < 0 then (v+(n:Int)).toNat else min v.toNat n)<=n
  by_cases hv:v < 0
  ·rw [if_pos hv]; omega
  ·rw [if_neg hv]; exact Nat.min_le_right _ _
theorem Zer (v:Int) (n d:Nat):(if v < 0 then max (v+(n:Int)) 0 else min v (n:Int))=((bX n d (some v):Nat):Int):=by
 show (if v < 0 then max (v+(n:Int)) 0 else min v (n:Int))=(((if v < 0 then (v+(n:Int)).toNat else min v.toNat n):Nat):Int)
 by_cases hv:v < 0
 ·rw [if_pos hv,if_pos hv,Int.ofNat_toNat]
 ·rw [if_neg hv,if_neg hv]
  obtain ⟨k,rfl⟩:=Int.eq_ofNat_of_zero_le (Int.not_lt.mp hv)
  rw [Int.toNat_natCast,<- Lean.Omega.Int.ofNat_min]
theorem Zpl (lo hi:Option Int) (n:Nat):Builtin.Slice.sliceAdjust lo hi 1 (n:Int)=(((bX n 0 lo:Nat):Int),((bX n n hi:Nat):Int)):=by
 have h1:¬ ((1:Int) < 0):=by omega
 unfold Builtin.Slice.sliceAdjust
 simp only [h1,if_false]
 refine Prod.ext ?_ ?_
 ·cases lo with
  | none=>rfl
  | some v=>exact Zer v n 0
 ·cases hi with
  | none=>rfl
  | some v=>exact Zer v n n
theorem Zh8 (i j:Nat):Builtin.Slice.slicePlaces (i:Int) (j:Int) 1=j - i:=by
 unfold Builtin.Slice.slicePlaces
 have h1:(1:Int) > 0:=by omega
 simp only [h1,if_true,Int.ediv_one]
 split <;> omega
theorem ZaP {v:Value} {o:Option Int} {Q:Option Int->Shared->Prop} (p:IsPart v o) (h:Q o s):wpAny (model prog w) A (Builtin.Slice.slicePartIndex v) Q E s:=by
 cases p with
 | none=>exact slicePart_none h
 | int i t=>exact slicePart_int h
theorem ZaR {sl:Addr} {vl vu:Value} {lo hi:Option Int} {n:Nat} {Q:Int×Int×Nat->Shared->Prop} (hs:s.heap.IsSliceOf sl vl vu .none) (pl:IsPart vl lo) (pu:IsPart vu hi)
  (h:Q (((bX n 0 lo:Nat):Int),1,bX n n hi - bX n 0 lo) s):wpAny (model prog w) A (Builtin.Slice.sliceApplied (.ref sl) (pure (n:Int))) Q E s:=by
 obtain ⟨os,hos,hcs,hds⟩:=id hs
 unfold Builtin.Slice.sliceApplied Builtin.Slice.sliceFields
 refine wpAny_bind (wpAny_bind (wpAny_field hos hds (x:=vl) rfl (wpAny_bind (wpAny_field hos hds (x:=vu) rfl (wpAny_bind (wpAny_field hos hds (x:=.none) rfl (wpAny_pure ?_)))))))
 refine wpAny_bind (slicePart_none ?_)
 show wpAny _ _ (if ((1:Int) == 0)=true then _ else _) _ _ s
 rw [if_neg (by decide)]
 refine wpAny_bind (ZaP pl (wpAny_bind (ZaP pu (wpAny_bind (wpAny_pure ?_)))))
 show wpAny _ _ (match Builtin.Slice.sliceAdjust lo hi 1 (n:Int) with | (lo,hi)=>pure (lo,(1:Int),Builtin.Slice.slicePlaces lo hi 1)) _ _ s
 rw [Zpl lo hi n]
 show wpAny _ _ (pure (((bX n 0 lo:Nat):Int),(1:Int),Builtin.Slice.slicePlaces ((bX n 0 lo:Nat):Int) ((bX n n hi:Nat):Int) 1)) _ _ s
 rw [Zh8]
 exact wpAny_pure h
theorem Zh9 (xs:Array Value) (i k:Nat):((List.range k).filterMap λ(m:Nat)=>xs[((i:Int)+(m:Int) * 1).toNat]?).toArray=((xs.toList.drop i).take k).toArray:=by
 have e:(λ(m:Nat)=>xs[((i:Int)+(m:Int) * 1).toNat]?)=λm=>xs[i+m]?:=by
  funext m
  have:((i:Int)+(m:Int) * 1).toNat=i+m:=by omega
  rw [this]
 rw [e]
 have:=pick_run xs i k
 rw [List.filterMap_map] at this
 have e2:((λx=>xs[x]?) ∘ λx=>i+x)=λm=>xs[i+m]?:=rfl
 rw [e2] at this
 rw [this]
theorem Zkj {t sl:Addr} {items:Array Value} {vl vu:Value} {lo hi:Option Int} {Q:Value->Shared->Prop} (ht:IsTup s.heap t items) (hs:s.heap.IsSliceOf sl vl vu .none) (pl:IsPart vl lo) (pu:IsPart vu hi)
  (hw:¬ (bX items.size 0 lo=0/\bX items.size items.size hi=items.size))
  (h:Q (.ref s.heap.objs.size) { s with heap:=s.heap.push { cls:=.type "tuple",data:=.seq ((items.toList.drop (bX items.size 0 lo)).take (bX items.size items.size hi - bX items.size 0 lo)).toArray } })
  (hsz:items.size<=sizeLine):wpAny (model prog w) A (getItem (.ref t) (.ref sl)) Q E s:=by
 have htake:sizeOk (.seq ((items.toList.drop (bX items.size 0 lo)).take (bX items.size items.size hi - bX items.size 0 lo)).toArray):=by
  show ((items.toList.drop (bX items.size 0 lo)).take (bX items.size items.size hi - bX items.size 0 lo)).toArray.size<=sizeLine
  rw [List.size_toArray,List.length_take,List.length_drop,Array.length_toList]
  exact Nat.le_trans (Nat.min_le_right _ _) (Nat.le_trans (Nat.sub_le _ _) hsz)
 have hj:bX items.size items.size hi<=items.size:=Zho _ _ (Nat.le_refl _) hi
 obtain ⟨os,hos,hcs,hds⟩:=id hs
 have hTs:s.TypeIs (.ref sl) "slice":=⟨os,hos,hcs⟩
 unfold getItem
 try with_reducible refine wpAny_holding ?_
 first | refine wpAny_bind (wpAny_pure ?_) | skip
 refine wpAny_bind (wpAny_sequenceKey ht.typeIs (by decide) ?_)
 refine wpAny_bind (wpAny_callSpecial?_slot (name:=Str.ofString "__getitem__") ht.typeIs PyProof.Rows.slot_tuple_getitem
  (wpAny_call_entry PyProof.Rows.slot_tuple_getitem ht.typeIs entry_tuple_getitem ?_ (args_tuple_getitem _ _)))
 show wpAny _ _ (Builtin.Tuple.tupleItemsOf (.ref t) >>= _) _ _ s
 refine wpAny_bind (tupleItemsOf_ ht ?_)
 refine wpAny_bind (wpAny_typeOf hTs ?_)
 rw [if_pos (by decide)]
 refine wpAny_bind (ZaR hs pl pu ?_)
 have hno:¬ ((((bX items.size 0 lo:Nat):Int) == 0 && (1:Int) == 1 && (bX items.size items.size hi - bX items.size 0 lo) == items.size)=true):=by
  intro q
  rw [Bool.and_eq_true,Bool.and_eq_true] at q
  have q1:((bX items.size 0 lo:Nat):Int)=0:=eq_of_beq q.1.1
  have q2:bX items.size items.size hi - bX items.size 0 lo=items.size:=eq_of_beq q.2
  exact hw ⟨by omega,by omega⟩
 show wpAny _ _ (if (((bX items.size 0 lo:Nat):Int) == 0 && (1:Int) == 1 && (bX items.size items.size hi - bX items.size 0 lo) == items.size)=true then _ else _) _ _ s
 rw [if_neg hno,Zh9]
 first
  | exact wpAny_bind (m:=Builtin.Tuple.tupleExact _) (wpAny_newObj_type (wpAny_pure ⟨_,rfl,wpAny_pure h⟩) htake)
  | exact wpAny_bind (m:=Builtin.Tuple.tupleExact _) (wpAny_newObj_type (wpAny_bind (wpAny_pure (wpAny_pure ⟨_,rfl,wpAny_pure h⟩))) htake)
  | exact wpAny_bind (wpAny_bind (m:=Builtin.Tuple.tupleExact _) (wpAny_newObj_type (wpAny_pure (wpAny_pure ⟨_,rfl,wpAny_pure h⟩)) htake))
  | exact wpAny_bind (wpAny_bind (m:=Builtin.Tuple.tupleExact _) (wpAny_newObj_type (wpAny_pure ⟨_,rfl,wpAny_pure h⟩) htake))
end
end HT
namespace L2
open PySem PySem.Spec PyProof.Rows
noncomputable abbrev TO:=St->Hp->(Option Int->Hp->Prop)->Prop
noncomputable def PO (X:Cx) (e:Option Expr) (t:TO):Prop :=
 ∀ (pins:List (Addr×Obj)) (s:Shared) (σ:St) (H:Hp) (Q:Option Int->Hp->Prop),Inv X pins σ H s->t σ H Q ->
  wpAny (model X.prog X.w) X.A (evalPart e X.env) (λu s'=>∃ o H',Inv X pins σ H' s'/\IsPart u o/\Q o H') X.xe s
noncomputable def Zgg:TO:=λ_ H Q=>Q none H
noncomputable def Zgc (t:TE):TO:=λσ H Q=>t σ H λx H1=>∃ i,x=.int i/\Q (some i) H1
section
variable {X:Cx} {e:Expr} {te:TE} {lo hi:Option Expr} {tl th:TO} {pos p2:Pos}
theorem Zcv:PO X none Zgg:=by
 intro pins s σ H Q I h
 rw [evalPart_none]
 exact wpAny_pure ⟨none,H,I,.none,h⟩
theorem Zcu (h:PE X e te):PO X (some e) (Zgc te):=by
 intro pins s σ H Q I hw
 rw [evalPart_some]
 refine thn (h pins s σ H _ I hw) λu s1 hz0=>?_
 obtain ⟨x,H1,I1,r1,q1⟩:=hz0
 obtain ⟨i,rfl,q⟩:=q1
 obtain ⟨t,rfl⟩:=r1
 exact ⟨some i,H1,I1,.int i t,q⟩
noncomputable def SlR (X:Cx) (r:V->Option Int->Option Int->Hp->VK->Prop):Prop :=
 ∀ (pins:List (Addr×Obj)) (s:Shared) (σ:St) (H:Hp) (x:V) (v vl vu:Value) (lo hi:Option Int) (sl:Addr) (Q:VK),Inv X pins σ H s->RelV x v->s.heap.IsSliceOf sl vl vu .none->IsPart vl lo->IsPart vu hi->r x lo hi H Q ->
  ∃ T id,typeLookup (.type T) "__getitem__"=pure (some (.builtin id))/\s.TypeIs v T/\wpAny (model X.prog X.w) X.A (getItem v (.ref sl)) (EP X pins σ Q) X.xe s
theorem SlR.or {r r':V->Option Int->Option Int->Hp->VK->Prop} (h:SlR X r) (h':SlR X r'):SlR X (λx lo hi H Q=>r x lo hi H Q\/r' x lo hi H Q):=by
 intro pins s σ H x v vl vu lo hi sl Q I rx hs pl pu q
 rcases q with q | q
 ·exact h pins s σ H x v vl vu lo hi sl Q I rx hs pl pu q
 ·exact h' pins s σ H x v vl vu lo hi sl Q I rx hs pl pu q
noncomputable def tSl (r:V->Option Int->Option Int->Hp->VK->Prop) (te:TE) (tl th:TO):TE:=λσ H Q=>te σ H λx H1=>tl σ H1 λl H2=>th σ H2 λu H3=>r x l u H3 Q
theorem ZcA {r:V->Option Int->Option Int->Hp->VK->Prop} (hr:SlR X r) (he:PE X e te) (hl:PO X lo tl) (hu:PO X hi th):PE X (.Subscript e (.Slice lo hi none p2) pos) (tSl r te tl th):=by
 intro pins s σ H Q I h
 refine Subscript_ (thn (he pins s σ H _ I h) λv s1 hz0=>?_)
 obtain ⟨x,H1,I1,r1,q1⟩:=hz0
 refine wpAny_Slice (thn (hl pins s1 σ H1 _ I1 q1) λvl s2 ⟨l,H2,I2,pl,q2⟩=>thn (hu pins s2 σ H2 _ I2 q2) λvu s3 hz0=>?_)
 obtain ⟨u,H3,I3,pu,q3⟩:=hz0
 rw [evalPart_none]
 refine wpAny_pure ?_
 have I4:Inv X pins σ H3 { s3 with heap:=s3.heap.push { cls:=.type "slice",data:=.fields #[vl,vu,.none] } }:=I3.kept (t':=s3.toks) λb ob q=>Heap.get?_push_of_some _ q
 obtain ⟨T,id,hT,ht,hg⟩:=hr pins { s3 with heap:=s3.heap.push { cls:=.type "slice",data:=.fields #[vl,vu,.none] } } σ H3 x v vl vu l u s3.heap.objs.size Q I4 r1 (Heap.IsSliceOf.new ..) pl pu q3
 show wpAny (model X.prog X.w) X.A (subscriptTail e (.Slice lo hi none p2) v (.ref s3.heap.objs.size)) (EP X pins σ Q) X.xe { s3 with heap:=s3.heap.push { cls:=.type "slice",data:=.fields #[vl,vu,.none] } }
 exact tail_any (ops:=[.ref s3.heap.objs.size,v]) ht hT hg (by with_unfolding_all rfl)
noncomputable def gN (xs:List V) (lo hi:Option Int):List V:=(xs.drop (HT.bX xs.length 0 lo)).take (HT.bX xs.length xs.length hi - HT.bX xs.length 0 lo)
theorem Zeo (xs:List V) (lo hi:Option Int):(gN xs lo hi).length<=xs.length:=by
 unfold gN
 rw [List.length_take,List.length_drop]
 exact Nat.le_trans (Nat.min_le_right _ _) (Nat.sub_le _ _)
noncomputable def Zb0 (K:PySem.W.Frag):V->Option Int->Option Int->Hp->VK->Prop:=λx lo hi H Q=>∃ a xs,x=.ref a/\SqT K H a xs /\
 ¬ (HT.bX xs.length 0 lo=0/\HT.bX xs.length xs.length hi=xs.length)/\∀ p,H p=none->Q (.ref p) (upd H p (.tup (gN xs lo hi)))
theorem ZgC:SlR X (Zb0 X.K):=by
 intro pins s σ H x v vl vu lo hi sl Q I rx hs pl pu h
 obtain ⟨a,xs,rfl,hx,hw,q⟩:=h
 cases rx
 obtain ⟨its,r,ht,hz⟩:=I.tuple hx
 have hlen:its.toArray.size=xs.length:=by rw [List.size_toArray]; exact r.length.symm
 refine ⟨"tuple",_,PyProof.Rows.slot_tuple_getitem.lookup,ht.typeIs,?_⟩
 refine HT.Zkj ht hs pl pu (by rw [hlen]; exact hw) ?_ (by rw [hlen]; exact hz)
 rw [hlen]
 refine ⟨.ref s.heap.objs.size,_,I.laid (t':=s.toks) (o:=.tup (gN xs lo hi)) (λb ob q=>Heap.get?_push_of_some _ q) (Nat.le_refl _) ?_,rfl,q _ (I.hok.fresh (Nat.le_refl _))⟩
 exact ⟨Nat.le_trans (Zeo xs lo hi) hz,_,(r.drop (HT.bX xs.length 0 lo)).take (HT.bX xs.length xs.length hi - HT.bX xs.length 0 lo),IsTup.new _ _⟩
noncomputable def Zcg (K:PySem.W.Frag):R2:=λx y H Q=>∃ a b xs ys,x=.ref a/\y=.ref b/\SqT K H a xs/\SqT K H b ys/\xs≠[]/\xs.length+ys.length<=sizeLine /\
 (ys=[]->Q (.ref a) H)/\(ys≠[]->∀ p,H p=none->Q (.ref p) (upd H p (.tup (xs++ys))))
theorem Vals.nil_iff {xs:List V} {us:List Value} (r:Vals xs us):us=[] ↔ xs=[]:=by
 cases r with
 | nil=>simp
 | cons _ _=>simp
theorem ZiM:OpR X (binaryOp .Add) (Zcg X.K):=by
 intro pins s σ H x y v u Q I rx ry h
 obtain ⟨a,b,xs,ys,rfl,rfl,ha,hb,hx,hz,q1,q2⟩:=h
 cases rx
 cases ry
 obtain ⟨its,r1,p1,_⟩:=I.tuple ha
 obtain ⟨its2,r2,p2,_⟩:=I.tuple hb
 refine HT.Zok p1 p2 (λz=>hx (r1.nil_iff.mp z)) (λz=>⟨.ref a,H,I,rfl,q1 (r2.nil_iff.mp z)⟩) (λz=>?_) (by rw [<- r1.length,<- r2.length]; exact hz)
 refine ⟨.ref s.heap.objs.size,_,I.laid (t':=s.toks) (o:=.tup (xs++ys)) (λb ob q=>Heap.get?_push_of_some _ q) (Nat.le_refl _) ?_,rfl,q2 (λw=>z (r2.nil_iff.mpr w)) _ (I.hok.fresh (Nat.le_refl _))⟩
 exact ⟨by rw [List.length_append]; exact hz,_,r1.append r2,IsTup.new _ _⟩
end
noncomputable def gu (n:Nat) (i:Int):Option Nat:=if 0<=i then (if i < n then some i.toNat else none) else if -(n:Int)<=i then some (i+n).toNat else none
noncomputable def cR {α:Type} (xs:List α) (i:Int):Option α:=(gu xs.length i).bind λj=>xs[j]?
theorem Zdl {n:Nat} {i:Int} {j:Nat} (h:gu n i=some j):seqIndex? i n=some j/\j < n/\-(n:Int)<=i/\i < n:=by
 unfold gu at h
 by_cases h0:0<=i
 ·rw [if_pos h0] at h
  by_cases h1:i < n
  ·rw [if_pos h1] at h
   have e:i.toNat=j:=Option.some.inj h
   exact ⟨by rw [seqIndex_of h0 h1,e],by omega,by omega,h1⟩
  ·rw [if_neg h1] at h; cases h
 ·rw [if_neg h0] at h
  by_cases h1:-(n:Int)<=i
  ·rw [if_pos h1] at h
   have e:(i+n).toNat=j:=Option.some.inj h
   exact ⟨by rw [seqIndex_neg (by omega) h1,e],by omega,h1,by omega⟩
  ·rw [if_neg h1] at h; cases h
theorem uN {α:Type} {xs:List α} {i:Int} {v:α} (h:cR xs i=some v):∃ j,seqIndex? i xs.length=some j/\xs[j]?=some v/\j < xs.length/\-(xs.length:Int)<=i/\i < xs.length:=by
 unfold cR at h
 cases e:gu xs.length i with
 | none=>rw [e] at h; cases h
 | some j =>
  rw [e] at h
  obtain ⟨h1,h2,h3,h4⟩:=Zdl e
  exact ⟨j,h1,h,h2,h3,h4⟩
theorem gx {α:Type} {xs:List α} {j:Nat} {v:α} (h:xs[j]?=some v):cR xs (j:Int)=some v:=by
 have hj:j < xs.length:=(List.getElem?_eq_some_iff.mp h).1
 have e:gu xs.length (j:Int)=some j:=by
  unfold gu
  rw [if_pos (by omega),if_pos (by omega)]; simp
 unfold cR; rw [e]; exact h
noncomputable def Zfe (b:Expr):Prop:=∀ o i,subscripted b false o i=operate [o,i] (getItem o i)
noncomputable def IxR (X:Cx) (r:R2):Prop :=
 ∀ (value slice:Expr) (pins:List (Addr×Obj)) (s:Shared) (σ:St) (H:Hp) (x y:V) (v u:Value) (Q:VK),Inv X pins σ H s->RelV x v->RelV y u->r x y H Q ->
  subscripted slice false v u=operate [v,u] (getItem v u)->wpAny (model X.prog X.w) X.A (subscriptTail value slice v u) (EP X pins σ Q) X.xe s
noncomputable def MtR (X:Cx) (id:String) (r:V->List V->Hp->VK->Prop):Prop :=
 ∀ (pins:List (Addr×Obj)) (s:Shared) (σ:St) (H:Hp) (x:V) (xs:List V) (v:Value) (us:List Value) (Q:VK),Inv X pins σ H s->RelV x v->Vals xs us->r x xs H Q ->
  wpAny (model X.prog X.w) X.A (call (.builtin id) (v::us)) (EP X pins σ Q) X.xe s
section
variable {X:Cx} {a b:Expr} {ta tb:TE} {pos:Pos}
theorem IxR.or {r r':R2} (h:IxR X r) (h':IxR X r'):IxR X (λx y H Q=>r x y H Q\/r' x y H Q):=by
 intro value slice pins s σ H x y v u Q I rx ry q hs
 rcases q with q | q
 ·exact h value slice pins s σ H x y v u Q I rx ry q hs
 ·exact h' value slice pins s σ H x y v u Q I rx ry q hs
theorem im {r:R2} (hr:IxR X r) (ha:PE X a ta) (hb:PE X b tb) (hs:Zfe b):PE X (.Subscript a b pos) (jB r ta tb):=by
 intro pins s σ H Q I h
 exact Subscript_ (uF ha hb I h λv u s2 x y H2 I2 rx ry q=>hr a b pins s2 σ H2 x y v u Q I2 rx ry q (hs _ _))
noncomputable def Zca (K:PySem.W.Frag):R2:=λx y H Q=>∃ p xs i v,x=.ref p/\y=.int i/\SqL K H p xs/\cR xs i=some v/\Q v H
noncomputable def Zb8 (K:PySem.W.Frag):R2:=λx y H Q=>∃ p xs i v,x=.ref p/\y=.int i/\SqT K H p xs/\cR xs i=some v/\Q v H
noncomputable def Zb9:R2:=λx y H Q=>∃ z i c,x=.str z/\y=.int i/\z.length<=sizeLine/\cR z.cps.toList i=some c/\Q (.str ⟨#[c]⟩) H
theorem ip:IxR X (Zca X.K):=by
 intro value slice pins s σ H x y v u Q I rx ry h hs
 obtain ⟨p,xs,i,z,rfl,rfl,hq,he,q⟩:=h
 cases rx
 obtain ⟨t,rfl⟩:=ry
 obtain ⟨its,r,pl,hz⟩:=I.list hq
 obtain ⟨j,h1,h2,h3,h4,h5⟩:=uN he
 obtain ⟨w,ew,rw'⟩:=r.get h2
 have hl:=r.length
 have hn:=jS
 have fin:EP X pins σ Q w s:=⟨z,H,I,rw',q⟩
 by_cases h0:0<=i
 ·have hj:i.toNat=j:=by
   rw [seqIndex_of h0 h5] at h1
   exact Option.some.inj h1
  exact item_listR pl.isList h0 (by omega) (by rw [hj]; simpa using ew) fin hs
 ·have hj:(i+(its.toArray.size:Int)).toNat=j:=by
   rw [seqIndex_neg (by omega) h4] at h1
   rw [List.size_toArray,<- hl]
   exact Option.some.inj h1
  exact subscriptTail_builtinR (x:=w) pl.isList.typeIs slot_list_getitem.lookup
   (wpAny_getItem_list_neg (Q:=λr s'=>r=w/\EP X pins σ Q r s') pl.isList (by omega) (by rw [List.size_toArray] <;> omega) (by omega) (by rw [hj]; simpa using ew) ⟨rfl,fin⟩) hs
theorem ZjW:IxR X (Zb8 X.K):=by
 intro value slice pins s σ H x y v u Q I rx ry h hs
 obtain ⟨p,xs,i,z,rfl,rfl,hq,he,q⟩:=h
 cases rx
 obtain ⟨t,rfl⟩:=ry
 obtain ⟨its,r,pl,hz⟩:=I.tuple hq
 obtain ⟨j,h1,h2,h3,h4,h5⟩:=uN he
 obtain ⟨w,ew,rw'⟩:=r.get h2
 have hl:=r.length
 have hn:=jS
 have fin:EP X pins σ Q w s:=⟨z,H,I,rw',q⟩
 exact subscriptTail_builtinR (x:=w) pl.typeIs slot_tuple_getitem.lookup
  (getItem_tuple (j:=j) (Q:=λr s'=>r=w/\EP X pins σ Q r s') pl (by omega) (by omega) (by rw [List.size_toArray,<- hl]; exact h1) (by simpa using ew) ⟨rfl,fin⟩) hs
theorem ZjX:IxR X Zb9:=by
 intro value slice pins s σ H x y v u Q I rx ry h hs
 obtain ⟨z,i,c,rfl,rfl,hz,he,q⟩:=h
 obtain ⟨t,rfl⟩:=rx
 obtain ⟨t',rfl⟩:=ry
 obtain ⟨j,h1,h2,h3,h4,h5⟩:=uN he
 have hl:z.cps.toList.length=z.length:=by simp [Str.length]
 rw [hl] at h1 h4 h5
 have hn:=jS
 exact tail_any (typeIs_str s z t) slot_str_getitem.lookup (getItem_str (c:=c) (by
  have e1:decide (i < -(2 ^ 63:Int))=false:=decide_eq_false (by omega)
  have e2:decide (i ≥ 2 ^ 63)=false:=decide_eq_false (by omega)
  rw [e1,e2,Bool.or_false]) (by rw [h1]; simpa using h2) ⟨.str ⟨#[c]⟩,H,I.tok _,⟨_,rfl⟩,q⟩) hs
noncomputable def rIx (K:PySem.W.Frag):R2:=λx y H Q=>Zca K x y H Q\/Zb8 K x y H Q\/Zb9 x y H Q
theorem cj:IxR X (rIx X.K):=ip.or (ZjW.or ZjX)
theorem Zjj (its:List Value) (n j:Nat) (u:Value):Obj.mapSeq (·.setIfInBounds j u) { cls:=.type "list",data:=.seq its.toArray n }={ cls:=.type "list",data:=.seq (its.set j u).toArray n }:=by
 simp [Obj.mapSeq]
theorem Inv.lst {pins:List (Addr×Obj)} {σ:St} {H:Hp} {s:Shared} {p:Addr} {xs:List V} (I:Inv X pins σ H s) (h:H p=some (.lst xs)) :
  ∃ (its:List Value) (n:Nat),Vals xs its/\s.heap.get? p=some { cls:=.type "list",data:=.seq its.toArray n }/\xs.length<=sizeLine:=by
 obtain ⟨z,its,n,r,e⟩:=I.hok p _ h
 exact ⟨its,n,r,e,z⟩
theorem Inv.lstUpd {pins:List (Addr×Obj)} {σ:St} {H:Hp} {s:Shared} {p:Addr} {xs ys:List V} {its its':List Value} {n n':Nat} {f:Obj->Obj} (I:Inv X pins σ H s) (h:H p=some (.lst xs))
  (ho:s.heap.get? p=some { cls:=.type "list",data:=.seq its.toArray n }) (hf:f { cls:=.type "list",data:=.seq its.toArray n }={ cls:=.type "list",data:=.seq its'.toArray n' }) (r:Vals ys its') (hz:ys.length<=sizeLine) (t:Nat) :
  Inv X pins σ (upd H p (.lst ys)) { s with heap:=s.heap.update p f,toks:=t }:=by
 have e:(s.heap.update p f).get? p=some { cls:=.type "list",data:=.seq its'.toArray n' }:=by
  rw [Heap.get?_update_self f ho (by rw [hf] <;> rfl),hf]
 refine I.write (x:=p) (e:=p) (by rw [h]; trivial) (.inl rfl) (λb u hb q=>(Heap.get?_update_other _ _ (Ne.symm hb)).trans q) ⟨_,e⟩ ?_
 exact ⟨hz,its',n',r,e⟩
noncomputable def Zb2:V->V->V->Hp->(Hp->Prop)->Prop:=λo i v H Q=>∃ p xs k j,o=.ref p/\i=.int k/\H p=some (.lst xs)/\gu xs.length k=some j/\Q (upd H p (.lst (xs.set j v)))
theorem on:Zff X Zb2:=by
 intro pins s σ H o i v ov iv u Q I ro ri rv h
 obtain ⟨p,xs,k,j,rfl,rfl,hp,hj,q⟩:=h
 cases ro
 obtain ⟨t,rfl⟩:=ri
 obtain ⟨its,n,r,ho,hz⟩:=I.lst hp
 obtain ⟨h1,h2,h3,h4⟩:=Zdl hj
 have hl:=r.length
 have hn:=jS
 have I':Inv X pins σ (upd H p (.lst (xs.set j v))) { s with heap:=s.heap.update p (Obj.mapSeq (·.setIfInBounds j u)) } :=
  I.lstUpd hp ho (Zjj its n j u) (r.set rv j) (by rw [List.length_set]; exact hz) s.toks
 by_cases h0:0<=k
 ·have hk:k.toNat=j:=by
   rw [seqIndex_of h0 h4] at h1
   exact Option.some.inj h1
  exact PySem.W.ki_setAt ho h0 (by omega) (by rw [List.size_toArray,<- hl]; exact h4) (by rw [hk]; exact ⟨_,I',q⟩)
 ·have hk:(k+(its.toArray.size:Int)).toNat=j:=by
   rw [seqIndex_neg (by omega) h3] at h1
   rw [List.size_toArray,<- hl]
   exact Option.some.inj h1
  exact PySem.W.ki_setBack ho (by omega) (by rw [List.size_toArray,<- hl]; exact h3) (by omega) (by rw [hk]; exact ⟨_,I',q⟩)
theorem Zem {n:Nat} {i:Int} (h:i < 0):max 0 (min (i+(n:Int)) n)=(((i+n).toNat:Nat):Int):=by
 rw [Int.min_eq_left (by omega),Int.ofNat_toNat,Int.max_comm]
theorem Zen {n:Nat} {i:Int} (h:¬ i < 0):max 0 (min i (n:Int))=((min i.toNat n:Nat):Int):=by
 obtain ⟨k,rfl⟩:=Int.eq_ofNat_of_zero_le (Int.not_lt.mp h)
 rw [Int.toNat_natCast,<- Lean.Omega.Int.ofNat_min]
 exact Int.max_eq_right (Int.natCast_nonneg _)
theorem Zgz (lo hi:Option Int) (n:Nat):(sliceBounds lo hi none n).1=((HT.bX n 0 lo:Nat):Int)/\(sliceBounds lo hi none n).2.1=((HT.bX n n hi:Nat):Int)/\(sliceBounds lo hi none n).2.2=1:=by
 refine ⟨?_,?_,rfl⟩
 ·cases lo with
  | none=>simp [sliceBounds,HT.bX]
  | some i =>
   simp only [sliceBounds,HT.bX,Option.getD_none,show (1:Int) > 0 by decide,if_true]
   by_cases h:i < 0
   ·simp only [h,if_true]
    exact Zem h
   ·simp only [h,if_false]
    exact Zen h
 ·cases hi with
  | none=>simp [sliceBounds,HT.bX]
  | some i =>
   simp only [sliceBounds,HT.bX,Option.getD_none,show (1:Int) > 0 by decide,if_true]
   by_cases h:i < 0
   ·simp only [h,if_true]
    exact Zem h
   ·simp only [h,if_false]
    exact Zen h
theorem ZgA (its:List Value) (lo hi:Option Int):slicePick its.toArray lo hi none=((its.drop (HT.bX its.length 0 lo)).take (HT.bX its.length its.length hi - HT.bX its.length 0 lo)).toArray:=by
 obtain ⟨h1,h2,h3⟩:=Zgz lo hi its.toArray.size
 unfold slicePick
 rw [h1,h2,h3]
 simp only [sliceRange_one,pick_run,List.size_toArray] <;> rfl
noncomputable def Zb1 (K:PySem.W.Frag):V->Option Int->Option Int->Hp->VK->Prop:=λx lo hi H Q=>∃ a xs,x=.ref a/\SqL K H a xs/\∀ p,H p=none->Q (.ref p) (upd H p (.lst (gN xs lo hi)))
theorem ZaS:SlR X (Zb1 X.K):=by
 intro pins s σ H x v vl vu lo hi sl Q I rx hs pl pu h
 obtain ⟨a,xs,rfl,hx,q⟩:=h
 cases rx
 obtain ⟨its,r,ht,hz⟩:=I.list hx
 have hlen:=r.length
 refine ⟨"list",_,slot_list_getitem.lookup,ht.isList.typeIs,?_⟩
 refine wpAny_getItem_list_slice ht.isList hs pl pu .none (by simp) ?_ (by rw [List.size_toArray] <;> omega)
 rw [ZgA,<- hlen]
 refine ⟨.ref s.heap.objs.size,_,I.laid (t':=s.toks) (o:=.lst (gN xs lo hi)) (λb ob q=>Heap.get?_push_of_some _ q) (Nat.le_refl _) ?_,rfl,q _ (I.hok.fresh (Nat.le_refl _))⟩
 exact ⟨Nat.le_trans (Zeo xs lo hi) hz,_,0,(r.drop (HT.bX xs.length 0 lo)).take (HT.bX xs.length xs.length hi - HT.bX xs.length 0 lo),Heap.get?_push_size _ rfl⟩
noncomputable def hU:V->Bool
 | .non=>true
 | .bl _=>true
 | .int _=>true
 | .str _=>true
 | _=>false
noncomputable def eqV:V->V->Bool
 | .non,.non=>true
 | .bl a,.bl b=>a == b
 | .bl a,.int b=>(if a then 1 else 0) == b
 | .int a,.bl b=>a == (if b then 1 else 0)
 | .int a,.int b=>a == b
 | .str a,.str b=>a == b
 | _,_=>false
theorem Znc {A:Around} {s:Shared} {y x:V} {u v:Value} (ry:RelV y u) (rx:RelV x v) (fy:hU y=true) (fx:hU x=true):SeqAt.EqAt A s u v (eqV y x):=by
 cases y with
 | non =>
  cases ry
  cases x with
  | non=>cases rx; exact SeqAt.EqAt.same _
  | bl b=>cases rx; exact SeqAt.EqAt.none_bool b
  | int b=>obtain ⟨t,rfl⟩:=rx; exact SeqAt.EqAt.none_int b t
  | str b=>obtain ⟨t,rfl⟩:=rx; exact SeqAt.EqAt.none_str b t
  | _=>exact absurd (show false=true from fx) Bool.false_ne_true
 | bl a =>
  cases ry
  cases x with
  | non=>cases rx; exact SeqAt.EqAt.bool_none a
  | bl b=>cases rx; exact SeqAt.EqAt.bool_bool a b
  | int b=>obtain ⟨t,rfl⟩:=rx; exact SeqAt.EqAt.bool_int a b t
  | str b=>obtain ⟨t,rfl⟩:=rx; exact SeqAt.EqAt.bool_str a b t
  | _=>exact absurd (show false=true from fx) Bool.false_ne_true
 | int a =>
  obtain ⟨t',rfl⟩:=ry
  cases x with
  | non=>cases rx; exact SeqAt.EqAt.int_none a t'
  | bl b=>cases rx; exact SeqAt.EqAt.int_bool a t' b
  | int b=>obtain ⟨t,rfl⟩:=rx; exact SeqAt.EqAt.int_int a t' b t
  | str b=>obtain ⟨t,rfl⟩:=rx; exact SeqAt.EqAt.int_str a t' b t
  | _=>exact absurd (show false=true from fx) Bool.false_ne_true
 | str a =>
  obtain ⟨t',rfl⟩:=ry
  cases x with
  | non=>cases rx; exact SeqAt.EqAt.str_none a t'
  | bl b=>cases rx; exact SeqAt.EqAt.str_bool a t' b
  | int b=>obtain ⟨t,rfl⟩:=rx; exact SeqAt.EqAt.str_int a t' b t
  | str b=>obtain ⟨t,rfl⟩:=rx; exact SeqAt.EqAt.str_str a t' b t
  | _=>exact absurd (show false=true from fx) Bool.false_ne_true
 | _=>exact absurd (show false=true from fy) Bool.false_ne_true
noncomputable def iS (x:V) (u:Value):Bool:=match u with
 | .none=>eqV .non x
 | .bool b=>eqV (.bl b) x
 | .int i _=>eqV (.int i) x
 | .str z _=>eqV (.str z) x
 | _=>false
theorem ZdW {x y:V} {u:Value} (r:RelV y u) (f:hU y=true):iS x u=eqV y x:=by
 cases y with
 | non=>cases r; rfl
 | bl b=>cases r; rfl
 | int i=>obtain ⟨t,rfl⟩:=r; rfl
 | str z=>obtain ⟨t,rfl⟩:=r; rfl
 | _=>exact absurd (show false=true from f) Bool.false_ne_true
theorem uT {x:V}:∀ {xs:List V} {us:List Value},Vals xs us->xs.all hU=true->us.any (iS x)=xs.any λy=>eqV y x
 | _,_,.nil,_=>rfl
 | y::xs,u::us,.cons r t,f=>by
  rw [List.all_cons,Bool.and_eq_true] at f
  rw [List.any_cons,List.any_cons,ZdW r f.1,uT t f.2]
theorem tD {A:Around} {s:Shared} {x:V} {v:Value} (rx:RelV x v) (fx:hU x=true):∀ {xs:List V} {us:List Value},Vals xs us->xs.all hU=true->∀ u∈us,SeqAt.EqAt A s u v (iS x u)
 | _,_,.nil,_=>λu hu=>by cases hu
 | y::xs,u::us,.cons r t,f=>λu' hu=>by
  rw [List.all_cons,Bool.and_eq_true] at f
  rcases List.mem_cons.mp hu with rfl | hu
  ·rw [ZdW r f.1]; exact Znc r rx f.1 fx
  ·exact tD rx fx t f.2 u' hu
noncomputable def inV (x:V) (xs:List V):Bool:=xs.any λy=>eqV y x
noncomputable def rIn (K:PySem.W.Frag) (neg:Bool):R2:=λx y H Q=>∃ p xs,y=.ref p/\(SqL K H p xs\/SqT K H p xs)/\hU x=true/\xs.all hU=true/\Q (.bl (if neg then !inV x xs else inV x xs)) H
theorem ZiI:OpR X (compareOp .In) (rIn X.K false):=by
 intro pins s σ H x y v u Q I rx ry h
 obtain ⟨p,xs,rfl,hq,fx,fs,q⟩:=h
 cases ry
 rcases hq with hq | hq
 ·obtain ⟨its,r,pl,hz⟩:=I.list hq
  refine SeqAt.in_listAt (iS x) pl.isList (λw hw=>tD rx fx r fs w (by simpa using hw)) ⟨.bl _,H,I,rfl,?_⟩
  rw [show its.toArray.any (iS x)=its.any (iS x) by simp,uT r fs]
  exact q
 ·obtain ⟨its,r,pl,hz⟩:=I.tuple hq
  refine SeqAt.in_tupleAt (iS x) pl (λw hw=>tD rx fx r fs w (by simpa using hw)) ⟨.bl _,H,I,rfl,?_⟩
  rw [show its.toArray.any (iS x)=its.any (iS x) by simp,uT r fs]
  exact q
theorem lF:gg X (.builtin "len") (λxs H Q=>∃ p ys,xs=[.ref p]/\(SqL X.K H p ys\/SqT X.K H p ys)/\Q (.int ys.length) H):=by
 intro pins s σ H xs us Q I r h
 obtain ⟨p,ys,rfl,hq,q⟩:=h
 obtain ⟨u,rfl,rx⟩:=gS r
 cases rx
 have hn:=jS
 rcases hq with hq | hq
 ·obtain ⟨its,r',pl,hz⟩:=I.list hq
  have hlen:=r'.length
  exact Calls.call_len_list pl.isList (by simp only [List.size_toArray] <;> omega) ⟨.int ys.length,H,I.tok _,⟨s.toks+1,by rw [List.size_toArray,hlen]⟩,q⟩
 ·obtain ⟨its,r',pl,hz⟩:=I.tuple hq
  have hlen:=r'.length
  exact len_tuple pl (by simp only [List.size_toArray] <;> omega) ⟨.int ys.length,H,I.tok _,⟨s.toks+1,by rw [List.size_toArray,hlen]⟩,q⟩
theorem Zou:gg X (.type "list") (λxs H Q=>∃ p ys,xs=[.ref p]/\(SqL X.K H p ys\/SqT X.K H p ys)/\∀ l,H l=none->Q (.ref l) (upd H l (.lst ys))):=by
 intro pins s σ H xs us Q I r h
 obtain ⟨p,ys,rfl,hq,q⟩:=h
 obtain ⟨u,rfl,rx⟩:=gS r
 cases rx
 have fin:∀ (its:List Value),Vals ys its->ys.length<=sizeLine->∀ (h':Heap) (c':Nat),(∀ b o',s.heap.get? b=some o'->h'.get? b=some o') ->
   h'.get? s.heap.objs.size=some { cls:=.type "list",dict:=none,data:=.seq its.toArray c',slots:=#[] }->EP X pins σ Q (.ref s.heap.objs.size) { s with heap:=h' }:=λits r' hz h' c' kp e =>
  ⟨.ref s.heap.objs.size,_,I.laid (t':=s.toks) kp (Nat.le_refl _) (show ObjOk X.prog X.w _ h' _ (.lst ys) from ⟨hz,its,c',r',e⟩),rfl,q _ (I.hok.fresh (Nat.le_refl _))⟩
 rcases hq with hq | hq
 ·obtain ⟨its,r',pl,hz⟩:=I.list hq
  have hlen:=r'.length
  obtain ⟨o,ho,hc,n,hd⟩:=pl.isList
  exact call_list_seq p (.inl rfl) ho hc hd (λh' c' kp e=>fin its r' hz h' c' kp e) (by simp only [List.size_toArray] <;> omega)
 ·obtain ⟨its,r',pl,hz⟩:=I.tuple hq
  have hlen:=r'.length
  obtain ⟨o,ho,hc,n,hd⟩:=pl
  exact call_list_seq p (.inr rfl) ho hc hd (λh' c' kp e=>fin its r' hz h' c' kp e) (by simp only [List.size_toArray] <;> omega)
theorem lE:gg X (.type "tuple") (λxs H Q=>∃ p ys,xs=[.ref p]/\((SqL X.K H p ys/\∀ l,H l=none->Q (.ref l) (upd H l (.tup ys)))\/(SqT X.K H p ys/\Q (.ref p) H))):=by
 intro pins s σ H xs us Q I r h
 obtain ⟨p,ys,rfl,h⟩:=h
 obtain ⟨u,rfl,rx⟩:=gS r
 cases rx
 rcases h with ⟨hq,q⟩ | ⟨hq,q⟩
 ·obtain ⟨its,r',pl,hz⟩:=I.list hq
  have hlen:=r'.length
  refine call_tuple_list pl.isList (λh' kp=>?_) (by simp only [List.size_toArray] <;> omega)
  have I1:Inv X pins σ H { s with heap:=h' }:=I.kept (t':=s.toks) kp
  have I2:Inv X pins σ (upd H h'.objs.size (.tup ys)) { s with heap:=h'.push { cls:=.type "tuple",data:=.seq its.toArray } } :=
   I1.laid (t':=s.toks) (λb o e=>Heap.get?_push_of_some _ e) (Nat.le_refl _) (show ObjOk X.prog X.w _ _ _ (.tup ys) from ⟨hz,its,r',IsTup.new _ _⟩)
  exact ⟨.ref h'.objs.size,_,I2,rfl,q _ (I1.hok.fresh (Nat.le_refl _))⟩
 ·obtain ⟨its,r',pl,hz⟩:=I.tuple hq
  exact call_tuple_same pl ⟨.ref p,H,I,rfl,q⟩
noncomputable def rp (K:PySem.W.Frag) (T:String) (x:V) (H:Hp):Prop:=match x with
 | .str _=>T="str"
 | .int _=>T="int"
 | .ref p=>(T="list"/\∃ xs,SqL K H p xs)\/(T="tuple"/\∃ o,K.lookup p=some o/\o.cls=.type "tuple"/\o.dict=none) \/
   (T="dict"/\((∃ kvs,H p=some (.dK kvs))\/∃ kvs,H p=some (.dT kvs)))\/(T="set"/\∃ S n,H p=some (.set S n))
 | _=>False
theorem Zaq {pins:List (Addr×Obj)} {σ:St} {H:Hp} {s:Shared} {T:String} {x:V} {v:Value} (I:Inv X pins σ H s) (r:RelV x v) (ty:rp X.K T x H) :
  s.TypeIs v T/\∀ a,v=.ref a->∃ ob,s.heap.get? a=some ob/\ob.dict=none:=by
 cases x with
 | str z =>
  obtain ⟨t,rfl⟩:=r
  cases (show T="str" from ty)
  exact ⟨typeIs_str s z t,λ_ e=>nomatch e⟩
 | int i =>
  obtain ⟨t,rfl⟩:=r
  cases (show T="int" from ty)
  exact ⟨typeIs_int s i t,λ_ e=>nomatch e⟩
 | ref p =>
  cases r
  rcases ty with ⟨rfl,xs,hq⟩ | ⟨rfl,o,hk,hc,hd⟩ | ⟨rfl,hk⟩ | ⟨rfl,S,n,hk⟩
  ·obtain ⟨its,_,pl,_⟩:=I.list hq
   refine ⟨pl.isList.typeIs,λa e=>?_⟩
   cases e
   obtain ⟨o,n,e,c,hd,_⟩:=pl
   exact ⟨o,e,hd⟩
  ·refine ⟨⟨o,I.kIn p o hk,hc⟩,λa e=>?_⟩
   cases e
   exact ⟨o,I.kIn _ o hk,hd⟩
  ·have z:∃ o,s.heap.get? p=some o/\o.ExactDict:=by
    rcases hk with ⟨kvs,hk⟩ | ⟨kvs,hk⟩
    ·obtain ⟨_,_,_,_,o,_,_,e,ex,_⟩:=I.hok p _ hk
     exact ⟨o,e,ex⟩
    ·obtain ⟨_,_,_,_,o,_,_,e,ex,_⟩:=I.hok p _ hk
     exact ⟨o,e,ex⟩
   obtain ⟨o,e,ex⟩:=z
   refine ⟨⟨o,e,ex.1⟩,λa e2=>?_⟩
   cases e2
   exact ⟨o,e,ex.2.1⟩
  ·obtain ⟨o,_,_,_,e,ex,_⟩:=I.hok p _ hk
   refine ⟨⟨o,e,ex.1⟩,λa e2=>?_⟩
   cases e2
   exact ⟨o,e,ex.2.1⟩
 | _=>exact False.elim ty
noncomputable def ZaF (K:PySem.W.Frag) (T:String) (r:V->List V->Hp->VK->Prop) (to:TE):TE:=λσ H Q=>to σ H λx H1=>rp K T x H1/\r x [] H1 Q
noncomputable def oj (K:PySem.W.Frag) (T:String) (r:V->List V->Hp->VK->Prop) (to:TE) (t:TA):TE:=λσ H Q=>to σ H λx H1=>rp K T x H1/\t σ H1 λxs H2=>r x xs H2 Q
variable {o e:Expr} {es:List Expr} {to:TE} {t:TA} {name:Str} {apos cpos:Pos} {T id:String} {r:V->List V->Hp->VK->Prop}
theorem sR (pa:PlainAttrs T) (slot:Slot T name id) (hty:typeOf (.builtin id)=pure (.type "method_descriptor")) (hm:MtR X id r) (ho:PE X o to)
  (hbase:attributeBase o name X.env (eval o X.env)=eval o X.env:=by rfl) (hline:(apos.endLine == cpos.line)=true:=by rfl):PE X (.Call (.Attribute o name apos) [] [] cpos) (ZaF X.K T r to):=by
 intro pins s σ H Q I h
 refine wpAny_Call_method0_late hbase hline (thn (ho pins s σ H _ I h) λv s1 hz0=>?_)
 obtain ⟨x,H1,I1,r1,ty,q1⟩:=hz0
 obtain ⟨h1,h2⟩:=Zaq I1 r1 ty
 exact ⟨T,id,pa,slot,hty,h1,h2,Calls.callWith_builtin rfl (PySem.evalArgs_none (hm pins s1 σ H1 x [] v [] Q I1 r1 .nil q1))⟩
theorem iI (pa:PlainAttrs T) (slot:Slot T name id) (hty:typeOf (.builtin id)=pure (.type "method_descriptor")) (hm:MtR X id r) (ho:PE X o to) (ha:PA X (e::es) t)
  (hbase:attributeBase o name X.env (eval o X.env)=eval o X.env:=by rfl)
  (hfew:((backTo cpos (starEach (e::es) X.env)).all (λx=>!x.1) && (backToKw cpos (keywordEach [] X.env)).all (λx=>x.1.isSome)
   && decide ((e::es).length+([]:List Keyword).length+(if ([]:List Keyword).isEmpty then 0 else 1) < 30))=true:=by rfl)
  (hline:(apos.endLine == cpos.line)=true:=by rfl) (hs:starEach (e::es) X.env=(false,eval e X.env)::starEach es X.env:=by rfl) (hplain:(backTo cpos (starEach es X.env)).any (·.1)=false:=by rfl) :
  PE X (.Call (.Attribute o name apos) (e::es) [] cpos) (oj X.K T r to t):=by
 intro pins s σ H Q I h
 refine wpAny_Call_method_late hbase hfew hline rfl (thn (ho pins s σ H _ I h) λv s1 hz0=>?_)
 obtain ⟨x,H1,I1,r1,ty,q1⟩:=hz0
 obtain ⟨h1,h2⟩:=Zaq I1 r1 ty
 refine ⟨T,id,pa,slot,hty,h1,h2,?_⟩
 have hA:=ha cpos pins s1 σ H1 _ I1 q1
 rw [hs] at hA ⊢
 refine Calls.callWith_builtin (by show (false || (backTo cpos (starEach es X.env)).any (·.1))=false; rw [hplain] <;> rfl) (Calls.evalArgs_plain ?_)
 exact thn hA λus s2 hz0=>by
  obtain ⟨vs,H2,I2,r2,q2⟩:=hz0
  exact hm pins s2 σ H2 x vs v us Q I2 r1 r2 q2
end
noncomputable def vi (X:Cx) (id:String) (r:V->List V->Hp->VK->Prop):Prop :=
 ∀ (pins:List (Addr×Obj)) (s:Shared) (σ:St) (H:Hp) (x:V) (xs:List V) (v:Value) (us:List Value) (Q:VK),Inv X pins σ H s->RelV x v->Vals xs us->r x xs H Q ->
  wpAny (model X.prog X.w) X.A (call (.builtin id) (v::us)) (EP X pins σ Q) X.xe s
theorem Vals.one {x:V} {us:List Value} (h:Vals [x] us):∃ u,us=[u]/\RelV x u:=by
 cases h with
 | cons r t=>cases t; exact ⟨_,rfl,r⟩
theorem Vals.zero:∀ {us:List Value},Vals [] us->us=[]
 | _,.nil=>rfl
theorem Vals.dropLast {xs:List V} {us:List Value} (h:Vals xs us):Vals xs.dropLast us.dropLast:=by
 induction h with
 | nil=>exact .nil
 | cons r t ih =>
  cases t with
  | nil=>exact .nil
  | cons q t'=>exact .cons r ih
theorem Vals.rep {xs:List V} {us:List Value} (h:Vals xs us):∀ k:Nat,Vals (List.replicate k xs).flatten (List.replicate k us).flatten
 | 0=>.nil
 | k+1=>by
  rw [List.replicate_succ,List.replicate_succ,List.flatten_cons,List.flatten_cons]
  exact Vals.append h (Vals.rep h k)
theorem Zm8 {α:Type} (l:List α):l.eraseIdx (l.length - 1)=l.dropLast:=by
 induction l with
 | nil=>rfl
 | cons a r ih =>
  cases r with
  | nil=>rfl
  | cons b r =>
   have e:(a::b::r).length - 1=((b::r).length - 1)+1:=by
    have h1:(a::b::r).length=r.length+2:=rfl
    have h2:(b::r).length=r.length+1:=rfl
    omega
   rw [e,List.eraseIdx_cons_succ,ih]
   all_goals rfl
theorem ZdF (its:List Value):∀ (k:Nat) (acc:List Value),
  List.foldl (λx1 x2=>x1++x2) acc.toArray (List.replicate k its.toArray)=(acc++(List.replicate k its).flatten).toArray
 | 0,acc=>by simp
 | k+1,acc=>by
  have e:acc.toArray++its.toArray=(acc++its).toArray:=by simp
  have e2:(acc++its)++(List.replicate k its).flatten=acc++(List.replicate (k+1) its).flatten:=by
   rw [List.replicate_succ,List.flatten_cons,List.append_assoc]
  rw [<- e2,<- ZdF its k (acc++its),<- e,List.replicate_succ,List.foldl_cons]
section
variable {X:Cx} {pins:List (Addr×Obj)} {σ:St} {H:Hp} {s:Shared} {l b:Addr} {xs ys zs:List V}
theorem Inv.lset {its its':List Value} {n:Nat} {f:Array Value->Array Value} {t':Nat} (I:Inv X pins σ H s) (hH:H l=some (.lst xs))
  (e:s.heap.get? l=some { cls:=.type "list",data:=.seq its.toArray n }) (hf:f its.toArray=its'.toArray) (hv:Vals ys its') (hz:ys.length<=sizeLine) :
  Inv X pins σ (upd H l (.lst ys)) { s with heap:=s.heap.update l (Obj.mapSeq f),toks:=t' }:=by
 have q:=PySem.IsL.update e f
 rw [hf] at q
 refine I.write (x:=l) (e:=l) (by rw [hH]; exact trivial) (.inl rfl) (λb' u hb hu=>(Heap.get?_update_other s.heap (Obj.mapSeq f) (Ne.symm hb)).trans hu) ⟨_,q⟩ ?_
 exact ⟨hz,its',_,hv,q⟩
theorem Inv.lnew {its:List Value} {t':Nat} (I:Inv X pins σ H s) (hv:Vals ys its) (hz:ys.length<=sizeLine) :
  Inv X pins σ (upd H s.heap.objs.size (.lst ys)) { s with heap:=s.heap.push { cls:=.type "list",data:=.seq its.toArray },toks:=t' } :=
 I.laid (λ_ _ q=>Heap.get?_push_of_some _ q) (Nat.le_refl _) ⟨hz,its,0,hv,Heap.get?_push_size _ rfl⟩
theorem Inv.fresh (I:Inv X pins σ H s):H s.heap.objs.size=none:=I.hok.fresh (Nat.le_refl _)
theorem Inv.lstM (I:Inv X pins σ H s) (hH:H l=some (.lst xs)):xs.length<=sizeLine/\∃ (its:List Value) (n:Nat),Vals xs its/\xs.length=its.length/\s.heap.get? l=some { cls:=.type "list",data:=.seq its.toArray n }:=by
 obtain ⟨z,its,n,r,e⟩:=I.hok l _ hH
 exact ⟨z,its,n,r,r.length,e⟩
theorem ZcQ {n:Nat} (h:n<=sizeLine):Builtin.List.listTooLong n=false:=by
 unfold Builtin.List.listTooLong
 exact decide_eq_false (by omega)
end
section
variable {X:Cx}
noncomputable def sF:V->List V->Hp->VK->Prop:=λx vs H Q=>∃ l xs y,x=.ref l/\vs=[y]/\H l=some (.lst xs)/\xs.length < sizeLine/\Q .non (upd H l (.lst (xs++[y])))
theorem jk:vi X "list.append" sF:=by
 intro pins s σ H x vs v us Q I rx rv h
 obtain ⟨l,xs,y,rfl,rfl,hH,hz,q⟩:=h
 cases rx
 obtain ⟨u,rfl,ru⟩:=rv.one
 obtain ⟨z,its,n,r,hl,e⟩:=I.lstM hH
 refine call_meets F.slot_list_append ⟨_,e,rfl⟩ F.entry_list_append (F.args_list_append_2 _ _) (PySem.list_append l its.toArray n u (by rw [List.size_toArray]; omega)) ⟨e,?_⟩
 refine ⟨.non,_,I.lset (its':=its++[u]) hH e (by simp) (r.append (.cons ru .nil)) ?_,rfl,q⟩
 rw [List.length_append,List.length_singleton]
 omega
noncomputable def Zcd:V->List V->Hp->VK->Prop:=λx vs H Q=>∃ l b xs zs,x=.ref l/\vs=[.ref b]/\H l=some (.lst xs)/\H b=some (.lst zs)/\xs.length+zs.length<=sizeLine/\Q .non (upd H l (.lst (xs++zs)))
theorem Zi9:vi X "list.extend" Zcd:=by
 intro pins s σ H x vs v us Q I rx rv h
 obtain ⟨l,b,xs,zs,rfl,rfl,hH,hB,hz,q⟩:=h
 cases rx
 obtain ⟨u,rfl,ru⟩:=rv.one
 cases ru
 obtain ⟨z,its,n,r,hl,e⟩:=I.lstM hH
 obtain ⟨z2,its2,n2,r2,hl2,e2⟩:=I.lstM hB
 have hsz:its.toArray.size+its2.toArray.size<=sizeLine:=by rw [List.size_toArray,List.size_toArray]; omega
 have hlong:¬ (!its.toArray.isEmpty && Builtin.List.listTooLong (its.toArray.size+its2.toArray.size))=true:=by
  rw [ZcQ hsz,Bool.and_false]
  exact Bool.false_ne_true
 refine call_meets F.slot_list_extend ⟨_,e,rfl⟩ F.entry_list_extend (F.args_list_extend_2 _ _)
  (AutoSeq1.list_extend_list_list_0 l its.toArray n b its2.toArray n2 hlong (by rw [List.size_toArray]; omega) (by omega)) ⟨e,e2,?_⟩
 refine ⟨.non,_,I.lset (its':=its++its2) hH e (by simp) (r.append r2) ?_,rfl,q⟩
 rw [List.length_append]
 omega
noncomputable def Zb4:V->List V->Hp->VK->Prop:=λx vs H Q=>∃ l xs y,x=.ref l/\vs=[]/\H l=some (.lst xs)/\xs[xs.length - 1]?=some y/\Q y (upd H l (.lst xs.dropLast))
theorem tu:vi X "list.pop" Zb4:=by
 intro pins s σ H x vs v us Q I rx rv h
 obtain ⟨l,xs,y,rfl,rfl,hH,hy,q⟩:=h
 cases rx
 have hus:=rv.zero
 subst hus
 obtain ⟨z,its,n,r,hl,e⟩:=I.lstM hH
 obtain ⟨u,hu,ru⟩:=r.get hy
 have hy':its.toArray[its.toArray.size - 1]?=some u:=by
  show its.toArray[its.length - 1]?=some u
  rw [<- Array.getElem?_toList,<- hl]
  exact hu
 refine call_meets F.slot_list_pop ⟨_,e,rfl⟩ F.entry_list_pop (F.args_list_pop_1 _) (MeetsSeq.list_pop_last l its.toArray n u hy' (by rw [List.size_toArray]; omega)) ⟨e,?_⟩
 refine ⟨y,_,I.lset (its':=its.dropLast) hH e ?_ r.dropLast ?_,ru,q⟩
 ·show its.toArray.eraseIdxIfInBounds (its.toArray.size - 1)=its.dropLast.toArray
  rw [List.size_toArray,List.eraseIdxIfInBounds_toArray,Zm8]
 ·rw [List.length_dropLast]
  omega
noncomputable def Zci:R2:=λx y H Q=>∃ l b xs zs,x=.ref l/\y=.ref b/\H l=some (.lst xs)/\H b=some (.lst zs)/\xs.length+zs.length<=sizeLine/\∀ p,H p=none->Q (.ref p) (upd H p (.lst (xs++zs)))
theorem ZiO:OpR X (binaryOp .Add) Zci:=by
 intro pins s σ H x y v u Q I rx ry h
 obtain ⟨l,b,xs,zs,rfl,rfl,hH,hB,hz,q⟩:=h
 cases rx
 cases ry
 obtain ⟨z,its,n,r,hl,e⟩:=I.lstM hH
 obtain ⟨z2,its2,n2,r2,hl2,e2⟩:=I.lstM hB
 refine PySem.P.add_list e e2 ?_ (by rw [List.size_toArray,List.size_toArray]; omega)
 have ea:its.toArray++its2.toArray=(its++its2).toArray:=by simp
 rw [ea]
 exact ⟨.ref _,_,I.lnew (t':=s.toks) (r.append r2) (by rw [List.length_append]; omega),rfl,q _ I.fresh⟩
noncomputable def sD:R2:=λx y H Q=>∃ l k xs,x=.ref l/\y=.int k/\H l=some (.lst xs)/\-(2 ^ 63)<=k/\k < 2 ^ 63/\xs.length * k.toNat<=sizeLine /\
 ∀ p,H p=none->Q (.ref p) (upd H p (.lst (List.replicate k.toNat xs).flatten))
theorem Zjw {α:Type} (xs:List α) (k:Nat):(List.replicate k xs).flatten.length=k * xs.length:=by
 induction k with
 | zero=>simp
 | succ k ih=>rw [List.replicate_succ,List.flatten_cons,List.length_append,ih,Nat.succ_mul,Nat.add_comm]
theorem ZcJ:OpR X (binaryOp .Mult) sD:=by
 intro pins s σ H x y v u Q I rx ry h
 obtain ⟨l,k,xs,rfl,rfl,hH,h1,h2,hz,q⟩:=h
 cases rx
 obtain ⟨t,rfl⟩:=ry
 obtain ⟨z,its,n,r,hl,e⟩:=I.lstM hH
 have hlen:its.toArray.size * k.toNat<=sizeLine:=by rw [List.size_toArray,<- hl]; exact hz
 have hcap:¬ its.toArray.size * k.toNat > (2 ^ 63 - 1) / 8:=by
  have:(sizeLine:Nat)<=(2 ^ 63 - 1) / 8:=by decide
  omega
 have hfit:¬ (!Builtin.List.listFitsIndex k)=true:=by
  rw [fitsIndex_both h1 h2]
  exact Bool.false_ne_true
 have hlong:¬ Builtin.List.listTooLong (its.toArray.size * k.toNat)=true:=by
  rw [ZcQ hlen]
  exact Bool.false_ne_true
 have hnew:List.foldl (λx1 x2=>x1++x2) #[] (List.replicate (if its.toArray.isEmpty=true then 0 else k.toNat) its.toArray)=(List.replicate k.toNat its).flatten.toArray:=by
  have f0:∀ m:Nat,List.foldl (λx1 x2=>x1++x2) #[] (List.replicate m its.toArray)=(List.replicate m its).flatten.toArray:=λm=>by
   have:=ZdF its m []
   rw [List.nil_append] at this
   exact this
  rw [f0]
  cases its with
  | nil=>simp
  | cons a r'=>rw [if_neg (by simp)]
 refine wpAny_binaryOp_repeat_ref (T:="list") (U:="int") (by decide) ⟨_,e,rfl⟩ (λs'=>typeIs_int s' k t) noFill_list_mul F.fills_int_mul F.slot_int_rmul repeat_list F.slot_int_index.lookup
  (call_meets F.slot_int_rmul (typeIs_int s k t) F.entry_int_rmul (F.args_int_rmul_2 _ _) (int___rmul___int_list k t l its.toArray n)
   ⟨e,rfl,⟨_,e,rfl⟩,call_meets F.slot_list_mul ⟨_,e,rfl⟩ F.entry_list_mul (F.args_list_mul_2 _ _) (AutoListH.list___mul___list_int_3 l its.toArray n k t hfit hcap hlong) ⟨e,?_⟩⟩)
 rw [hnew]
 exact ⟨.ref _,_,I.lnew (t':=s.toks) (r.rep k.toNat) (by rw [Zjw,Nat.mul_comm]; exact hz),rfl,q _ I.fresh⟩
end
section
variable {prog:Program} {w:World} {A:Around} {E:Value->Shared->Prop} {s:Shared}
end
section
variable {X:Cx}
end
section
variable {κ:Type} [DecidableEq κ]
end
section
variable {P:Program} {w:World} {H:Hp} {h:Heap} {a:Addr}
end
section
variable {X:Cx} {pins:List (Addr×Obj)} {σ:St} {H:Hp} {s:Shared} {a:Addr} {y v:V} {u r:Value} {o:Option V} {A:Around} {E:Value->Shared->Prop}
end
section
variable {X:Cx} {pins:List (Addr×Obj)} {σ:St} {H:Hp} {s:Shared} {a:Addr} {kvs:List (cX×V)} {k:cX} {u:Value} {A:Around} {E:Value->Shared->Prop}
end
section
variable {X:Cx} {o i e value:Expr} {pos pos' tpos:Pos} {td ty tv:TE}
end
section
variable {X:Cx} {pos:Pos}
end
section
variable {X:Cx} {pins:List (Addr×Obj)} {σ:St} {H:Hp} {s:Shared} {a:Addr} {y d:V} {u r:Value} {o:Option V} {A:Around} {E:Value->Shared->Prop}
end
section
variable {X:Cx} {o e f:Expr} {apos cpos:Pos} {td ty tx:TE}
end
section
variable {X:Cx} {pins:List (Addr×Obj)} {σ:St} {H:Hp} {s:Shared} {a:Addr} {kvs:List (cX×V)} {A:Around} {E:Value->Shared->Prop}
end
section
variable {X:Cx} {pins:List (Addr×Obj)} {σ:St} {H:Hp} {s:Shared} {a:Addr} {y:V} {u:Value} {A:Around} {E:Value->Shared->Prop}
end
end L2
namespace Att
open PySem PySem.W PySem.Calls PyProof.Rows
theorem ints_of_wellAll {P:Params} {h:Heap}:∀ (ns:List Int) (vs:List Value),WellAll P h vs (ns.map WData.int)->IntsAre vs ns:=by
 intro ns
 induction ns with
 | nil =>
  intro vs w
  rw [List.map_nil] at w
  cases w
  exact .nil
 | cons n ns ih =>
  intro vs w
  rw [List.map_cons] at w
  cases w with
  | cons a b =>
   cases a
   exact .cons _ _ (ih _ b)
theorem script_of {l:OpenLaw} {n:Nat} (hn:l.most=some n) {P:Params} {h:Heap} {args:List WData} {vals:List Value}
  (hpre:l.row.toRowW.claim.pre args=true) (hwl:WellAll P h vals args) :
  ∃ a vs ns,vals=[Value.ref a]/\args=[WData.list (ns.map WData.int)]/\h.get? a=some { cls:=.type "list",data:=.seq vs.toArray }/\IntsAre vs ns/\ns.length<=n:=by
 have hsh:WShape.hasAll [] args [.list .int]=true:=(pre_splitW hpre).1
 have hc:l.pre.holds [] { args:=args }=true:=(pre_splitW hpre).2
 obtain ⟨d,r,rfl,h1,h2⟩:=hasAllW_cons hsh
 obtain rfl:=hasAllW_nil h2
 obtain ⟨xs,rfl,h3⟩:=hasW_list h1
 obtain ⟨ns,rfl⟩:=items_int h3
 have hlen:ns.length<=n:=by
  unfold OpenLaw.pre at hc
  have h4:(WTm.not (.lt (.lit (.int (n:Int))) (.len (.arg 0)))).holds [] { args:=[.list (ns.map .int)] }=true:=by
   have h4:=(holds_andW hc).1
   rw [hn] at h4
   exact h4
  have h5:=condW_of h4 (w_not (w_lt w_lit (w_len_list (w_arg rfl))))
  rw [List.length_map] at h5
  refine Nat.le_of_not_lt λq=>?_
  have q':(n:Int) < ((ns.length:Nat):Int):=by omega
  first
   | (rw [decide_eq_true q'] at h5; exact absurd h5 (by decide))
   | (simp at h5; omega)
 cases hwl with
 | cons w1 w2 =>
  cases w2
  cases w1 with
  | list ho hall=>exact ⟨_,_,ns,rfl,rfl,ho,ints_of_wellAll ns _ hall,hlen⟩
theorem post_true (l:OpenLaw) (args:List WData):l.row.toRowW.claim.post args (.bool true) args=true :=
 postW_of (r:=l.row.toRowW) (X:=(true == true))
  (show WShape.has [] (.bool true) .bool=true by first | rfl | decide | simp [WShape.has,WShape.arms,WShape.armsAll])
  (show (WTm.eq .res (.lit (.bool true))).value [] { args:=args,res:=some (.bool true),after:=args }=some (.bool (true == true)) from w_eq_bool (w_res rfl) w_lit) rfl
theorem attach_call {l:OpenLaw} {n:Nat} {q:Program} {loose:List Str} {XP:(Str->Option Value)->Heap->Prop} {YP:World->Heap->Prop} {d:DefRec}
  (hn:l.most=some n) (hdf:d.params.defaults=[])
  (call:∀ (w:World) (s₀ s₁:Shared) (mg mb:Str->Option Value) (fa:Addr) (o:Obj) (pm cd doc:Value) (a:Addr) (vs:List Value) (ns:List Int),
   Ground q loose [] XP w s₀ mg mb s₁.heap->YP w s₁.heap ->
   s₁.heap.get? fa=some o->o.data=.func (docDef d.name d.params d.body d.scope pm cd doc)->s₁.heap.CodeRec cd d.name->mg d.name=some (.ref fa) ->
   s₁.heap.get? a=some { cls:=.type "list",data:=.seq vs.toArray }->IntsAre vs ns->ns.length<=n->s₁.gens=#[] ->
   codeAny (model l.prog w) callerA (.call (.ref fa) ⟨[.ref a],[]⟩) (λr s'=>r=.ok (.ret (.bool true))/\OldK s₁.heap s'.heap/\s'.os=s₁.os/\AllBare s'.gens) s₁) :
  WalkO q loose XP YP l.row.toRowW d [] (λf vs=>PySem.call f vs):=by
 intro w s₀ s₁ mg mb G Y fa o pm cd doc dV kV ho hd hcd hD hmg hg args vals as hpre hlay hrd hwl hlo
 obtain rfl:dV=.none:=Dflts.none hD hdf
 obtain rfl:kV=.none:=Dflts.noKw hD
 obtain ⟨a,vs,ns,rfl,rfl,hobj,hints,hlen⟩:=script_of hn hpre hwl
 refine enter_call (codeAny_mono (call w s₀ s₁ mg mb fa o pm cd doc a vs ns G Y ho (fd_plain hd) hcd hmg hobj hints hlen hg) λr s' hq=>?_)
 obtain ⟨rfl,h2,h3,h4⟩:=hq
 exact ⟨.inl ⟨.bool true,.bool true,[],rfl,λ_=>rfl,.bool true,post_true l _,λ_=>⟨List.Pairwise.nil,λ_ hm=>(nomatch hm)⟩⟩,h2,h3,h4⟩
section
variable {prog:Program} {w:World} {A:Around} {E:Value->Shared->Prop} {s:Shared} {K:Frag}
end
end Att
namespace L2
open PySem PySem.Spec PyProof.Rows
theorem ZfN {vs:List Value} {ns:List Int} (h:IntsAre vs ns):Vals (ns.map V.int) vs:=by
 induction h with
 | nil=>exact .nil
 | cons n t h ih=>exact .cons ⟨t,rfl⟩ ih
noncomputable def Zpx (H:Hp):Prop:=∀ b,H b=none\/∃ o xs,H b=some (.frz o (.lst xs))
noncomputable abbrev lY {K:PySem.W.Frag} {h:Heap} (_:K.In h):PySem.W.Frag:=K
noncomputable def jV (s:Stmt) (j:Nat):Stmt:=match s with
 | .ClassDef _ _ _ body _ _ _ _ _ _ _=>body.getD j (.Pass ⟨0,0,0,0⟩)
 | _=>.Pass ⟨0,0,0,0⟩
noncomputable def iw (s:Stmt):Arguments:=match s with
 | .FunctionDef _ a _ _ _ _ _ _ _ _=>a
 | _=>{ posonlyargs:=[],args:=[],vararg:=none,kwonlyargs:=[],kw_defaults:=[],kwarg:=none,defaults:=[] }
noncomputable def fF (s:Stmt):List Stmt:=match s with
 | .FunctionDef _ _ b _ _ _ _ _ _ _=>b
 | _=>[]
noncomputable def bM (s:Stmt):Scope:=match s with
 | .FunctionDef _ _ _ _ _ _ sc _ _ _=>sc
 | _=>{ kind:=.function,names:=[],isGenerator:=false,isCoroutine:=false }
noncomputable abbrev fZ:gQ:=λ_ _ _ _ _ _=>False
noncomputable abbrev E0:XK:=λ_ _ _=>False
theorem oO {X:Cx}:ki fZ X E0:=λ_ _ _ _ _ _ _ h=>h.elim
structure Fun (K:PySem.W.Frag) (x qual:Str) (st:Stmt) (f:Addr) (fd:FuncData):Prop where
 ex:∃ (oc:Value) (od:Option Addr) (kV doc pm:Value) (an:Option Addr) (cdv ct:Value) (osl:Array (Option Value)),
  fd=PySem.W.fnOf x qual (iw st) (fF st) (bM st) .none kV doc pm an cdv ct/\K.lookup f=some ⟨oc,od,.func fd,osl⟩/\PySem.W.codeIn K cdv qual=true
 kp:PySem.W.keepIn K (.ref f)=true
section
variable {P:Program} {w:World} {K:PySem.W.Frag} {mg:Str->Option Value} {base:Heap}
theorem Fun.ok {x qual:Str} {st:Stmt} {f:Addr} {fd:FuncData} {N ps:List Str} {k:Nat} {sp:Sp} (F:Fun K x qual st f fd) (S:FnScope N ps (bM st)) (len:∀ vs H Q E,sp vs H Q E->vs.length=ps.length)
  (hbody:∀ (cdv:Value) (A:Around) (outer:List Env) (s:Shared) (H:Hp) (vs:List V) (Q:VK) (E:XK),Room k (A.deeper (envOfC qual (bM st) s.heap.objs.size f cdv))->sp vs H Q E ->
   ∃ t,PSs (fG fZ P w K mg base N qual (bM st) f cdv A outer s H E).nox (fF st) t/\t { nx:=λ_ H'=>Q .non H',rt:=Q } (start N vs) H):FnOk P w K mg base fZ (k+1) f fd ps sp:=by
 obtain ⟨oc,od,kV,doc,pm,an,cdv,ct,osl,rfl,lk,hcd⟩:=F.ex
 refine ZdH lk hcd S len λA outer s H vs Q E hr hsp=>?_
 obtain ⟨t,h,q⟩:=hbody cdv A outer s H vs Q E hr hsp
 exact ⟨t,h.nox,q⟩
theorem Fun.binds {x qual:Str} {st:Stmt} {f:Addr} {fd:FuncData} {ps:List Str} (F:Fun K x qual st f fd)
  (h:∀ (kV doc pm:Value) (an:Option Addr) (cdv ct:Value) (us:List Value),us.length=ps.length->bindArgs (PySem.W.fnOf x qual (iw st) (fF st) (bM st) .none kV doc pm an cdv ct) ⟨us,[]⟩=pure (ps.zip us)):Binds K fd ps []:=by
 obtain ⟨oc,od,kV,doc,pm,an,cdv,ct,osl,rfl,lk,hcd⟩:=F.ex
 exact .all (h kV doc pm an cdv ct)
theorem uc {x qual:Str} {st:Stmt} {f:Addr} {oc:Value} {od an:Option Addr} {osl:Array (Option Value)} {kV doc pm cdv ct:Value} (l:K.lookup f=some ⟨oc,od,.func (PySem.W.fnOf x qual (iw st) (fF st) (bM st) .none kV doc pm an cdv ct),osl⟩)
  (c:PySem.W.codeIn K cdv qual=true) (k:PySem.W.keepIn K (.ref f)=true):Fun K x qual st f (PySem.W.fnOf x qual (iw st) (fF st) (bM st) .none kV doc pm an cdv ct):=⟨⟨oc,od,kV,doc,pm,an,cdv,ct,osl,rfl,l,c⟩,k⟩
end
theorem t9 {A:Around} {k:Nat} (hr:Room k A):A.units+1 < cLine:=Nat.lt_of_le_of_lt (Nat.add_le_add_left (by decide:1<=64) _) hr.units
section
variable {X:Cx}
theorem pv (i:Nat) {x:Str} {pos:Pos} (hN:X.N[i]?=some x:=by rfl) (hv:qH X.env.scope x:=by first | exact Or.inl rfl | exact Or.inr (Or.inl rfl) | exact Or.inr (Or.inr rfl)) (hd:(x == ("__debug__":Str))=false:=by decide)
  (hcd:(x == ("__classdict__":Str))=false:=by decide):PE X (.Name x pos) (i8 i):=Zih hN hv hd hcd
end
theorem pO {c A B:Prop} [Decidable c] (h1:c->A) (h2:¬ c->B):if c then A else B:=by
 by_cases h:c
 ·rw [if_pos h]
  exact h1 h
 ·rw [if_neg h]
  exact h2 h
noncomputable def Same (H H':Hp):Prop:=∀ b o,H b=some o->H' b=some o
theorem Same.refl (H:Hp):Same H H:=λ_ _ h=>h
theorem Same.free {H H':Hp} (e:Same H H') {l:Addr} (h:H' l=Option.none):H l=Option.none:=by
 cases q:H l with
 | none=>rfl
 | some o =>
  rw [e l o q] at h
  cases h
theorem Same.seq {K:PySem.W.Frag} {H H':Hp} {a:Addr} {xs:List V} (e:Same H H') (h:SqL K H a xs):SqL K H' a xs:=by
 rcases h with (h | ⟨o,h⟩ | h) | h
 ·exact .inl (.inl (e _ _ h))
 ·exact .inl (.inr (.inl ⟨o,e _ _ h⟩))
 ·exact .inl (.inr (.inr (e _ _ h)))
 ·exact .inr h
structure Blk where
 cl:List (Str×Addr)
 C:Addr
 s:Shared
 H:Hp
 fp:List Addr
 pn:List (Addr×Obj)
noncomputable def cJ (X:Cx) (N:List Str) (scope:Scope) (b:Blk):Cx where
 prog:=X.prog
 w:=X.w
 K:=X.K
 mg:=X.mg
 base:=X.base
 A:=X.A
 N:=N
 s₀:=b.s
 H₀:=b.H
 env:=compEnvC scope b.cl b.C X.env
 outer:=X.stack
 stack:=X.stack
 ex:=b.fp
 fn:=λx=>scope.names.lookup x == some .cell
 calm:=X.calm
 pn:=b.pn
 xe:=λ_ _=>False
noncomputable def bN (Nx ts:List Str) (ix:List Nat):List Str:=ts++ix.map λj=>(Nx[j]?).getD Str.empty
noncomputable def fH (n:Nat) (ix:List Nat) (σ:St):St:=List.replicate n none++ix.map λj=>(σ[j]?).getD none
structure BlkOk (Nx:List Str) (sc scope:Scope) (ix:List Nat):Prop where
 kind:scope.kind=.function
 cells:∀ y∈scope.names,y.2=.cell->scope.names.lookup y.1=some .cell
 locs:∀ y∈scope.names,y.2=.local->scope.names.lookup y.1=some .local
 frees:∀ y∈scope.names,y.2=.free->sc.names.lookup y.1=some .cell\/sc.names.lookup y.1=some .free
 caps:∀ j∈ix,j < Nx.length/\scope.names.lookup ((Nx[j]?).getD Str.empty)=some .free
theorem ud {env:Env} {f:Str×NameKind->List (Str×Addr)->Sem (ForInStep (List (Str×Addr)))}
  (h1:∀ n k r,k≠NameKind.free->f (n,k) r=pure (.yield r)) (h2:∀ n r c,env.cells.lookup n=some c->f (n,NameKind.free) r=pure (.yield ((n,c)::r))) :
  ∀ (names:List (Str×NameKind)) (acc:List (Str×Addr)),(∀ y∈names,y.2=.free->∃ c,env.cells.lookup y.1=some c)->(∀ x c,acc.lookup x=some c->env.cells.lookup x=some c) ->
   ∃ cl,forIn names acc f=pure cl/\(∀ x c,cl.lookup x=some c->env.cells.lookup x=some c)/\(∀ y∈names,y.2=.free->∃ c,cl.lookup y.1=some c)/\∀ x c,acc.lookup x=some c->∃ c',cl.lookup x=some c'
 | [],acc,_,ha=>⟨acc,rfl,ha,(λ_ h=>nomatch h),λx c h=>⟨c,h⟩⟩
 | (n,k)::names,acc,hn,ha=>by
  have hn':∀ y∈names,y.2=.free->∃ c,env.cells.lookup y.1=some c:=λy hy=>hn y (List.mem_cons_of_mem _ hy)
  by_cases hk:k=.free
  ·subst hk
   obtain ⟨c,hc⟩:=hn (n,.free) List.mem_cons_self rfl
   have ha':∀ x d,((n,c)::acc).lookup x=some d->env.cells.lookup x=some d:=λx d e=>by
    rw [List.lookup_cons] at e
    cases hx:x == n with
    | true =>
     rw [hx] at e
     have hxn:x=n:=by simpa using hx
     subst hxn
     cases e
     exact hc
    | false =>
     rw [hx] at e
     exact ha x d e
   obtain ⟨cl,e,p1,p2,p3⟩:=ud h1 h2 names ((n,c)::acc) hn' ha'
   refine ⟨cl,?_,p1,λy hy hf=>?_,λx d hx=>?_⟩
   ·rw [List.forIn_cons,h2 n acc c hc,pure_bind]
    exact e
   ·rcases List.mem_cons.mp hy with rfl | hy
    ·exact p3 n c (by simp)
    ·exact p2 y hy hf
   ·by_cases e1:x=n
    ·subst e1
     exact p3 x c (by simp)
    ·exact p3 x d (by rw [List.lookup_cons,beq_false_of_ne e1]; exact hx)
  ·obtain ⟨cl,e,p1,p2,p3⟩:=ud h1 h2 names acc hn' ha
   refine ⟨cl,?_,p1,λy hy hf=>?_,p3⟩
   ·rw [List.forIn_cons,h1 n k acc hk,pure_bind]
    exact e
   ·rcases List.mem_cons.mp hy with rfl | hy
    ·exact absurd hf hk
    ·exact p2 y hy hf
theorem uw {scope:Scope} {env:Env} (hn:∀ y∈scope.names,y.2=.free->∃ c,env.cells.lookup y.1=some c) :
  ∃ cl,closureFor scope env=pure cl/\(∀ x c,cl.lookup x=some c->env.cells.lookup x=some c)/\∀ y∈scope.names,y.2=.free->∃ c,cl.lookup y.1=some c:=by
 unfold closureFor
 have key:=ud (env:=env) (f:=λ(x:Str×NameKind) (r:List (Str×Addr))=>match x with
  | (name,kind)=>if (kind == NameKind.free)=true then (do let a <- cellOf env name; pure (ForInStep.yield ((name,a)::r))) else pure (ForInStep.yield r))
  (λn k r hk=>by
   have hb:(k == NameKind.free)=false:=by simpa using hk
   show (if (k == NameKind.free)=true then _ else _)=_
   rw [hb]
   rfl)
  (λn r c hc=>by
   show (do let a <- cellOf env n; pure (ForInStep.yield ((n,a)::r)))=_
   unfold cellOf
   rw [hc]
   rfl) scope.names [] hn (λx c h=>by simp at h)
 obtain ⟨cl,e,p1,p2,_⟩:=key
 refine ⟨cl,?_,p1,p2⟩
 show (forIn scope.names [] _ >>= λr=>pure r)=pure cl
 exact (congrArg (λt=>t >>= λr=>pure r) e).trans (pure_bind _ _)
section
variable {X:Cx} {pins:List (Addr×Obj)} {σ:St} {H:Hp} {s:Shared}
theorem ZhE {scope:Scope} {env:Env} {x:Str} (h:scope.names.lookup x=some .free):(relabel scope env).names.lookup x=some .cell\/(relabel scope env).names.lookup x=some .free:=by
 unfold relabel
 show List.lookup x (scope.names.map _)=_\/List.lookup x (scope.names.map _)=_
 generalize scope.names=l at h
 induction l with
 | nil=>simp at h
 | cons p r ih =>
  obtain ⟨n,k⟩:=p
  rw [List.map_cons]
  cases hx:x == n with
  | true =>
   rw [List.lookup_cons,hx] at h
   have hk:k=.free:=by simpa using h
   subst hk
   by_cases hc:(NameKind.free == NameKind.free && env.scope.kind == .function && env.kindOf n == some .cell)=true
   ·refine .inl ?_
    show List.lookup x ((if (NameKind.free == NameKind.free && env.scope.kind == .function && env.kindOf n == some .cell)=true then (n,NameKind.cell) else (n,NameKind.free))::_)=_
    rw [if_pos hc,List.lookup_cons,hx]
   ·refine .inr ?_
    show List.lookup x ((if (NameKind.free == NameKind.free && env.scope.kind == .function && env.kindOf n == some .cell)=true then (n,NameKind.cell) else (n,NameKind.free))::_)=_
    rw [if_neg hc,List.lookup_cons,hx]
  | false =>
   rw [List.lookup_cons,hx] at h
   have key:∀ q:Str×NameKind,(q=(n,NameKind.cell)\/q=(n,k))->∀ l',List.lookup x (q::l')=List.lookup x l':=λq hq l'=>by
    rcases hq with rfl | rfl <;> rw [List.lookup_cons,hx]
   have hq:(if (k == NameKind.free && env.scope.kind == .function && env.kindOf n == some .cell)=true then (n,NameKind.cell) else (n,k))=(n,NameKind.cell)\/(if (k == NameKind.free && env.scope.kind == .function && env.kindOf n == some .cell)=true then (n,NameKind.cell) else (n,k))=(n,k):=by
    split
    ·exact .inl rfl
    ·exact .inr rfl
   rcases ih h with z | z
   ·exact .inl ((key _ hq _).trans z)
   ·exact .inr ((key _ hq _).trans z)
theorem ZhF {scope:Scope} {env:Env} {x:Str} (h:(relabel scope env).names.lookup x=some .cell\/(relabel scope env).names.lookup x=some .free):∃ y∈scope.names,y.1=x/\(y.2=.free\/y.2=.cell):=by
 unfold relabel at h
 have h':List.lookup x (scope.names.map λ(n,k)=>if (k == .free && env.scope.kind == .function && env.kindOf n == some .cell) then (n,NameKind.cell) else (n,k))=some .cell\/List.lookup x (scope.names.map λ(n,k)=>if (k == .free && env.scope.kind == .function && env.kindOf n == some .cell) then (n,NameKind.cell) else (n,k))=some .free:=h
 clear h
 generalize scope.names=l at h'
 induction l with
 | nil=>simp at h'
 | cons p r ih =>
  obtain ⟨n,k⟩:=p
  rw [List.map_cons] at h'
  cases hx:x == n with
  | true =>
   have hxn:x=n:=by simpa using hx
   by_cases hk:k=.free
   ·exact ⟨(n,k),List.mem_cons_self,hxn.symm,.inl hk⟩
   ·
    have hb:(k == NameKind.free)=false:=by simpa using hk
    have e:(if (k == NameKind.free && env.scope.kind == .function && env.kindOf n == some .cell)=true then (n,NameKind.cell) else (n,k))=(n,k):=by
     rw [hb]
     rfl
    have h2:List.lookup x ((n,k)::r.map λ(n,k)=>if (k == .free && env.scope.kind == .function && env.kindOf n == some .cell) then (n,NameKind.cell) else (n,k))=some .cell\/List.lookup x ((n,k)::r.map λ(n,k)=>if (k == .free && env.scope.kind == .function && env.kindOf n == some .cell) then (n,NameKind.cell) else (n,k))=some .free:=by
     rw [<- e]
     exact h'
    rw [List.lookup_cons,hx] at h2
    rcases h2 with z | z
    ·exact ⟨(n,k),List.mem_cons_self,hxn.symm,.inr (Option.some.inj z)⟩
    ·exact absurd (Option.some.inj z) hk
  | false =>
   have hq:∀ q:Str×NameKind,(q=(n,NameKind.cell)\/q=(n,k))->∀ l',List.lookup x (q::l')=List.lookup x l':=λq hq l'=>by
    rcases hq with rfl | rfl <;> rw [List.lookup_cons,hx]
   have hqq:(if (k == NameKind.free && env.scope.kind == .function && env.kindOf n == some .cell)=true then (n,NameKind.cell) else (n,k))=(n,NameKind.cell)\/(if (k == NameKind.free && env.scope.kind == .function && env.kindOf n == some .cell)=true then (n,NameKind.cell) else (n,k))=(n,k):=by
    split
    ·exact .inl rfl
    ·exact .inr rfl
   obtain ⟨y,hy,e⟩:=ih (by
    rcases h' with z | z
    ·exact .inl ((hq _ hqq _).symm.trans z)
    ·exact .inr ((hq _ hqq _).symm.trans z))
   exact ⟨y,List.mem_cons_of_mem _ hy,e⟩
theorem Zof:∀ (names:List (Str×NameKind)) (h:Heap) (acc:List (Str×Addr)),
  (∀ x c,(cellsFrom h.objs.size names acc).lookup x=some c->acc.lookup x=some c\/(h.objs.size<=c/\(pushCells h names).IsCell c none/\(x,NameKind.cell)∈names)) /\
  (∀ x,((x,NameKind.cell)∈names\/∃ c,acc.lookup x=some c)->∃ c,(cellsFrom h.objs.size names acc).lookup x=some c) /\
  (∀ x c,(x,NameKind.cell)∈names->(cellsFrom h.objs.size names acc).lookup x=some c->h.objs.size<=c) /\
  ((∀ x c,acc.lookup x=some c->c < h.objs.size)->(∀ x y c,acc.lookup x=some c->acc.lookup y=some c->x=y)->∀ x y c,(cellsFrom h.objs.size names acc).lookup x=some c->(cellsFrom h.objs.size names acc).lookup y=some c->x=y):=by
 intro names
 induction names with
 | nil=>intro h acc; exact ⟨λx c e=>.inl e,λx e=>by rcases e with e | e; cases e; exact e,λx c e=>(by cases e),λ_ i=>i⟩
 | cons p r ih =>
  obtain ⟨name,kind⟩:=p
  intro h acc
  unfold cellsFrom pushCells
  by_cases hk:kind=.cell
  ·subst hk
   have hk':((NameKind.cell == NameKind.cell)=true):=rfl
   rw [if_pos hk',if_pos hk']
   have ih':=ih (h.push { cls:=.type "cell",data:=.cell none }) ((name,h.objs.size)::acc)
   rw [Heap.size_push] at ih'
   obtain ⟨i1,i2,i4,i3⟩:=ih'
   refine ⟨λx c e=>?_,λx e=>?_,λx c e1 e2=>?_,λhb hi=>i3 (λx c e=>?_) λx y c e1 e2=>?_⟩
   ·rcases i1 x c e with z | ⟨z1,z2,z3⟩
    ·rw [List.lookup_cons] at z
     cases hx:x == name with
     | true =>
      rw [hx] at z
      have hxn:x=name:=by simpa using hx
      cases z
      exact .inr ⟨Nat.le_refl _,⟨_,pushCells_keeps _ _ _ _ (Heap.get?_push_size _ rfl),rfl⟩,by rw [hxn]; exact List.mem_cons_self⟩
     | false=>rw [hx] at z; exact .inl z
    ·exact .inr ⟨by omega,z2,List.mem_cons_of_mem _ z3⟩
   ·refine i2 x ?_
    by_cases hx:x=name
    ·exact .inr ⟨h.objs.size,by rw [List.lookup_cons,hx]; simp⟩
    ·rcases e with e | ⟨c,e⟩
     ·rcases List.mem_cons.mp e with q | q
      ·exact absurd (congrArg Prod.fst q) hx
      ·exact .inl q
     ·exact .inr ⟨c,by rw [List.lookup_cons,beq_false_of_ne hx]; exact e⟩
   ·rcases i1 x c e2 with z | ⟨z,_,_⟩
    ·rw [List.lookup_cons] at z
     cases hx:x == name with
     | true=>rw [hx] at z; cases z; exact Nat.le_refl _
     | false =>
      have hxn:x≠name:=by simpa using hx
      rcases List.mem_cons.mp e1 with q | q
      ·exact absurd (congrArg Prod.fst q) hxn
      ·exact Nat.le_of_succ_le (i4 x c q e2)
    ·exact Nat.le_of_succ_le z
   ·rw [List.lookup_cons] at e
    cases hx:x == name with
    | true=>rw [hx] at e; cases e; exact Nat.lt_succ_self _
    | false=>rw [hx] at e; exact Nat.lt_succ_of_lt (hb x c e)
   ·rw [List.lookup_cons] at e1 e2
    cases hx:x == name with
    | true =>
     have hxn:x=name:=by simpa using hx
     rw [hx] at e1
     cases e1
     cases hy:y == name with
     | true =>
      have hyn:y=name:=by simpa using hy
      rw [hxn,hyn]
     | false=>rw [hy] at e2; exact absurd (hb y _ e2) (Nat.lt_irrefl _)
    | false =>
     rw [hx] at e1
     cases hy:y == name with
     | true=>rw [hy] at e2; cases e2; exact absurd (hb x _ e1) (Nat.lt_irrefl _)
     | false=>rw [hy] at e2; exact hi x y c e1 e2
  ·have hk':¬ ((kind == NameKind.cell)=true):=by simpa using hk
   rw [if_neg hk',if_neg hk']
   obtain ⟨i1,i2,i4,i3⟩:=ih h acc
   refine ⟨λx c e=>?_,λx e=>i2 x ?_,λx c e1 e2=>?_,i3⟩
   ·rcases i1 x c e with z | ⟨z1,z2,z3⟩
    ·exact .inl z
    ·exact .inr ⟨z1,z2,List.mem_cons_of_mem _ z3⟩
   ·rcases e with e | e
    ·rcases List.mem_cons.mp e with q | q
     ·exact absurd (congrArg Prod.snd q).symm hk
     ·exact .inl q
    ·exact .inr e
   ·rcases List.mem_cons.mp e1 with q | q
    ·exact absurd (congrArg Prod.snd q).symm hk
    ·exact i4 x c q e2
theorem Zai {M:Model} {A:Around} {E:Value->Shared->Prop} {s:Shared} {scope:Scope} {globals:Addr} {cl:List (Str×Addr)} {qual:Str} {outer:Env} {Q:Env->Shared->Prop}
  (h:Q { scope:=scope,locals:=s.heap.objs.size,globals:=globals,cells:=cellsFrom (s.heap.objs.size+1) scope.names cl,qual:=qual,func:=none,code:=outer.code,frame:=outer.frame,builtins:=outer.builtins } { s with heap:=pushCells (s.heap.push { cls:=.type "dict",data:=.dict #[] }) scope.names }) :
  wpAny M A (newFunctionEnv scope globals cl [] qual none .none (some outer)) Q E s:=by
 simp only [newFunctionEnv,Option.isSome_some,if_true]
 refine wpAny_bind (wpAny_alloc ?_)
 refine wpAny_bind (wpAny_layCells _ (λname kind cells=>by cases hkc:kind == NameKind.cell <;> simp [hkc]) _ _ _ _ ?_)
 rw [show ({ s with heap:=s.heap.push { cls:=.type "dict",data:=.dict #[] } }:Shared).heap.objs.size=s.heap.objs.size+1 from Heap.size_push ..]
 rw [List.forIn_nil]
 exact wpAny_bind (wpAny_pure (wpAny_pure h))
theorem ZoV {Nx ts:List Str} {ix:List Nat} {i:Nat} {x:Str} (h:(bN Nx ts ix)[i]?=some x) (hi:ts.length<=i):∃ j,ix[i - ts.length]?=some j/\x=(Nx[j]?).getD Str.empty:=by
 unfold bN at h
 rw [List.getElem?_append_right hi,List.getElem?_map] at h
 cases e:ix[i - ts.length]? with
 | none=>rw [e] at h; cases h
 | some j=>rw [e] at h; exact ⟨j,rfl,(Option.some.inj h).symm⟩
theorem Zj7 {scope:Scope} {cl:List (Str×Addr)} {fp:List Addr} {C:Addr} {h3:Heap} {tk:Nat} {m:Str->Option Value} {Nx ts:List Str} {ix:List Nat}
  (I:Inv X pins σ H s) (hNx:X.N=Nx) (ok:BlkOk Nx X.env.scope scope ix) (cs1:∀ x c,cl.lookup x=some c->X.env.cells.lookup x=some c\/(C < c/\h3.IsCell c none/\(x,NameKind.cell)∈scope.names)) (csI:∀ x y c,cl.lookup x=some c->cl.lookup y=some c->x=y) (cl2:∀ y∈scope.names,(y.2=.free\/y.2=.cell)->∃ c,cl.lookup y.1=some c) (csA:∀ x c,(x,NameKind.cell)∈scope.names->cl.lookup x=some c->C<=c)
  (hf:∀ b∈fp,gE X pins H b) (hfs:∀ b∈fp,b < s.heap.objs.size) (hC:s.heap.objs.size<=C) (kp:∀ b o,s.heap.get? b=some o->h3.get? b=some o) (hns:h3.Ns C m) :
  Inv (cJ X (bN Nx ts ix) scope ⟨cl,C,s,H,fp,X.pn++pins⟩) [] (fH ts.length ix σ) H { s with heap:=h3,toks:=tk }:=by
 have below:∀ {b:Addr},b < s.heap.objs.size->b≠C:=λhb=>Nat.ne_of_lt (Nat.lt_of_lt_of_le hb hC)
 have nstk:∀ b,b≠X.env.locals->b ∉ X.fs->b ∉ frs X.stack:=λb h1 h2 hb=>by
  rcases List.mem_cons.mp (I.stkSub b hb) with z | z
  ·exact h1 z
  ·exact h2 z
 refine ⟨⟨I.ok.mod,?_,I.ok.glob,I.ok.blt,hC,csI,λx hx=>?_,λx c hfn e=>Nat.le_trans hC (csA x c (PySem.mem_of_lookup (eq_of_beq hfn)) e),I.ok.hd,I.ok.frames,.inl rfl,λb hb=>⟨below (hfs b hb),λx c e=>by
  rcases cs1 x c e with z | ⟨z,_,_⟩
  ·exact (hf b hb).2.2.2.2.1 x c z
  ·exact Nat.ne_of_gt (Nat.lt_of_lt_of_le (hfs b hb) (Nat.le_trans hC (Nat.le_of_lt z)))⟩,I.bs,Nat.le_trans I.ok.bsz I.sz,λb o e hb=>?_,λb hb=>nstk b (hf b hb).2.1 (hf b hb).2.2.1,I.stack,I.stkFree⟩,
  rfl,I.bare,Un.kept kp,⟨m,hns,λi x v h1 h2 h3'=>?_⟩,λx c e=>?_,I.hok.fresh hC,λx c e=>by
  rcases cs1 x c e with z | ⟨z,_,_⟩
  ·exact I.freeC x c z
  ·exact I.hok.fresh (Nat.le_trans hC (Nat.le_of_lt z)),λp hp=>?_,I.hok.kept kp,?_⟩
 ·exact ok.kind
 ·have hx':(relabel scope X.env).names.lookup x=some .cell\/(relabel scope X.env).names.lookup x=some .free:=hx
  obtain ⟨y,hy,e1,e2⟩:=ZhF hx'
  obtain ⟨c,hc⟩:=cl2 y hy e2
  exact ⟨c,by rw [<- e1]; exact hc⟩
 ·rcases (hf b hb).2.2.2.1 with z | z
  ·exact I.ok.noex b o e z
  ·exact absurd (Nat.lt_of_lt_of_le (Heap.lt_size e) (Nat.le_trans I.ok.bsz z)) (Nat.lt_irrefl _)
 ·have hi:ts.length<=i:=by
   rcases Nat.lt_or_ge i ts.length with z | z
   ·exfalso
    have h2':(fH ts.length ix σ)[i]?=some (some v):=h2
    unfold fH at h2'
    rw [List.getElem?_append_left (by simpa using z),List.getElem?_replicate] at h2'
    split at h2' <;> cases h2'
   ·exact z
  obtain ⟨j,hj,ex⟩:=ZoV h1 hi
  have h2':(fH ts.length ix σ)[i]?=some (some v):=h2
  unfold fH at h2'
  rw [List.getElem?_append_right (by simpa using hi),List.getElem?_map,List.length_replicate,hj] at h2'
  have hσ:σ[j]?=some (some v):=by
   have q:(σ[j]?).getD none=some v:=Option.some.inj h2'
   cases e:σ[j]? with
   | none=>rw [e] at q; cases q
   | some w=>rw [e] at q; exact congrArg some q
  obtain ⟨hjl,hfree⟩:=ok.caps j (List.mem_of_getElem? hj)
  have hNj:X.N[j]?=some x:=by
   rw [hNx,ex,List.getElem?_eq_getElem hjl]
   rfl
  rw [<- ex] at hfree
  obtain ⟨c,hc⟩:=cl2 (x,.free) (PySem.mem_of_lookup hfree) (.inl rfl)
  have cl1:X.env.cells.lookup x=some c:=by
   rcases cs1 x c hc with z | ⟨_,_,z⟩
   ·exact z
   ·have:=ok.cells _ z rfl
    rw [hfree] at this
    cases this
  have kx:=ok.frees (x,.free) (PySem.mem_of_lookup hfree) rfl
  obtain ⟨m0,hn0,hl0⟩:=I.loc
  obtain ⟨u,ru,look⟩:=hl0 j x v hNj hσ (by rcases kx with z | z; exact .inr (.inl z); exact .inr (.inr z))
  refine ⟨u,ru,.inr ⟨ZhE hfree,c,hc,?_⟩⟩
  rcases look with ⟨k1,_⟩ | ⟨_,c',hc',z⟩
  ·have k1':X.env.scope.names.lookup x=some .local:=k1
   rcases kx with z | z
   ·rw [k1'] at z; cases z
   ·rw [k1'] at z; cases z
  ·have e:=cl1
   rw [hc'] at e
   cases e
   obtain ⟨o,ho,hd⟩:=z
   exact ⟨o,kp _ _ ho,hd⟩
 ·rcases cs1 x c e with z | ⟨_,z,_⟩
  ·obtain ⟨v,o,ho,hd⟩:=I.cell x c z
   exact ⟨v,o,kp _ _ ho,hd⟩
  ·exact ⟨_,z⟩
 ·have hp':p∈X.pn++pins:=by simpa [cJ] using hp
  obtain ⟨e,n,ne,nf,d⟩:=I.pin p hp'
  exact ⟨kp _ _ e,n,below (Heap.lt_size e),nstk _ ne nf,d⟩
 ·show (fH ts.length ix σ).length=(bN Nx ts ix).length
  unfold fH bN
  simp
theorem Inv.track {D:Addr} {ys:List V} {its:List Value} {n:Nat} (I:Inv X pins σ H s) (hD:H D=none) (ho:s.heap.get? D=some { cls:=.type "list",data:=.seq its.toArray n }) (r:Vals ys its) (hz:ys.length<=sizeLine)
  (hL:D≠X.env.locals) (hs0:X.s₀.heap.objs.size<=D) (hc:∀ x c,X.env.cells.lookup x=some c->c≠D) (hp:∀ p∈X.pn++pins,p.1≠D):Inv X pins σ (upd H D (.lst ys)) s:=by
 have ne:∀ {b:Addr} {o:HO},H b=some o->b≠D:=λe=>c7 e hD
 refine I.step (g':=s.gens) (d':=s.drawn) (t':=s.toks) (h':=s.heap) (ch:=[D]) (λb hb=>?_) (λb o _ _ _ e _=>e) (λb o _ _ _ e _=>⟨o.slots,e⟩) (λb o hb e n=>?_) (λb o _ e=>⟨o,e⟩)
  (λb xs e=>by rw [bG (ne e)]; exact e) (λb o u e=>by rw [bG (ne e)]; exact e) (λb ps e=>⟨#[],by rw [bG (ne e),e]; simp⟩) (λm hm=>hm) (λb u e=>?_) I.bare
 ·have e:b=D:=by simpa using hb
  subst e
  exact ⟨.inr hs0,hL,hc,hp⟩
 ·have hb':b≠D:=by simpa using hb
  rw [bG hb']
  exact n
 ·by_cases hb:b=D
  ·subst hb
   rw [cA] at e
   cases e
   exact ⟨hz,its,n,r,ho⟩
  ·rw [bG hb] at e
   exact (I.hok b u e).stay (λc v _ q=>q) (λc q=>by rw [bG (ne q)]; exact q) (λc xs q=>by rw [bG (ne q)]; exact q) λc ob xs _ q _=>by rw [bG (ne q)]; exact q
end
theorem Zoa {prog:Program} {w:World} {A:Around} {R:Result->Shared->Prop} {s:Shared} {elt target iter:Expr} {scope:Scope} {pos:Pos} {it acc:Value} {env:Env} (J:Nat->Shared->Prop)
  (step:∀ k s0,J k s0->wpAny (model prog w) A (pyNext it) (λgot s1=>match got with
   | none=>R (.ok .next) s1
   | some v=>wpAny (model prog w) A (letOwnedTupleGo target it v) (λ_ s2=>wpAny (model prog w) A (assign target env v) (λ_ s3=>wpAny (model prog w) A (eval elt env) (λy s4 =>
     wpAny (model prog w) A (call (.builtin "list.append") [acc,y]) (λ_ s5=>∃ j,j < k/\J j s5) (λ_ _=>False) s4) (λ_ _=>False) s3) (λ_ _=>False) s2) (λ_ _=>False) s1) (λ_ _=>False) s0)
  (k:Nat) (h:J k s):codeAny (model prog w) A (.compLoop (.ListComp elt [⟨target,iter,[],0⟩] scope pos) 0 it acc env) R s:=by
 refine codeAny_loop rfl J (λk0 s0 hJ=>?_) k h
 show wpAny _ _ ((compTurn (.ListComp elt [⟨target,iter,[],0⟩] scope pos) 0 it acc env).onRaise (λx=>do noteFrame x env; theTreesLotGoes x)) _ _ s0
 apply wpAny_noted
 rw [compTurn_list1]
 refine wpAny_bind (wpAny_standAt (wpAny_bind (wpAny_mono (step k0 s0 hJ) (λgot s1 h1=>?_) λ_ _ z=>z.elim)))
 cases got with
 | none=>exact wpAny_pure h1
 | some v =>
  refine wpAny_bind (wpAny_mono h1 (λ_ s2 h2=>?_) λ_ _ z=>z.elim)
  refine wpAny_bind (wpAny_mono h2 (λ_ s3 h3=>?_) λ_ _ z=>z.elim)
  refine wpAny_bind (wpAny_bind (wpAny_mono h3 (λy s4 h4=>?_) λ_ _ z=>z.elim))
  exact wpAny_bind (wpAny_mono h4 (λ_ s5 h5=>wpAny_pure (wpAny_pure ⟨rfl,h5⟩)) λ_ _ z=>z.elim)
noncomputable def jC (wi:TI) (n:Nat) (ix:List Nat) (g:Blk->TG) (te:Blk->TE):TE:=λσ H Q=>wi σ H λJ H1=>∀ b:Blk,∃ W:Nat->Nat->St->List V->Hp->Prop,(∃ m,W 0 m (fH n ix σ) [] H1)/\∀ i m τ ys H2,W i m τ ys H2 ->
 (J.stop i H2/\∀ p v H',H2 p=none->v=V.ref p->H'=upd H2 p (.lst ys)->Q v H') \/
 (J.go i H2/\ys.length < sizeLine/\∀ x H3,J.yld i H2 x H3->g b x τ H3 λτ2 H4=>te b τ2 H4 λy H5=>∃ m',m' < m/\W (i+1) m' τ2 (ys++[y]) H5)
section
variable {X:Cx} {pins:List (Addr×Obj)} {σ:St} {H:Hp} {s:Shared}
structure BlkS (X:Cx) (pins:List (Addr×Obj)) (σ:St) (Nx ts:List Str) (ix:List Nat) (scope:Scope) (s2:Shared) (H1:Hp) (fp:List Addr) (o0:Obj) (cs:List (Str×Addr)) (C:Addr) (h3:Heap):Prop where
 hC:s2.heap.objs.size<=C
 hDC:s2.heap.objs.size≠C
 I3:Inv (cJ X (bN Nx ts ix) scope ⟨cs,C,s2,H1,fp,X.pn++pins⟩) [] (fH ts.length ix σ) H1 { s2 with heap:=h3 }
 kp:∀ b o,s2.heap.get? b=some o->h3.get? b=some o
 hD3:h3.get? s2.heap.objs.size=some o0
 fC:H1 s2.heap.objs.size=none
 cellIn:∀ x c,cs.lookup x=some c->c≠s2.heap.objs.size
 pinIn:∀ p∈X.pn++pins,p.1 < s2.heap.objs.size
 nofrs:s2.heap.objs.size ∉ frs X.stack
 pinD:∀ {τ:St} {H':Hp} {s':Shared} {ob:Obj},Inv (cJ X (bN Nx ts ix) scope ⟨cs,C,s2,H1,fp,X.pn++pins⟩) [] τ H' s'->s'.heap.get? s2.heap.objs.size=some ob->H' s2.heap.objs.size=none->(∀ v,ob.data≠.cell v)->Inv (cJ X (bN Nx ts ix) scope ⟨cs,C,s2,H1,fp,X.pn++pins⟩) [(s2.heap.objs.size,ob)] τ H' s'
 stat:∀ {H':Hp} {ob:Obj},(∀ b∈fp,H' b=none)->∀ b∈fp,gE (cJ X (bN Nx ts ix) scope ⟨cs,C,s2,H1,fp,X.pn++pins⟩) [(s2.heap.objs.size,ob)] H' b
theorem ZeD {o0:Obj} {scope:Scope} {Nx ts:List Str} {ix:List Nat} {cl:List (Str×Addr)} {s2:Shared} {H1:Hp} {fp:List Addr} {G:Heap} (hNx:X.N=Nx) (ok:BlkOk Nx X.env.scope scope ix) (cl1:∀ x c,cl.lookup x=some c->X.env.cells.lookup x=some c) (cl2:∀ y∈scope.names,y.2=.free->∃ c,cl.lookup y.1=some c)
  (I2:Inv X pins σ H1 s2) (f2:∀ b∈fp,gE X pins H1 b) (hfs:∀ b∈fp,b < s2.heap.objs.size) (hG:s2.heap.push o0=G) (hfr:o0.isFreed=false:=by rfl):BlkS X pins σ Nx ts ix scope s2 H1 fp o0 (cellsFrom (G.objs.size+1) scope.names cl) G.objs.size (pushCells (G.push { cls:=.type "dict",data:=.dict #[] }) scope.names):=by
 have hGs:G.objs.size=s2.heap.objs.size+1:=by rw [<- hG,Heap.size_push]
 have kpG:∀ b o,G.get? b=some o->(pushCells (G.push { cls:=.type "dict",data:=.dict #[] }) scope.names).get? b=some o:=λb o e=>pushCells_keeps _ _ _ _ (Heap.get?_push_of_some _ e)
 have hns3:(pushCells (G.push { cls:=.type "dict",data:=.dict #[] }) scope.names).Ns G.objs.size (λ_=>none):=(Heap.Ns.new G (.type "dict")).keeps (pushCells_keeps _ _)
 obtain ⟨sp1,sp2,sp4,sp3⟩:=Zof scope.names (G.push { cls:=.type "dict",data:=.dict #[] }) cl
 rw [Heap.size_push] at sp1 sp2 sp3 sp4
 generalize hh3:pushCells (G.push { cls:=.type "dict",data:=.dict #[] }) scope.names=h3 at kpG hns3 sp1 ⊢
 have kp:∀ b o,s2.heap.get? b=some o->h3.get? b=some o:=λb o e=>kpG b o (by rw [<- hG]; exact Heap.get?_push_of_some _ e)
 have hD3:h3.get? s2.heap.objs.size=some o0:=kpG _ _ (by rw [<- hG]; exact Heap.get?_push_size _ hfr)
 have clB:∀ x c,cl.lookup x=some c->c < G.objs.size+1:=λx c e=>by
  obtain ⟨v,q⟩:=I2.cell x c (cl1 x c e)
  exact Nat.lt_succ_of_lt (Nat.lt_of_lt_of_le q.lt (by rw [hGs]; exact Nat.le_succ _))
 have csI:=sp3 clB λx y c e1 e2=>I2.ok.inj x y c (cl1 x c e1) (cl1 y c e2)
 have cs1:∀ x c,(cellsFrom (G.objs.size+1) scope.names cl).lookup x=some c->X.env.cells.lookup x=some c\/(G.objs.size < c/\h3.IsCell c none/\(x,NameKind.cell)∈scope.names):=λx c e=>by
  rcases sp1 x c e with z | ⟨z1,z2,z3⟩
  ·exact .inl (cl1 x c z)
  ·exact .inr ⟨by omega,z2,z3⟩
 have cs2:∀ y∈scope.names,(y.2=.free\/y.2=.cell)->∃ c,(cellsFrom (G.objs.size+1) scope.names cl).lookup y.1=some c:=λy hy hk=>by
  refine sp2 y.1 ?_
  rcases hk with z | z
  ·exact .inr (cl2 y hy z)
  ·exact .inl (by rw [<- z]; exact hy)
 have csA:∀ x c,(x,NameKind.cell)∈scope.names->(cellsFrom (G.objs.size+1) scope.names cl).lookup x=some c->G.objs.size<=c:=λx c e1 e2=>Nat.le_of_succ_le (sp4 x c e1 e2)
 generalize hcs:cellsFrom (G.objs.size+1) scope.names cl=cs at csI cs1 cs2 csA ⊢
 generalize hCe:G.objs.size=C at hns3 cs1 csA ⊢
 have hC:s2.heap.objs.size<=C:=by omega
 have hDC:s2.heap.objs.size≠C:=by omega
 let B:Blk:=⟨cs,C,s2,H1,fp,X.pn++pins⟩
 have I3:Inv (cJ X (bN Nx ts ix) scope B) [] (fH ts.length ix σ) H1 { s2 with heap:=h3 }:=Zj7 I2 hNx ok cs1 csI cs2 csA f2 hfs hC kp hns3
 have fC:H1 s2.heap.objs.size=none:=I2.hok.fresh (Nat.le_refl _)
 have cellIn:∀ x c,cs.lookup x=some c->c≠s2.heap.objs.size:=λx c e=>by
  rcases cs1 x c e with z | ⟨z,_,_⟩
  ·obtain ⟨v,q⟩:=I2.cell x c z
   exact Nat.ne_of_lt q.lt
  ·exact Nat.ne_of_gt (Nat.lt_of_le_of_lt hC z)
 have pinIn:∀ p∈X.pn++pins,p.1 < s2.heap.objs.size:=λp hp=>Heap.lt_size (I2.pin p hp).1
 have nofrs:s2.heap.objs.size ∉ frs X.stack:=λhb=>by
  rcases List.mem_cons.mp (I2.stkSub _ hb) with z | z
  ·exact absurd I2.lt (by rw [<- z]; exact Nat.lt_irrefl _)
  ·exact I2.nofs (Nat.le_refl _) z
 -- a state with the list at its place,pinned
 have pinD:∀ {τ:St} {H':Hp} {s':Shared} {ob:Obj},Inv (cJ X (bN Nx ts ix) scope B) [] τ H' s'->s'.heap.get? s2.heap.objs.size=some ob->H' s2.heap.objs.size=none->(∀ v,ob.data≠.cell v)->Inv (cJ X (bN Nx ts ix) scope B) [(s2.heap.objs.size,ob)] τ H' s' :=
  λ{τ H' s' ob} I' ho hn hd=>I'.pins_of λp hp=>by
   have e:p=(s2.heap.objs.size,ob):=by simpa using hp
   subst e
   exact ⟨ho,hn,hDC,nofrs,hd⟩
 have stat:∀ {H':Hp} {ob:Obj},(∀ b∈fp,H' b=none)->∀ b∈fp,gE (cJ X (bN Nx ts ix) scope B) [(s2.heap.objs.size,ob)] H' b:=λ{H' ob} hn b hb=>by
  refine ⟨hn b hb,Nat.ne_of_lt (Nat.lt_of_lt_of_le (hfs b hb) hC),λz=>?_,.inl hb,λx c e=>by
   rcases cs1 x c e with z | ⟨z,_,_⟩
   ·exact (f2 b hb).2.2.2.2.1 x c z
   ·exact Nat.ne_of_gt (Nat.lt_of_lt_of_le (hfs b hb) (Nat.le_trans hC (Nat.le_of_lt z))),λp hp=>?_⟩
  ·rcases List.mem_cons.mp (I2.stkSub _ z) with q | q
   ·exact (f2 b hb).2.1 q
   ·exact (f2 b hb).2.2.1 q
  ·rcases List.mem_append.mp hp with z | z
   ·exact (f2 b hb).2.2.2.2.2 p z
   ·have e:p=(s2.heap.objs.size,ob):=by simpa using z
    subst e
    exact Nat.ne_of_gt (hfs b hb)
 exact ⟨hC,hDC,I3,kp,hD3,fC,cellIn,pinIn,nofrs,pinD,stat⟩
noncomputable def vm (X:Cx) (pins:List (Addr×Obj)) (σ:St) (Q:VK) (R:Value->Addr->Result->Shared->Prop):Prop:=∀ (D C:Addr) (H':Hp) (s':Shared) (v:V),Inv X pins σ H' s'->v=.ref D->Q v H'->(∃ m,s'.heap.Ns C m)->H' C=none->C≠X.env.locals->X.s₀.heap.objs.size<=C->(∀ x c,X.env.cells.lookup x=some c->c≠C)->(∀ p∈X.pn++pins,p.1≠C) ->
   R (.ref D) C (.ok .next) s'
theorem ZeC {scope:Scope} {Nx ts:List Str} {ix:List Nat} {cs:List (Str×Addr)} {C:Addr} {s2 s6:Shared} {H1 H5:Hp} {fp:List Addr} {τ:St} {ys:List V} {its:List Value} {n:Nat} {Q:VK} {R:Value->Addr->Result->Shared->Prop} (I2:Inv X pins σ H1 s2) (f2:∀ b∈fp,gE X pins H1 b) (hC:s2.heap.objs.size<=C) (hDC:s2.heap.objs.size≠C) (pinIn:∀ p∈X.pn++pins,p.1 < s2.heap.objs.size)
  (I6:Inv (cJ X (bN Nx ts ix) scope ⟨cs,C,s2,H1,fp,X.pn++pins⟩) [(s2.heap.objs.size,({ cls:=.type "list",data:=.seq (List.toArray its) n }:Obj))] τ H5 s6) (rv:Vals ys its) (hz:ys.length<=sizeLine) (hR:vm X pins σ Q R)
  (qn:∀ p v H',H5 p=none->v=V.ref p->H'=upd H5 p (.lst ys)->Q v H'):R (.ref s2.heap.objs.size) C (.ok .next) s6:=by
 obtain ⟨ho,hn,_,_,_⟩:=I6.pin (s2.heap.objs.size,({ cls:=.type "list",data:=.seq (List.toArray its) n }:Obj)) (List.mem_append_right _ (by simp))
 have I7:Inv X pins σ H5 s6:=I2.call' (ch:=fp) (H':=H5) (by exact I6.os) I6.base I6.hok I6.bare λb hb=>⟨(f2 b hb).2.2.2.1,(f2 b hb).2.1,(f2 b hb).2.2.2.2.1,(f2 b hb).2.2.2.2.2⟩
 have hs0:X.s₀.heap.objs.size<=s2.heap.objs.size:=I2.sz
 have I8:=I7.track hn ho rv hz (Nat.ne_of_gt I2.lt) hs0 (λx c e z=>by
  obtain ⟨v,q⟩:=I2.cell x c e
  exact absurd q.lt (by rw [z]; exact Nat.lt_irrefl _)) (λp hp=>Nat.ne_of_lt (pinIn p hp))
 obtain ⟨m6,hm6,_⟩:=I6.loc
 refine hR _ C _ s6 _ I8 rfl (qn _ _ _ hn rfl rfl) ⟨m6,hm6⟩ ?_ (λz=>?_) (Nat.le_trans hs0 hC) (λx c e z=>?_) λp hp=>Nat.ne_of_lt (Nat.lt_of_lt_of_le (pinIn p hp) hC)
 ·rw [bG (Ne.symm hDC)]
  exact I6.free
 ·exact absurd (Nat.lt_of_lt_of_le I2.lt hC) (by rw [z]; exact Nat.lt_irrefl _)
 ·obtain ⟨v,q⟩:=I2.cell x c e
  exact absurd (Nat.lt_of_lt_of_le q.lt hC) (by rw [z]; exact Nat.lt_irrefl _)
theorem Zdd {elt target iter:Expr} {scope:Scope} {pos:Pos} {Nx ts:List Str} {ix:List Nat} {g:Blk->TG} {te:Blk->TE} {cl:List (Str×Addr)} {s2:Shared} {itv:Value} {R:Value->Addr->Result->Shared->Prop}
  {E:Value->Shared->Prop} {Q:VK}
  (hc:X.calm=true) (hg:∀ b,PG (cJ X (bN Nx ts ix) scope b) target (g b)) (he:∀ b,PE (cJ X (bN Nx ts ix) scope b) elt (te b))
  (hNx:X.N=Nx) (ok:BlkOk Nx X.env.scope scope ix) (cl1:∀ x c,cl.lookup x=some c->X.env.cells.lookup x=some c) (cl2:∀ y∈scope.names,y.2=.free->∃ c,cl.lookup y.1=some c)
  (h2:qK X pins σ target (λJ H1=>∀ b:Blk,∃ W:Nat->Nat->St->List V->Hp->Prop,(∃ m,W 0 m (fH ts.length ix σ) [] H1)/\∀ i m τ ys H2,W i m τ ys H2 ->
   (J.stop i H2/\∀ p v H',H2 p=none->v=V.ref p->H'=upd H2 p (.lst ys)->Q v H') \/
   (J.go i H2/\ys.length < sizeLine/\∀ x H3,J.yld i H2 x H3->g b x τ H3 λτ2 H4=>te b τ2 H4 λy H5=>∃ m',m' < m/\W (i+1) m' τ2 (ys++[y]) H5)) itv s2)
  (hR:vm X pins σ Q R) :
  wpAny (model X.prog X.w) X.A (newList []) (λacc s₃=>wpAny (model X.prog X.w) X.A (newFunctionEnv scope X.env.globals cl [] X.env.qual none .none (some X.env)) (λcenv s₄ =>
   codeAny (model X.prog X.w) X.A (.compStart (.ListComp elt [⟨target,iter,[],0⟩] scope pos) 0 itv acc { cenv with scope:=relabel scope X.env }) (R acc cenv.locals) s₄) E s₃) E s2:=by
 obtain ⟨it,fp,tn,J,H1,e,I2,T,st2,f2,q2⟩:=h2
 subst e
 refine wpAny_newObj_type (Zai ?_)
 dsimp only
 generalize hG:s2.heap.push { cls:=.type "list",dict:=none,data:=.seq ([]:List Value).toArray }=G
 have hfs:∀ b∈fp,b < s2.heap.objs.size:=λb hb=>let ⟨o,e,_⟩:=T.obj _ _ st2 b hb; Heap.lt_size e
 have S:=ZeD (ts:=ts) hNx ok cl1 cl2 I2 f2 hfs hG
 generalize pushCells (G.push { cls:=.type "dict",data:=.dict #[] }) scope.names=h3 at S ⊢
 generalize cellsFrom (G.objs.size+1) scope.names cl=cs at S ⊢
 generalize G.objs.size=C at S ⊢
 obtain ⟨hC,hDC,I3,kp,hD3,fC,cellIn,pinIn,nofrs,pinD,stat⟩:=S
 let B:Blk:=⟨cs,C,s2,H1,fp,X.pn++pins⟩
 obtain ⟨W,⟨m0,w0⟩,turn⟩:=q2 B
 have loop:∀ s4:Shared,s4={ s2 with heap:=h3 } ->
   codeAny (model X.prog X.w) X.A (.compLoop (.ListComp elt [⟨target,iter,[],0⟩] scope pos) 0 (.ref it) (.ref s2.heap.objs.size) (compEnvC scope cs C X.env)) (R (.ref s2.heap.objs.size) C) s4:=by
  rintro s4 rfl
  refine Zoa (λk s'=>∃ i τ ys its n H',Inv (cJ X (bN Nx ts ix) scope B) [(s2.heap.objs.size,({ cls:=.type "list",data:=.seq (List.toArray its) n }:Obj))] τ H' s'/\tn i s'.heap/\(∀ b∈fp,H' b=none)/\Vals ys its/\ys.length<=sizeLine/\W i k τ ys H') ?_ m0
   ⟨0,_,[],[],_,H1,pinD I3 hD3 fC (λv z=>by cases z),T.keep _ _ _ st2 λb hb o e=>kp b o e,λb hb=>(f2 b hb).1,.nil,Nat.zero_le _,w0⟩
  rintro k s5 ⟨i,τ,ys,its,n,H5,I5,st5,fr5,rv,hz,w5⟩
  rcases turn i k τ ys H5 w5 with ⟨stop,qn⟩ | ⟨go,hlt,step⟩
  ·refine thn (T.done (cJ X (bN Nx ts ix) scope B) rfl rfl rfl hc i _ s5 τ H5 _ I5 (stat fr5) st5 stop) λgot s6 hz0=>?_
   obtain ⟨rfl,I6⟩:=hz0
   exact ZeC I2 f2 hC hDC pinIn I6 rv hz hR qn
  ·refine thn (T.item (cJ X (bN Nx ts ix) scope B) rfl rfl rfl hc i _ s5 τ H5 _ I5 (stat fr5) st5 go) λgot s6 hz0=>?_
   obtain ⟨u,hr,h6⟩:=hz0
   subst hr
   refine thn h6 λ_ s7 hz0=>?_
   obtain ⟨x,H7,I7,r7,y7,st7,fr7⟩:=hz0
   have I7':=I7.pinned (stat fr7) (T.obj _ _ st7)
   refine thn (hg B _ s7 τ H7 x u _ I7' r7 (step x H7 y7)) λ_ s8 hz0=>?_
   obtain ⟨τ8,H8,I8,q8⟩:=hz0
   refine thn (he B _ s8 τ8 H8 _ I8 q8) λy s9 hz0=>?_
   obtain ⟨vy,H9,I9,r9,m',hm',w9⟩:=hz0
   obtain ⟨ho,hn,_,_,_⟩:=I9.pin (s2.heap.objs.size,({ cls:=.type "list",data:=.seq (List.toArray its) n }:Obj)) (List.mem_append_right _ (List.mem_append_left _ (by simp)))
   have lenv:=rv.length
   refine wpAny_list_append_plain (l:=s2.heap.objs.size) ⟨n,ho⟩ (λh' hpl hsb=>?_) (by rw [List.size_toArray]; omega)
   obtain ⟨n',ho'⟩:=hpl
   have eobj:(its.toArray.push y)=List.toArray (its++[y]):=by simp
   rw [eobj] at ho'
   have I9':Inv (cJ X (bN Nx ts ix) scope B) [] τ8 H9 s9:=I9.pins_of λp hp=>absurd hp (by simp)
   have I10:Inv (cJ X (bN Nx ts ix) scope B) [] τ8 H9 { s9 with heap:=h' }:=I9'.turned (it:=s2.heap.objs.size) (t':=s9.toks) (λb o hb e=>(hsb.2 b hb).trans e) hn hDC (.inr (Nat.le_refl _)) cellIn (λp hp=>by
    have hp':p∈(X.pn++pins)++[]:=hp
    rw [List.append_nil] at hp'
    exact Nat.ne_of_lt (pinIn p hp'))
   refine ⟨m',hm',i+1,τ8,ys++[vy],its++[y],n',H9,pinD I10 ho' hn (λv z=>by cases z),?_,λb hb=>?_,rv.append (.cons r9 .nil),by rw [List.length_append]; show ys.length+1<=_; omega,w9⟩
   ·refine T.keep _ _ _ st7 λb hb o e=>?_
    have q:=(I9.pin (b,o) (List.mem_append_right _ (List.mem_append_right _ (jl hb e)))).1
    exact (hsb.2 b (Nat.ne_of_lt (hfs b hb))).trans q
   ·obtain ⟨o,e,d⟩:=T.obj _ _ st7 b hb
    exact (I9.pin (b,o) (List.mem_append_right _ (List.mem_append_right _ (jl hb e)))).2.1
 exact codeAny_compStart_list (loop _ rfl) (T.self X.A 0 _ _ _ (T.keep _ _ _ st2 λb hb o e=>kp b o e) (loop _ rfl))
theorem jM {elt target iter:Expr} {scope:Scope} {pos:Pos} {wi:TI} {g:Blk->TG} {te:Blk->TE} (Nx:List Str) (ts:List Str) (ix:List Nat)
  (hc:X.calm=true) (hi:PI X target iter wi) (hg:∀ b,PG (cJ X (bN Nx ts ix) scope b) target (g b)) (he:∀ b,PE (cJ X (bN Nx ts ix) scope b) elt (te b))
  (hNx:X.N=Nx) (ok:BlkOk Nx X.env.scope scope ix) (hs:∀ x,foldedSetIterable iter X.env x=pure x:=by intro _; rfl) :
  PE X (.ListComp elt [⟨target,iter,[],0⟩] scope pos) (jC wi ts.length ix g te):=by
 intro pins s σ H Q I h
 obtain ⟨cl,hcl,cl1,cl2⟩:=uw (scope:=scope) (env:=X.env) λy hy hf=>I.ok.has y.1 (ok.frees y hy hf)
 rw [eval_ListComp]
 refine wpAny_comprehension_free (use:=none) rfl hs hcl ok.kind ok.locs (thn (hi pins s σ H _ I h) λv s1 h1=>thn h1 λitv s2 h2=>?_)
 refine Zdd (R:=λacc C=>compPost (model X.prog X.w) X.A X.xe none (EP X pins σ Q) acc C) hc hg he hNx ok cl1 cl2 h2 ?_
 rintro D C H' s' v I' rfl q ⟨m,hm⟩ hn hL h0 hcl' hp
 exact ⟨m,hm,λh' hsb=>⟨.ref D,H',I'.turned (it:=C) (t':=s'.toks) (λb o hb e=>(hsb.2 b hb).trans e) hn hL (.inr h0) hcl' hp,rfl,q⟩⟩
theorem Zh0 {elt target iter:Expr} {scope:Scope} {pos pos' spos:Pos} {wi:TI} {g:Blk->TG} {te:Blk->TE} {i:Nat} {x:Str} (Nx:List Str) (ts:List Str) (ix:List Nat)
  (hc:X.calm=true) (hN:X.N.Nodup) (hix:X.N[i]?=some x) (hx:X.env.scope.names.lookup x=some .local) (hi:PI X target iter wi) (hg:∀ b,PG (cJ X (bN Nx ts ix) scope b) target (g b)) (he:∀ b,PE (cJ X (bN Nx ts ix) scope b) elt (te b))
  (hNx:X.N=Nx) (ok:BlkOk Nx X.env.scope scope ix) (hsw:swapsWith (.ListComp elt [⟨target,iter,[],0⟩] scope pos) (some (.Name x pos')) spos.line X.env=pure true) (hs:∀ x,foldedSetIterable iter X.env x=pure x:=by intro _; rfl) :
  PS X (.Assign [.Name x pos'] (.ListComp elt [⟨target,iter,[],0⟩] scope pos) spos) (ig (jC wi ts.length ix g te) (jr i)):=by
 intro pins s σ H D0 I h
 obtain ⟨cl,hcl,cl1,cl2⟩:=uw (scope:=scope) (env:=X.env) λy hy hf=>I.ok.has y.1 (ok.frees y hy hf)
 rw [exec_Assign_Name_used _ _ _ _ hsw]
 refine wpAny_bind (wpAny_standAt (wpAny_bind ?_))
 show wpAny _ X.A (do let _ <- comprehension (.ListComp elt [⟨target,iter,[],0⟩] scope pos) scope X.env _ (newList []) false (eval iter X.env) (some (assign (.Name x pos') X.env))) _ _ s
 refine wpAny_bind (thn (wpAny_comprehension_free (use:=some (assign (.Name x pos') X.env)) (Q:=λ_ s'=>SP X pins D0 .next s') rfl hs hcl ok.kind ok.locs (thn (hi pins s σ H _ I h) λv s1 h1=>thn h1 λitv s2 h2=>?_)) λ_ s' hq=>wpAny_pure (wpAny_pure hq))
 refine Zdd (R:=λacc C=>compPost (model X.prog X.w) X.A X.xe (some (assign (.Name x pos') X.env)) (λ_ s'=>SP X pins D0 .next s') acc C) (Q:=λx H1=>jr i x σ H1 D0.nx) hc hg he hNx ok cl1 cl2 h2 ?_
 rintro D C H' s' v I' rfl q ⟨m,hm⟩ hn hL h0 hcl' hp
 show wpAny _ X.A (assign (.Name x pos') X.env (.ref D)) _ _ _
 refine wpAny_assign_Name (ZaI I' hN hix (.inl hx) (show RelV (.ref D) (.ref D) from rfl) (λs'' I'' hch=>?_) (.inr hx))
 obtain ⟨a,hsb,ha⟩:=hch
 have haC:C≠a:=by
  rcases ha with z | z
  ·rw [z]; exact hL
  ·exact λe=>hcl' _ _ z e.symm
 exact ⟨m,hm.sameBut hsb haC,λh'' hs''=>⟨_,H',I''.turned (it:=C) (t':=s''.toks) (λb o hb e=>(hs''.2 b hb).trans e) hn hL (.inr h0) hcl' hp,q⟩⟩
end
noncomputable abbrev ah (a:Addr):PyData:=.dict [(.none,.int (Int.ofNat a))]
mutual
/-- the value bears the datum -/
inductive Dn (H:Hp):V->PyData->Prop
 | non:Dn H .non .none
 | bl (b:Bool):Dn H (.bl b) (.bool b)
 | int (i:Int):Dn H (.int i) (.int i)
 | str (x:Str):Dn H (.str x) (.str x)
 | tup {a:Addr} {xs:List V} {ds:List PyData}:H a=some (.tup xs)->DnAll H xs ds->Dn H (.ref a) (.tuple ds)
 | lst {a:Addr} {xs:List V} {ds:List PyData}:H a=some (.lst xs)->DnAll H xs ds->Dn H (.ref a) (.list ds)
 | dct {a:Addr} {ks:List (cX×V)} {ds:List PyData}:Rd0 H a (.dK ks)->DnAll H (ks.map (·.2)) ds->Dn H (.ref a) (.dict ((ks.map λk=>match k.1 with | .inl i=>PyData.int i | .inr x=>PyData.str x).zip ds))
 | dcp {a:Addr} {o:Obj} {ks:List (List Int×V)} {ds:List PyData}:ks≠[]->H a=some (.frz o (.dT (ks.map λk=>(k.1.map Sum.inl,k.2))))->DnAll H (ks.map (·.2)) ds->Dn H (.ref a) (.dict ((ks.map λk=>PyData.tuple (k.1.map PyData.int)).zip ds))
 | hdl (a:Addr):Dn H (.ref a) (ah a)
inductive DnAll (H:Hp):List V->List PyData->Prop
 | nil:DnAll H [] []
 | cons {v:V} {vs:List V} {d:PyData} {ds:List PyData}:Dn H v d->DnAll H vs ds->DnAll H (v::vs) (d::ds)
end
mutual
theorem Dn.mono {H H':Hp} (e:∀ b o,H b=some o->H' b=some o):∀ {v:V} {d:PyData},Dn H v d->Dn H' v d
 | _,_,.non=>.non
 | _,_,.bl b=>.bl b
 | _,_,.int i=>.int i
 | _,_,.str x=>.str x
 | _,_,.tup h r=>.tup (e _ _ h) (DnAll.mono e r)
 | _,_,.lst h r=>.lst (e _ _ h) (DnAll.mono e r)
 | _,_,.dct h r=>.dct (h.imp (e _ _) λ⟨o,h⟩=>⟨o,e _ _ h⟩) (DnAll.mono e r)
 | _,_,.dcp n h r=>.dcp n (e _ _ h) (DnAll.mono e r)
 | _,_,.hdl a=>.hdl a
theorem DnAll.mono {H H':Hp} (e:∀ b o,H b=some o->H' b=some o):∀ {vs:List V} {ds:List PyData},DnAll H vs ds->DnAll H' vs ds
 | _,_,.nil=>.nil
 | _,_,.cons r t=>.cons (Dn.mono e r) (DnAll.mono e t)
end
theorem DnAll.ints {H:Hp}:∀ ns:List Int,DnAll H (ns.map V.int) (ns.map PyData.int)
 | []=>.nil
 | n::ns=>.cons (.int n) (DnAll.ints ns)
theorem DnAll.length {H:Hp} {vs:List V} {ds:List PyData} (h:DnAll H vs ds):vs.length=ds.length:=by
 induction vs generalizing ds with
 | nil=>cases h; rfl
 | cons v vs ih=>cases h with | cons r t=>exact congrArg (·+1) (ih t)
theorem DnAll.append {H:Hp} {vs ws:List V} {ds es:List PyData} (h:DnAll H vs ds) (s:DnAll H ws es):DnAll H (vs++ws) (ds++es):=by
 induction vs generalizing ds with
 | nil=>cases h; exact s
 | cons v vs ih=>cases h with | cons r t=>exact .cons r (ih t)
mutual
/-- data without dicts -/
theorem Dn.reads {P:Program} {w:World} {H:Hp} {h:Heap} (ok:HOk P w H h):∀ {v:V} {d:PyData} {u:Value},Dn H v d->d.hasDict=false->RelV v u->∃ as,Reads h u d as
 | _,_,_,.non,_,r=>by cases r; exact ⟨_,.none⟩
 | _,_,_,.bl b,_,r=>by cases r; exact ⟨_,.bool b⟩
 | _,_,_,.int i,_,r=>by obtain ⟨t,rfl⟩:=r; exact ⟨_,.int i t⟩
 | _,_,_,.str x,_,r=>by obtain ⟨t,rfl⟩:=r; exact ⟨_,.str x t⟩
 | _,_,_,.tup e rs,hd,r=>by
  cases r
  obtain ⟨z,its,rv,o,h1,h2,n,h3⟩:=ok _ _ e
  obtain ⟨as,q⟩:=DnAll.reads ok rs (by simpa [PyData.hasDict] using hd) rv
  exact ⟨_,.tuple h1 h2 h3 (by simpa using q)⟩
 | _,_,_,.lst e rs,hd,r=>by
  cases r
  obtain ⟨z,its,n,rv,h1⟩:=ok _ _ e
  obtain ⟨as,q⟩:=DnAll.reads ok rs (by simpa [PyData.hasDict] using hd) rv
  exact ⟨_,.list h1 rfl rfl (by simpa using q)⟩
 | _,_,_,.dct e rs,hd,r=>by simp [PyData.hasDict] at hd
 | _,_,_,.dcp n e rs,hd,r=>by simp [PyData.hasDict] at hd
 | _,_,_,.hdl a,hd,r=>by simp [PyData.hasDict] at hd
theorem DnAll.reads {P:Program} {w:World} {H:Hp} {h:Heap} (ok:HOk P w H h):∀ {vs:List V} {ds:List PyData} {us:List Value},DnAll H vs ds->PyData.hasDictAll ds=false->Vals vs us->∃ as,ReadsAll h us ds as
 | _,_,_,.nil,_,r=>by cases r; exact ⟨_,.nil⟩
 | _,_,_,.cons p t,hd,r=>by
  cases r with
  | cons r1 r2 =>
   simp only [PyData.hasDictAll,Bool.or_eq_false_iff] at hd
   obtain ⟨as,q⟩:=Dn.reads ok p hd.1 r1
   obtain ⟨bs,q2⟩:=DnAll.reads ok t hd.2 r2
   exact ⟨_,.cons q q2⟩
end
section
variable {X:Cx}
theorem nw {k:Nat} (hr:Room k X.A):gg X (.builtin "repr") (λxs H Q=>∃ v d,xs=[v]/\Dn H v d/\d.hasDict=false/\d.showable=true/\d.depth<=32/\d.shown.length<=sizeLine/\Q (.str d.shown) H):=by
 intro pins s σ H xs us Q I r h
 obtain ⟨v,d,rfl,hd,hn,hs,hdp,hz,q⟩:=h
 obtain ⟨u,rfl,ru⟩:=gS r
 have hun:=hr.units
 have viaRef:∀ {a:Addr} {as:List Addr},Reads s.heap (.ref a) d as->wpAny (model X.prog X.w) X.A (call (.builtin "repr") [.ref a]) (EP X pins σ Q) X.xe s:=λ{a as} rd =>
  repr_of_reads' rd hs (PyData.noDict_hsm hn) hr.gd (by omega) (λ_ _ e=>e) (λh' u' tk hk=>⟨.str d.shown,H,I.kept hk,⟨_,rfl⟩,q⟩) hz
 obtain ⟨as,rd⟩:=Dn.reads I.hok hd hn ru
 cases rd with
 | none=>exact PySem.P.repr_of_none ⟨.str "None",H,I.tok _,⟨_,rfl⟩,q⟩
 | bool b=>exact PySem.P.repr_of_bool ⟨.str (if b then "True" else "False"),H,I.tok _,⟨_,rfl⟩,q⟩
 | int i t=>exact PySem.P.repr_of_int (by simpa [PyData.showable] using hs) ⟨.str (toString i),H,I.tok _,⟨_,rfl⟩,q⟩
 | str x t=>exact PySem.P.repr_of_str ⟨.str (reprText x),H,I.tok _,⟨_,rfl⟩,q⟩ hz
 | list h1 h2 h3 h4=>exact viaRef (.list h1 h2 h3 h4)
 | tuple h1 h2 h3 h4=>exact viaRef (.tuple h1 h2 h3 h4)
 | dict h1 h2 h3 h4 h5=>simp [PyData.hasDict] at hn
theorem ZiK {k:Nat} (hr:Room k X.A):OpR X (compareOp .Eq) (λx y H Q=>∃ d e,Dn H x d/\Dn H y e/\SeqAt.shaped d=true/\SeqAt.shaped e=true/\Q (.bl (PyData.eqv d e)) H):=by
 intro pins s σ H x y v u Q I rx ry h
 obtain ⟨d,e,hd,he,sd,se,q⟩:=h
 obtain ⟨as,r1⟩:=Dn.reads I.hok hd (PyData.hasDict_of_canLay _ (SeqAt.canLay_of_shaped sd)) rx
 obtain ⟨bs,r2⟩:=Dn.reads I.hok he (PyData.hasDict_of_canLay _ (SeqAt.canLay_of_shaped se)) ry
 exact SeqAt.compareEq_shaped r1 r2 sd se hr.units ⟨.bl _,H,I,rfl,q⟩
theorem ZcK {k:Nat} (hr:Room k X.A):OpR X (compareOp .NotEq) (λx y H Q=>∃ d e,Dn H x d/\Dn H y e/\SeqAt.shaped d=true/\SeqAt.shaped e=true/\Q (.bl (!PyData.eqv d e)) H):=by
 intro pins s σ H x y v u Q I rx ry h
 obtain ⟨d,e,hd,he,sd,se,q⟩:=h
 obtain ⟨as,r1⟩:=Dn.reads I.hok hd (PyData.hasDict_of_canLay _ (SeqAt.canLay_of_shaped sd)) rx
 obtain ⟨bs,r2⟩:=Dn.reads I.hok he (PyData.hasDict_of_canLay _ (SeqAt.canLay_of_shaped se)) ry
 exact SeqAt.compareNe_shaped r1 r2 sd se hr.units ⟨.bl _,H,I,rfl,q⟩
theorem Zos:gg X (.type "range") (λxs H Q=>∃ i j:Int,xs=[.int i,.int j]/\∀ p,H p=none->Q (.ref p) (upd H p (.rng i j))):=by
 intro pins s σ H xs us Q I r h
 obtain ⟨i,j,rfl,q⟩:=h
 cases r with
 | cons r1 rr =>
  cases rr with
  | cons r2 rr =>
   cases rr
   obtain ⟨t,rfl⟩:=r1
   obtain ⟨u,rfl⟩:=r2
   refine call_range_2 ?_
   exact ⟨.ref s.heap.objs.size,_,I.laid (t':=s.toks+1) (λb o e=>Heap.get?_push_of_some _ e) (Nat.le_refl _) (show ObjOk X.prog X.w _ _ _ (.rng i j) from ⟨t,u,s.toks,Heap.get?_push_size _ rfl⟩),rfl,q _ (I.hok.fresh (Nat.le_refl _))⟩
noncomputable def gX (lo:Int) (n:Nat):List V:=(List.range n).map λ(k:Nat)=>V.int (lo+(k:Int))
theorem ZfM (lo:Int):∀ (n:Nat) (l:List Value),l.length=n->(∀ (j:Nat) (v:Value),l[j]?=some v->∃ t,v=Value.int (lo+(j:Int)) t)->Vals (gX lo n) l:=by
 intro n
 unfold gX
 induction n with
 | zero =>
  intro l hl _
  have e:l=[]:=List.length_eq_zero_iff.mp hl
  subst e
  exact .nil
 | succ n ih =>
  intro l hl hl2
  obtain ⟨l',x,rfl⟩:∃ l' x,l=l'++[x]:=⟨l.dropLast,l.getLast (by intro e; rw [e] at hl; cases hl),(List.dropLast_concat_getLast _).symm⟩
  have hl':l'.length=n:=by rw [List.length_append] at hl; simpa using hl
  rw [List.range_succ,List.map_append]
  refine Vals.append (ih l' hl' λj v hv=>hl2 j v (by rw [List.getElem?_append_left (List.getElem?_eq_some_iff.mp hv).1]; exact hv)) (.cons ?_ .nil)
  obtain ⟨t,e⟩:=hl2 n x (by rw [List.getElem?_append_right (by omega),hl',Nat.sub_self]; rfl)
  exact ⟨t,e⟩
end
structure Def (K:PySem.W.Frag) (mg:Str->Option Value) (x:Str) (st:Stmt) (ps:List Str):Prop where
 ex:∃ f fd,Fun K x x st f fd/\mg x=some (.ref f)/\Binds K fd ps []
structure Callee (P:Program) (w:World) (K:PySem.W.Frag) (mg:Str->Option Value) (base:Heap) (x:Str) (k:Nat) (ps:List Str) (sp:Sp):Prop where
 ex:∃ f fd,FnOk P w K mg base fZ k f fd ps sp/\mg x=some (.ref f)/\PySem.W.keepIn K (.ref f)=true/\Binds K fd ps []
section
variable {P:Program} {w:World} {K:PySem.W.Frag} {mg:Str->Option Value} {base:Heap}
theorem Def.ok {x:Str} {st:Stmt} {N ps:List Str} {k:Nat} {sp:Sp} (D:Def K mg x st ps) (S:FnScope N ps (bM st)) (len:∀ vs H Q E,sp vs H Q E->vs.length=ps.length)
  (hbody:∀ (f:Addr) (cdv:Value) (A:Around) (outer:List Env) (s:Shared) (H:Hp) (vs:List V) (Q:VK) (E:XK),Room k (A.deeper (envOfC x (bM st) s.heap.objs.size f cdv))->sp vs H Q E ->
   ∃ t,PSs (fG fZ P w K mg base N x (bM st) f cdv A outer s H E).nox (fF st) t/\t { nx:=λ_ H'=>Q .non H',rt:=Q } (start N vs) H):Callee P w K mg base x (k+1) ps sp:=by
 obtain ⟨f,fd,F,hm,hb⟩:=D.ex
 exact ⟨f,fd,F.ok S len λcdv A outer s H vs Q E hr h=>hbody f cdv A outer s H vs Q E hr h,hm,F.kp,hb⟩
theorem ZnA {x:Str} {st:Stmt} {ps:List Str} {h:Heap} {f:Addr} {oc:Value} {od an:Option Addr} {osl:Array (Option Value)} {kV doc pm cdv ct:Value} (X:K.In h) (G:h.Ns mainGlobals mg)
  (a:PySem.W.nsIn K mainGlobals x=some (some (.ref f))) (l:K.lookup f=some ⟨oc,od,.func (PySem.W.fnOf x x (iw st) (fF st) (bM st) .none kV doc pm an cdv ct),osl⟩)
  (c:PySem.W.codeIn K cdv x=true) (k:PySem.W.keepIn K (.ref f)=true)
  (hb:∀ (kV doc pm:Value) (an:Option Addr) (cdv ct:Value) (us:List Value),us.length=ps.length->bindArgs (PySem.W.fnOf x x (iw st) (fF st) (bM st) .none kV doc pm an cdv ct) ⟨us,[]⟩=pure (ps.zip us)):Def K mg x st ps:=by
 have F:=uc (st:=st) l c k
 exact ⟨f,_,F,PySem.W.mg_of X G a,F.binds hb⟩
end
section
variable {X:Cx} {x:Str} {k:Nat} {ps:List Str} {sp:Sp} {e:Expr} {es:List Expr} {t:TA} {p pos:Pos}
theorem ZcB (C:Callee X.prog X.w X.K X.mg X.base x k ps sp) (hr:Room k X.A) (hg:Gl X x) (ha:PA X (e::es) t) (hdb:(x == ("__debug__":Str))=false:=by decide)
  (he:starEach (e::es) X.env=(false,eval e X.env)::starEach es X.env:=by rfl) (hpl:(backTo pos (starEach es X.env)).any (·.1)=false:=by rfl):PE X (.Call (.Name x p) (e::es) [] pos) (ZaE sp [] E0 t):=by
 obtain ⟨f,fd,F,hm,hk,hb⟩:=C.ex
 exact Ziy F hr hg hm hk hb .nil oO ha hdb he hpl
theorem Ziu {i:Int} (hg:Gl X x) (h:∃ t,X.mg x=some (.int i t)) (hd:(x == ("__debug__":Str))=false:=by decide):PE X (.Name x pos) (tC (.int i)):=by
 obtain ⟨t,e⟩:=h
 exact Zit hg e ⟨t,rfl⟩ hd
end
noncomputable def Zgl (t:TS):TS:=λD σ H=>∃ J:St->Hp->Prop,t { D with nx:=J } σ H/\∀ σ' H',J σ' H'->D.nx σ' H'
noncomputable def Zgk (t:TT):TT:=λσ H Q=>∃ J:Bool->Hp->Prop,t σ H J/\∀ b H',J b H'->Q b H'
section
variable {X:Cx} {st:Stmt} {e:Expr}
theorem PS.join {t:TS} (h:PS X st t):PS X st (Zgl t):=by
 rintro pins s σ H D I ⟨J,q,hJ⟩
 refine thn (h pins s σ H _ I q) λf s' z=>?_
 cases f with
 | next=>obtain ⟨σ',H',I',q'⟩:=z; exact ⟨σ',H',I',hJ _ _ q'⟩
 | brk=>exact z
 | cont=>exact z
 | ret u=>exact z
theorem PT.join {t:TT} (h:PT X e t):PT X e (Zgk t):=by
 rintro pins s σ H Q I ⟨J,q,hJ⟩
 refine thn (h pins s σ H _ I q) λb s' ⟨H',I',q'⟩=>⟨H',I',hJ _ _ q'⟩
end
section
variable {H:Hp} {p c:Addr} {a l b:Int}
end
noncomputable def Kept (p:Addr) (H H':Hp):Prop:=∀ b o,H b=some o->b≠p->H' b=some o
theorem Kept.refl {p:Addr} {H:Hp}:Kept p H H:=λ_ _ h _=>h
theorem Kept.new {p q:Addr} {H H':Hp} {o:HO} (a:Kept p H H') (hq:H' q=none):Kept p H (upd H' q o):=λc u h n=>by
 have e:=a c u h n
 rw [bG (c7 e hq)]
 exact e
theorem Kept.pen {p:Addr} {H H':Hp} {o:HO} (a:Kept p H H'):Kept p H (upd H' p o):=λc u h n=>by
 rw [bG n]
 exact a c u h n
theorem Same.new {q:Addr} {H H':Hp} {o:HO} (a:Same H H') (hq:H' q=none):Same H (upd H' q o):=λc u h=>by
 have e:=a c u h
 rw [bG (c7 e hq)]
 exact e
theorem ZaX (ns:List Int):SeqAt.shaped (.list (ns.map PyData.int))=true:=by
 have h1:PyData.canLayAll0 (ns.map PyData.int)=true:=by
  induction ns with
  | nil=>rfl
  | cons n r ih=>simp [PyData.canLayAll0,PyData.canLay0,ih]
 have h2:PyData.depthAll (ns.map PyData.int)=0:=by
  induction ns with
  | nil=>rfl
  | cons n r ih=>simp [PyData.depthAll,PyData.depth]; exact ih (by
    have:=h1
    simp [PyData.canLayAll0] at this
    exact this.2)
 simp [SeqAt.shaped,PyData.canLay0,PyData.depth,h1,h2]
theorem Zm9 (ns:List Int):PyData.eqv (.list (ns.map PyData.int)) (.list [])=ns.isEmpty:=by
 cases ns with
 | nil=>rfl
 | cons n r=>rfl
section
variable {prog:Program} {w:World} {A:Around} {E:Value->Shared->Prop} {s:Shared} {r:Addr} {a b c:Int} {t u v:Tok} {n:Nat}
theorem Zob {Q:List Value->Shared->Prop} (hh:A.handled=none) (hr:IsRange s.heap r a b c t u v) (hs:Builtin.Range.small a b c=true) (hn:Builtin.Range.rangeSize a b c=n) (hl:n<=2 ^ 24)
  (hQ:∀ (h':Heap) (tk:Nat) (acc:Array Value),(∀ b o,s.heap.get? b=some o->h'.get? b=some o)->ItemsOf (λi v=>∃ t,v=.int (a+i * c) t) acc n->Q acc.toList { s with heap:=h',toks:=tk }):wpAny (model prog w) A (collect (.ref r)) Q E s:=by
 unfold collect; apply wpAny_bind; apply wpAny_runValue; refine codeAny_builtin F.entry_proto_collect ?_
 rw [Around.under_plainId F.plain_proto_collect _]
 show wpAny _ A.in1 (newList [] >>= λz=>again (.builtin "list.__iadd__" ⟨[z,.ref r],[]⟩)) _ _ s
 refine wpAny_bind (wpAny_newObj_type (wpAny_pure ⟨plainId_quiet F.plain_list_iadd _,codeAny_builtin F.entry_list_iadd ?_⟩))
 rw [Around.under_plainId F.plain_list_iadd _]
 show wpAny _ A.in1 (Builtin.List.listExtendWith (.ref s.heap.objs.size) (.ref r) (.ref s.heap.objs.size)) _ _ { s with heap:=s.heap.push { cls:=.type "list",data:=.seq ([]:List Value).toArray } }
 let R:Result->Shared->Prop:=λz s'=>match z with
  | .ok (.ret v)=>wpAny (model prog w) A (match v with
   | .ref q=>(do match (<- load q).data with
    | .seq xs _=>pure xs.toList
    | _=>unsupported "internal:collect")
   | _=>unsupported "internal:collect") Q E s'
  | .ok _=>False
  | .error e=>E e s'
 refine wpAny_extend_range (R:=R) (s:={ s with heap:=s.heap.push { cls:=.type "list",data:=.seq ([]:List Value).toArray } }) hh (Heap.get?_push_of_some _ hr) hs hn hl _ _ _ (show (s.heap.push { cls:=.type "list",data:=.seq ([]:List Value).toArray }).get? s.heap.objs.size=some { cls:=.type "list",data:=.seq #[] } from Heap.get?_push_size _ rfl) λh' tk acc c' hk hS hacc=>?_
 show wpAny _ A (load s.heap.objs.size >>= _) _ _ { s with heap:=h',toks:=tk }
 exact wpAny_bind (wpAny_load hS (wpAny_pure (hQ h' tk acc (λb o e=>hk b o (Nat.ne_of_lt (Heap.lt_size e)) (Heap.get?_push_of_some _ e)) hacc)))
theorem ZfY {Q:Value->Shared->Prop} (hh:A.handled=none) (hr:IsRange s.heap r a b c t u v) (hs:Builtin.Range.small a b c=true) (hn:Builtin.Range.rangeSize a b c=n) (hl:n<=2 ^ 24)
  (hQ:∀ (h':Heap) (tk:Nat) (acc:Array Value),(∀ b o,s.heap.get? b=some o->h'.get? b=some o)->ItemsOf (λi v=>∃ t,v=.int (a+i * c) t) acc n->Q (.ref h'.objs.size) { s with heap:=h'.push { cls:=.type "tuple",data:=.seq acc },toks:=tk }) :
  wpAny (model prog w) A (call (.type "tuple") [.ref r]) Q E s:=by
 refine callType_codes (Q₁:=λz s1=>s1.TypeIs z "tuple"/\Q z s1) F.called_tuple (F.typeCall_tuple_1 _) F.entry_object_init ?_ λz s1 h1=>?_
 ·apply codeAny_of_tree
  show wpAny _ A.in1.in1 (do checkBuiltinCall "tuple.__new__" ⟨[.type "tuple",.ref r],[]⟩; again (.builtin "tuple.__new__" ⟨[.type "tuple",.ref r],[]⟩)) _ _ s
  refine wpAny_bind (wpAny_of_eq (F.newCall_tuple_1 _) (wpAny_pure ⟨plainId_quiet F.plain_tuple_new _,codeAny_builtin F.entry_tuple_new ?_⟩))
  rw [Around.under_plainId F.plain_tuple_new _]
  have f1:=sub_tuple_self; have f2:=init_tuple_lookup; have f3:=madeHere_tuple
  have fT:s.TypeIs (.ref r) "range":=⟨_,hr,rfl⟩
  wp_walk using wpAny_typeOf fT,Zob (A:=A.in1.in1) hh hr hs hn hl
  intro h' tk acc hk hacc
  show wpAny _ _ (Builtin.Tuple.tupleExact acc.toList.toArray >>= λz=>ret z) _ _ _
  unfold Builtin.Tuple.tupleExact
  have e:acc.toList.toArray=acc:=by simp
  rw [e]
  refine wpAny_bind (wpAny_newObj_type (wpAny_pure ⟨⟨_,Heap.get?_push_size _ rfl,rfl⟩,hQ h' tk acc hk hacc⟩) ?_)
  show acc.size<=sizeLine
  rw [hacc.1,sizeLine_eq]
  exact hl
 ·exact ⟨h1.1,F.args_object_init_2 z _,object_init_meets F.called_tuple.init.lookup F.called_tuple.made (by decide) prog w A.in1 _ s1 ⟨h1.1,rfl,h1.2⟩⟩
end
section
variable {X:Cx}
theorem Zop (hh:X.A.handled=none):gg X (.type "tuple") (λxs H Q=>∃ a lo hi,xs=[.ref a]/\H a=some (.rng lo hi)/\-(2 ^ 62)<=lo/\lo < 2 ^ 62/\-(2 ^ 62)<=hi/\hi < 2 ^ 62/\(hi - lo).toNat<=1000/\∀ p,H p=none->Q (.ref p) (upd H p (.tup (gX lo (hi - lo).toNat)))):=by
 intro pins s σ H xs us Q I r h
 obtain ⟨a,lo,hi,rfl,ha,b1,b2,b3,b4,hn,q⟩:=h
 obtain ⟨u,rfl,ru⟩:=gS r
 cases ru
 obtain ⟨t,u,v,e⟩:=I.hok a _ ha
 have hsz:Builtin.Range.rangeSize lo hi 1=(((hi - lo).toNat:Nat):Int):=by rw [rangeSize_one]; split <;> omega
 refine ZfY hh (r:=a) (t:=t) (u:=u) (v:=v) e (small_one b1 b2 b3 b4) hsz (by omega) λh' tk acc hk hacc=>?_
 have I1:Inv X pins σ H { s with heap:=h',toks:=tk }:=I.kept hk
 have hv:Vals (gX lo (hi - lo).toNat) acc.toList:=ZfM lo _ _ (by simpa using hacc.1) λj v hv=>by
  obtain ⟨t,e⟩:=hacc.2 j v (by simpa using hv)
  exact ⟨t,by rw [e,Int.mul_one]⟩
 have hz:(gX lo (hi - lo).toNat).length<=sizeLine:=by
  unfold gX
  rw [List.length_map,List.length_range]
  exact Nat.le_trans hn (by decide)
 refine ⟨.ref h'.objs.size,_,I1.laid (h':=h'.push { cls:=.type "tuple",data:=.seq acc }) (t':=tk) (λb o e=>Heap.get?_push_of_some _ e) (Nat.le_refl _) (show ObjOk X.prog X.w _ _ _ (.tup (gX lo (hi - lo).toNat)) from ⟨hz,acc.toList,hv,⟨_,Heap.get?_push_size _ rfl,rfl,0,by simp⟩⟩),rfl,q _ (I1.hok.fresh (Nat.le_refl _))⟩
theorem Zi0:fillsNumberSlot (.type "tuple") "mul"=pure false :=
 PySem.fillsNumberSlot_seq (id:="tuple.__mul__") (r:=some (.builtin "tuple.__rmul__")) PySem.F.slot_tuple_mul.lookup (by decide +kernel) PySem.F.slot_tuple_rmul.lookup (by decide +kernel)
theorem ZhC:seqRepeat? (.type "tuple")=pure (some (.builtin "tuple.__mul__")):=by
 unfold seqRepeat?
 rw [PySem.seqSlot_of (T:="tuple") (name:="__mul__") (id:="tuple.__mul__") PySem.F.slot_tuple_mul.lookup (by decide +kernel),PySem.seqSlot_of (T:="tuple") (name:="__rmul__") (id:="tuple.__rmul__") PySem.F.slot_tuple_rmul.lookup (by decide +kernel)]; rfl
theorem ZhA (x:Int) (t:Tok) (l:Addr) (items:Array Value) (n:Nat) (dd:Option Addr) (sl:Array (Option Value)) :
  Meets (Builtin.«int.__rmul__» ⟨[.int x t,.ref l],[]⟩) (λ_ R s=>s.heap.get? l=some { cls:=.type "tuple",dict:=dd,data:=.seq items n,slots:=sl }/\R (.ok (.ret Value.notImplemented)) s):=by
 refine .of_wp λprog w A R s h=>?_
 obtain ⟨hp,g,d,tk,os⟩:=s
 obtain ⟨hl,h⟩:=h
 wp_walk
 exact ⟨_,rfl,h⟩
theorem Zi7 (x:Int) (t:Tok) (l:Addr) (items:Array Value) (n:Nat) (dd:Option Addr) (sl:Array (Option Value)) (h1:1 < x) (h2:x<=1000) (h3:items.isEmpty=false) (h4:items.size<=1000) :
  Meets (Builtin.«tuple.__mul__» ⟨[.ref l,.int x t],[]⟩) (λ_ R s=>s.heap.get? l=some { cls:=.type "tuple",dict:=dd,data:=.seq items n,slots:=sl } /\
   R (.ok (.ret (.ref s.heap.objs.size))) { s with heap:=s.heap.push { cls:=.type "tuple",data:=.seq ((List.replicate x.toNat items).foldl (·++·) #[]) } }):=by
 refine .of_wp λprog w A R s h=>?_
 obtain ⟨hp,g,d,tk,os⟩:=s
 obtain ⟨hl,h⟩:=h
 have hp0:0<=(items.size:Int) * x:=Int.mul_nonneg (by omega) (by omega)
 have hp1:(items.size:Int) * x<=1000 * 1000:=Int.mul_le_mul (by omega) h2 (by omega) (by omega)
 have hne:items.size≠0:=λe=>by simp [Array.isEmpty,e] at h3
 wp_walk
 refine wpAny_ite_split (λz=>absurd z (by simp; omega)) (λ_=>?_)
 refine wpAny_bind ?_
 unfold Builtin.Tuple.tupleItemsOf
 refine wpAny_bind (wpAny_seqItems hl rfl (wpAny_pure ?_))
 refine wpAny_ite_split (λz=>absurd z (by rw [h3]; simp; omega)) (λ_=>?_)
 refine wpAny_ite_split (λz=>absurd z (by rw [h3]; simp; omega)) (λ_=>?_)
 refine wpAny_ite_split (λz=>absurd z (by omega)) (λ_=>?_)
 refine wpAny_ite_split (λz=>absurd z (by unfold Builtin.Tuple.tupleTooMany; rw [sizeLine_eq]; simp; omega)) (λ_=>?_)
 unfold Builtin.Tuple.tupleExact
 have hlen:∀ k:Nat,((List.replicate k items).foldl (·++·) #[]).size=k * items.size:=λk=>by
  have key:∀ (k:Nat) (acc:Array Value),((List.replicate k items).foldl (·++·) acc).size=acc.size+k * items.size:=by
   intro k
   induction k with
   | zero=>intro acc; simp
   | succ k ih =>
    intro acc
    rw [List.replicate_succ,List.foldl_cons,ih,Array.size_append,Nat.succ_mul]
    omega
  simpa using key k #[]
 refine wpAny_bind (wpAny_newObj_type (wpAny_pure ⟨_,rfl,h⟩) ?_)
 show ((List.replicate x.toNat items).foldl (·++·) #[]).size<=sizeLine
 rw [hlen,sizeLine_eq]
 have hx:x.toNat<=1000:=by omega
 exact Nat.le_trans (Nat.mul_le_mul hx h4) (by decide)
noncomputable def Zb3 (K:PySem.W.Frag):R2:=λx y H Q=>∃ a k xs,x=.ref a/\y=.int k/\SqT K H a xs/\1 < k/\k<=1000/\xs≠[]/\xs.length<=1000/\∀ p,H p=none->Q (.ref p) (upd H p (.tup (List.replicate k.toNat xs).flatten))
theorem Zap {xs:List V} {us:List Value} (r:Vals xs us):∀ k:Nat,Vals (List.replicate k xs).flatten (List.replicate k us).flatten
 | 0=>.nil
 | k+1=>by
  rw [List.replicate_succ,List.replicate_succ,List.flatten_cons,List.flatten_cons]
  exact r.append (Zap r k)
theorem ZiE:OpR X (binaryOp .Mult) (Zb3 X.K):=by
 intro pins s σ H x y v u Q I rx ry h
 obtain ⟨a,k,xs,rfl,rfl,hq,h1,h2,hne,hl,q⟩:=h
 cases rx
 obtain ⟨t,rfl⟩:=ry
 obtain ⟨its,rv,p,hz⟩:=I.tuple hq
 obtain ⟨o,ho,hc,n,hd⟩:=p
 obtain ⟨oc,od,odd,osl⟩:=o
 have hc':oc=.type "tuple":=hc
 have hd':odd=.seq its.toArray n:=hd
 subst hc' hd'
 have hlen:=rv.length
 have hemp:its.toArray.isEmpty=false:=by
  cases its with
  | nil=>cases rv; exact absurd rfl hne
  | cons i r=>rfl
 have efl:(List.replicate k.toNat its.toArray).foldl (·++·) #[]=(List.replicate k.toNat its).flatten.toArray:=by
  have key:∀ (k:Nat) (acc:Array Value),(List.replicate k its.toArray).foldl (·++·) acc=acc++(List.replicate k its).flatten.toArray:=by
   intro k
   induction k with
   | zero=>intro acc; simp
   | succ k ih =>
    intro acc
    rw [List.replicate_succ,List.foldl_cons,ih,List.replicate_succ,List.flatten_cons]
    simp
  simpa using key k.toNat #[]
 refine wpAny_binaryOp_repeat_ref (T:="tuple") (U:="int") (by decide) ⟨_,ho,rfl⟩ (λs'=>typeIs_int s' k t) Zi0 PySem.F.fills_int_mul PySem.F.slot_int_rmul ZhC PySem.F.slot_int_index.lookup ?_
 refine call_meets PySem.F.slot_int_rmul (typeIs_int s k t) PySem.F.entry_int_rmul (PySem.F.args_int_rmul_2 _ _) (ZhA k t a its.toArray n od osl) ⟨ho,rfl,⟨_,ho,rfl⟩,?_⟩
 refine call_meets PySem.F.slot_tuple_mul ⟨_,ho,rfl⟩ PySem.F.entry_tuple_mul (PySem.F.args_tuple_mul_2 _ _) (Zi7 k t a its.toArray n od osl h1 h2 hemp (by rw [List.size_toArray]; omega)) ⟨ho,?_⟩
 rw [efl]
 have hzz:(List.replicate k.toNat xs).flatten.length<=sizeLine:=by
  have hx:k.toNat<=1000:=by omega
  have e:(List.replicate k.toNat xs).flatten.length=k.toNat * xs.length:=by simp
  rw [e,sizeLine_eq]
  exact Nat.le_trans (Nat.mul_le_mul hx hl) (by decide)
 exact ⟨.ref s.heap.objs.size,_,I.laid (t':=s.toks) (λb o e=>Heap.get?_push_of_some _ e) (Nat.le_refl _) (show ObjOk X.prog X.w _ _ _ (.tup (List.replicate k.toNat xs).flatten) from ⟨hzz,_,Zap rv k.toNat,IsTup.new _ _⟩),rfl,q _ (I.hok.fresh (Nat.le_refl _))⟩
end
theorem Zc6 {n:Nat} (h:n < 2 ^ 1900):n.log2 < 1900:=by
 by_cases h0:n=0
 ·rw [h0]; decide
 ·exact (Nat.log2_lt h0).mpr h
theorem ZgP {i:Int} (h:i.natAbs < 2 ^ 1900):(PyData.int i).shown.length<=1901:=by
 have e:=int_text_length_le (k:=1900) (by decide) (Zc6 h)
 have q:(Str.ofString (toString i)).length<=1901:=by rw [PySem.ofString_length]; exact e
 simpa [PyData.shown] using q
theorem ZaU:∀ (ns:List Int),(∀ n∈ns,n.natAbs < 2 ^ 1900)->((PyData.shownAll (ns.map PyData.int)).map (·.length)).sum<=ns.length * 1901/\(PyData.shownAll (ns.map PyData.int)).length=ns.length
 | [],_=>⟨by simp [PyData.shownAll],rfl⟩
 | n::r,h=>by
  obtain ⟨h1,h2⟩:=ZaU r λx hx=>h x (List.mem_cons_of_mem _ hx)
  have h3:=ZgP (h n List.mem_cons_self)
  rw [List.map_cons,PyData.shownAll,List.map_cons,List.sum_cons,List.length_cons,List.length_cons,h2,Nat.succ_mul]
  exact ⟨by omega,rfl⟩
theorem ZaV:∀ (ns:List Int),(∀ n∈ns,n.natAbs < 2 ^ 1900)->PyData.showableAll (ns.map PyData.int)=true
 | [],_=>rfl
 | n::r,h=>by
  rw [List.map_cons,PyData.showableAll,ZaV r λx hx=>h x (List.mem_cons_of_mem _ hx),Bool.and_true]
  have q:=Zc6 (h n List.mem_cons_self)
  simp only [PyData.showable,decide_eq_true_eq]
  omega
noncomputable def eE (lo:Int) (n:Nat):List Int:=(List.range n).map λ(k:Nat)=>lo+(k:Int)
theorem ZhI (lo:Int) (n:Nat):gX lo n=(eE lo n).map V.int:=by
 unfold gX eE
 rw [List.map_map]
 rfl
theorem mE (lo:Int) (n:Nat):(eE lo n).length=n:=by
 unfold eE
 rw [List.length_map,List.length_range]
theorem ZhJ {lo x:Int} {n:Nat} (h:x∈eE lo n):lo<=x/\x < lo+n:=by
 unfold eE at h
 obtain ⟨k,hk,rfl⟩:=List.mem_map.mp h
 have:=List.mem_range.mp hk
 omega
noncomputable def CMulG (i j:Int):Prop:=i.natAbs < 2 ^ 8000/\j.natAbs < 2 ^ 8000
noncomputable def Zfj (i j:Int):Prop:=j≠0/\j.natAbs < 2 ^ 8000
theorem ZeE {x:Int} (h:x.natAbs < 2 ^ 8000):Builtin.Int.intBits x<=8000:=by
 unfold Builtin.Int.intBits
 split
 ·exact Nat.zero_le _
 ·rename_i hx
  have h0:x.natAbs≠0:=by
   intro z
   have e:x=0:=Int.natAbs_eq_zero.mp z
   rw [e] at hx
   exact hx rfl
  exact (Nat.log2_lt h0).mpr h
theorem CMulG.ok {i j:Int} (h:CMulG i j):IntMulOk i j:=by
 have h1:=ZeE h.1
 have h2:=ZeE h.2
 unfold IntMulOk
 have e:Builtin.Int.intTooBig ((Builtin.Int.intBits i+Builtin.Int.intBits j:Nat):Int)=false:=by
  unfold Builtin.Int.intTooBig
  refine decide_eq_false ?_
  have hb:((16000:Nat):Int)<=(bitsLine:Int):=by decide
  omega
 intro z
 rw [Bool.and_eq_true] at z
 have z2:Builtin.Int.intTooBig ((Builtin.Int.intBits i+Builtin.Int.intBits j:Nat):Int)=true:=z.2
 rw [e] at z2
 cases z2
section
variable {X:Cx}
theorem ZiH:OpR X (binaryOp .Mult) (rI CMulG λi j=>.int (i * j)):=jh λ_ _ _ _ _ _ _ hc q=>mul_int q hc.ok
theorem ZcN:OpR X (binaryOp .FloorDiv) (rI Zfj λi j=>.int (i.fdiv j)):=jh λi j _ _ _ _ _ hc q=>by
 refine floordiv_int hc.1 q (.inl (PyProof.noPylong_of_log2 ?_))
 by_cases h0:j.natAbs=0
 ·exact absurd (Int.natAbs_eq_zero.mp h0) hc.1
 ·exact Nat.lt_trans ((Nat.log2_lt h0).mpr hc.2) (by decide)
theorem ny:gg X (.builtin "isinstance") (λxs H Q=>∃ x T t b,xs=[x,.ty T]/\TyOf X.K H x t/\PySem.W.kitOne X.K t (.type T)=some b/\Q (.bl b) H):=by
 intro pins s σ H xs us Q I r h
 obtain ⟨x,T,t,b,rfl,ty,e,q⟩:=h
 obtain ⟨u,c,rfl,ru,rc⟩:=n8 r
 cases rc
 exact ZjZ I ru ty e λtk=>⟨.bl b,H,I.tok tk,rfl,q⟩
end
end L2
namespace Gc
noncomputable def jX (a b:Int):Int:=((Nat.gcd a.natAbs b.natAbs:Nat):Int)
noncomputable def den (t b:Int):Int:=if b < 0 then -jX t b else jX t b
noncomputable def jn (t b:Int):Int:=t.fdiv (den t b)
noncomputable def iN (t b:Int):Int:=b.fdiv (den t b)
theorem ub {t b:Int} (h:b≠0):0 < Nat.gcd t.natAbs b.natAbs:=Nat.gcd_pos_of_pos_right _ (by omega)
theorem Zeh {t b:Int} (h:b≠0):den t b≠0:=by
 have:=ub (t:=t) h
 unfold den jX
 split <;> omega
theorem ut (t b:Int):(den t b).natAbs=Nat.gcd t.natAbs b.natAbs:=by
 unfold den jX
 split <;> omega
theorem Zc4 {t b:Int} (h:b≠0):t=den t b * jn t b/\b=den t b * iN t b/\0 < iN t b/\Nat.gcd (jn t b).natAbs (iN t b).natAbs=1:=by
 have hd:=Zeh (t:=t) h
 have ha:=ut t b
 have hg:=ub (t:=t) h
 have d1:den t b ∣ t:=Int.natAbs_dvd_natAbs.mp (by rw [ha]; exact Nat.gcd_dvd_left _ _)
 have d2:den t b ∣ b:=Int.natAbs_dvd_natAbs.mp (by rw [ha]; exact Nat.gcd_dvd_right _ _)
 obtain ⟨x,hx⟩:=d1
 obtain ⟨y,hy⟩:=d2
 have e1:jn t b=x:=by
  show t.fdiv (den t b)=x
  generalize den t b=d at hd hx
  rw [hx]
  exact Int.mul_fdiv_cancel_left _ hd
 have e2:iN t b=y:=by
  show b.fdiv (den t b)=y
  generalize den t b=d at hd hy
  rw [hy]
  exact Int.mul_fdiv_cancel_left _ hd
 rw [e1,e2]
 refine ⟨hx,hy,?_,?_⟩
 ·have hb:(0 < b/\0 < den t b)\/(b < 0/\den t b < 0):=by
   unfold den jX
   split <;> omega
  rcases hb with ⟨p,q⟩ | ⟨p,q⟩
  ·rcases (show 0 < y\/y<=0 by omega) with z | z
   ·exact z
   ·exfalso
    have:=Int.mul_nonneg (Int.le_of_lt q) (show 0<=-y by omega)
    rw [Int.mul_neg,<- hy] at this
    omega
  ·rcases (show 0 < y\/y<=0 by omega) with z | z
   ·exact z
   ·exfalso
    have:=Int.mul_nonneg (show 0<=-den t b by omega) (show 0<=-y by omega)
    rw [Int.neg_mul_neg,<- hy] at this
    omega
 ·have h1:t.natAbs=Nat.gcd t.natAbs b.natAbs * x.natAbs:=by
   have:=congrArg Int.natAbs hx
   rw [Int.natAbs_mul,ha] at this
   exact this
  have h2:b.natAbs=Nat.gcd t.natAbs b.natAbs * y.natAbs:=by
   have:=congrArg Int.natAbs hy
   rw [Int.natAbs_mul,ha] at this
   exact this
  have h3:Nat.gcd t.natAbs b.natAbs=Nat.gcd t.natAbs b.natAbs * Nat.gcd x.natAbs y.natAbs:=by
   rw [<- Nat.gcd_mul_left,<- h1,<- h2]
  have h4:Nat.gcd t.natAbs b.natAbs * 1=Nat.gcd t.natAbs b.natAbs * Nat.gcd x.natAbs y.natAbs:=by rw [Nat.mul_one]; exact h3
  exact (Nat.eq_of_mul_eq_mul_left hg h4).symm
theorem Zjq {t b:Int} (h:b≠0):(jn t b).natAbs<=t.natAbs/\(iN t b).natAbs<=b.natAbs:=by
 obtain ⟨h1,h2,_,_⟩:=Zc4 (t:=t) h
 have hg:=ub (t:=t) h
 have ha:=ut t b
 constructor
 ·have e:=congrArg Int.natAbs h1
  rw [Int.natAbs_mul,ha] at e
  rw [e]
  exact Nat.le_mul_of_pos_left _ hg
 ·have e:=congrArg Int.natAbs h2
  rw [Int.natAbs_mul,ha] at e
  rw [e]
  exact Nat.le_mul_of_pos_left _ hg
end Gc
namespace L2
open PySem PySem.Spec PyProof.Rows
inductive Cel where
 | ins (C:Addr) (fs:List (Str×PyData)) | dct (kvs:List (Str×PyData)) | lst (xs:List PyData)
structure Sto where
 l:List (Addr×Cel)
noncomputable def ZdA:List (Addr×Cel)->Addr->Option Cel
 | [],_=>none
 | (b,c)::r,a=>if a=b then some c else ZdA r a
noncomputable def Sto.get (st:Sto) (a:Addr):Option Cel:=ZdA st.l a
noncomputable def Sto.put (st:Sto) (a:Addr) (c:Cel):Sto:=⟨(a,c)::st.l⟩
theorem Sto.put_same {st:Sto} {a:Addr} {c:Cel}:(st.put a c).get a=some c:=if_pos rfl
theorem Sto.put_ne {st:Sto} {a b:Addr} {c:Cel} (h:b≠a):(st.put a c).get b=st.get b:=if_neg h
structure Ms where
 n:Nat
 st:Sto
noncomputable def Ms.up (m:Ms):Ms:=⟨m.n+1,m.st⟩
instance:OfNat Ms 0:=⟨⟨0,⟨[]⟩⟩⟩
inductive Tr (α:Type) where
 | ret (a:α)
 | draw (n:Int) (k:Int->Tr α)
 | fail
 | op (f:Sto->Option (Sto×PyData)) (k:PyData->Tr α)
 | new (c:Cel) (k:Addr->Tr α)
namespace Tr
variable {α β γ:Type}
noncomputable def bind:Tr α->(α->Tr β)->Tr β
 | .ret a,f=>f a
 | .draw n k,f=>.draw n λr=>(k r).bind f
 | .fail,_=>.fail
 | .op g k,f=>.op g λx=>(k x).bind f
 | .new c k,f=>.new c λx=>(k x).bind f
@[simp] theorem ret_bind (a:α) (f:α->Tr β):(Tr.ret a).bind f=f a:=rfl
@[simp] theorem draw_bind (n:Int) (k:Int->Tr α) (f:α->Tr β):(Tr.draw n k).bind f=.draw n λr=>(k r).bind f:=rfl
@[simp] theorem fail_bind (f:α->Tr β):(Tr.fail:Tr α).bind f=.fail:=rfl
@[simp] theorem op_bind (g:Sto->Option (Sto×PyData)) (k:PyData->Tr α) (f:α->Tr β):(Tr.op g k).bind f=.op g λr=>(k r).bind f:=rfl
@[simp] theorem new_bind (c:Cel) (k:Addr->Tr α) (f:α->Tr β):(Tr.new c k).bind f=.new c λr=>(k r).bind f:=rfl
@[simp] theorem bind_assoc:∀ (t:Tr α) (f:α->Tr β) (g:β->Tr γ),(t.bind f).bind g=t.bind λa=>(f a).bind g
 | .ret a,f,g=>rfl
 | .draw n k,f,g=>by simp only [draw_bind]; congr 1; funext r; exact bind_assoc (k r) f g
 | .fail,f,g=>rfl
 | .op h k,f,g=>by simp only [op_bind]; congr 1; funext r; exact bind_assoc (k r) f g
 | .new c k,f,g=>by simp only [new_bind]; congr 1; funext r; exact bind_assoc (k r) f g
noncomputable def of:Option α->Tr α
 | some a=>.ret a
 | none=>.fail
@[simp] theorem of_some (a:α):Tr.of (some a)=.ret a:=rfl
@[simp] theorem of_none:Tr.of (none:Option α)=.fail:=rfl
noncomputable def ok:Tr α->Ms->(Ms->α->Prop)->Prop
 | .ret a,m,Q=>Q m a
 | .draw n k,m,Q=>m.n < 400000/\0 < n/\n < 1073741824/\∀ r,0<=r->r < n->(k r).ok m.up Q
 | .fail,_,_=>False
 | .op f k,m,Q=>∃ s x,f m.st=some (s,x)/\(k x).ok ⟨m.n,s⟩ Q
 | .new c k,m,Q=>∀ a,m.st.get a=none->(k a).ok ⟨m.n,m.st.put a c⟩ Q
theorem ok_mono:∀ {t:Tr α} {m:Ms} {Q Q':Ms->α->Prop},t.ok m Q->(∀ m a,Q m a->Q' m a)->t.ok m Q'
 | .ret a,m,_,_,h,hq=>hq m a h
 | .draw n k,m,_,_,⟨h1,h2,h3,h⟩,hq=>⟨h1,h2,h3,λr h0 h1=>ok_mono (h r h0 h1) hq⟩
 | .op f k,m,_,_,⟨s,x,e,h⟩,hq=>⟨s,x,e,ok_mono h hq⟩
 | .new c k,m,_,_,h,hq=>λa ha=>ok_mono (h a ha) hq
theorem ok_bind:∀ {t:Tr α} {f:α->Tr β} {m:Ms} {Q:Ms->β->Prop},(t.bind f).ok m Q ↔ t.ok m λm' a=>(f a).ok m' Q
 | .ret a,f,m,Q=>Iff.rfl
 | .draw n k,f,m,Q=>by
  show (_/\_/\_/\∀ r,_) ↔ (_/\_/\_/\∀ r,_)
  refine and_congr_right λ_=>and_congr_right λ_=>and_congr_right λ_=>forall_congr' λr=>forall_congr' λ_=>forall_congr' λ_=>ok_bind
 | .fail,f,m,Q=>Iff.rfl
 | .op g k,f,m,Q=>by
  show (∃ s x,_/\_) ↔ (∃ s x,_/\_)
  exact exists_congr λs=>exists_congr λx=>and_congr_right λ_=>ok_bind
 | .new c k,f,m,Q=>by
  show (∀ a,_->_) ↔ (∀ a,_->_)
  exact forall_congr' λa=>forall_congr' λ_=>ok_bind
theorem ok_of {o:Option α} {m:Ms} {Q:Ms->α->Prop} (h:(Tr.of o).ok m Q):∃ a,o=some a/\Q m a:=by
 cases o with
 | none=>exact h.elim
 | some a=>exact ⟨a,rfl,h⟩
noncomputable def all:Tr α->Nat->(α->Prop)->Prop
 | .ret a,_,P=>P a
 | .draw w k,n+1,P=>0 < w/\w < 1073741824/\∀ r,0<=r->r < w->(k r).all n P
 | .draw _ _,0,_=>False
 | .fail,_,_=>False
 | .op _ _,_,_=>False
 | .new _ _,_,_=>False
theorem all_mono:∀ {t:Tr α} {n n':Nat} {P P':α->Prop},t.all n P->n<=n'->(∀ a,P a->P' a)->t.all n' P'
 | .ret a,n,n',P,P',h,hn,hp=>hp a h
 | .draw w k,n+1,n'+1,P,P',⟨h1,h2,h⟩,hn,hp=>⟨h1,h2,λr a b=>all_mono (h r a b) (by omega) hp⟩
 | .draw w k,n+1,0,P,P',h,hn,hp=>by omega
theorem all_bind:∀ {t:Tr α} {f:α->Tr β} {n n':Nat} {P:α->Prop} {P':β->Prop},t.all n P->(∀ a,P a->(f a).all n' P')->(t.bind f).all (n+n') P'
 | .ret a,f,n,n',P,P',h,hf=>all_mono (hf a h) (by omega) λ_ x=>x
 | .draw w k,f,n+1,n',P,P',⟨h1,h2,h⟩,hf=>by
  have e:n+1+n'=(n+n')+1:=by omega
  rw [e]
  exact ⟨h1,h2,λr a b=>all_bind (h r a b) hf⟩
end Tr
noncomputable abbrev Sub (G H:Hp):Prop:=∀ b o,G b=some o->H b=some o
noncomputable def nch:HO->Bool
 | .chg _=>false
 | .ins _ _ _=>false
 | _=>true
structure Pk where
 is:HO->Hp->Nat->Prop
 mono:∀ {o:HO} {G G':Hp} {m:Nat},Sub G G'->is o G m->is o G' m
 nch:∀ {o:HO} {G:Hp} {m:Nat},is o G m->nch o=true
inductive FD (G:Hp):List (Str×V)->List (Str×PyData)->Prop
 | nil:FD G [] []
 | cons {f:Str} {v:V} {d:PyData} {vs:List (Str×V)} {ds:List (Str×PyData)}:Dn G v d->FD G vs ds->FD G ((f,v)::vs) ((f,d)::ds)
theorem FD.mono {G G':Hp} (s:Sub G G') {vs:List (Str×V)} {ds:List (Str×PyData)} (h:FD G vs ds):FD G' vs ds:=by
 induction h with
 | nil=>exact .nil
 | cons h _ ih=>exact .cons (h.mono s) ih
noncomputable abbrev lfS (p:Str×V):cX×V:=(Sum.inr p.1,p.2)
noncomputable def ThOk (G H:Hp) (a:Addr):Cel->Prop
 | .ins C fs=>∃ dx vs,H a=some (.ins C dx vs)/\FD G vs fs
 | .dct kvs=>∃ vs,H a=some (.chg (.dK (vs.map lfS)))/\FD G vs kvs
 | .lst xs=>∃ vs,H a=some (.chg (.lst vs))/\DnAll G vs xs
theorem ThOk.at {G H:Hp} {a:Addr} {c:Cel} (h:ThOk G H a c):∃ o,H a=some o/\nch o=false:=by
 cases c with
 | ins C fs=>obtain ⟨dx,vs,e,_⟩:=h; exact ⟨_,e,rfl⟩
 | dct kvs=>obtain ⟨vs,e,_⟩:=h; exact ⟨_,e,rfl⟩
 | lst xs=>obtain ⟨vs,e,_⟩:=h; exact ⟨_,e,rfl⟩
theorem ThOk.step {G H G' H':Hp} {a:Addr} {c:Cel} (h:ThOk G H a c) (sb:Sub G G') (hc:∀ o,H a=some o->nch o=false->H' a=some o):ThOk G' H' a c:=by
 cases c with
 | ins C fs=>obtain ⟨dx,vs,e,f⟩:=h; exact ⟨dx,vs,hc _ e rfl,f.mono sb⟩
 | dct kvs=>obtain ⟨vs,e,f⟩:=h; exact ⟨vs,hc _ e rfl,f.mono sb⟩
 | lst xs=>obtain ⟨vs,e,f⟩:=h; exact ⟨vs,hc _ e rfl,DnAll.mono sb f⟩
structure StoOk (st:Sto) (G H:Hp):Prop where
 cel:∀ a c,st.get a=some c->ThOk G H a c
 gn:∀ a c,st.get a=some c->G a=none
theorem StoOk.step {st:Sto} {G H G' H':Hp} (k:StoOk st G H) (sb:Sub G G') (hc:∀ b o,H b=some o->nch o=false->H' b=some o) (hg:∀ b o,G' b=some o->G b=some o\/∀ u,H b=some u->nch u=true):StoOk st G' H' :=
 ⟨λa c h=>(k.cel a c h).step sb (hc a),λa c h=>by
  cases e:G' a with
  | none=>rfl
  | some o =>
   rcases hg a o e with z | z
   ·rw [k.gn a c h] at z; cases z
   ·obtain ⟨u,hu,hn⟩:=(k.cel a c h).at
    rw [z u hu] at hn; cases hn⟩
theorem StoOk.same {st:Sto} {G H H':Hp} (k:StoOk st G H) (hc:∀ b o,H b=some o->nch o=false->H' b=some o):StoOk st G H':=k.step (λ_ _ h=>h) hc λ_ _ h=>.inl h
theorem StoOk.none {G H:Hp}:StoOk ⟨[]⟩ G H:=⟨λ_ _ h=>(by cases h),λ_ _ h=>(by cases h)⟩
structure Wd (PK:Pk) (pa:Addr) (m:Ms) (G H:Hp):Prop where
 sub:Sub G H
 gpa:G pa=none
 pen:∃ o,H pa=some o/\PK.is o G m.n
 sto:StoOk m.st G H
structure Stp (pa:Addr) (G H G' H':Hp):Prop where
 gs:Sub G G'
 gn:∀ b o,G' b=some o->G b=some o\/H b=none\/(b≠pa/\∃ xs,H b=some (.tup xs))
 hk:∀ b o,H b=some o->b≠pa->nch o=true->H' b=some o
 al:∀ b o,H b=some o->∃ o',H' b=some o'/\(nch o=false->nch o'=false)
theorem Stp.of {pa:Addr} {G H G' H':Hp} (gs:Sub G G') (gn:∀ b o,G' b=some o->G b=some o\/H b=none\/(b≠pa/\∃ xs,H b=some (.tup xs))) (hk:∀ b o,H b=some o->b≠pa->H' b=some o) (hp:∀ o,H pa=some o->∃ o',H' pa=some o'/\(nch o=false->nch o'=false)):Stp pa G H G' H' :=
 ⟨gs,gn,λb o h n _=>hk b o h n,λb o h=>by
  by_cases e:b=pa
  ·subst e; exact hp o h
  ·exact ⟨o,hk b o h e,id⟩⟩
theorem Stp.all {pa:Addr} {G H G' H':Hp} (gs:Sub G G') (gn:∀ b o,G' b=some o->G b=some o\/H b=none\/(b≠pa/\∃ xs,H b=some (.tup xs))) (hk:∀ b o,H b=some o->H' b=some o):Stp pa G H G' H':=.of gs gn (λb o h _=>hk b o h) λo h=>⟨o,hk _ _ h,id⟩
theorem Stp.refl {pa:Addr} {G H:Hp}:Stp pa G H G H:=.all (λ_ _ h=>h) (λ_ _ h=>.inl h) (λ_ _ h=>h)
theorem Stp.none {pa:Addr} {G H G' H':Hp} (s:Stp pa G H G' H') {b:Addr} (h:H' b=none):H b=none:=by
 cases e:H b with
 | none=>rfl
 | some u =>
  obtain ⟨o',z,_⟩:=s.al b u e
  rw [h] at z; cases z
theorem Stp.trans {pa:Addr} {G H G1 H1 G2 H2:Hp} (a:Stp pa G H G1 H1) (b:Stp pa G1 H1 G2 H2) (hp:∃ o,H1 pa=some o):Stp pa G H G2 H2:=by
 refine ⟨λc o h=>b.gs c o (a.gs c o h),λc o h=>?_,λc o h n k=>b.hk c o (a.hk c o h n k) n k,λc o h=>?_⟩
 ·rcases b.gn c o h with z | z | ⟨hc,xs,z⟩
  ·exact a.gn c o z
  ·exact .inr (.inl (a.none z))
  ·cases e:H c with
   | none=>exact .inr (.inl rfl)
   | some u =>
    cases k:nch u with
    | true =>
     rw [a.hk c u e hc k] at z
     cases z
     exact .inr (.inr ⟨hc,xs,rfl⟩)
    | false =>
     obtain ⟨o',z',k'⟩:=a.al c u e
     rw [z] at z'; cases z'
     cases k' k
 ·obtain ⟨o1,h1,k1⟩:=a.al c o h
  obtain ⟨o2,h2,k2⟩:=b.al c o1 h1
  exact ⟨o2,h2,λk=>k2 (k1 k)⟩
section
variable {PK:Pk} {pa:Addr} {m:Ms} {G H:Hp}
theorem Wd.some (w:Wd PK pa m G H):∃ o,H pa=some o:=let ⟨o,h,_⟩:=w.pen; ⟨o,h⟩
theorem Wd.ne (w:Wd PK pa m G H) {p:Addr} (hp:H p=none):pa≠p:=λe=>by
 obtain ⟨o,h⟩:=w.some
 rw [e,hp] at h; cases h
theorem Sub.new {p:Addr} {o:HO} (hp:G p=none):Sub G (upd G p o):=λb u h=>by rw [bG (c7 h hp)]; exact h
theorem Wd.gnone (w:Wd PK pa m G H) {p:Addr} (hp:H p=none):G p=none:=by
 cases e:G p with
 | none=>rfl
 | some o=>rw [w.sub p o e] at hp; cases hp
theorem Sub.upd2 {p:Addr} {o:HO} (s:Sub G H):Sub (upd G p o) (upd H p o):=λb u h=>by
 by_cases e:b=p
 ·subst e; rw [cA] at h ⊢; exact h
 ·rw [bG e] at h ⊢; exact s b u h
theorem Wd.new (w:Wd PK pa m G H) {p:Addr} {o:HO} (hp:H p=none):Wd PK pa m (upd G p o) (upd H p o)/\Stp pa G H (upd G p o) (upd H p o):=by
 have hg:=w.gnone hp
 have hne:=w.ne hp
 have hk:∀ b u,H b=Option.some u->upd H p o b=Option.some u:=λb u h=>by rw [bG (c7 h hp)]; exact h
 have gn:∀ b u,upd G p o b=Option.some u->G b=Option.some u\/H b=none:=λb u h=>by
  by_cases e:b=p
  ·subst e; exact .inr hp
  ·rw [bG e] at h; exact .inl h
 refine ⟨⟨w.sub.upd2,by rw [bG hne]; exact w.gpa,?_,w.sto.step (Sub.new hg) (λb u h _=>hk b u h) λb u h=>(gn b u h).imp id λz u h=>by rw [z] at h; cases h⟩,.all (Sub.new hg) (λb u h=>(gn b u h).imp id .inl) hk⟩
 obtain ⟨u,h,q⟩:=w.pen
 exact ⟨u,by rw [bG hne]; exact h,PK.mono (Sub.new hg) q⟩
theorem Wd.own (w:Wd PK pa m G H) {p:Addr} {o:HO} (hp:H p=none):Wd PK pa m G (upd H p o)/\Stp pa G H G (upd H p o):=by
 have hne:=w.ne hp
 have hk:∀ b u,H b=Option.some u->upd H p o b=Option.some u:=λb u h=>by rw [bG (c7 h hp)]; exact h
 refine ⟨⟨λb u h=>hk b u (w.sub b u h),w.gpa,?_,w.sto.same λb u h _=>hk b u h⟩,.all (λ_ _ h=>h) (λ_ _ h=>.inl h) hk⟩
 obtain ⟨u,h,q⟩:=w.pen
 exact ⟨u,by rw [bG hne]; exact h,q⟩
theorem Wd.freeze (w:Wd PK pa m G H) {p:Addr} {o:HO} (hp:H p=Option.some o) (hg:G p=none) (hne:pa≠p) (hn:nch o=true:=by rfl):Wd PK pa m (upd G p o) H:=by
 refine ⟨λb u h=>?_,by rw [bG hne]; exact w.gpa,?_,w.sto.step (Sub.new hg) (λb u h _=>h) λb u h=>?_⟩
 ·by_cases e:b=p
  ·subst e; rw [cA] at h; rw [hp]; exact h
  ·rw [bG e] at h; exact w.sub b u h
 ·obtain ⟨u,h,q⟩:=w.pen
  exact ⟨u,h,PK.mono (Sub.new hg) q⟩
 ·by_cases e:b=p
  ·subst e
   refine .inr λv hv=>?_
   rw [hp] at hv; cases hv; exact hn
  ·rw [bG e] at h; exact .inl h
theorem Wd.pnch (w:Wd PK pa m G H) {o:HO} (h:H pa=Option.some o):nch o=true:=by
 obtain ⟨u,e,q⟩:=w.pen
 rw [h] at e; cases e
 exact PK.nch q
noncomputable def Kn (PK:Pk) (pa:Addr) (m:Ms) (G H:Hp) (x:PyData) (Q:VK):Prop:=∀ v G' H',Stp pa G H G' H'->Wd PK pa m G' H'->Dn G' v x->Q v H'
variable {x:PyData} {Q:VK} {v:V} {vs:List V} {ds:List PyData} {p:Addr}
theorem Kn.here (k:Kn PK pa m G H x Q) (w:Wd PK pa m G H) (d:Dn G v x):Q v H:=k v G H .refl w d
theorem Kn.tup (k:Kn PK pa m G H (.tuple ds) Q) (w:Wd PK pa m G H) (d:DnAll G vs ds) (hp:H p=none):Q (.ref p) (upd H p (.tup vs)):=by
 obtain ⟨w1,s1⟩:=w.new (o:=.tup vs) hp
 exact k _ _ _ s1 w1 (.tup cA (DnAll.mono s1.gs d))
theorem Kn.lst (k:Kn PK pa m G H (.list ds) Q) (w:Wd PK pa m G H) (d:DnAll G vs ds) (hp:H p=none):Q (.ref p) (upd H p (.lst vs)):=by
 obtain ⟨w1,s1⟩:=w.new (o:=.lst vs) hp
 exact k _ _ _ s1 w1 (.lst cA (DnAll.mono s1.gs d))
theorem Kn.later {G1 H1:Hp} (k:Kn PK pa m G H x Q) (s:Stp pa G H G1 H1) (hp:∃ o,H1 pa=Option.some o):Kn PK pa m G1 H1 x Q:=λv G' H' s' w d=>k v G' H' (s.trans s' hp) w d
end
inductive Sl where
 | un | d (x:PyData) | own (xs:List PyData) | pen | dic (kvs:List (Int×PyData)) | fn (a:Addr) | dip (kvs:List (List Int×PyData)) | pr (W:Hp->V->Prop)
inductive KD (G:Hp):List (cX×V)->List (Int×PyData)->Prop
 | nil:KD G [] []
 | cons {i:Int} {v:V} {d:PyData} {ks:List (cX×V)} {kvs:List (Int×PyData)}:Dn G v d->KD G ks kvs->KD G ((.inl i,v)::ks) ((i,d)::kvs)
theorem KD.mono {G G':Hp} (s:Sub G G') {ks:List (cX×V)} {kvs:List (Int×PyData)} (h:KD G ks kvs):KD G' ks kvs:=by
 induction h with
 | nil=>exact .nil
 | cons h _ ih=>exact .cons (h.mono s) ih
noncomputable abbrev Zjt (k:List Int×V):List cX×V:=(k.1.map Sum.inl,k.2)
inductive KP (G:Hp):List (List Int×V)->List (List Int×PyData)->Prop
 | nil:KP G [] []
 | cons {i:List Int} {v:V} {d:PyData} {ks:List (List Int×V)} {kvs:List (List Int×PyData)}:Dn G v d->KP G ks kvs->KP G ((i,v)::ks) ((i,d)::kvs)
theorem KP.mono {G G':Hp} (s:Sub G G') {ks:List (List Int×V)} {kvs:List (List Int×PyData)} (h:KP G ks kvs):KP G' ks kvs:=by
 induction h with
 | nil=>exact .nil
 | cons h _ ih=>exact .cons (h.mono s) ih
inductive SlOk (pa:Addr) (H₀ G H:Hp):Option V->Sl->Prop
 | un {o:Option V}:SlOk pa H₀ G H o .un
 | d {v:V} {x:PyData}:Dn G v x->SlOk pa H₀ G H (some v) (.d x)
 | own {p:Addr} {vs:List V} {xs:List PyData}:H p=some (.lst vs)->G p=none->H₀ p=none->DnAll G vs xs->SlOk pa H₀ G H (some (.ref p)) (.own xs)
 | pen:SlOk pa H₀ G H (some (.ref pa)) .pen
 | fn {a:Addr}:SlOk pa H₀ G H (some (.ref a)) (.fn a)
 | pr {v:V} {W:Hp->V->Prop}:(∀ G',Sub G G'->W G' v)->SlOk pa H₀ G H (some v) (.pr W)
 | dic {p:Addr} {ks:List (cX×V)} {kvs:List (Int×PyData)}:H p=some (.dK ks)->G p=none->H₀ p=none->KD G ks kvs->SlOk pa H₀ G H (some (.ref p)) (.dic kvs)
 | dip {p:Addr} {ks:List (List Int×V)} {kvs:List (List Int×PyData)}:H p=some (.dT (ks.map Zjt))->G p=none->H₀ p=none->KP G ks kvs->SlOk pa H₀ G H (some (.ref p)) (.dip kvs)
structure Rl (PK:Pk) (pa:Addr) (G₀ H₀:Hp) (m:Ms) (σ:St) (ρ:List Sl) (G H:Hp):Prop where
 wd:Wd PK pa m G H
 st:Stp pa G₀ H₀ G H
 p0:∃ o,H₀ pa=some o
 sl:∀ (i:Nat) (s:Sl),ρ[i]?=some s->∃ o,σ[i]?=some o/\SlOk pa H₀ G H o s
 len:ρ.length=σ.length
 dj:∀ (i j:Nat) (xs ys:List PyData),i≠j->ρ[i]?=some (.own xs)->ρ[j]?=some (.own ys)->σ[i]?≠σ[j]?
 dj2:∀ (i j:Nat) (xs ys:List (Int×PyData)),i≠j->ρ[i]?=some (.dic xs)->ρ[j]?=some (.dic ys)->σ[i]?≠σ[j]?
section
variable {PK:Pk} {pa:Addr} {G₀ H₀ G H:Hp} {m:Ms} {σ:St} {ρ:List Sl}
theorem om {α:Type} {l:List α} {k i:Nat} {x y:α} (h:(l.set k x)[i]?=some y) (hn:x≠y):k≠i/\l[i]?=some y:=by
 have hi:k≠i:=λe=>by
  subst e
  have hl:k < l.length:=by
   have:=(List.getElem?_eq_some_iff.mp h).1
   rwa [List.length_set] at this
  rw [List.getElem?_set_self hl] at h
  exact hn (Option.some.inj h)
 rw [List.getElem?_set_ne hi] at h
 exact ⟨hi,h⟩
theorem Zeg {α:Type} {T:α->Sl} {k:Nat} {x:Sl} {v:Option V} (dj:∀ (i j:Nat) (a b:α),i≠j->ρ[i]?=some (T a)->ρ[j]?=some (T b)->σ[i]?≠σ[j]?) (hn:∀ a,x≠T a) :
  ∀ (i j:Nat) (a b:α),i≠j->(ρ.set k x)[i]?=some (T a)->(ρ.set k x)[j]?=some (T b)->(σ.set k v)[i]?≠(σ.set k v)[j]?:=λi j a b hij h1 h2=>by
 obtain ⟨hi,h1⟩:=om h1 (hn a)
 obtain ⟨hj,h2⟩:=om h2 (hn b)
 rw [List.getElem?_set_ne hi,List.getElem?_set_ne hj]
 exact dj i j a b hij h1 h2
theorem Zef {α:Type} {T:α->Sl} {k:Nat} {x:Sl} (dj:∀ (i j:Nat) (a b:α),i≠j->ρ[i]?=some (T a)->ρ[j]?=some (T b)->σ[i]?≠σ[j]?) (hn:∀ a,x≠T a) :
  ∀ (i j:Nat) (a b:α),i≠j->(ρ.set k x)[i]?=some (T a)->(ρ.set k x)[j]?=some (T b)->σ[i]?≠σ[j]?:=λi j a b hij h1 h2 =>
 dj i j a b hij (om h1 (hn a)).2 (om h2 (hn b)).2
theorem SlOk.step {G' H':Hp} {o:Option V} {s:Sl} (k:SlOk pa H₀ G H o s) (hp0:∃ o,H₀ pa=some o) (st:Stp pa G H G' H'):SlOk pa H₀ G' H' o s:=by
 cases k with
 | un=>exact .un
 | d h=>exact .d (h.mono st.gs)
 | pen=>exact .pen
 | fn=>exact .fn
 | pr z9=>exact .pr λG' s=>z9 G' λb o z=>s b o (st.gs b o z)
 | @own p vs xs h1 h2 h3 h4 =>
  have hne:p≠pa:=λe=>by
   obtain ⟨u,hu⟩:=hp0
   rw [<- e,h3] at hu; cases hu
  refine .own (st.hk _ _ h1 hne rfl) ?_ h3 (DnAll.mono st.gs h4)
  cases e:G' p with
  | none=>rfl
  | some u =>
   rcases st.gn p u e with z | z | ⟨_,_,z⟩
   ·rw [h2] at z; cases z
   ·rw [h1] at z; cases z
   ·rw [h1] at z; cases z
 | @dic p ks kvs h1 h2 h3 h4 =>
  have hne:p≠pa:=λe=>by
   obtain ⟨u,hu⟩:=hp0
   rw [<- e,h3] at hu; cases hu
  refine .dic (st.hk _ _ h1 hne rfl) ?_ h3 (h4.mono st.gs)
  cases e:G' p with
  | none=>rfl
  | some u =>
   rcases st.gn p u e with z | z | ⟨_,_,z⟩
   ·rw [h2] at z; cases z
   ·rw [h1] at z; cases z
   ·rw [h1] at z; cases z
 | @dip p ks kvs h1 h2 h3 h4 =>
  have hne:p≠pa:=λe=>by
   obtain ⟨u,hu⟩:=hp0
   rw [<- e,h3] at hu; cases hu
  refine .dip (st.hk _ _ h1 hne rfl) ?_ h3 (h4.mono st.gs)
  cases e:G' p with
  | none=>rfl
  | some u =>
   rcases st.gn p u e with z | z | ⟨_,_,z⟩
   ·rw [h2] at z; cases z
   ·rw [h1] at z; cases z
   ·rw [h1] at z; cases z
theorem Rl.step {G' H':Hp} {m':Ms} (r:Rl PK pa G₀ H₀ m σ ρ G H) (s:Stp pa G H G' H') (w:Wd PK pa m' G' H'):Rl PK pa G₀ H₀ m' σ ρ G' H' :=
 ⟨w,r.st.trans s r.wd.some,r.p0,λi sl h=>let ⟨o,h1,h2⟩:=r.sl i sl h; ⟨o,h1,h2.step r.p0 s⟩,r.len,r.dj,r.dj2⟩
theorem Rl.set (r:Rl PK pa G₀ H₀ m σ ρ G H) {v:V} {x:PyData} (d:Dn G v x) (k:Nat):Rl PK pa G₀ H₀ m (σ.set k (some v)) (ρ.set k (.d x)) G H:=by
 refine ⟨r.wd,r.st,r.p0,λi s h=>?_,by rw [List.length_set,List.length_set]; exact r.len,λi j xs ys hij h1 h2=>?_,Zeg r.dj2 λa h=>by cases h⟩
 ·by_cases e:k=i
  ·subst e
   have hl:k < ρ.length:=by
    have:=(List.getElem?_eq_some_iff.mp h).1
    rwa [List.length_set] at this
   rw [List.getElem?_set_self hl] at h
   cases h
   exact ⟨_,List.getElem?_set_self (by rw [<- r.len]; exact hl),.d d⟩
  ·rw [List.getElem?_set_ne e] at h ⊢
   exact r.sl i s h
 ·have hi:k≠i:=λe=>by
   subst e
   have hl:k < ρ.length:=by
    have:=(List.getElem?_eq_some_iff.mp h1).1
    rwa [List.length_set] at this
   rw [List.getElem?_set_self hl] at h1; cases h1
  have hj:k≠j:=λe=>by
   subst e
   have hl:k < ρ.length:=by
    have:=(List.getElem?_eq_some_iff.mp h2).1
    rwa [List.length_set] at this
   rw [List.getElem?_set_self hl] at h2; cases h2
  rw [List.getElem?_set_ne hi] at h1 ⊢
  rw [List.getElem?_set_ne hj] at h2 ⊢
  exact r.dj i j xs ys hij h1 h2
theorem Rl.setO (r:Rl PK pa G₀ H₀ m σ ρ G H) {p:Addr} {vs:List V} {xs:List PyData} (h1:H p=some (.lst vs)) (h2:G p=none) (h3:H₀ p=none) (h4:DnAll G vs xs)
  (hd:∀ (i:Nat) (ys:List PyData),ρ[i]?=some (.own ys)->σ[i]?≠some (some (.ref p))) (k:Nat):Rl PK pa G₀ H₀ m (σ.set k (some (.ref p))) (ρ.set k (.own xs)) G H:=by
 have up:∀ {i:Nat} {s:Sl},(ρ.set k (.own xs))[i]?=some s->i=k->s=.own xs/\(σ.set k (some (V.ref p)))[i]?=some (some (.ref p)):=λ{i s} h e=>by
  subst e
  have hl:i < ρ.length:=by
   have:=(List.getElem?_eq_some_iff.mp h).1
   rwa [List.length_set] at this
  rw [List.getElem?_set_self hl] at h
  cases h
  exact ⟨rfl,List.getElem?_set_self (by rw [<- r.len]; exact hl)⟩
 refine ⟨r.wd,r.st,r.p0,λi s h=>?_,by rw [List.length_set,List.length_set]; exact r.len,λi j ys zs hij e1 e2=>?_,Zeg r.dj2 λa h=>by cases h⟩
 ·by_cases e:i=k
  ·obtain ⟨e1,e2⟩:=up h e
   subst e1
   exact ⟨_,e2,.own h1 h2 h3 h4⟩
  ·rw [List.getElem?_set_ne (Ne.symm e)] at h ⊢
   exact r.sl i s h
 ·by_cases ei:i=k
  ·have q:=(up e1 ei).2
   have hj:k≠j:=λe=>hij (ei.trans e)
   rw [q]
   rw [List.getElem?_set_ne hj] at e2 ⊢
   exact λz=>hd j zs e2 z.symm
  ·rw [List.getElem?_set_ne (Ne.symm ei)] at e1 ⊢
   by_cases ej:j=k
   ·rw [(up e2 ej).2]
    exact hd i ys e1
   ·rw [List.getElem?_set_ne (Ne.symm ej)] at e2 ⊢
    exact r.dj i j ys zs hij e1 e2
theorem Rl.h0 (r:Rl PK pa G₀ H₀ m σ ρ G H) {p:Addr} (hp:H p=none):H₀ p=none:=r.st.none hp
theorem Rl.apart (r:Rl PK pa G₀ H₀ m σ ρ G H) {p:Addr} (hp:H p=none) (i:Nat) (ys:List PyData) (h:ρ[i]?=some (.own ys)):σ[i]?≠some (some (.ref p)):=λe=>by
 obtain ⟨o,h1,h2⟩:=r.sl i _ h
 rw [e] at h1
 cases h1
 cases h2 with
 | own a _ _ _=>rw [hp] at a; cases a
theorem Rl.change (r:Rl PK pa G₀ H₀ m σ ρ G H) {k:Nat} {xs ys:List PyData} {p:Addr} {ws:List V} (hk:ρ[k]?=some (.own xs)) (hσ:σ[k]?=some (some (.ref p))) (d:DnAll G ws ys) :
  Rl PK pa G₀ H₀ m σ (ρ.set k (.own ys)) G (upd H p (.lst ws)):=by
 obtain ⟨o,h1,h2⟩:=r.sl k _ hk
 rw [hσ] at h1
 cases h1
 cases h2 with
 | @own _ vs _ a1 a2 a3 a4 =>
  have hne:pa≠p:=λe=>by
   obtain ⟨u,hu⟩:=r.p0
   rw [e,a3] at hu; cases hu
  have hl:k < ρ.length:=(List.getElem?_eq_some_iff.mp hk).1
  refine ⟨⟨λb o h=>?_,r.wd.gpa,?_,r.wd.sto.same λb o h hb=>?_⟩,⟨r.st.gs,r.st.gn,λb o h hb hc=>?_,λb o h=>?_⟩,r.p0,λi s h=>?_,by rw [List.length_set]; exact r.len,λi j us ws hij e1 e2=>?_,Zef r.dj2 λa h=>by cases h⟩
  ·rw [bG (λe=>by subst e; rw [a2] at h; cases h)]
   exact r.wd.sub b o h
  ·obtain ⟨u,h,q⟩:=r.wd.pen
   exact ⟨u,by rw [bG hne]; exact h,q⟩
  ·rw [bG (λe=>by subst e; rw [a1] at h; cases h; cases hb)]
   exact h
  ·rw [bG (λe=>by subst e; rw [a3] at h; cases h)]
   exact r.st.hk b o h hb hc
  ·rw [bG (λe=>by subst e; rw [a3] at h; cases h)]
   exact r.st.al b o h
  ·by_cases e:k=i
   ·subst e
    rw [List.getElem?_set_self hl] at h
    cases h
    exact ⟨_,hσ,.own cA a2 a3 d⟩
   ·rw [List.getElem?_set_ne e] at h
    obtain ⟨o,q1,q2⟩:=r.sl i s h
    refine ⟨o,q1,?_⟩
    cases q2 with
    | un=>exact .un
    | d z=>exact .d z
    | pen=>exact .pen
    | fn=>exact .fn
    | pr z9=>exact .pr z9
    | dic b1 b2 b3 b4=>exact .dic (by rw [bG (λe2=>by subst e2; rw [a1] at b1; cases b1)]; exact b1) b2 b3 b4
    | dip b1 b2 b3 b4=>exact .dip (by rw [bG (λe2=>by subst e2; rw [a1] at b1; cases b1)]; exact b1) b2 b3 b4
    | own b1 b2 b3 b4 =>
     refine .own ?_ b2 b3 b4
     rw [bG]
     ·exact b1
     ·intro e2
      subst e2
      exact r.dj k i _ _ e hk h (by rw [hσ,q1])
  ·by_cases ei:k=i
   ·subst ei
    rw [List.getElem?_set_ne hij] at e2
    exact r.dj k j _ _ hij hk e2
   ·rw [List.getElem?_set_ne ei] at e1
    by_cases ej:k=j
    ·subst ej
     exact r.dj i k _ _ hij e1 hk
    ·rw [List.getElem?_set_ne ej] at e2
     exact r.dj i j _ _ hij e1 e2
noncomputable def fz (k:Nat) (ρ:List Sl):List Sl:=match ρ[k]? with
 | some (.own xs)=>ρ.set k (.d (.list xs))
 | _=>ρ
theorem Rl.freeze (r:Rl PK pa G₀ H₀ m σ ρ G H) (k:Nat):∃ G',Sub G G'/\Rl PK pa G₀ H₀ m σ (fz k ρ) G' H:=by
 unfold fz
 split
 ·rename_i xs hk
  obtain ⟨o,h1,h2⟩:=r.sl k _ hk
  cases h2 with
  | @own p vs _ a1 a2 a3 a4 =>
   have hne:pa≠p:=λe=>by
    obtain ⟨u,hu⟩:=r.p0
    rw [e,a3] at hu; cases hu
   have hl:k < ρ.length:=(List.getElem?_eq_some_iff.mp hk).1
   have sb:Sub G (upd G p (.lst vs)):=Sub.new a2
   refine ⟨upd G p (.lst vs),sb,r.wd.freeze a1 a2 hne,⟨λb o h=>sb b o (r.st.gs b o h),λb o h=>?_,r.st.hk,r.st.al⟩,r.p0,λi s h=>?_,by rw [List.length_set]; exact r.len,λi j us ws hij e1 e2=>?_,Zef r.dj2 λa h=>by cases h⟩
   ·by_cases e:b=p
    ·subst e; exact .inr (.inl a3)
    ·rw [bG e] at h; exact r.st.gn b o h
   ·by_cases e:k=i
    ·subst e
     rw [List.getElem?_set_self hl] at h
     cases h
     exact ⟨_,h1,.d (.lst cA (DnAll.mono sb a4))⟩
    ·rw [List.getElem?_set_ne e] at h
     obtain ⟨o,q1,q2⟩:=r.sl i s h
     refine ⟨o,q1,?_⟩
     cases q2 with
     | un=>exact .un
     | d z=>exact .d (z.mono sb)
     | pen=>exact .pen
     | fn=>exact .fn
     | pr z9=>exact .pr λG' s=>z9 G' λb o z=>s b o (sb b o z)
     | dic b1 b2 b3 b4=>exact .dic b1 (by rw [bG (λe2=>by subst e2; rw [a1] at b1; cases b1)]; exact b2) b3 (b4.mono sb)
     | dip b1 b2 b3 b4=>exact .dip b1 (by rw [bG (λe2=>by subst e2; rw [a1] at b1; cases b1)]; exact b2) b3 (b4.mono sb)
     | own b1 b2 b3 b4 =>
      refine .own b1 ?_ b3 (DnAll.mono sb b4)
      rw [bG]
      ·exact b2
      ·intro e2
       subst e2
       exact r.dj k i _ _ e hk h (by rw [h1,q1])
   ·have hi:k≠i:=λe=>by subst e; rw [List.getElem?_set_self hl] at e1; cases e1
    have hj:k≠j:=λe=>by subst e; rw [List.getElem?_set_self hl] at e2; cases e2
    rw [List.getElem?_set_ne hi] at e1
    rw [List.getElem?_set_ne hj] at e2
    exact r.dj i j _ _ hij e1 e2
 ·exact ⟨G,λ_ _ h=>h,r⟩
end
noncomputable def TAe (PK:Pk) (i:List Sl->Tr PyData):TE:=λσ H Q=>∃ pa G₀ H₀ m ρ G,Rl PK pa G₀ H₀ m σ ρ G H/\(i ρ).ok m λm' x=>Kn PK pa m' G H x Q
noncomputable def TAt (PK:Pk) (i:List Sl->Tr Bool):TT:=λσ H Q=>∃ pa G₀ H₀ m ρ G,Rl PK pa G₀ H₀ m σ ρ G H/\(i ρ).ok m λm' b=>∀ G' H',Stp pa G H G' H'->Wd PK pa m' G' H'->Q b H'
noncomputable def TAd (PK:Pk) (i:List Sl->Tr (List PyData)):TA:=λσ H Q=>∃ pa G₀ H₀ m ρ G,Rl PK pa G₀ H₀ m σ ρ G H/\(i ρ).ok m λm' xs=>∀ vs G' H',Stp pa G H G' H'->Wd PK pa m' G' H'->DnAll G' vs xs->Q vs H'
noncomputable def Ko1 (PK:Pk) (pa:Addr) (m:Ms) (G H:Hp) (xs:List PyData) (Q:VK):Prop:=∀ p vs G' H',Stp pa G H G' H'->Wd PK pa m G' H'->H p=none->G' p=none->H' p=some (.lst vs)->DnAll G' vs xs->Q (.ref p) H'
noncomputable def gC (PK:Pk) (i:List Sl->Tr (List PyData)):TE:=λσ H Q=>∃ pa G₀ H₀ m ρ G,Rl PK pa G₀ H₀ m σ ρ G H/\(i ρ).ok m λm' xs=>Ko1 PK pa m' G H xs Q
inductive ArOk (pa:Addr) (G:Hp):V->Sl->Prop
 | d {v:V} {x:PyData}:Dn G v x->ArOk pa G v (.d x)
 | pen:ArOk pa G (.ref pa) .pen
 | fn {a:Addr}:ArOk pa G (.ref a) (.fn a)
inductive ArsOk (pa:Addr) (G:Hp):List V->List Sl->Prop
 | nil:ArsOk pa G [] []
 | cons {v:V} {vs:List V} {s:Sl} {ss:List Sl}:ArOk pa G v s->ArsOk pa G vs ss->ArsOk pa G (v::vs) (s::ss)
theorem ArOk.mono {pa:Addr} {G G':Hp} {v:V} {s:Sl} (h:ArOk pa G v s) (e:Sub G G'):ArOk pa G' v s:=by
 cases h with
 | d z=>exact .d (z.mono e)
 | pen=>exact .pen
 | fn=>exact .fn
theorem ArsOk.mono {pa:Addr} {G G':Hp} (e:Sub G G') {vs:List V} {ss:List Sl} (h:ArsOk pa G vs ss):ArsOk pa G' vs ss:=by
 induction h with
 | nil=>exact .nil
 | cons h t ih=>exact .cons (h.mono e) ih
theorem ArsOk.length {pa:Addr} {G:Hp} {vs:List V} {ss:List Sl} (h:ArsOk pa G vs ss):vs.length=ss.length:=by
 induction h with
 | nil=>rfl
 | cons h t ih=>exact congrArg (·+1) ih
noncomputable def TAa (PK:Pk) (i:List Sl->Tr (List Sl)):TA:=λσ H Q=>∃ pa G₀ H₀ m ρ G,Rl PK pa G₀ H₀ m σ ρ G H/\(i ρ).ok m λm' as=>∀ vs G' H',Stp pa G H G' H'->Wd PK pa m' G' H'->ArsOk pa G' vs as->Q vs H'
inductive Re where
 | d (x:PyData) | own (xs:List PyData)
noncomputable def Re.val:Re->PyData
 | .d x=>x
 | .own xs=>.list xs
@[simp] theorem Re.val_d (x:PyData):(Re.d x).val=x:=rfl
@[simp] theorem Re.val_own (xs:List PyData):(Re.own xs).val=.list xs:=rfl
inductive Ou where
 | next (ρ:List Sl) | ret (r:Re) | brk (ρ:List Sl) | cont (ρ:List Sl)
noncomputable def Zpv (H₀ G H:Hp) (v:V):Re->Prop
 | .d x=>Dn G v x
 | .own xs=>∃ p vs,v=.ref p/\H p=some (.lst vs)/\G p=none/\H₀ p=none/\DnAll G vs xs
noncomputable def Kr (PK:Pk) (pa:Addr) (m:Ms) (G₀ H₀:Hp) (r:Re) (Q:VK):Prop:=∀ v G H,Stp pa G₀ H₀ G H->Wd PK pa m G H->Zpv H₀ G H v r->Q v H
noncomputable def Ko (PK:Pk) (pa:Addr) (G₀ H₀ Gs:Hp) (D:Ends) (m:Ms):Ou->Prop
 | .next ρ=>∀ σ G H,Sub Gs G->Rl PK pa G₀ H₀ m σ ρ G H->D.nx σ H
 | .ret r=>Kr PK pa m G₀ H₀ r D.rt
 | .brk ρ=>∀ σ G H,Sub Gs G->Rl PK pa G₀ H₀ m σ ρ G H->D.bk σ H
 | .cont ρ=>∀ σ G H,Sub Gs G->Rl PK pa G₀ H₀ m σ ρ G H->D.ct σ H
noncomputable def cr (PK:Pk) (i:List Sl->Tr Ou):TS:=λD σ H=>∃ pa G₀ H₀ m ρ G,Rl PK pa G₀ H₀ m σ ρ G H/\(i ρ).ok m (Ko PK pa G₀ H₀ G D)
theorem PE.imp {X:Cx} {e:Expr} {t t':TE} (h:PE X e t) (q:∀ σ H Q,t' σ H Q->t σ H Q):PE X e t':=λpins s σ H Q I z=>h pins s σ H Q I (q σ H Q z)
theorem PT.imp {X:Cx} {e:Expr} {t t':TT} (h:PT X e t) (q:∀ σ H Q,t' σ H Q->t σ H Q):PT X e t':=λpins s σ H Q I z=>h pins s σ H Q I (q σ H Q z)
theorem PW.imp {X:Cx} {e:Expr} {t t':TT} (h:PW X e t) (q:∀ σ H Q,t' σ H Q->t σ H Q):PW X e t':=λwh pins s σ H Q I z=>h wh pins s σ H Q I (q σ H Q z)
theorem PA.imp {X:Cx} {e:List Expr} {t t':TA} (h:PA X e t) (q:∀ σ H Q,t' σ H Q->t σ H Q):PA X e t':=λpos pins s σ H Q I z=>h pos pins s σ H Q I (q σ H Q z)
theorem PS.imp {X:Cx} {e:Stmt} {t t':TS} (h:PS X e t) (q:∀ D σ H,t' D σ H->t D σ H):PS X e t':=λpins s σ H D I z=>h pins s σ H D I (q D σ H z)
theorem PSs.imp {X:Cx} {e:List Stmt} {t t':TS} (h:PSs X e t) (q:∀ D σ H,t' D σ H->t D σ H):PSs X e t':=λpins s σ H D I z=>h pins s σ H D I (q D σ H z)
variable {PK:Pk} {X:Cx} {a b c e:Expr} {es:List Expr} {pos:Pos} {i j l:List Sl->Tr PyData}
theorem TAe.then {σ:St} {H:Hp} {β:Type} {k:PyData->Tr β} {Z:Ms->β->Prop} {Q:VK} {pa:Addr} {G₀ H₀ G:Hp} {m:Ms} {ρ:List Sl} (R:Rl PK pa G₀ H₀ m σ ρ G H) (h:((i ρ).bind k).ok m Z)
  (hq:∀ m1 x v G1 H1,Stp pa G H G1 H1->Wd PK pa m1 G1 H1->Rl PK pa G₀ H₀ m1 σ ρ G1 H1->Dn G1 v x->(k x).ok m1 Z->Q v H1):TAe PK i σ H Q:=by
 refine ⟨pa,G₀,H₀,m,ρ,G,R,Tr.ok_mono (Tr.ok_bind.mp h) λm1 x hx v G1 H1 s1 w1 d1=>?_⟩
 exact hq m1 x v G1 H1 s1 w1 (R.step s1 w1) d1 hx
noncomputable def aa (k:Nat):List Sl->Tr PyData:=λρ=>match ρ[k]? with
 | some (.d x)=>.ret x
 | _=>.fail
noncomputable def aC (d:PyData):List Sl->Tr PyData:=λ_=>.ret d
theorem ac {k:Nat} (h:PE X e (i8 k)):PE X e (TAe PK (aa k)):=h.imp λσ H Q hz0=>by
 obtain ⟨pa,G₀,H₀,m,ρ,G,R,q⟩:=hz0
 unfold aa at q
 split at q
 ·rename_i x hx
  obtain ⟨o,h1,h2⟩:=R.sl k _ hx
  cases h2 with
  | d z=>exact ⟨_,h1,Kn.here q R.wd z⟩
 ·exact q.elim
theorem qp {v:V} {d:PyData} (h:PE X e (tC v)) (hd:∀ G,Dn G v d):PE X e (TAe PK (aC d)):=h.imp λσ H Q hz0=>by
 obtain ⟨pa,G₀,H₀,m,ρ,G,R,q⟩:=hz0
 exact Kn.here q R.wd (hd G)
theorem bO {n:Int} {k pos}:PE X (.Constant (.int n) k pos) (TAe PK (aC (.int n))):=qp cP λ_=>.int n
theorem gz {n:Bool} {k pos}:PE X (.Constant (.bool n) k pos) (TAe PK (aC (.bool n))):=qp Ziz λ_=>.bl n
theorem iz {k pos}:PE X (.Constant .none k pos) (TAe PK (aC .none)):=qp Zin λ_=>.non
theorem ge {x:Str} {n:Int} (hg:Gl X x) (h:∃ t,X.mg x=some (.int n t)) (hd:(x == ("__debug__":Str))=false:=by decide):PE X (.Name x pos) (TAe PK (aC (.int n))):=qp (Ziu hg h hd) λ_=>.int n
noncomputable def df (r:R2) (f:PyData->PyData->Option PyData):Prop:=∀ (PK:Pk) (pa:Addr) (m:Ms) (G H:Hp) (x y:V) (dx dy dz:PyData) (Q:VK),Wd PK pa m G H->Dn G x dx->Dn G y dy->f dx dy=some dz->Kn PK pa m G H dz Q->r x y H Q
noncomputable def ag (f:PyData->PyData->Option PyData) (i j:List Sl->Tr PyData):List Sl->Tr PyData:=λρ=>(i ρ).bind λx=>(j ρ).bind λy=>Tr.of (f x y)
theorem qF {r:R2} {f:PyData->PyData->Option PyData} (hv:df r f):∀ σ H Q,TAe PK (ag f i j) σ H Q->jB r (TAe PK i) (TAe PK j) σ H Q:=by
 rintro σ H Q ⟨pa,G₀,H₀,m,ρ,G,R,q⟩
 refine TAe.then R q λm1 x v G1 H1 s1 w1 R1 d1 q1=>?_
 refine TAe.then R1 q1 λm2 y u G2 H2 s2 w2 R2 d2 q2=>?_
 obtain ⟨z,hz,k⟩:=Tr.ok_of q2
 exact hv PK pa m2 G2 H2 v u x y z Q w2 (d1.mono s2.gs) d2 hz (Kn.later k (s1.trans s2 w1.some) w2.some)
theorem b9 {op:Operator} {r:R2} {f:PyData->PyData->Option PyData} (ho:OpR X (binaryOp op) r) (hv:df r f) (ha:PE X a (TAe PK i)) (hb:PE X b (TAe PK j)):PE X (.BinOp a op b pos) (TAe PK (ag f i j)) :=
 (dk ho ha hb).imp (qF hv)
theorem qo {op:CmpOp} {r:R2} {f:PyData->PyData->Option PyData} (ho:OpR X (compareOp op) r) (hv:df r f) (ha:PE X a (TAe PK i)) (hb:PE X b (TAe PK j)) (hm:behindInMarks op b=false):PE X (.Compare a [op] [b] pos) (TAe PK (ag f i j)) :=
 (Ziw ho ha hb hm).imp (qF hv)
theorem cq {r:R2} {f:PyData->PyData->Option PyData} (hr:IxR X r) (hv:df r f) (ha:PE X a (TAe PK i)) (hb:PE X b (TAe PK j)) (hs:Zfe b):PE X (.Subscript a b pos) (TAe PK (ag f i j)) :=
 (im hr ha hb hs).imp (qF hv)
noncomputable def jA:PyData->Option Bool
 | .bool b=>some b
 | _=>none
@[simp] theorem Zp7 (b:Bool):jA (.bool b)=some b:=rfl
noncomputable def cH (i:List Sl->Tr PyData):List Sl->Tr Bool:=λρ=>(i ρ).bind λx=>Tr.of (jA x)
theorem Zfa:∀ σ H Q,TAt PK (cH i) σ H Q->oh (TAe PK i) σ H Q:=by
 rintro σ H Q ⟨pa,G₀,H₀,m,ρ,G,R,q⟩
 refine TAe.then R q λm1 x v G1 H1 s1 w1 R1 d1 q1=>?_
 obtain ⟨b,hb,k⟩:=Tr.ok_of q1
 cases d1 <;> simp only [jA] at hb <;> cases hb
 exact ⟨_,rfl,k G1 H1 s1 w1⟩
theorem ZaB {t t':TE} (h:∀ σ H Q,t' σ H Q->t σ H Q):∀ σ H Q,oh t' σ H Q->oh t σ H Q:=λσ H Q z=>h σ H _ z
theorem dr {op:CmpOp} {r:R2} {f:PyData->PyData->Option PyData} (ho:OpR X (compareOp op) r) (hv:df r f) (ha:PE X a (TAe PK i)) (hb:PE X b (TAe PK j)) (hm:behindInMarks op b=false):PT X (.Compare a [op] [b] pos) (TAt PK (cH (ag f i j))) :=
 (kK ho ha hb hm).imp λσ H Q z=>ZaB (qF hv) σ H Q (Zfa σ H Q z)
noncomputable def Zau:PyData->Option Bool
 | .bool b=>some b
 | .int n=>some (n != 0)
 | .none=>some false
 | .list xs=>some (!xs.isEmpty)
 | .tuple xs=>some (!xs.isEmpty)
 | _=>none
noncomputable def iU (i:List Sl->Tr PyData):List Sl->Tr Bool:=λρ=>(i ρ).bind λx=>Tr.of (Zau x)
theorem DnAll.isEmpty {H:Hp} {vs:List V} {ds:List PyData} (h:DnAll H vs ds):vs.isEmpty=ds.isEmpty:=by
 cases h <;> rfl
theorem jZ (h:PE X e (TAe PK i)) (he:∀ whole,isTrue e X.env whole=(do let v <- whole; standAt e.pos; holding [v] (truthy v)):=by intro _; rfl):PT X e (TAt PK (iU i)):=(Zcr h he).imp λσ H Q hz0=>by
 obtain ⟨pa,G₀,H₀,m,ρ,G,R,q⟩:=hz0
 refine TAe.then R q λm1 x v G1 H1 s1 w1 R1 d1 q1=>?_
 obtain ⟨b,hb,k⟩:=Tr.ok_of q1
 have fin:=k G1 H1 s1 w1
 cases d1 with
 | non=>cases hb; exact ⟨_,rfl,fin⟩
 | bl b=>cases hb; exact ⟨_,rfl,fin⟩
 | int n=>cases hb; exact ⟨_,rfl,fin⟩
 | str _=>cases hb
 | tup h1 h2=>cases hb; exact ⟨_,.inr (.inl ⟨_,SqT.of (w1.sub _ _ h1),rfl⟩),by rw [h2.isEmpty]; exact fin⟩
 | lst h1 h2=>cases hb; exact ⟨_,.inl ⟨_,SqL.of (w1.sub _ _ h1),rfl⟩,by rw [h2.isEmpty]; exact fin⟩
 | dct _ _=>cases hb
 | dcp _ _ _=>cases hb
 | hdl _=>cases hb
noncomputable def vb (i j:List Sl->Tr Bool):List Sl->Tr Bool:=λρ=>(i ρ).bind λx=>if x=true then j ρ else .ret false
noncomputable def kd (i j:List Sl->Tr Bool):List Sl->Tr Bool:=λρ=>(i ρ).bind λx=>if x=true then .ret true else j ρ
noncomputable def iX (i:List Sl->Tr Bool):List Sl->Tr Bool:=λρ=>(i ρ).bind λx=>.ret (!x)
variable {p q:List Sl->Tr Bool} {rest:List Expr}
theorem TAt.then {σ:St} {H:Hp} {β:Type} {k:Bool->Tr β} {Z:Ms->β->Prop} {Q:Bool->Hp->Prop} {pa:Addr} {G₀ H₀ G:Hp} {m:Ms} {ρ:List Sl} (R:Rl PK pa G₀ H₀ m σ ρ G H) (h:((p ρ).bind k).ok m Z)
  (hq:∀ m1 x G1 H1,Stp pa G H G1 H1->Wd PK pa m1 G1 H1->Rl PK pa G₀ H₀ m1 σ ρ G1 H1->(k x).ok m1 Z->Q x H1):TAt PK p σ H Q:=by
 refine ⟨pa,G₀,H₀,m,ρ,G,R,Tr.ok_mono (Tr.ok_bind.mp h) λm1 x hx G1 H1 s1 w1=>?_⟩
 exact hq m1 x G1 H1 s1 w1 (R.step s1 w1) hx
theorem ZeR {G₀ H₀ G H G1 H1:Hp} {m:Ms} {σ:St} {ρ:List Sl} {pa:Addr} {Q:Bool->Hp->Prop} (R1:Rl PK pa G₀ H₀ m σ ρ G1 H1) (s1:Stp pa G H G1 H1) (h:(q ρ).ok m λm' b=>∀ G' H',Stp pa G H G' H'->Wd PK pa m' G' H'->Q b H'):TAt PK q σ H1 Q :=
 ⟨pa,G₀,H₀,m,ρ,G1,R1,Tr.ok_mono h λm2 b k G2 H2 s2 w2=>k G2 H2 (s1.trans s2 R1.wd.some) w2⟩
theorem uZ {G₀ H₀ G H G1 H1:Hp} {m:Ms} {σ:St} {ρ:List Sl} {pa:Addr} {Q:VK} (R1:Rl PK pa G₀ H₀ m σ ρ G1 H1) (s1:Stp pa G H G1 H1) (h:(i ρ).ok m λm' x=>Kn PK pa m' G H x Q):TAe PK i σ H1 Q :=
 ⟨pa,G₀,H₀,m,ρ,G1,R1,Tr.ok_mono h λm2 b k=>Kn.later k s1 R1.wd.some⟩
theorem ZoW (ha:PT X a (TAt PK p)):PW X (.BoolOp .And [a] pos) (TAt PK p):=Zcp ha
theorem nE (ha:PT X a (TAt PK p)):PW X (.BoolOp .Or [a] pos) (TAt PK p):=ZhU ha
theorem ZoX (ha:PT X a (TAt PK p)) (hb:PW X (.BoolOp .And (b::rest) pos) (TAt PK q)):PW X (.BoolOp .And (a::b::rest) pos) (TAt PK (vb p q)):=(Zcq ha hb).imp λσ H Q hz0=>by
 obtain ⟨pa,G₀,H₀,m,ρ,G,R,z⟩:=hz0
 refine TAt.then R z λm1 x G1 H1 s1 w1 R1 q1=>?_
 cases x with
 | true=>rw [if_pos rfl] at q1 ⊢; exact ZeR R1 s1 q1
 | false=>rw [if_neg Bool.false_ne_true] at q1 ⊢; exact q1 G1 H1 s1 w1
theorem nF (ha:PT X a (TAt PK p)) (hb:PW X (.BoolOp .Or (b::rest) pos) (TAt PK q)):PW X (.BoolOp .Or (a::b::rest) pos) (TAt PK (kd p q)):=(ZhV ha hb).imp λσ H Q hz0=>by
 obtain ⟨pa,G₀,H₀,m,ρ,G,R,z⟩:=hz0
 refine TAt.then R z λm1 x G1 H1 s1 w1 R1 q1=>?_
 cases x with
 | true=>rw [if_pos rfl] at q1 ⊢; exact q1 G1 H1 s1 w1
 | false=>rw [if_neg Bool.false_ne_true] at q1 ⊢; exact ZeR R1 s1 q1
theorem lJ (h:PW X e (TAt PK p)):PT X e (TAt PK p):=h.pt
theorem j4 (ha:PT X a (TAt PK p)):PT X (.UnaryOp .Not a pos) (TAt PK (iX p)):=(ZhW ha).imp λσ H Q hz0=>by
 obtain ⟨pa,G₀,H₀,m,ρ,G,R,z⟩:=hz0
 refine TAt.then R z λm1 x G1 H1 s1 w1 R1 q1=>?_
 exact q1 G1 H1 s1 w1
noncomputable def lW (i j:List Sl->Tr PyData):List Sl->Tr PyData:=λρ=>(cH i ρ).bind λx=>if x=true then j ρ else .ret (.bool false)
noncomputable def qy (i:List Sl->Tr PyData):List Sl->Tr PyData:=λρ=>(cH i ρ).bind λx=>.ret (.bool (!x))
theorem TAe.thenB {σ:St} {H:Hp} {β:Type} {k:Bool->Tr β} {Z:Ms->β->Prop} {Q:VK} {pa:Addr} {G₀ H₀ G:Hp} {m:Ms} {ρ:List Sl} (R:Rl PK pa G₀ H₀ m σ ρ G H) (h:((cH i ρ).bind k).ok m Z)
  (hq:∀ m1 c G1 H1,Stp pa G H G1 H1->Wd PK pa m1 G1 H1->Rl PK pa G₀ H₀ m1 σ ρ G1 H1->(k c).ok m1 Z->Q (.bl c) H1):TAe PK i σ H Q:=by
 unfold cH at h
 rw [Tr.bind_assoc] at h
 refine TAe.then R h λm1 x v G1 H1 s1 w1 R1 d1 q1=>?_
 rw [Tr.ok_bind] at q1
 obtain ⟨c,hb,q1⟩:=Tr.ok_of q1
 cases d1 <;> simp only [jA] at hb <;> cases hb
 exact hq m1 _ G1 H1 s1 w1 R1 q1
theorem qm {op} (h:PE X a (TAe PK i)):PE X (.BoolOp op [a] pos) (TAe PK i):=Zil h
theorem qq (ha:PE X a (TAe PK i)) (hb:PE X (.BoolOp .And (b::rest) pos) (TAe PK j)):PE X (.BoolOp .And (a::b::rest) pos) (TAe PK (lW i j)):=(ZiA ha hb).imp λσ H Q hz0=>by
 obtain ⟨pa,G₀,H₀,m,ρ,G,R,z⟩:=hz0
 refine TAe.thenB R z λm1 x G1 H1 s1 w1 R1 q1=>⟨x,rfl,?_⟩
 cases x with
 | true=>rw [if_pos rfl] at q1 ⊢; exact uZ R1 s1 q1
 | false=>rw [if_neg Bool.false_ne_true] at q1 ⊢; exact (Kn.later q1 s1 w1.some).here w1 (.bl false)
theorem Ze5 (ha:PE X a (TAe PK i)):PE X (.UnaryOp .Not a pos) (TAe PK (qy i)):=(Zim ha).imp λσ H Q hz0=>by
 obtain ⟨pa,G₀,H₀,m,ρ,G,R,z⟩:=hz0
 refine TAe.thenB R z λm1 x G1 H1 s1 w1 R1 q1=>⟨x,rfl,?_⟩
 exact (Kn.later q1 s1 w1.some).here w1 (.bl _)
noncomputable def qC (p:List Sl->Tr Bool) (i j:List Sl->Tr PyData):List Sl->Tr PyData:=λρ=>(p ρ).bind λx=>if x=true then i ρ else j ρ
theorem Ze7 (hc:PT X c (TAt PK p)) (ha:PE X a (TAe PK i)) (hb:PE X b (TAe PK j)):PE X (.IfExp c a b pos) (TAe PK (qC p i j)):=(Zis hc ha hb).imp λσ H Q hz0=>by
 obtain ⟨pa,G₀,H₀,m,ρ,G,R,z⟩:=hz0
 refine TAt.then R z λm1 x G1 H1 s1 w1 R1 q1=>?_
 cases x with
 | true=>rw [if_pos rfl] at q1 ⊢; exact uZ R1 s1 q1
 | false=>rw [if_neg Bool.false_ne_true] at q1 ⊢; exact uZ R1 s1 q1
variable {is:List Sl->Tr (List PyData)}
noncomputable def bP:List Sl->Tr (List PyData):=λ_=>.ret []
noncomputable def bC (i:List Sl->Tr PyData) (is:List Sl->Tr (List PyData)):List Sl->Tr (List PyData):=λρ=>(i ρ).bind λx=>(is ρ).bind λxs=>.ret (x::xs)
theorem bU:PA X [] (TAd PK bP):=cU.imp λσ H Q hz0=>by
 obtain ⟨pa,G₀,H₀,m,ρ,G,R,z⟩:=hz0
 exact z [] G H .refl R.wd .nil
theorem TAd.then {σ:St} {H:Hp} {β:Type} {k:List PyData->Tr β} {Z:Ms->β->Prop} {Q:List V->Hp->Prop} {pa:Addr} {G₀ H₀ G:Hp} {m:Ms} {ρ:List Sl} (R:Rl PK pa G₀ H₀ m σ ρ G H) (h:((is ρ).bind k).ok m Z)
  (hq:∀ m1 xs vs G1 H1,Stp pa G H G1 H1->Wd PK pa m1 G1 H1->Rl PK pa G₀ H₀ m1 σ ρ G1 H1->DnAll G1 vs xs->(k xs).ok m1 Z->Q vs H1):TAd PK is σ H Q:=by
 refine ⟨pa,G₀,H₀,m,ρ,G,R,Tr.ok_mono (Tr.ok_bind.mp h) λm1 x hx v G1 H1 s1 w1 d1=>?_⟩
 exact hq m1 x v G1 H1 s1 w1 (R.step s1 w1) d1 hx
theorem bH (ha:PE X e (TAe PK i)) (hr:PA X es (TAd PK is)) (hs:starEach (e::es) X.env=(false,eval e X.env)::starEach es X.env:=by rfl):PA X (e::es) (TAd PK (bC i is)):=(cD ha hr hs).imp λσ H Q hz0=>by
 obtain ⟨pa,G₀,H₀,m,ρ,G,R,z⟩:=hz0
 refine TAe.then R z λm1 x v G1 H1 s1 w1 R1 d1 q1=>?_
 refine TAd.then R1 q1 λm2 xs vs G2 H2 s2 w2 R2 d2 q2=>?_
 exact q2 _ _ _ (s1.trans s2 w1.some) w2 (.cons (d1.mono s2.gs) d2)
noncomputable def small (n:Nat):Bool:=decide (n<=sizeLine)
noncomputable def fO (is:List Sl->Tr (List PyData)):List Sl->Tr PyData:=λρ=>(is ρ).bind λxs=>if small xs.length=true then .ret (.tuple xs) else .fail
noncomputable def dG (is:List Sl->Tr (List PyData)):List Sl->Tr PyData:=λρ=>(is ρ).bind λxs=>.ret (.list xs)
noncomputable def ff (is:List Sl->Tr (List PyData)):List Sl->Tr (List PyData):=λρ=>(is ρ).bind λxs=>if small xs.length=true then .ret xs else .fail
theorem fU {α:Type} {c:Bool} {t:Tr α} {m:Ms} {Q:Ms->α->Prop} (h:(if c=true then t else .fail).ok m Q):c=true/\t.ok m Q:=by
 cases c with
 | true=>exact ⟨rfl,h⟩
 | false=>exact h.elim
theorem gO {x1} (h:PA X es (TAd PK is)):PE X (.Tuple es x1 pos) (TAe PK (fO is)):=(Zij h).imp λσ H Q hz0=>by
 obtain ⟨pa,G₀,H₀,m,ρ,G,R,z⟩:=hz0
 refine TAd.then R z λm1 xs vs G1 H1 s1 w1 R1 d1 q1=>?_
 obtain ⟨hs,k⟩:=fU q1
 exact ⟨by rw [d1.length]; exact of_decide_eq_true hs,λp hp=>(Kn.later k s1 w1.some).tup w1 d1 hp⟩
theorem Ko1.new {pa:Addr} {m:Ms} {G H:Hp} {xs:List PyData} {vs:List V} {Q:VK} {p:Addr} (k:Ko1 PK pa m G H xs Q) (w:Wd PK pa m G H) (d:DnAll G vs xs) (hp:H p=none):Q (.ref p) (upd H p (.lst vs)):=by
 obtain ⟨w1,s1⟩:=w.own (o:=.lst vs) hp
 exact k p vs G _ s1 w1 hp (w.gnone hp) cA d
theorem Ko1.later {pa:Addr} {m:Ms} {G H G1 H1:Hp} {xs:List PyData} {Q:VK} (k:Ko1 PK pa m G H xs Q) (s:Stp pa G H G1 H1) (hp:∃ o,H1 pa=some o):Ko1 PK pa m G1 H1 xs Q:=λp vs G' H' s' w' h1 h2 h3 h4 =>
 k p vs G' H' (s.trans s' hp) w' (s.none h1) h2 h3 h4
theorem fv (h:PA X es (TAd PK is)):PE X (.List es pos) (gC PK (ff is)):=(oN h).imp λσ H Q hz0=>by
 obtain ⟨pa,G₀,H₀,m,ρ,G,R,z⟩:=hz0
 refine TAd.then R z λm1 xs vs G1 H1 s1 w1 R1 d1 q1=>?_
 obtain ⟨hs,k⟩:=fU q1
 exact ⟨by rw [d1.length]; exact of_decide_eq_true hs,λp hp=>(Ko1.later k s1 w1.some).new w1 d1 hp⟩
theorem Ko1.of {pa:Addr} {m:Ms} {G H:Hp} {xs:List PyData} {Q:VK} (k:Kn PK pa m G H (.list xs) Q) (hp:∃ o,H pa=some o):Ko1 PK pa m G H xs Q:=λp vs G' H' s w h1 h2 h3 h4=>by
 have hne:pa≠p:=λe=>by
  obtain ⟨o,z⟩:=hp
  rw [e,h1] at z; cases z
 have sb:Sub G' (upd G' p (.lst vs)):=Sub.new h2
 refine k _ (upd G' p (.lst vs)) H' ⟨λb o h=>sb b o (s.gs b o h),λb o h=>?_,s.hk,s.al⟩ (w.freeze h3 h2 hne) (.lst cA (DnAll.mono sb h4))
 by_cases e:b=p
 ·subst e; exact .inr (.inl h1)
 ·rw [bG e] at h; exact s.gn b o h
theorem fw (h:PE X e (gC PK is)):PE X e (TAe PK (dG is)):=h.imp λσ H Q hz0=>by
 obtain ⟨pa,G₀,H₀,m,ρ,G,R,z⟩:=hz0
 refine ⟨pa,G₀,H₀,m,ρ,G,R,Tr.ok_mono (Tr.ok_bind.mp z) λm1 xs k=>Ko1.of k R.wd.some⟩
noncomputable def iZ (r:List V->Hp->VK->Prop) (f:List PyData->Option PyData):Prop:=∀ (PK:Pk) (pa:Addr) (m:Ms) (G H:Hp) (vs:List V) (ds:List PyData) (d:PyData) (Q:VK),Wd PK pa m G H->DnAll G vs ds->f ds=some d->Kn PK pa m G H d Q->r vs H Q
noncomputable def cV (f:List PyData->Option PyData) (is:List Sl->Tr (List PyData)):List Sl->Tr PyData:=λρ=>(is ρ).bind λxs=>Tr.of (f xs)
theorem Zpq {r:List V->Hp->VK->Prop} {f:List PyData->Option PyData} (hv:iZ r f):∀ σ H Q,TAe PK (cV f is) σ H Q->i9 r (TAd PK is) σ H Q:=by
 rintro σ H Q ⟨pa,G₀,H₀,m,ρ,G,R,z⟩
 refine TAd.then R z λm1 xs vs G1 H1 s1 w1 R1 d1 q1=>?_
 obtain ⟨d,hd,k⟩:=Tr.ok_of q1
 exact hv PK pa m1 G1 H1 vs xs d Q w1 d1 hd (Kn.later k s1 w1.some)
theorem da {t:TA} {r:List V->Hp->VK->Prop} {f:List PyData->Option PyData} (h:PE X e (i9 r (TAd PK is))) (hv:iZ r f):PE X e (TAe PK (cV f is)):=h.imp (Zpq hv)
variable {as:List Sl->Tr (List Sl)}
noncomputable def bF:List Sl->Tr (List Sl):=λ_=>.ret []
noncomputable def ae (i:List Sl->Tr PyData) (as:List Sl->Tr (List Sl)):List Sl->Tr (List Sl):=λρ=>(i ρ).bind λx=>(as ρ).bind λxs=>.ret (.d x::xs)
noncomputable def cL (k:Nat) (as:List Sl->Tr (List Sl)):List Sl->Tr (List Sl):=λρ=>match ρ[k]? with
 | some .pen=>(as ρ).bind λxs=>.ret (.pen::xs)
 | _=>.fail
theorem bS:PA X [] (TAa PK bF):=cU.imp λσ H Q hz0=>by
 obtain ⟨pa,G₀,H₀,m,ρ,G,R,z⟩:=hz0
 exact z [] G H .refl R.wd .nil
theorem TAa.then {σ:St} {H:Hp} {β:Type} {k:List Sl->Tr β} {Z:Ms->β->Prop} {Q:List V->Hp->Prop} {pa:Addr} {G₀ H₀ G:Hp} {m:Ms} {ρ:List Sl} (R:Rl PK pa G₀ H₀ m σ ρ G H) (h:((as ρ).bind k).ok m Z)
  (hq:∀ m1 xs vs G1 H1,Stp pa G H G1 H1->Wd PK pa m1 G1 H1->Rl PK pa G₀ H₀ m1 σ ρ G1 H1->ArsOk pa G1 vs xs->(k xs).ok m1 Z->Q vs H1):TAa PK as σ H Q:=by
 refine ⟨pa,G₀,H₀,m,ρ,G,R,Tr.ok_mono (Tr.ok_bind.mp h) λm1 x hx v G1 H1 s1 w1 d1=>?_⟩
 exact hq m1 x v G1 H1 s1 w1 (R.step s1 w1) d1 hx
theorem af (ha:PE X e (TAe PK i)) (hr:PA X es (TAa PK as)) (hs:starEach (e::es) X.env=(false,eval e X.env)::starEach es X.env:=by rfl):PA X (e::es) (TAa PK (ae i as)):=(cD ha hr hs).imp λσ H Q hz0=>by
 obtain ⟨pa,G₀,H₀,m,ρ,G,R,z⟩:=hz0
 refine TAe.then R z λm1 x v G1 H1 s1 w1 R1 d1 q1=>?_
 refine TAa.then R1 q1 λm2 xs vs G2 H2 s2 w2 R2 d2 q2=>?_
 exact q2 _ _ _ (s1.trans s2 w1.some) w2 (.cons (.d (d1.mono s2.gs)) d2)
theorem cT {k:Nat} (ha:PE X e (i8 k)) (hr:PA X es (TAa PK as)) (hs:starEach (e::es) X.env=(false,eval e X.env)::starEach es X.env:=by rfl):PA X (e::es) (TAa PK (cL k as)):=(cD ha hr hs).imp λσ H Q hz0=>by
 obtain ⟨pa,G₀,H₀,m,ρ,G,R,z⟩:=hz0
 unfold cL at z
 split at z
 ·rename_i hk
  obtain ⟨o,h1,h2⟩:=R.sl k _ hk
  cases h2
  refine ⟨_,h1,?_⟩
  refine TAa.then R z λm2 xs vs G2 H2 s2 w2 R2 d2 q2=>?_
  exact q2 _ _ _ s2 w2 (.cons .pen d2)
 ·exact z.elim
noncomputable def lR (PK:Pk) (n:Nat) (f:List Sl->Tr Re):Sp:=λvs H Q _=>vs.length=n/\∃ pa m G as,Wd PK pa m G H/\ArsOk pa G vs as/\(f as).ok m λm' r=>Kr PK pa m' G H r Q
noncomputable def bV (f:List Sl->Tr Re) (as:List Sl->Tr (List Sl)):List Sl->Tr Re:=λρ=>(as ρ).bind f
noncomputable def bI (f:List Sl->Tr Re):List Sl->Tr PyData:=λρ=>(f ρ).bind λr=>.ret r.val
noncomputable def lX (PK:Pk) (i:List Sl->Tr Re):TE:=λσ H Q=>∃ pa G₀ H₀ m ρ G,Rl PK pa G₀ H₀ m σ ρ G H/\(i ρ).ok m λm' r=>Kr PK pa m' G H r Q
theorem Kr.later {pa:Addr} {m:Ms} {G H G1 H1:Hp} {r:Re} {Q:VK} (k:Kr PK pa m G H r Q) (s:Stp pa G H G1 H1) (hp:∃ o,H1 pa=some o):Kr PK pa m G1 H1 r Q:=λv G' H' s' w' d=>by
 refine k v G' H' (s.trans s' hp) w' ?_
 cases r with
 | d x=>exact d
 | own xs =>
  obtain ⟨p,vs,e,h1,h2,h3,h4⟩:=d
  exact ⟨p,vs,e,h1,h2,s.none h3,h4⟩
theorem Kr.of {pa:Addr} {m:Ms} {G H:Hp} {r:Re} {Q:VK} (k:Kn PK pa m G H r.val Q) (hp:∃ o,H pa=some o):Kr PK pa m G H r Q:=λv G' H' s w d=>by
 cases r with
 | d x=>exact k v G' H' s w d
 | own xs =>
  obtain ⟨p,vs,rfl,h1,h2,h3,h4⟩:=d
  exact Ko1.of k hp p vs G' H' s w h3 h2 h1 h4
theorem bL {f:List Sl->Tr Re} (h:PE X e (lX PK f)):PE X e (TAe PK (bI f)):=h.imp (by
 intro σ H Q z
 obtain ⟨pa,G₀,H₀,m,ρ,G,R,z⟩:=z
 exact ⟨pa,G₀,H₀,m,ρ,G,R,Tr.ok_mono (Tr.ok_bind.mp z) λm1 r k=>Kr.of k R.wd.some⟩)
structure ACal (PK:Pk) (P:Program) (w:World) (K:PySem.W.Frag) (mg:Str->Option Value) (base:Heap) (x:Str) (k:Nat) (ps:List Str) (f:List Sl->Tr Re):Prop where
 cal:Callee P w K mg base x k ps (lR PK ps.length f)
 len:∀ as m Z,(f as).ok m Z->as.length=ps.length
theorem bW {x:Str} {k:Nat} {ps:List Str} {f:List Sl->Tr Re} {pp:Pos} (C:ACal PK X.prog X.w X.K X.mg X.base x k ps f) (hr:Room k X.A) (hg:Gl X x) (ha:PA X (e::es) (TAa PK as))
  (hdb:(x == ("__debug__":Str))=false:=by decide)
  (he:starEach (e::es) X.env=(false,eval e X.env)::starEach es X.env:=by rfl) (hpl:(backTo pos (starEach es X.env)).any (·.1)=false:=by rfl):PE X (.Call (.Name x pp) (e::es) [] pos) (lX PK (bV f as)) :=
 (ZcB C.cal hr hg ha hdb he hpl).imp λσ H Q hz0=>by
  obtain ⟨pa,G₀,H₀,m,ρ,G,R,z⟩:=hz0
  refine TAa.then R z λm1 xs vs G1 H1 s1 w1 R1 d1 q1=>?_
  show lR PK ps.length f (vs++[]) H1 Q E0
  rw [List.append_nil]
  exact ⟨by rw [d1.length]; exact C.len _ _ _ q1,pa,m1,G1,xs,w1,d1,Tr.ok_mono q1 λm2 r k=>Kr.later k s1 w1.some⟩
variable {PK:Pk} {X:Cx} {a b c e:Expr} {es:List Expr} {pos:Pos} {i j l:List Sl->Tr PyData} {is:List Sl->Tr (List PyData)} {as:List Sl->Tr (List Sl)} {f:List Sl->Tr Re} {p q:List Sl->Tr Bool} {st:Stmt} {sts:List Stmt} {s t u:List Sl->Tr Ou}
noncomputable def bA (s t:List Sl->Tr Ou):List Sl->Tr Ou:=λρ=>(s ρ).bind λo=>match o with
 | .next ρ'=>t ρ'
 | o=>.ret o
noncomputable def dt:List Sl->Tr Ou:=λρ=>.ret (.next ρ)
theorem Ko.later {pa:Addr} {G₀ H₀ Gs G:Hp} {D:Ends} {m:Ms} {o:Ou} (k:Ko PK pa G₀ H₀ Gs D m o) (sb:Sub Gs G):Ko PK pa G₀ H₀ G D m o:=by
 cases o with
 | next ρ=>exact λσ G' H s R=>k σ G' H (λb o h=>s b o (sb b o h)) R
 | ret r=>exact k
 | brk ρ=>exact λσ G' H s R=>k σ G' H (λb o h=>s b o (sb b o h)) R
 | cont ρ=>exact λσ G' H s R=>k σ G' H (λb o h=>s b o (sb b o h)) R
theorem Sub.refl {G:Hp}:Sub G G:=λ_ _ h=>h
theorem Sub.trans {G G1 G2:Hp} (a:Sub G G1) (b:Sub G1 G2):Sub G G2:=λc o h=>b c o (a c o h)
theorem dX:PSs X [] (cr PK dt):=oH.imp λD σ H hz0=>by
 obtain ⟨pa,G₀,H₀,m,ρ,G,R,z⟩:=hz0
 exact z σ G H .refl R
theorem Zpp:∀ D σ H,cr PK (bA s t) D σ H->rE (cr PK s) (cr PK t) D σ H:=by
 rintro D σ H ⟨pa,G₀,H₀,m,ρ,G,R,z⟩
 refine ⟨pa,G₀,H₀,m,ρ,G,R,Tr.ok_mono (Tr.ok_bind.mp z) λm1 o k=>?_⟩
 cases o with
 | next ρ'=>exact λσ' G' H' sb R'=>⟨pa,G₀,H₀,m1,ρ',G',R',Tr.ok_mono k λ_ _ k'=>Ko.later k' sb⟩
 | ret r=>exact k
 | brk ρ'=>exact k
 | cont ρ'=>exact k
theorem bB (h1:PS X st (cr PK s)) (h2:PSs X sts (cr PK t)):PSs X (st::sts) (cr PK (bA s t)):=(f7 h1 h2).imp Zpp
theorem bK (h1:PS X st (cr PK s)):PSs X [st] (cr PK s):=jJ h1
noncomputable def lT:List Sl->Tr Ou:=λ_=>.fail
theorem nG:PS X st (cr PK lT):=λ_ _ _ _ _ _ h=>by
 obtain ⟨pa,G₀,H₀,m,ρ,G,R,z⟩:=h
 exact z.elim
noncomputable def gB (i:List Sl->Tr PyData):List Sl->Tr Ou:=λρ=>(i ρ).bind λ_=>.ret (.next ρ)
theorem iT (he:PE X e (TAe PK i)) (hs:swapsWith e none pos.line X.env=pure false:=by rfl):PS X (.Expr e pos) (cr PK (gB i)):=(jK he hs).imp λD σ H hz0=>by
 obtain ⟨pa,G₀,H₀,m,ρ,G,R,z⟩:=hz0
 refine TAe.then R z λm1 x v G1 H1 s1 w1 R1 d1 q1=>?_
 exact q1 σ G1 H1 s1.gs R1
noncomputable def cF (i:List Sl->Tr PyData):List Sl->Tr Ou:=λρ=>(i ρ).bind λx=>.ret (.ret (.d x))
theorem cK (he:PE X e (TAe PK i)):PS X (.Return (some e) pos) (cr PK (cF i)):=(jc he).imp λD σ H hz0=>by
 obtain ⟨pa,G₀,H₀,m,ρ,G,R,z⟩:=hz0
 refine TAe.then R z λm1 x v G1 H1 s1 w1 R1 d1 q1=>?_
 exact q1 v G1 H1 R1.st w1 d1
noncomputable def qw (is:List Sl->Tr (List PyData)):List Sl->Tr Ou:=λρ=>(is ρ).bind λx=>.ret (.ret (.own x))
theorem ZeW (he:PE X e (gC PK is)):PS X (.Return (some e) pos) (cr PK (qw is)):=(jc he).imp λD σ H hz0=>by
 obtain ⟨pa,G₀,H₀,m,ρ,G,R,z⟩:=hz0
 refine ⟨pa,G₀,H₀,m,ρ,G,R,Tr.ok_mono (Tr.ok_bind.mp z) λm1 xs k p vs G1 H1 s1 w1 h1 h2 h3 h4=>?_⟩
 exact k (.ref p) G1 H1 (R.st.trans s1 R.wd.some) w1 ⟨p,vs,rfl,h3,h2,R.h0 h1,h4⟩
noncomputable def lS (f:List Sl->Tr Re):List Sl->Tr Ou:=λρ=>(f ρ).bind λr=>.ret (.ret r)
theorem qg (he:PE X e (lX PK f)):PS X (.Return (some e) pos) (cr PK (lS f)):=(jc he).imp (by
 intro D σ H z
 obtain ⟨pa,G₀,H₀,m,ρ,G,R,z⟩:=z
 exact ⟨pa,G₀,H₀,m,ρ,G,R,Tr.ok_mono (Tr.ok_bind.mp z) λm1 r k=>Kr.later k R.st R.wd.some⟩)
noncomputable def iB (k:Nat):List Sl->Tr Ou:=λρ=>match ρ[k]? with
 | some (.d x)=>.ret (.ret (.d x))
 | some (.own xs)=>.ret (.ret (.own xs))
 | _=>.fail
theorem qf {k:Nat} (he:PE X e (i8 k)):PS X (.Return (some e) pos) (cr PK (iB k)):=(jc he).imp λD σ H hz0=>by
 obtain ⟨pa,G₀,H₀,m,ρ,G,R,z⟩:=hz0
 unfold iB at z
 split at z
 ·rename_i x hx
  obtain ⟨o,h1,h2⟩:=R.sl k _ hx
  cases h2 with
  | d d1=>exact ⟨_,h1,z _ G H R.st R.wd d1⟩
 ·rename_i xs hx
  obtain ⟨o,h1,h2⟩:=R.sl k _ hx
  cases h2 with
  | own a1 a2 a3 a4=>exact ⟨_,h1,z _ G H R.st R.wd ⟨_,_,rfl,a1,a2,a3,a4⟩⟩
 ·exact z.elim
theorem ZeX:PS X (.Return none pos) (cr PK (cF (aC .none))):=Zh1.imp λD σ H hz0=>by
 obtain ⟨pa,G₀,H₀,m,ρ,G,R,z⟩:=hz0
 exact z .non G H R.st R.wd .non
noncomputable def dH (p:List Sl->Tr Bool) (s t:List Sl->Tr Ou):List Sl->Tr Ou:=λρ=>(p ρ).bind λx=>if x=true then s ρ else t ρ
theorem eX {xs ys:List Stmt} (hc:PT X c (TAt PK p)) (ha:PSs X xs (cr PK s)) (hb:PSs X ys (cr PK t)):PS X (.If c xs ys pos) (cr PK (dH p s t)):=(mG hc ha hb).imp λD σ H hz0=>by
 obtain ⟨pa,G₀,H₀,m,ρ,G,R,z⟩:=hz0
 refine TAt.then R z λm1 x G1 H1 s1 w1 R1 q1=>?_
 cases x with
 | true=>rw [if_pos rfl] at q1 ⊢; exact ⟨pa,G₀,H₀,m1,ρ,G1,R1,Tr.ok_mono q1 λ_ _ k'=>Ko.later k' s1.gs⟩
 | false=>rw [if_neg Bool.false_ne_true] at q1 ⊢; exact ⟨pa,G₀,H₀,m1,ρ,G1,R1,Tr.ok_mono q1 λ_ _ k'=>Ko.later k' s1.gs⟩
noncomputable def cf (k:Nat) (i:List Sl->Tr PyData):List Sl->Tr Ou:=λρ=>(i ρ).bind λx=>.ret (.next (ρ.set k (.d x)))
theorem cm {k:Nat} (h:PS X st (ig (TAe PK i) (jr k))):PS X st (cr PK (cf k i)):=h.imp λD σ H hz0=>by
 obtain ⟨pa,G₀,H₀,m,ρ,G,R,z⟩:=hz0
 refine TAe.then R z λm1 x v G1 H1 s1 w1 R1 d1 q1=>?_
 exact q1 _ G1 H1 s1.gs (R1.set d1 k)
noncomputable def iV (k:Nat) (is:List Sl->Tr (List PyData)):List Sl->Tr Ou:=λρ=>(is ρ).bind λx=>.ret (.next (ρ.set k (.own x)))
theorem j6 {k:Nat} (h:PS X st (ig (gC PK is) (jr k))):PS X st (cr PK (iV k is)):=h.imp λD σ H hz0=>by
 obtain ⟨pa,G₀,H₀,m,ρ,G,R,z⟩:=hz0
 refine ⟨pa,G₀,H₀,m,ρ,G,R,Tr.ok_mono (Tr.ok_bind.mp z) λm1 xs k' p vs G1 H1 s1 w1 h1 h2 h3 h4=>?_⟩
 exact k' _ G1 H1 s1.gs ((R.step s1 w1).setO h3 h2 (R.h0 h1) h4 (λn ys e=>R.apart h1 n ys e) k)
noncomputable def nP (f:PyData->PyData->Option PyData) (k:Nat) (i:List Sl->Tr PyData):List Sl->Tr Ou:=λρ=>(aa k ρ).bind λx=>(i ρ).bind λy=>(Tr.of (f x y)).bind λz=>.ret (.next (ρ.set k (.d z)))
theorem ZeY {k:Nat} {r:R2} {g:PyData->PyData->Option PyData} (hv:df r g) (h:PS X st (ZaG k (TAe PK i) r)):PS X st (cr PK (nP g k i)):=h.imp λD σ H hz0=>by
 obtain ⟨pa,G₀,H₀,m,ρ,G,R,z⟩:=hz0
 unfold nP aa at z
 split at z
 ·rename_i x hx
  obtain ⟨o,h1,h2⟩:=R.sl k _ hx
  cases h2 with
  | d d0 =>
   refine ⟨_,h1,?_⟩
   refine TAe.then R z λm1 y v G1 H1 s1 w1 R1 d1 q1=>?_
   rw [Tr.ok_bind] at q1
   obtain ⟨w,hw,q1⟩:=Tr.ok_of q1
   refine hv PK pa m1 G1 H1 _ v x y w _ w1 (d0.mono s1.gs) d1 hw λu G2 H2 s2 w2 d2=>?_
   exact q1 _ G2 H2 (s1.gs.trans s2.gs) ((R1.step s2 w2).set d2 k)
 ·exact z.elim
noncomputable def jv (k:Nat) (i:List Sl->Tr PyData):List Sl->Tr Ou:=λρ=>match ρ[k]? with
 | some (.own xs)=>(i ρ).bind λx=>if small (xs.length+1)=true then .ret (.next (ρ.set k (.own (xs++[x])))) else .fail
 | _=>.fail
theorem DnAll.snoc {H:Hp} {vs:List V} {ds:List PyData} {v:V} {d:PyData} (h:DnAll H vs ds) (h1:Dn H v d):DnAll H (vs++[v]) (ds++[d]):=h.append (.cons h1 .nil)
theorem nI {k:Nat} {K:PySem.W.Frag} {st:Stmt} (h:PS X st (rH (oj K "list" sF (i8 k) (fg (TAe PK i) cw)))):PS X st (cr PK (jv k i)):=h.imp λD σ H hz0=>by
 obtain ⟨pa,G₀,H₀,m,ρ,G,R,z⟩:=hz0
 unfold jv at z
 split at z
 ·rename_i xs hx
  obtain ⟨o,h1,h2⟩:=R.sl k _ hx
  cases h2 with
  | @own p vs _ a1 a2 a3 a4 =>
   refine ⟨_,h1,.inl ⟨rfl,_,SqL.of a1⟩,?_⟩
   refine TAe.then R z λm1 x v G1 H1 s1 w1 R1 d1 q1=>?_
   obtain ⟨hs,q1⟩:=fU q1
   obtain ⟨o,h1',h2⟩:=R1.sl k _ hx
   rw [h1] at h1'
   cases h1'
   cases h2 with
   | @own _ vs1 _ b1 b2 b3 b4 =>
    have hs':xs.length+1<=sizeLine:=of_decide_eq_true hs
    refine ⟨p,vs1,v,rfl,rfl,b1,by rw [b4.length]; omega,?_⟩
    exact q1 σ G1 _ s1.gs (R1.change hx h1 (b4.snoc d1))
 ·exact z.elim
theorem DnAll.set {H:Hp}:∀ {vs:List V} {ds:List PyData} {v:V} {d:PyData} (n:Nat),DnAll H vs ds->Dn H v d->DnAll H (vs.set n v) (ds.set n d)
 | _,_,_,_,_,.nil,_=>.nil
 | _,_,_,_,0,.cons _ t,h=>.cons h t
 | _,_,_,_,n+1,.cons g t,h=>.cons g (DnAll.set n t h)
noncomputable def qv (k:Nat) (n i:List Sl->Tr PyData):List Sl->Tr Ou:=λρ=>(i ρ).bind λx=>match ρ[k]? with
 | some (.own xs)=>(n ρ).bind λy=>match y with
  | .int y=>(Tr.of (gu xs.length y)).bind λt=>.ret (.next (ρ.set k (.own (xs.set t x))))
  | _=>.fail
 | _=>.fail
theorem Zo3 {k:Nat} {n:List Sl->Tr PyData} (h:PS X st (ig (TAe PK i) (ZdC (i8 k) (TAe PK n) Zb2))):PS X st (cr PK (qv k n i)):=h.imp λD σ H hz0=>by
 obtain ⟨pa,G₀,H₀,m,ρ,G,R,z⟩:=hz0
 refine TAe.then R z λm1 x v G1 H1 s1 w1 R1 d1 q1=>?_
 split at q1
 ·rename_i xs hx
  obtain ⟨o,h1,h2⟩:=R1.sl k _ hx
  cases h2 with
  | @own p vs _ a1 a2 a3 a4 =>
   refine ⟨_,h1,?_⟩
   refine TAe.then R1 q1 λm2 y u G2 H2 s2 w2 R2 d2 q2=>?_
   obtain ⟨o,h1',h2⟩:=R2.sl k _ hx
   rw [h1] at h1'
   cases h1'
   cases h2 with
   | @own _ vs2 _ b1 b2 b3 b4 =>
    cases d2 with
    | int y =>
     rw [Tr.ok_bind] at q2
     obtain ⟨n',hn,q2⟩:=Tr.ok_of q2
     refine ⟨p,vs2,y,n',rfl,rfl,b1,by rw [b4.length]; exact hn,?_⟩
     exact q2 σ G2 _ (s1.gs.trans s2.gs) (R2.change hx h1 (b4.set n' (d1.mono s2.gs)))
    | _=>exact q2.elim
 ·exact q1.elim
noncomputable def iC (k:Nat) (s:List Sl->Tr Ou):List Sl->Tr Ou:=λρ=>s (fz k ρ)
theorem lK {k:Nat} (h:PS X st (cr PK s)):PS X st (cr PK (iC k s)):=h.imp λD σ H hz0=>by
 obtain ⟨pa,G₀,H₀,m,ρ,G,R,z⟩:=hz0
 obtain ⟨G',sb,R'⟩:=R.freeze k
 exact ⟨pa,G₀,H₀,m,_,G',R',Tr.ok_mono z λ_ _ k'=>Ko.later k' sb⟩
noncomputable def gP (PK:Pk) (g:PyData->List Sl->Option (List Sl)):TG:=λv σ H Q=>∃ pa G₀ H₀ m ρ G x ρ',Rl PK pa G₀ H₀ m σ ρ G H/\Dn G v x/\g x ρ=some ρ'/\∀ σ',Rl PK pa G₀ H₀ m σ' ρ' G H->Q σ' H
noncomputable def qI (PK:Pk) (g:List PyData->List Sl->Option (List Sl)):i0:=λvs σ H Q=>∃ pa G₀ H₀ m ρ G xs ρ',Rl PK pa G₀ H₀ m σ ρ G H/\DnAll G vs xs/\g xs ρ=some ρ'/\∀ σ',Rl PK pa G₀ H₀ m σ' ρ' G H->Q σ' H
theorem PG.imp {tg:Expr} {t t':TG} (h:PG X tg t) (q:∀ v σ H Q,t' v σ H Q->t v σ H Q):PG X tg t':=λpins s σ H v u Q I r z=>h pins s σ H v u Q I r (q v σ H Q z)
theorem PGs.imp {tg:List Expr} {t t':i0} (h:PGs X tg t) (q:∀ v σ H Q,t' v σ H Q->t v σ H Q):PGs X tg t':=λpins s σ H v u Q I r z=>h pins s σ H v u Q I r (q v σ H Q z)
noncomputable def bE (k:Nat):PyData->List Sl->Option (List Sl):=λx ρ=>some (ρ.set k (.d x))
theorem cb {k:Nat} (h:PG X e (jr k)):PG X e (gP PK (bE k)):=h.imp λv σ H Q hz0=>by
 obtain ⟨pa,G₀,H₀,m,ρ,G,x,ρ',R,d,e,q⟩:=hz0
 cases e
 exact q _ (R.set d k)
noncomputable def cG:List PyData->List Sl->Option (List Sl):=λxs ρ=>match xs with
 | []=>some ρ
 | _=>none
noncomputable def bJ (g:PyData->List Sl->Option (List Sl)) (gs:List PyData->List Sl->Option (List Sl)):List PyData->List Sl->Option (List Sl):=λxs ρ=>match xs with
 | x::xs=>(g x ρ).bind λρ'=>gs xs ρ'
 | []=>none
theorem fI:PGs X [] (qI PK cG):=Zie.imp λvs σ H Q hz0=>by
 obtain ⟨pa,G₀,H₀,m,ρ,G,xs,ρ',R,d,e,q⟩:=hz0
 cases d with
 | nil=>cases e; exact ⟨rfl,q _ R⟩
 | cons _ _=>cases e
theorem cz {g:PyData->List Sl->Option (List Sl)} {gs:List PyData->List Sl->Option (List Sl)} (h1:PG X e (gP PK g)) (h2:PGs X es (qI PK gs))
  (hs:(assignEach (e::es) X.env).map (·.2)=assign e X.env::(assignEach es X.env).map (·.2):=by rfl):PGs X (e::es) (qI PK (bJ g gs)):=(Zif h1 h2 hs).imp λvs σ H Q hz0=>by
 obtain ⟨pa,G₀,H₀,m,ρ,G,xs,ρ',R,d,e,q⟩:=hz0
 cases d with
 | nil=>cases e
 | cons d1 d2 =>
  have e':(g _ ρ).bind (λρ'=>gs _ ρ')=some ρ':=e
  cases h:g _ ρ with
  | none=>rw [h] at e'; cases e'
  | some ρ1 =>
   rw [h] at e'
   exact ⟨_,_,rfl,pa,G₀,H₀,m,ρ,G,_,ρ1,R,d1,h,λσ1 R1=>⟨pa,G₀,H₀,m,ρ1,G,_,ρ',R1,d2,e',q⟩⟩
noncomputable def cI (gs:List PyData->List Sl->Option (List Sl)):PyData->List Sl->Option (List Sl):=λx ρ=>match x with
 | .tuple xs=>gs xs ρ
 | _=>none
noncomputable def pW (n:Nat) (gs:List PyData->List Sl->Option (List Sl)):Prop:=∀ xs ρ ρ',gs xs ρ=some ρ'->xs.length=n
theorem fB:pW 0 cG:=λxs ρ ρ' h=>by cases xs with | nil=>rfl | cons _ _=>cases h
theorem cy {n:Nat} {g:PyData->List Sl->Option (List Sl)} {gs:List PyData->List Sl->Option (List Sl)} (h:pW n gs):pW (n+1) (bJ g gs):=λxs ρ ρ' e=>by
 cases xs with
 | nil=>cases e
 | cons x xs =>
  have e':(g x ρ).bind (λρ'=>gs xs ρ')=some ρ':=e
  cases h1:g x ρ with
  | none=>rw [h1] at e'; cases e'
  | some ρ1 =>
   rw [h1] at e'
   exact congrArg (·+1) (h xs ρ1 ρ' e')
theorem fJ {k:Nat} {gs:List PyData->List Sl->Option (List Sl)} {n:Nat} (hc:X.calm=true) (h:PGs X es (qI PK gs)) (hl:pW n gs)
  (hn:(assignEach es X.env).length=n:=by rfl) (hst:(assignEach es X.env).findIdx? (·.1)=none:=by rfl):PG X (.Tuple es k pos) (gP PK (cI gs)):=(Zig hc h hn hst).imp λv σ H Q hz0=>by
 obtain ⟨pa,G₀,H₀,m,ρ,G,x,ρ',R,d,e,q⟩:=hz0
 cases d with
 | tup h1 h2=>exact ⟨_,_,rfl,SqT.of (R.wd.sub _ _ h1),by rw [h2.length]; exact hl _ _ _ e,pa,G₀,H₀,m,ρ,G,_,ρ',R,h2,e,q⟩
 | _=>cases e
noncomputable def lU (g:PyData->List Sl->Option (List Sl)) (i:List Sl->Tr PyData):List Sl->Tr Ou:=λρ=>(i ρ).bind λx=>(Tr.of (g x ρ)).bind λρ'=>.ret (.next ρ')
theorem qi {g:PyData->List Sl->Option (List Sl)} (h:PS X st (ig (TAe PK i) (gP PK g))):PS X st (cr PK (lU g i)):=h.imp λD σ H hz0=>by
 obtain ⟨pa,G₀,H₀,m,ρ,G,R,z⟩:=hz0
 refine TAe.then R z λm1 x v G1 H1 s1 w1 R1 d1 q1=>?_
 rw [Tr.ok_bind] at q1
 obtain ⟨ρ',hg,q1⟩:=Tr.ok_of q1
 exact ⟨pa,G₀,H₀,m1,ρ,G1,x,ρ',R1,d1,hg,λσ' R'=>q1 σ' G1 H1 s1.gs R'⟩
noncomputable def ka (k n:Nat) (is:List Sl->Tr (List PyData)):List Sl->Tr Ou:=λρ=>(is ρ).bind λxs=>match xs with
 | [x,y]=>.ret (.next ((ρ.set k (.d x)).set n (.d y)))
 | _=>.fail
theorem qh {k n:Nat} (h:PS X st (ZaC k n (TAd PK is))):PS X st (cr PK (ka k n is)):=h.imp λD σ H hz0=>by
 obtain ⟨pa,G₀,H₀,m,ρ,G,R,z⟩:=hz0
 refine TAd.then R z λm1 xs vs G1 H1 s1 w1 R1 d1 q1=>?_
 split at q1
 ·cases d1 with
  | cons e1 d1 =>
   cases d1 with
   | cons e2 d1 =>
    cases d1
    exact ⟨_,_,rfl,q1 _ G1 H1 s1.gs ((R1.set e1 k).set e2 n)⟩
 ·exact q1.elim
noncomputable def jw (PK:Pk) (pa:Addr) (J:It) (G:Hp) (xs:List PyData):Prop:=∀ m G2 H2,Sub G G2->Wd PK pa m G2 H2 ->
 (∀ (n:Nat) (d:PyData),xs[n]?=some d->J.go n H2/\∀ x H3,J.yld n H2 x H3->∃ G3,Stp pa G2 H2 G3 H3/\Wd PK pa m G3 H3/\Dn G3 x d)/\J.stop xs.length H2
noncomputable def gD (PK:Pk) (is:List Sl->Tr (List PyData)):TI:=λσ H R=>∃ pa G₀ H₀ m ρ G,Rl PK pa G₀ H₀ m σ ρ G H/\(is ρ).ok m λm' xs=>∀ J G' H',Stp pa G H G' H'->Wd PK pa m' G' H'->jw PK pa J G' xs->R J H'
theorem PI.imp {tg iter:Expr} {t t':TI} (h:PI X tg iter t) (q:∀ σ H R,t' σ H R->t σ H R):PI X tg iter t':=λpins s σ H R I z=>h pins s σ H R I (q σ H R z)
noncomputable def dU (g:PyData->List Sl->Option (List Sl)) (s:List Sl->Tr Ou):List PyData->List Sl->Tr Ou
 | [],ρ=>.ret (.next ρ)
 | x::xs,ρ=>(Tr.of (g x ρ)).bind λρ1=>(s ρ1).bind λo=>match o with
  | .next ρ2=>dU g s xs ρ2
  | .cont ρ2=>dU g s xs ρ2
  | .brk ρ2=>.ret (.next ρ2)
  | .ret r=>.ret (.ret r)
noncomputable def dA (is:List Sl->Tr (List PyData)) (g:PyData->List Sl->Option (List Sl)) (s:List Sl->Tr Ou):List Sl->Tr Ou:=λρ=>(is ρ).bind λxs=>dU g s xs ρ
theorem fu {tg iter:Expr} {body:List Stmt} {g:PyData->List Sl->Option (List Sl)} (hp:PassesOwn (model X.prog X.w) X.A X.env X.xe) (hc:X.calm=true) (hi:PI X tg iter (gD PK is)) (hg:PG X tg (gP PK g)) (hb:PSs X body (cr PK s))
  (hs:∀ x,foldedSetIterable iter X.env x=pure x:=by intro _; rfl):PS X (.For tg iter body [] pos) (cr PK (dA is g s)):=(Zh3 hp hc hi hg hb hs).imp λD σ H hz0=>by
 obtain ⟨pa,G₀,H₀,m,ρ,G,R,z⟩:=hz0
 refine ⟨pa,G₀,H₀,m,ρ,G,R,Tr.ok_mono (Tr.ok_bind.mp z) λm1 xs k J G1 H1 s1 w1 jo=>?_⟩
 let W:Nat->Nat->St->Hp->Prop:=λn mm σ H=>mm=xs.length - n/\n<=xs.length/\∃ m ρ G,Sub G1 G/\Rl PK pa G₀ H₀ m σ ρ G H/\(dU g s (xs.drop n) ρ).ok m (Ko PK pa G₀ H₀ G1 D)
 refine ⟨W,⟨xs.length,rfl,Nat.zero_le _,m1,ρ,G1,λ_ _ h=>h,R.step s1 w1,Tr.ok_mono k λ_ _ k'=>Ko.later k' s1.gs⟩,?_⟩
 rintro n mm σ2 H2 ⟨rfl,hn,m2,ρ2,G2,sb,R2,k2⟩
 obtain ⟨j1,j2⟩:=jo m2 G2 H2 sb R2.wd
 by_cases hlt:n < xs.length
 ·have hx:xs[n]?=some xs[n]:=by simp [hlt]
  obtain ⟨jg,jy⟩:=j1 n _ hx
  refine .inr ⟨jg,W (n+1) (xs.length - (n+1)),λσ' H' h'=>⟨_,by omega,h'⟩,λx H3 y=>?_⟩
  obtain ⟨G3,s3,w3,d3⟩:=jy x H3 y
  rw [List.drop_eq_getElem_cons hlt] at k2
  unfold dU at k2
  rw [Tr.ok_bind] at k2
  obtain ⟨ρ3,hg3,k3⟩:=Tr.ok_of k2
  refine ⟨pa,G₀,H₀,m2,ρ2,G3,_,ρ3,R2.step s3 w3,d3,hg3,λσ4 R4=>?_⟩
  refine ⟨pa,G₀,H₀,m2,ρ3,G3,R4,Tr.ok_mono (Tr.ok_bind.mp k3) λm5 o ko=>?_⟩
  have again:∀ ρ5,(dU g s (xs.drop (n+1)) ρ5).ok m5 (Ko PK pa G₀ H₀ G1 D)->∀ σ5 G5 H5,Sub G3 G5->Rl PK pa G₀ H₀ m5 σ5 ρ5 G5 H5->W (n+1) (xs.length - (n+1)) σ5 H5:=λρ5 k5 σ5 G5 H5 sb5 R5 =>
   ⟨rfl,hlt,m5,ρ5,G5,(sb.trans s3.gs).trans sb5,R5,k5⟩
  cases o with
  | next ρ5=>exact again ρ5 ko
  | cont ρ5=>exact again ρ5 ko
  | brk ρ5=>exact λσ5 G5 H5 sb5 R5=>ko σ5 G5 H5 ((sb.trans s3.gs).trans sb5) R5
  | ret r=>exact ko
 ·have e:n=xs.length:=by omega
  subst e
  refine .inl ⟨j2,?_⟩
  rw [List.drop_length] at k2
  exact k2 σ2 G2 H2 sb R2
variable {PK:Pk} {X:Cx} {a b c e:Expr} {es:List Expr} {pos:Pos} {i j l:List Sl->Tr PyData} {is:List Sl->Tr (List PyData)} {as:List Sl->Tr (List Sl)} {f:List Sl->Tr Re} {p q:List Sl->Tr Bool} {st:Stmt} {sts:List Stmt} {s t u:List Sl->Tr Ou}
noncomputable def fm (p:List Sl->Tr Bool) (s:List Sl->Tr Ou):Nat->List Sl->Tr Ou
 | 0,_=>.fail
 | n+1,ρ=>(p ρ).bind λb=>if b=true then (s ρ).bind λo=>match o with
   | .next ρ2=>fm p s n ρ2
   | .cont ρ2=>fm p s n ρ2
   | .brk ρ2=>.ret (.next ρ2)
   | .ret r=>.ret (.ret r)
  else .ret (.next ρ)
theorem uO {body:List Stmt} (n:Nat) (hp:PassesOwn (model X.prog X.w) X.A X.env X.xe) (hc:PT X c (TAt PK p)) (hb:PSs X body (cr PK s)):PS X (.While c body [] pos) (cr PK (fm p s n)):=(ZhY hp hc hb).imp λD σ H hz0=>by
 obtain ⟨pa,G₀,H₀,m,ρ,G,R,z⟩:=hz0
 let W:Nat->St->Hp->Prop:=λn σ H=>∃ m ρ G1,Sub G G1/\Rl PK pa G₀ H₀ m σ ρ G1 H/\(fm p s n ρ).ok m (Ko PK pa G₀ H₀ G D)
 refine ⟨W,⟨n,m,ρ,G,.refl,R,z⟩,?_⟩
 rintro n σ2 H2 ⟨m2,ρ2,G2,sb,R2,k2⟩
 cases n with
 | zero=>exact k2.elim
 | succ n =>
  unfold fm at k2
  refine TAt.then R2 k2 λm3 x G3 H3 s3 w3 R3 k3=>?_
  cases x with
  | false =>
   rw [if_neg Bool.false_ne_true] at k3 ⊢
   exact k3 σ2 G3 H3 (sb.trans s3.gs) R3
  | true =>
   rw [if_pos rfl] at k3 ⊢
   refine ⟨W n,λσ' H' h=>⟨n,by omega,h⟩,pa,G₀,H₀,m3,ρ2,G3,R3,Tr.ok_mono (Tr.ok_bind.mp k3) λm4 o ko=>?_⟩
   have again:∀ ρ5,(fm p s n ρ5).ok m4 (Ko PK pa G₀ H₀ G D)->∀ σ5 G5 H5,Sub G3 G5->Rl PK pa G₀ H₀ m4 σ5 ρ5 G5 H5->W n σ5 H5:=λρ5 k5 σ5 G5 H5 sb5 R5 =>
    ⟨m4,ρ5,G5,(sb.trans s3.gs).trans sb5,R5,k5⟩
   cases o with
   | next ρ5=>exact again ρ5 ko
   | cont ρ5=>exact again ρ5 ko
   | brk ρ5=>exact λσ5 G5 H5 sb5 R5=>ko σ5 G5 H5 ((sb.trans s3.gs).trans sb5) R5
   | ret r=>exact ko
noncomputable def uD:Sl->Sl
 | .own _=>.un
 | .dic _=>.un
 | .dip _=>.un
 | s=>s
noncomputable def blk (n:Nat) (ix:List Nat) (ρ:List Sl):List Sl:=List.replicate n .un++ix.map λj=>uD ((ρ[j]?).getD .un)
theorem Rl.blk {pa:Addr} {G₀ H₀ G H:Hp} {m:Ms} {σ:St} {ρ:List Sl} (R:Rl PK pa G₀ H₀ m σ ρ G H) (n:Nat) (ix:List Nat):Rl PK pa G₀ H₀ m (fH n ix σ) (blk n ix ρ) G H:=by
 have key:∀ (k:Nat) (s:Sl),(L2.blk n ix ρ)[k]?=some s->(∃ o,(fH n ix σ)[k]?=some o/\SlOk pa H₀ G H o s)/\(∀ xs,s≠.own xs)/\∀ xs,s≠.dic xs:=λk s h=>by
  unfold L2.blk at h
  unfold fH
  by_cases hk:k < n
  ·rw [List.getElem?_append_left (by simpa using hk),List.getElem?_replicate,if_pos hk] at h
   rw [List.getElem?_append_left (by simpa using hk),List.getElem?_replicate,if_pos hk]
   cases h
   exact ⟨⟨_,rfl,.un⟩,(λxs h=>by cases h),λxs h=>by cases h⟩
  ·rw [List.getElem?_append_right (by simpa using Nat.le_of_not_lt hk),List.length_replicate,List.getElem?_map] at h
   rw [List.getElem?_append_right (by simpa using Nat.le_of_not_lt hk),List.length_replicate,List.getElem?_map]
   cases hj:ix[k - n]? with
   | none=>rw [hj] at h; cases h
   | some j =>
    rw [hj] at h
    have h':uD ((ρ[j]?).getD .un)=s:=Option.some.inj h
    subst h'
    show (∃ o,some ((σ[j]?).getD none)=some o/\_)/\_
    cases hr:ρ[j]? with
    | none=>exact ⟨⟨_,rfl,.un⟩,(λxs h=>by cases h),λxs h=>by cases h⟩
    | some s' =>
     obtain ⟨o,h1,h2⟩:=R.sl j s' hr
     rw [h1]
     cases h2 with
     | un=>exact ⟨⟨_,rfl,.un⟩,(λxs h=>by cases h),λxs h=>by cases h⟩
     | d z=>exact ⟨⟨_,rfl,.d z⟩,(λxs h=>by cases h),λxs h=>by cases h⟩
     | own _ _ _ _=>exact ⟨⟨_,rfl,.un⟩,(λxs h=>by cases h),λxs h=>by cases h⟩
     | dic _ _ _ _=>exact ⟨⟨_,rfl,.un⟩,(λxs h=>by cases h),λxs h=>by cases h⟩
     | dip _ _ _ _=>exact ⟨⟨_,rfl,.un⟩,(λxs h=>by cases h),λxs h=>by cases h⟩
     | pen=>exact ⟨⟨_,rfl,.pen⟩,(λxs h=>by cases h),λxs h=>by cases h⟩
     | fn=>exact ⟨⟨_,rfl,.fn⟩,(λxs h=>by cases h),λxs h=>by cases h⟩
     | pr z9=>exact ⟨⟨_,rfl,.pr z9⟩,(λxs h=>by cases h),λxs h=>by cases h⟩
 refine ⟨R.wd,R.st,R.p0,λk s h=>(key k s h).1,?_,λk n' xs ys _ h1 _=>absurd rfl ((key k _ h1).2.1 xs),λk n' xs ys _ h1 _=>absurd rfl ((key k _ h1).2.2 xs)⟩
 unfold L2.blk fH
 simp
noncomputable def iD (n:Nat) (g:PyData->List Sl->Option (List Sl)):Prop:=∀ x ρ ρ',g x ρ=some ρ'->ρ'.length=ρ.length/\∀ k,n<=k->ρ'[k]?=ρ[k]?
noncomputable def qJ (n:Nat) (g:List PyData->List Sl->Option (List Sl)):Prop:=∀ x ρ ρ',g x ρ=some ρ'->ρ'.length=ρ.length/\∀ k,n<=k->ρ'[k]?=ρ[k]?
theorem f8 {n k:Nat} (h:k < n):iD n (bE k):=λx ρ ρ' e=>by
 cases e
 exact ⟨List.length_set,λj hj=>List.getElem?_set_ne (by omega)⟩
theorem sM {n:Nat}:qJ n cG:=λx ρ ρ' e=>by
 cases x with
 | nil=>cases e; exact ⟨rfl,λ_ _=>rfl⟩
 | cons _ _=>cases e
theorem je {n:Nat} {g:PyData->List Sl->Option (List Sl)} {gs:List PyData->List Sl->Option (List Sl)} (h1:iD n g) (h2:qJ n gs):qJ n (bJ g gs):=λx ρ ρ' e=>by
 cases x with
 | nil=>cases e
 | cons x xs =>
  have e':(g x ρ).bind (λρ'=>gs xs ρ')=some ρ':=e
  cases h:g x ρ with
  | none=>rw [h] at e'; cases e'
  | some ρ1 =>
   rw [h] at e'
   obtain ⟨a1,a2⟩:=h1 x ρ ρ1 h
   obtain ⟨b1,b2⟩:=h2 xs ρ1 ρ' e'
   exact ⟨b1.trans a1,λk hk=>(b2 k hk).trans (a2 k hk)⟩
theorem sL {n:Nat} {gs:List PyData->List Sl->Option (List Sl)} (h2:qJ n gs):iD n (cI gs):=λx ρ ρ' e=>by
 cases x with
 | tuple xs=>exact h2 xs ρ ρ' e
 | _=>cases e
noncomputable def c8 (h:PyData->Tr PyData):List PyData->Tr (List PyData)
 | []=>.ret []
 | x::xs=>(h x).bind λy=>(c8 h xs).bind λys=>.ret (y::ys)
noncomputable def hZ (is:List Sl->Tr (List PyData)) (n:Nat) (ix:List Nat) (g:PyData->List Sl->Option (List Sl)) (el:List Sl->Tr PyData):List Sl->Tr (List PyData):=λρ =>
 (is ρ).bind λxs=>if small xs.length=true then c8 (λx=>(Tr.of (g x (blk n ix ρ))).bind el) xs else .fail
theorem Rl.weak {pa:Addr} {G₀ H₀ G H:Hp} {m:Ms} {σ:St} {ρ ρ':List Sl} (R:Rl PK pa G₀ H₀ m σ ρ' G H) (hl:ρ'.length=ρ.length) (h:∀ (k:Nat) (s:Sl),ρ[k]?=some s->s=.un\/ρ'[k]?=some s):Rl PK pa G₀ H₀ m σ ρ G H:=by
 refine ⟨R.wd,R.st,R.p0,λk s hk=>?_,hl.symm.trans R.len,λk n xs ys hkn h1 h2=>?_,λk n xs ys hkn h1 h2=>?_⟩
 ·rcases h k s hk with e | e
  ·subst e
   have hlt:k < σ.length:=by
    rw [<- R.len,hl]
    exact (List.getElem?_eq_some_iff.mp hk).1
   exact ⟨σ[k],by simp [hlt],.un⟩
  ·exact R.sl k s e
 ·rcases h k _ h1 with e | e
  ·cases e
  ·rcases h n _ h2 with e' | e'
   ·cases e'
   ·exact R.dj k n xs ys hkn e e'
 ·rcases h k _ h1 with e | e
  ·cases e
  ·rcases h n _ h2 with e' | e'
   ·cases e'
   ·exact R.dj2 k n xs ys hkn e e'
theorem Zdc {n:Nat} {ix:List Nat} {g:PyData->List Sl->Option (List Sl)} (hn:iD n g):∀ σ H Q,gC PK (hZ is n ix g i) σ H Q->jC (gD PK is) n ix (λ_=>gP PK g) (λ_=>TAe PK i) σ H Q:=by
 rintro σ H Q ⟨pa,G₀,H₀,m,ρ,G,R,z⟩
 refine ⟨pa,G₀,H₀,m,ρ,G,R,Tr.ok_mono (Tr.ok_bind.mp z) λm1 xs k J G1 H1 s1 w1 jo=>λB=>?_⟩
 obtain ⟨hs,k⟩:=fU k
 have hs:xs.length<=sizeLine:=of_decide_eq_true hs
 let el:PyData->Tr PyData:=λx=>(Tr.of (g x (blk n ix ρ))).bind i
 let W:Nat->Nat->St->List V->Hp->Prop:=λk mm τ ys H2=>mm=xs.length - k/\k<=xs.length/\ys.length=k/\∃ m G2 ds,Sub G1 G2/\Stp pa G H G2 H2/\Rl PK pa G₀ H₀ m τ (blk n ix ρ) G2 H2 /\
  DnAll G2 ys ds/\(c8 el (xs.drop k)).ok m λm' zs=>Ko1 PK pa m' G H (ds++zs) Q
 refine ⟨W,⟨xs.length,rfl,Nat.zero_le _,rfl,m1,G1,[],.refl,s1,(R.step s1 w1).blk n ix,.nil,k⟩,?_⟩
 rintro k mm τ ys H2 ⟨rfl,hk,hy,m2,G2,ds,sb,st2,R2,dn,k2⟩
 obtain ⟨j1,j2⟩:=jo m2 G2 H2 sb R2.wd
 by_cases hlt:k < xs.length
 ·have hx:xs[k]?=some xs[k]:=by simp [hlt]
  obtain ⟨jg,jy⟩:=j1 k _ hx
  refine .inr ⟨jg,by omega,λx H3 y=>?_⟩
  obtain ⟨G3,s3,w3,d3⟩:=jy x H3 y
  rw [List.drop_eq_getElem_cons hlt] at k2
  unfold c8 at k2
  rw [Tr.ok_bind,Tr.ok_bind] at k2
  obtain ⟨ρ3,hg3,k3⟩:=Tr.ok_of k2
  refine ⟨pa,G₀,H₀,m2,_,G3,_,ρ3,R2.step s3 w3,d3,hg3,λτ4 R4=>?_⟩
  refine ⟨pa,G₀,H₀,m2,ρ3,G3,R4,Tr.ok_mono k3 λm5 yd k5=>?_⟩
  intro v G5 H5 s5 w5 d5
  have s35:=s3.trans s5 w3.some
  obtain ⟨pl,pk⟩:=hn _ _ _ hg3
  refine ⟨xs.length - (k+1),by omega,rfl,hlt,by rw [List.length_append,hy]; rfl,m5,G5,ds++[yd],sb.trans s35.gs,st2.trans s35 R2.wd.some,?_,(DnAll.mono s35.gs dn).snoc d5,?_⟩
  ·refine (R4.step s5 w5).weak pl λq sl hq=>?_
   by_cases hqn:q < n
   ·left
    unfold blk at hq
    rw [List.getElem?_append_left (by simpa using hqn),List.getElem?_replicate,if_pos hqn] at hq
    cases hq
    rfl
   ·right
    rw [pk q (Nat.le_of_not_lt hqn)]
    exact hq
  ·refine Tr.ok_mono (Tr.ok_bind.mp k5) λm6 zs k6=>?_
   rw [List.append_assoc]
   exact k6
 ·have e:k=xs.length:=by omega
  subst e
  refine .inl ⟨j2,λp v H' hp ev eH=>?_⟩
  subst ev eH
  rw [List.drop_length] at k2
  have k2':Ko1 PK pa m2 G H (ds++[]) Q:=k2
  rw [List.append_nil] at k2'
  exact (Ko1.later k2' st2 R2.wd.some).new R2.wd dn hp
theorem lM {n:Nat} {ix:List Nat} {g:PyData->List Sl->Option (List Sl)} (h:PE X e (jC (gD PK is) n ix (λ_=>gP PK g) (λ_=>TAe PK i))) (hn:iD n g):PE X e (gC PK (hZ is n ix g i)):=h.imp (Zdc hn)
theorem Zgq {te te':TE} {g:TG} (h:∀ σ H Q,te' σ H Q->te σ H Q):∀ D σ H,ig te' g D σ H->ig te g D σ H:=λD σ H z=>h σ H _ z
noncomputable def nk:Ou->Tr Re
 | .next _=>.ret (.d .none)
 | .ret r=>.ret r
 | _=>.fail
noncomputable def cg (n k:Nat) (s:List Sl->Tr Ou):List Sl->Tr Re:=λas=>if decide (as.length=n)=true then (s (as++List.replicate k .un)).bind nk else .fail
theorem Rl.start {pa:Addr} {G H:Hp} {m:Ms} {N:List Str} {vs:List V} {as:List Sl} {k:Nat} (w:Wd PK pa m G H) (ar:ArsOk pa G vs as) (hk:N.length - vs.length=k):Rl PK pa G H m (L2.start N vs) (as++List.replicate k .un) G H:=by
 have key:∀ {vs:List V} {as:List Sl},ArsOk pa G vs as->∀ (q:Nat) (s:Sl),as[q]?=some s->(∃ o,(vs.map some)[q]?=some o/\SlOk pa H G H o s)/\(∀ xs,s≠.own xs)/\∀ xs,s≠.dic xs:=by
  intro vs as h
  induction h with
  | nil=>intro q s h; simp at h
  | cons h1 h2 ih =>
   intro q s h
   cases q with
   | zero =>
    simp at h
    subst h
    cases h1 with
    | d z=>exact ⟨⟨_,rfl,.d z⟩,(λxs h=>by cases h),λxs h=>by cases h⟩
    | pen=>exact ⟨⟨_,rfl,.pen⟩,(λxs h=>by cases h),λxs h=>by cases h⟩
    | fn=>exact ⟨⟨_,rfl,.fn⟩,(λxs h=>by cases h),λxs h=>by cases h⟩
   | succ q =>
    obtain ⟨⟨o,p1,p2⟩,p3⟩:=ih q s (by simpa using h)
    exact ⟨⟨o,by simpa using p1,p2⟩,p3⟩
 have hl:=ar.length
 have key2:∀ (q:Nat) (s:Sl),(as++List.replicate k .un)[q]?=some s->(∃ o,(L2.start N vs)[q]?=some o/\SlOk pa H G H o s)/\(∀ xs,s≠.own xs)/\∀ xs,s≠.dic xs:=λq s h=>by
  unfold L2.start
  by_cases hq:q < as.length
  ·rw [List.getElem?_append_left hq] at h
   rw [List.getElem?_append_left (by rw [List.length_map,hl]; exact hq)]
   exact key ar q s h
  ·rw [List.getElem?_append_right (by omega),List.getElem?_replicate] at h
   rw [List.getElem?_append_right (by rw [List.length_map]; omega),List.getElem?_replicate,List.length_map,hl]
   split at h
   ·rename_i hq2
    cases h
    rw [if_pos (by omega)]
    exact ⟨⟨_,rfl,.un⟩,(λxs h=>by cases h),λxs h=>by cases h⟩
   ·cases h
 refine ⟨w,.refl,w.some,λq s h=>(key2 q s h).1,?_,λq n xs ys _ h1 _=>absurd rfl ((key2 q _ h1).2.1 xs),λq n xs ys _ h1 _=>absurd rfl ((key2 q _ h1).2.2 xs)⟩
 unfold L2.start
 simp [hl,hk]
 omega
theorem cZ {P:Program} {w:World} {K:PySem.W.Frag} {mg:Str->Option Value} {base:Heap} {x:Str} {N ps:List Str} {kk k:Nat} (D:Def K mg x st ps) (S:FnScope N ps (bM st)) (hk:N.length - ps.length=k)
  (hbody:∀ (f:Addr) (cdv:Value) (A:Around) (outer:List Env) (sh:Shared) (H:Hp) (E:XK),Room kk (A.deeper (envOfC x (bM st) sh.heap.objs.size f cdv)) ->
   PSs (fG fZ P w K mg base N x (bM st) f cdv A outer sh H E).nox (fF st) (cr PK s)):ACal PK P w K mg base x (kk+1) ps (cg ps.length k s):=by
 have len:∀ as m Z,(cg ps.length k s as).ok m Z->as.length=ps.length:=λas m Z h=>by
  unfold cg at h
  exact of_decide_eq_true (fU h).1
 refine ⟨D.ok S (λvs H Q E h=>h.1) λf cdv A outer sh H vs Q E hr hsp=>?_,len⟩
 obtain ⟨hv,pa,m,G,as,wd,ar,z⟩:=hsp
 refine ⟨_,hbody f cdv A outer sh H E hr,?_⟩
 unfold cg at z
 obtain ⟨_,z⟩:=fU z
 refine ⟨pa,G,H,m,_,G,Rl.start wd ar (by rw [hv]; exact hk),Tr.ok_mono (Tr.ok_bind.mp z) λm1 o ko=>?_⟩
 cases o with
 | next ρ=>exact λσ G1 H1 sb R1=>ko .non G1 H1 R1.st R1.wd .non
 | ret r=>exact ko
 | brk ρ=>exact ko.elim
 | cont ρ=>exact ko.elim
theorem Zia {tg l:Expr} {tl:TE} (hl:PE X l tl):PI X tg l (λσ H R=>tl σ H λx H1=>∃ a,x=.ref a/\((∃ xs,SqL X.K H1 a xs/\R (qQ X.K a) H1)\/(∃ xs,SqT X.K H1 a xs/\R (vk X.K a) H1))):=by
 intro pins s σ H R I h
 refine thn (hl pins s σ H _ I h) λv s1 hz0=>?_
 obtain ⟨x,H1,I1,r1,q1⟩:=hz0
 obtain ⟨a,e,q⟩:=q1
 subst e
 cases r1
 rcases q with ⟨xs,hq,q⟩ | ⟨xs,hq,q⟩
 ·obtain ⟨its,rv,p,hz⟩:=I1.list hq
  refine wpAny_pyIter_list p.isList ?_
  refine ⟨s1.heap.objs.size,[s1.heap.objs.size],_,_,H1,rfl,I1.kept (t':=s1.toks) λb o e=>Heap.get?_push_of_some _ e,Zas a _,⟨_,Heap.get?_push_size _ rfl,rfl,rfl⟩,λb hb=>?_,q⟩
  have e:b=s1.heap.objs.size:=by simpa using hb
  subst e
  exact I1.fpOk (Nat.le_refl _) (I1.hok.fresh (Nat.le_refl _))
 ·obtain ⟨its,rv,p,hz⟩:=I1.tuple hq
  refine wpAny_pyIter_tuple (show s1.heap.IsTuple a its.toArray from p) ?_
  refine ⟨s1.heap.objs.size,[s1.heap.objs.size],_,_,H1,rfl,I1.kept (t':=s1.toks) λb o e=>Heap.get?_push_of_some _ e,ZfU a _,⟨_,Heap.get?_push_size _ rfl,rfl,rfl⟩,λb hb=>?_,q⟩
  have e:b=s1.heap.objs.size:=by simpa using hb
  subst e
  exact I1.fpOk (Nat.le_refl _) (I1.hok.fresh (Nat.le_refl _))
theorem DnAll.get {H:Hp}:∀ {vs:List V} {ds:List PyData} (n:Nat) {d:PyData},DnAll H vs ds->ds[n]?=some d->∃ v,vs[n]?=some v/\Dn H v d
 | _,_,_,_,.nil,e=>by simp at e
 | _,_,0,_,.cons g t,e=>by simp at e; subst e; exact ⟨_,rfl,g⟩
 | _,_,n+1,_,.cons g t,e=>by
  obtain ⟨v,h1,h2⟩:=DnAll.get n t (by simpa using e)
  exact ⟨v,by simpa using h1,h2⟩
theorem ZjU {K:PySem.W.Frag} {pa a:Addr} {G:Hp} {vs:List V} {xs:List PyData} (h:G a=some (.lst vs)) (d:DnAll G vs xs):jw PK pa (qQ K a) G xs:=λm G2 H2 sb w=>by
 have hq:SqL K H2 a vs:=SqL.of (w.sub _ _ (sb _ _ h))
 refine ⟨λn x hx=>?_,vs,hq,by rw [d.length]; exact Nat.le_refl _⟩
 obtain ⟨v,hv,dv⟩:=d.get n hx
 refine ⟨⟨vs,v,hq,hv⟩,λy H3 hz0=>?_⟩
 obtain ⟨e,hy⟩:=hz0
 subst e
 have:=hy vs hq
 rw [hv] at this
 cases this
 exact ⟨G2,.refl,w,dv.mono sb⟩
theorem ZjS {K:PySem.W.Frag} {pa a:Addr} {G:Hp} {vs:List V} {xs:List PyData} (h:G a=some (.tup vs)) (d:DnAll G vs xs):jw PK pa (vk K a) G xs:=λm G2 H2 sb w=>by
 have hq:SqT K H2 a vs:=SqT.of (w.sub _ _ (sb _ _ h))
 refine ⟨λn x hx=>?_,vs,hq,by rw [d.length]; exact Nat.le_refl _⟩
 obtain ⟨v,hv,dv⟩:=d.get n hx
 refine ⟨⟨vs,v,hq,hv⟩,λy H3 hz0=>?_⟩
 obtain ⟨e,hy⟩:=hz0
 subst e
 have:=hy vs hq
 rw [hv] at this
 cases this
 exact ⟨G2,.refl,w,dv.mono sb⟩
noncomputable def fN:PyData->Option (List PyData)
 | .list xs=>some xs
 | .tuple xs=>some xs
 | _=>none
@[simp] theorem Zqb (xs:List PyData):fN (.list xs)=some xs:=rfl
@[simp] theorem Zqa (xs:List PyData):fN (.tuple xs)=some xs:=rfl
noncomputable def gf (i:List Sl->Tr PyData):List Sl->Tr (List PyData):=λρ=>(i ρ).bind λx=>Tr.of (fN x)
theorem iy {tg l:Expr} (hl:PE X l (TAe PK i)):PI X tg l (gD PK (gf i)):=(Zia hl).imp λσ H R0 hz0=>by
 obtain ⟨pa,G₀,H₀,m,ρ,G,R,z⟩:=hz0
 refine TAe.then R z λm1 x v G1 H1 s1 w1 R1 d1 q1=>?_
 obtain ⟨xs,hx,q1⟩:=Tr.ok_of q1
 cases d1 with
 | lst h1 h2=>cases hx; exact ⟨_,rfl,.inl ⟨_,SqL.of (w1.sub _ _ h1),q1 _ G1 H1 s1 w1 (ZjU h1 h2)⟩⟩
 | tup h1 h2=>cases hx; exact ⟨_,rfl,.inr ⟨_,SqT.of (w1.sub _ _ h1),q1 _ G1 H1 s1 w1 (ZjS h1 h2)⟩⟩
 | _=>cases hx
noncomputable def cB (lo hi:Int):List PyData:=(eE lo (hi - lo).toNat).map PyData.int
theorem Zdk {pa:Addr} {G:Hp} {lo:Int} {n:Nat}:jw PK pa (kq lo n) G ((eE lo n).map PyData.int):=λm G2 H2 sb w=>by
 refine ⟨λk x hx=>?_,by show n<=_; rw [List.length_map,mE]; exact Nat.le_refl _⟩
 have hk:k < n:=by
  have:=(List.getElem?_eq_some_iff.mp hx).1
  rwa [List.length_map,mE] at this
 refine ⟨hk,λy H3 hz0=>?_⟩
 obtain ⟨e1,e2⟩:=hz0
 subst e1 e2
 have:x=.int (lo+k):=by
  unfold eE at hx
  simp [hk] at hx
  exact hx.symm
 subst this
 exact ⟨G2,.refl,w,.int _⟩
noncomputable def iR (n:Int):Bool:=decide (-(2 ^ 62)<=n/\n < 2 ^ 62)
noncomputable def kH:List PyData->Option (List PyData)
 | [.int n]=>if iR n=true then some (cB 0 n) else none
 | _=>none
noncomputable def mC:List PyData->Option (List PyData)
 | [.int k,.int n]=>if (iR k && iR n)=true then some (cB k n) else none
 | _=>none
noncomputable def iW (is:List Sl->Tr (List PyData)):List Sl->Tr (List PyData):=λρ=>(is ρ).bind λxs=>Tr.of (kH xs)
noncomputable def u7 (is:List Sl->Tr (List PyData)):List Sl->Tr (List PyData):=λρ=>(is ρ).bind λxs=>Tr.of (mC xs)
theorem ZbR {G:Hp} {vs:List V} {xs ys:List PyData} (d:DnAll G vs xs) (h:kH xs=some ys):∃ n:Int,vs=[.int n]/\-(2 ^ 62)<=n/\n < 2 ^ 62/\ys=cB 0 n:=by
 unfold kH at h
 split at h
 ·rename_i n
  split at h
  ·rename_i hn
   cases h
   cases d with
   | cons d1 d2 =>
    cases d2
    cases d1
    have:=of_decide_eq_true hn
    exact ⟨n,rfl,this.1,this.2,rfl⟩
  ·cases h
 ·cases h
theorem Zhz {G:Hp} {vs:List V} {xs ys:List PyData} (d:DnAll G vs xs) (h:mC xs=some ys):∃ k n:Int,vs=[.int k,.int n]/\(-(2 ^ 62)<=k/\k < 2 ^ 62/\-(2 ^ 62)<=n/\n < 2 ^ 62)/\ys=cB k n:=by
 unfold mC at h
 split at h
 ·rename_i k n
  split at h
  ·rename_i hn
   cases h
   cases d with
   | cons d1 d2 =>
    cases d2 with
    | cons d2 d3 =>
     cases d3
     cases d1
     cases d2
     rw [Bool.and_eq_true] at hn
     have h1:=of_decide_eq_true hn.1
     have h2:=of_decide_eq_true hn.2
     exact ⟨k,n,rfl,⟨h1.1,h1.2,h2.1,h2.2⟩,rfl⟩
  ·cases h
 ·cases h
theorem j8 {tg e:Expr} (h:PI X tg e (Zdv (TAd PK is))):PI X tg e (gD PK (iW is)):=h.imp λσ H R0 hz0=>by
 obtain ⟨pa,G₀,H₀,m,ρ,G,R,z⟩:=hz0
 refine TAd.then R z λm1 xs vs G1 H1 s1 w1 R1 d1 q1=>?_
 obtain ⟨ys,hy,q1⟩:=Tr.ok_of q1
 obtain ⟨n,e,h1,h2,rfl⟩:=ZbR d1 hy
 refine ⟨n,e,h1,h2,?_⟩
 have q:=q1 (kq 0 n.toNat) G1 H1 s1 w1
 unfold cB at q
 rw [Int.sub_zero] at q
 exact q Zdk
theorem Zpf {tg e:Expr} (h:PI X tg e (Zdu (TAd PK is))):PI X tg e (gD PK (u7 is)):=h.imp λσ H R0 hz0=>by
 obtain ⟨pa,G₀,H₀,m,ρ,G,R,z⟩:=hz0
 refine TAd.then R z λm1 xs vs G1 H1 s1 w1 R1 d1 q1=>?_
 obtain ⟨ys,hy,q1⟩:=Tr.ok_of q1
 obtain ⟨k,n,e,h1,rfl⟩:=Zhz d1 hy
 exact ⟨k,n,e,h1,q1 (kq k (n - k).toNat) G1 H1 s1 w1 Zdk⟩
variable {PK:Pk} {X:Cx} {a b c e:Expr} {es:List Expr} {pos:Pos} {i j l:List Sl->Tr PyData} {is:List Sl->Tr (List PyData)}
noncomputable def fit (n:Int):Bool:=decide (n.natAbs < 2 ^ 8000)
noncomputable def cN:PyData->PyData->Option PyData
 | .int m,.int n=>some (.int (m+n))
 | .tuple xs,.tuple ys=>if (!xs.isEmpty && small (xs.length+ys.length))=true then some (.tuple (xs++ys)) else none
 | .list xs,.list ys=>if small (xs.length+ys.length)=true then some (.list (xs++ys)) else none
 | _,_=>none
noncomputable def sG (K:PySem.W.Frag):R2:=λx y H Q=>gj (λi j=>.int (i+j)) x y H Q\/Zcg K x y H Q\/Zci x y H Q
theorem dm:OpR X (binaryOp .Add) (sG X.K):=jO.or (ZiM.or ZiO)
theorem dg {K:PySem.W.Frag}:df (sG K) cN:=λPK pa m G H x y dx dy dz Q w hx hy hz k=>by
 unfold cN at hz
 split at hz
 ·cases hz; cases hx; cases hy
  exact .inl ⟨_,_,rfl,rfl,k.here w (.int _)⟩
 ·rename_i xs ys
  split at hz
  ·rename_i hc
   rw [Bool.and_eq_true] at hc
   have h1:xs.isEmpty=false:=by simpa using hc.1
   have h2:xs.length+ys.length<=sizeLine:=of_decide_eq_true hc.2
   cases hz
   cases hx with
   | tup a1 a2 =>
    cases hy with
    | tup b1 b2 =>
     refine .inr (.inl ⟨_,_,_,_,rfl,rfl,SqT.of (w.sub _ _ a1),SqT.of (w.sub _ _ b1),?_,by rw [a2.length,b2.length]; exact h2,λe=>?_,λe p hp=>k.tup w (a2.append b2) hp⟩)
     ·intro e
      rw [<- a2.isEmpty,e] at h1
      cases h1
     ·subst e
      cases b2
      refine k.here w ?_
      rw [List.append_nil]
      exact .tup a1 a2
  ·cases hz
 ·rename_i xs ys
  split at hz
  ·rename_i hc
   have h2:xs.length+ys.length<=sizeLine:=of_decide_eq_true hc
   cases hz
   cases hx with
   | lst a1 a2 =>
    cases hy with
    | lst b1 b2=>exact .inr (.inr ⟨_,_,_,_,rfl,rfl,w.sub _ _ a1,w.sub _ _ b1,by rw [a2.length,b2.length]; exact h2,λp hp=>k.lst w (a2.append b2) hp⟩)
  ·cases hz
 ·cases hz
noncomputable def fL:PyData->PyData->Option PyData
 | .int m,.int n=>some (.int (m - n))
 | _,_=>none
theorem gh:df (gj λi j=>.int (i - j)) fL:=λPK pa m G H x y dx dy dz Q w hx hy hz k=>by
 unfold fL at hz
 split at hz
 ·cases hz; cases hx; cases hy
  exact ⟨_,_,rfl,rfl,k.here w (.int _)⟩
 ·cases hz
theorem DnAll.rep {H:Hp} {vs:List V} {ds:List PyData} (h:DnAll H vs ds):∀ k:Nat,DnAll H (List.replicate k vs).flatten (List.replicate k ds).flatten
 | 0=>.nil
 | k+1=>by
  rw [List.replicate_succ,List.replicate_succ,List.flatten_cons,List.flatten_cons]
  exact h.append (h.rep k)
noncomputable def Zb7 (K:PySem.W.Frag):R2:=λx y H Q=>rI CMulG (λi j=>.int (i * j)) x y H Q\/Zb3 K x y H Q\/sD x y H Q
theorem fS:OpR X (binaryOp .Mult) (Zb7 X.K):=ZiH.or (ZiE.or ZcJ)
noncomputable def fi:PyData->PyData->Option PyData
 | .int m,.int n=>if (fit m && fit n)=true then some (.int (m * n)) else none
 | .tuple xs,.int n=>if (decide (1 < n) && decide (n<=1000) && !xs.isEmpty && decide (xs.length<=1000))=true then some (.tuple (List.replicate n.toNat xs).flatten) else none
 | .list xs,.int n=>if (decide (-(2 ^ 63)<=n) && decide (n < 2 ^ 63) && small (xs.length * n.toNat))=true then some (.list (List.replicate n.toNat xs).flatten) else none
 | _,_=>none
theorem fQ {K:PySem.W.Frag}:df (Zb7 K) fi:=λPK pa m G H x y dx dy dz Q w hx hy hz k=>by
 unfold fi at hz
 split at hz
 ·split at hz
  ·rename_i hc
   rw [Bool.and_eq_true] at hc
   cases hz; cases hx; cases hy
   exact .inl ⟨_,_,rfl,rfl,⟨of_decide_eq_true hc.1,of_decide_eq_true hc.2⟩,k.here w (.int _)⟩
  ·cases hz
 ·split at hz
  ·rename_i hc
   simp only [Bool.and_eq_true,decide_eq_true_eq,Bool.not_eq_true'] at hc
   cases hz; cases hy
   cases hx with
   | tup a1 a2 =>
    refine .inr (.inl ⟨_,_,_,rfl,rfl,SqT.of (w.sub _ _ a1),hc.1.1.1,hc.1.1.2,?_,by rw [a2.length]; exact hc.2,λp hp=>k.tup w (a2.rep _) hp⟩)
    intro e
    have:=hc.1.2
    rw [<- a2.isEmpty,e] at this
    cases this
  ·cases hz
 ·split at hz
  ·rename_i hc
   simp only [Bool.and_eq_true,decide_eq_true_eq] at hc
   cases hz; cases hy
   cases hx with
   | lst a1 a2=>exact .inr (.inr ⟨_,_,_,rfl,rfl,w.sub _ _ a1,hc.1.1,hc.1.2,by rw [a2.length]; exact of_decide_eq_true hc.2,λp hp=>k.lst w (a2.rep _) hp⟩)
  ·cases hz
 ·cases hz
noncomputable def ly:PyData->PyData->Option PyData
 | .int m,.int n=>if (decide (n≠0) && fit n)=true then some (.int (m.fdiv n)) else none
 | _,_=>none
theorem Zan:df (rI Zfj λi j=>.int (i.fdiv j)) ly:=λPK pa m G H x y dx dy dz Q w hx hy hz k=>by
 unfold ly at hz
 split at hz
 ·split at hz
  ·rename_i hc
   rw [Bool.and_eq_true] at hc
   cases hz; cases hx; cases hy
   exact ⟨_,_,rfl,rfl,⟨of_decide_eq_true hc.1,of_decide_eq_true hc.2⟩,k.here w (.int _)⟩
  ·cases hz
 ·cases hz
noncomputable def kW:PyData->PyData->Option PyData
 | .int m,.int n=>if decide (n≠0)=true then some (.int (m.fmod n)) else none
 | _,_=>none
theorem Zal:df (rI (λ_ j=>j≠0) λi j=>.int (i.fmod j)) kW:=λPK pa m G H x y dx dy dz Q w hx hy hz k=>by
 unfold kW at hz
 split at hz
 ·split at hz
  ·rename_i hc
   cases hz; cases hx; cases hy
   exact ⟨_,_,rfl,rfl,of_decide_eq_true hc,k.here w (.int _)⟩
  ·cases hz
 ·cases hz
noncomputable def oJ:PyData->PyData->Option PyData
 | .int m,.int n=>if (decide (0<=n) && decide (n<=1000000) && decide (m.natAbs < 2 ^ 64))=true then some (.int (m ^ n.toNat)) else none
 | _,_=>none
theorem ZfH:df (rI Zfi λi j=>.int (i ^ j.toNat)) oJ:=λPK pa m G H x y dx dy dz Q w hx hy hz k=>by
 unfold oJ at hz
 split at hz
 ·split at hz
  ·rename_i hc
   simp only [Bool.and_eq_true,decide_eq_true_eq] at hc
   cases hz; cases hx; cases hy
   exact ⟨_,_,rfl,rfl,⟨hc.1.1,hc.1.2,hc.2⟩,k.here w (.int _)⟩
  ·cases hz
 ·cases hz
noncomputable def iY (i:List Sl->Tr PyData):List Sl->Tr PyData:=λρ=>(i ρ).bind λx=>match x with
 | .int n=>.ret (.int (-n))
 | _=>.fail
theorem lO (ha:PE X a (TAe PK i)):PE X (.UnaryOp .USub a pos) (TAe PK (iY i)):=(Zii ZfP ha).imp λσ H Q hz0=>by
 obtain ⟨pa,G₀,H₀,m,ρ,G,R,z⟩:=hz0
 refine TAe.then R z λm1 x v G1 H1 s1 w1 R1 d1 q1=>?_
 cases d1 with
 | int n=>exact ⟨n,rfl,(Kn.later q1 s1 w1.some).here w1 (.int _)⟩
 | _=>exact q1.elim
noncomputable def gw (f:Int->Int->Bool):PyData->PyData->Option PyData
 | .int m,.int n=>some (.bool (f m n))
 | _,_=>none
theorem ie {f:Int->Int->Bool}:df (gj λi j=>.bl (f i j)) (gw f):=λPK pa m G H x y dx dy dz Q w hx hy hz k=>by
 unfold gw at hz
 split at hz
 ·cases hz; cases hx; cases hy
  exact ⟨_,_,rfl,rfl,k.here w (.bl _)⟩
 ·cases hz
noncomputable def hV:PyData->PyData->Option PyData
 | .str m,.str n=>some (.bool (m == n))
 | x,y=>if (SeqAt.shaped x && SeqAt.shaped y)=true then some (.bool (PyData.eqv x y)) else none
noncomputable def gY:PyData->PyData->Option PyData
 | .str m,.str n=>some (.bool (!(m == n)))
 | x,y=>if (SeqAt.shaped x && SeqAt.shaped y)=true then some (.bool (!PyData.eqv x y)) else none
noncomputable def Zce:R2:=λx y H Q=>rEq x y H Q\/∃ d e,Dn H x d/\Dn H y e/\SeqAt.shaped d=true/\SeqAt.shaped e=true/\Q (.bl (PyData.eqv d e)) H
noncomputable def Zb5:R2:=λx y H Q=>rNe x y H Q\/∃ d e,Dn H x d/\Dn H y e/\SeqAt.shaped d=true/\SeqAt.shaped e=true/\Q (.bl (!PyData.eqv d e)) H
theorem jf {k:Nat} (hr:Room k X.A):OpR X (compareOp .Eq) Zce:=ZiL.or (ZiK hr)
theorem kP {k:Nat} (hr:Room k X.A):OpR X (compareOp .NotEq) Zb5:=ZiG.or (ZcK hr)
theorem i7:df Zce hV:=λPK pa m G H x y dx dy dz Q w hx hy hz k=>by
 unfold hV at hz
 split at hz
 ·cases hz; cases hx; cases hy
  exact .inl ⟨rfl,by rw [pY]; exact k.here w (.bl _)⟩
 ·split at hz
  ·rename_i hc
   rw [Bool.and_eq_true] at hc
   cases hz
   exact .inr ⟨_,_,hx.mono w.sub,hy.mono w.sub,hc.1,hc.2,k.here w (.bl _)⟩
  ·cases hz
theorem kz:df Zb5 gY:=λPK pa m G H x y dx dy dz Q w hx hy hz k=>by
 unfold gY at hz
 split at hz
 ·cases hz; cases hx; cases hy
  exact .inl ⟨rfl,by rw [pY]; exact k.here w (.bl _)⟩
 ·split at hz
  ·rename_i hc
   rw [Bool.and_eq_true] at hc
   cases hz
   exact .inr ⟨_,_,hx.mono w.sub,hy.mono w.sub,hc.1,hc.2,k.here w (.bl _)⟩
  ·cases hz
noncomputable def iq:PyData->Bool
 | .none=>true
 | _=>false
noncomputable def nc:PyData->PyData->Option PyData:=λx y=>if iq y=true then some (.bool (iq x)) else none
noncomputable def li:PyData->PyData->Option PyData:=λx y=>if iq y=true then some (.bool (!iq x)) else none
theorem Dn.no {G:Hp} {v:V} {x:PyData} (h:Dn G v x):decide (v=.non)=iq x:=by
 cases h <;> simp [iq]
theorem Zam:df (λx y H Q=>y=.non/\Q (.bl (decide (x=.non))) H) nc:=λPK pa m G H x y dx dy dz Q w hx hy hz k=>by
 unfold nc at hz
 split at hz
 ·rename_i hc
  cases hz
  refine ⟨?_,by rw [hx.no]; exact k.here w (.bl _)⟩
  rw [<- hy.no] at hc
  exact of_decide_eq_true hc
 ·cases hz
theorem rj:df (λx y H Q=>y=.non/\Q (.bl (!decide (x=.non))) H) li:=λPK pa m G H x y dx dy dz Q w hx hy hz k=>by
 unfold li at hz
 split at hz
 ·rename_i hc
  cases hz
  refine ⟨?_,by rw [hx.no]; exact k.here w (.bl _)⟩
  rw [<- hy.no] at hc
  exact of_decide_eq_true hc
 ·cases hz
noncomputable def bT:PyData->PyData->Option PyData
 | .list xs,.int n=>cR xs n
 | .tuple xs,.int n=>cR xs n
 | _,_=>none
theorem DnAll.at {H:Hp} {vs:List V} {ds:List PyData} {n:Int} {d:PyData} (h:DnAll H vs ds) (e:cR ds n=some d):∃ v,cR vs n=some v/\Dn H v d:=by
 unfold cR at e ⊢
 rw [<- h.length] at e
 cases hn:gu vs.length n with
 | none=>rw [hn] at e; cases e
 | some j =>
  rw [hn] at e
  exact h.get j e
theorem ci {K:PySem.W.Frag}:df (rIx K) bT:=λPK pa m G H x y dx dy dz Q w hx hy hz k=>by
 unfold bT at hz
 split at hz
 ·cases hy
  cases hx with
  | lst a1 a2 =>
   obtain ⟨v,h1,h2⟩:=a2.at hz
   exact .inl ⟨_,_,_,v,rfl,rfl,SqL.of (w.sub _ _ a1),h1,k.here w h2⟩
 ·cases hy
  cases hx with
  | tup a1 a2 =>
   obtain ⟨v,h1,h2⟩:=a2.at hz
   exact .inr (.inl ⟨_,_,_,v,rfl,rfl,SqT.of (w.sub _ _ a1),h1,k.here w h2⟩)
 ·cases hz
noncomputable def iO:List PyData->Option PyData
 | [.list xs]=>some (.int xs.length)
 | [.tuple xs]=>some (.int xs.length)
 | _=>none
theorem nZ {K:PySem.W.Frag}:iZ (λxs H Q=>∃ p ys,xs=[.ref p]/\(SqL K H p ys\/SqT K H p ys)/\Q (.int ys.length) H) iO:=λPK pa m G H vs ds d Q w hv hd k=>by
 unfold iO at hd
 split at hd
 ·cases hd
  cases hv with
  | cons h1 h2 =>
   cases h2
   cases h1 with
   | lst a1 a2=>exact ⟨_,_,rfl,.inl (SqL.of (w.sub _ _ a1)),by rw [a2.length]; exact k.here w (.int _)⟩
 ·cases hd
  cases hv with
  | cons h1 h2 =>
   cases h2
   cases h1 with
   | tup a1 a2=>exact ⟨_,_,rfl,.inr (SqT.of (w.sub _ _ a1)),by rw [a2.length]; exact k.here w (.int _)⟩
 ·cases hd
noncomputable def qr (n:Int):Int:=if n < 0 then -n else n
noncomputable def lP:List PyData->Option PyData
 | [.int n]=>some (.int (qr n))
 | _=>none
theorem rm:iZ (λxs H Q=>∃ i,xs=[.int i]/\Q (.int (if i < 0 then -i else i)) H) lP:=λPK pa m G H vs ds d Q w hv hd k=>by
 unfold lP at hd
 split at hd
 ·cases hd
  cases hv with
  | cons h1 h2=>cases h2; cases h1; exact ⟨_,rfl,k.here w (.int _)⟩
 ·cases hd
noncomputable def gL (m n:Int):Int:=if n > m then n else m
noncomputable def mT:List PyData->Option PyData
 | [.int m,.int n]=>some (.int (gL m n))
 | _=>none
theorem Zao:iZ (λxs H Q=>∃ i j,xs=[.int i,.int j]/\Q (.int (if j > i then j else i)) H) mT:=λPK pa m G H vs ds d Q w hv hd k=>by
 unfold mT at hd
 split at hd
 ·cases hd
  cases hv with
  | cons h1 h2=>cases h2 with | cons h2 h3=>cases h3; cases h1; cases h2; exact ⟨_,_,rfl,k.here w (.int _)⟩
 ·cases hd
noncomputable def jq:List PyData->Option PyData
 | [.int n]=>some (.int n)
 | [.bool n]=>some (.int (if n then 1 else 0))
 | _=>none
theorem rk:iZ (λxs H Q=>(∃ i,xs=[.int i]/\Q (.int i) H)\/∃ k,xs=[.bl k]/\Q (.int (if k then 1 else 0)) H) jq:=λPK pa m G H vs ds d Q w hv hd k=>by
 unfold jq at hd
 split at hd
 ·cases hd
  cases hv with
  | cons h1 h2=>cases h2; cases h1; exact .inl ⟨_,rfl,k.here w (.int _)⟩
 ·cases hd
  cases hv with
  | cons h1 h2=>cases h2; cases h1; exact .inr ⟨_,rfl,k.here w (.int _)⟩
 ·cases hd
noncomputable def iE:List PyData->Option PyData
 | [.list xs]=>some (.tuple xs)
 | [.tuple xs]=>some (.tuple xs)
 | _=>none
theorem kA {K:PySem.W.Frag}:iZ (λxs H Q=>∃ p ys,xs=[.ref p]/\((SqL K H p ys/\∀ l,H l=none->Q (.ref l) (upd H l (.tup ys)))\/(SqT K H p ys/\Q (.ref p) H))) iE:=λPK pa m G H vs ds d Q w hv hd k=>by
 unfold iE at hd
 split at hd
 ·cases hd
  cases hv with
  | cons h1 h2 =>
   cases h2
   cases h1 with
   | lst a1 a2=>exact ⟨_,_,rfl,.inl ⟨SqL.of (w.sub _ _ a1),λp hp=>k.tup w a2 hp⟩⟩
 ·cases hd
  cases hv with
  | cons h1 h2 =>
   cases h2
   cases h1 with
   | tup a1 a2=>exact ⟨_,_,rfl,.inr ⟨SqT.of (w.sub _ _ a1),k.here w (.tup a1 a2)⟩⟩
 ·cases hd
noncomputable def jH (d:PyData):Bool:=!d.hasDict && d.showable && decide (d.depth<=32) && decide (d.shown.length<=sizeLine)
noncomputable def gI:List PyData->Option PyData
 | [d]=>if jH d=true then some (.str d.shown) else none
 | _=>none
theorem l6:iZ (λxs H Q=>∃ v d,xs=[v]/\Dn H v d/\d.hasDict=false/\d.showable=true/\d.depth<=32/\d.shown.length<=sizeLine/\Q (.str d.shown) H) gI:=λPK pa m G H vs ds d Q w hv hd k=>by
 unfold gI at hd
 split at hd
 ·split at hd
  ·rename_i hc
   unfold jH at hc
   simp only [Bool.and_eq_true,decide_eq_true_eq,Bool.not_eq_true'] at hc
   cases hd
   cases hv with
   | cons h1 h2=>cases h2; exact ⟨_,_,rfl,h1.mono w.sub,hc.1.1.1,hc.1.1.2,hc.1.2,hc.2,k.here w (.str _)⟩
  ·cases hd
 ·cases hd
noncomputable def kB:PyData->String
 | .none=>"NoneType"
 | .bool _=>"bool"
 | .int _=>"int"
 | .str _=>"str"
 | .list _=>"list"
 | .tuple _=>"tuple"
 | .dict _=>"dict"
noncomputable def mM:PyData->Bool
 | .dict ((.none,_)::_)=>false
 | _=>true
theorem Dn.ty {K:PySem.W.Frag} {G H:Hp} (sb:Sub G H) {v:V} {d:PyData} (h:Dn G v d) (n:mM d=true):TyOf K H v (.type (kB d)):=by
 cases h with
 | non=>exact .non
 | bl b=>exact .bl b
 | int i=>exact .int i
 | str x=>exact .str x
 | tup h _=>exact .tup (sb _ _ h)
 | lst h _=>exact .lst (sb _ _ h)
 | dct h _=>exact h.elim (λh=>.dK (sb _ _ h)) λ⟨o,h⟩=>.frzD (sb _ _ h)
 | dcp _ h _=>exact .frzE (sb _ _ h)
 | hdl _=>cases n
noncomputable def pQ (T:String) (t:String):Bool:=decide (t=T) || (decide (T="int") && decide (t="bool"))
noncomputable def kg (T:String) (i:List Sl->Tr PyData):List Sl->Tr PyData:=λρ=>(i ρ).bind λx=>if mM x=true then .ret (.bool (pQ T (kB x))) else .fail
noncomputable def Zdn (T:String):Prop:=T="int"\/T="bool"\/T="str"\/T="list"\/T="tuple"\/T="dict"
theorem ZjI {K:PySem.W.Frag} {T:String} (h:Zdn T) (d:PyData):PySem.W.kitOne K (.type (kB d)) (.type T)=some (pQ T (kB d)):=by
 rcases h with rfl | rfl | rfl | rfl | rfl | rfl <;> cases d <;> rfl
theorem nJ {T:String} {tc:TE} (hT:Zdn T) (htc:tc=tC (.ty T)) (h:PE X e (i9 (λxs H Q=>∃ x T t b,xs=[x,.ty T]/\TyOf X.K H x t/\PySem.W.kitOne X.K t (.type T)=some b/\Q (.bl b) H) (fg (TAe PK i) (fg tc cw)))):PE X e (TAe PK (kg T i)):=h.imp λσ H Q hz0=>by
 obtain ⟨pa,G₀,H₀,m,ρ,G,R,z⟩:=hz0
 subst htc
 refine TAe.then R z λm1 x v G1 H1 s1 w1 R1 d1 q1=>?_
 obtain ⟨hn,q1⟩:=fU q1
 exact ⟨v,T,_,_,rfl,d1.ty w1.sub hn,ZjI hT x,(Kn.later q1 s1 w1.some).here w1 (.bl _)⟩
noncomputable def lD (xs:List PyData) (lo hi:Option Int):List PyData:=(xs.drop (HT.bX xs.length 0 lo)).take (HT.bX xs.length xs.length hi - HT.bX xs.length 0 lo)
theorem DnAll.take {H:Hp}:∀ {vs:List V} {ds:List PyData} (n:Nat),DnAll H vs ds->DnAll H (vs.take n) (ds.take n)
 | _,_,0,_=>.nil
 | _,_,_+1,.nil=>.nil
 | _,_,n+1,.cons r t=>.cons r (DnAll.take n t)
theorem DnAll.drop {H:Hp}:∀ {vs:List V} {ds:List PyData} (n:Nat),DnAll H vs ds->DnAll H (vs.drop n) (ds.drop n)
 | _,_,0,r=>r
 | _,_,_+1,.nil=>.nil
 | _,_,n+1,.cons r t=>DnAll.drop n t
theorem DnAll.cut {H:Hp} {vs:List V} {ds:List PyData} (h:DnAll H vs ds) (lo hi:Option Int):DnAll H (gN vs lo hi) (lD ds lo hi):=by
 unfold gN lD
 rw [h.length]
 exact (h.drop _).take _
noncomputable abbrev gA:=List Sl->Tr (Option Int)
noncomputable def u9:gA:=λ_=>.ret none
noncomputable def qx (i:List Sl->Tr PyData):gA:=λρ=>(i ρ).bind λx=>match x with
 | .int n=>.ret (some n)
 | _=>.fail
noncomputable def TAp (PK:Pk) (i:gA):TO:=λσ H Q=>∃ pa G₀ H₀ m ρ G,Rl PK pa G₀ H₀ m σ ρ G H/\(i ρ).ok m λm' x=>∀ G' H',Stp pa G H G' H'->Wd PK pa m' G' H'->Q x H'
theorem PO.imp {e:Option Expr} {t t':TO} (h:PO X e t) (q:∀ σ H Q,t' σ H Q->t σ H Q):PO X e t':=λpins s σ H Q I z=>h pins s σ H Q I (q σ H Q z)
theorem Zo8:PO X none (TAp PK u9):=Zcv.imp λσ H Q hz0=>by
 obtain ⟨pa,G₀,H₀,m,ρ,G,R,z⟩:=hz0
 exact z G H .refl R.wd
theorem Zo7 (h:PE X e (TAe PK i)):PO X (some e) (TAp PK (qx i)):=(Zcu h).imp λσ H Q hz0=>by
 obtain ⟨pa,G₀,H₀,m,ρ,G,R,z⟩:=hz0
 refine TAe.then R z λm1 x v G1 H1 s1 w1 R1 d1 q1=>?_
 cases d1 with
 | int n=>exact ⟨n,rfl,q1 G1 H1 s1 w1⟩
 | _=>exact q1.elim
theorem Zki {prog:Program} {w:World} {A:Around} {E:Value->Shared->Prop} {s:Shared} {t sl:Addr} {items:Array Value} {vl vu:Value} {lo hi:Option Int} {Q:Value->Shared->Prop} (ht:IsTup s.heap t items) (hs:s.heap.IsSliceOf sl vl vu .none) (pl:IsPart vl lo) (pu:IsPart vu hi)
  (hw:HT.bX items.size 0 lo=0/\HT.bX items.size items.size hi=items.size) (h:Q (.ref t) s):wpAny (model prog w) A (getItem (.ref t) (.ref sl)) Q E s:=by
 obtain ⟨os,hos,hcs,hds⟩:=id hs
 have hTs:s.TypeIs (.ref sl) "slice":=⟨os,hos,hcs⟩
 unfold getItem
 try with_reducible refine wpAny_holding ?_
 first | refine wpAny_bind (wpAny_pure ?_) | skip
 refine wpAny_bind (wpAny_sequenceKey ht.typeIs (by decide) ?_)
 refine wpAny_bind (wpAny_callSpecial?_slot (name:=Str.ofString "__getitem__") ht.typeIs PyProof.Rows.slot_tuple_getitem
  (wpAny_call_entry PyProof.Rows.slot_tuple_getitem ht.typeIs entry_tuple_getitem ?_ (args_tuple_getitem _ _)))
 show wpAny _ _ (Builtin.Tuple.tupleItemsOf (.ref t) >>= _) _ _ s
 refine wpAny_bind (tupleItemsOf_ ht ?_)
 refine wpAny_bind (wpAny_typeOf hTs ?_)
 rw [if_pos (by decide)]
 refine wpAny_bind (HT.ZaR hs pl pu ?_)
 have hyes:(((HT.bX items.size 0 lo:Nat):Int) == 0 && (1:Int) == 1 && (HT.bX items.size items.size hi - HT.bX items.size 0 lo) == items.size)=true:=by
  rw [hw.1,hw.2]
  simp
 show wpAny _ _ (if (((HT.bX items.size 0 lo:Nat):Int) == 0 && (1:Int) == 1 && (HT.bX items.size items.size hi - HT.bX items.size 0 lo) == items.size)=true then _ else _) _ _ s
 rw [if_pos hyes]
 refine wpAny_bind (m:=Builtin.Tuple.tupleIsExact (.ref t)) ?_
 unfold Builtin.Tuple.tupleIsExact
 refine wpAny_bind (wpAny_typeOf ht.typeIs ?_)
 refine wpAny_pure ?_
 rw [if_pos (by decide)]
 refine wpAny_bind (wpAny_rule ?_)
 exact wpAny_pure ⟨_,rfl,wpAny_pure h⟩
noncomputable def ZbZ (K:PySem.W.Frag):V->Option Int->Option Int->Hp->VK->Prop:=λx lo hi H Q=>∃ a xs,x=.ref a/\SqT K H a xs/\(HT.bX xs.length 0 lo=0/\HT.bX xs.length xs.length hi=xs.length)/\Q (.ref a) H
theorem ZgB:SlR X (ZbZ X.K):=by
 intro pins s σ H x v vl vu lo hi sl Q I rx hs pl pu h
 obtain ⟨a,xs,rfl,hx,hw,q⟩:=h
 cases rx
 obtain ⟨its,r,ht,hz⟩:=I.tuple hx
 have hlen:its.toArray.size=xs.length:=by rw [List.size_toArray]; exact r.length.symm
 refine ⟨"tuple",_,PyProof.Rows.slot_tuple_getitem.lookup,ht.typeIs,?_⟩
 exact Zki ht hs pl pu (by rw [hlen]; exact hw) ⟨.ref a,H,I,rfl,q⟩
noncomputable def ZhM (K:PySem.W.Frag):V->Option Int->Option Int->Hp->VK->Prop:=λx lo hi H Q=>Zb1 K x lo hi H Q\/Zb0 K x lo hi H Q\/ZbZ K x lo hi H Q
theorem ZgE:SlR X (ZhM X.K):=ZaS.or (ZgC.or ZgB)
noncomputable def ZaQ (x:PyData) (lo hi:Option Int):Option PyData:=match x with
 | .list xs=>some (.list (lD xs lo hi))
 | .tuple xs=>some (.tuple (lD xs lo hi))
 | _=>none
noncomputable def u6 (i:List Sl->Tr PyData) (p q:gA):List Sl->Tr PyData:=λρ=>(i ρ).bind λx=>(p ρ).bind λlo=>(q ρ).bind λhi=>Tr.of (ZaQ x lo hi)
theorem TAp.then {p:gA} {σ:St} {H:Hp} {β:Type} {k:Option Int->Tr β} {Z:Ms->β->Prop} {Q:Option Int->Hp->Prop} {pa:Addr} {G₀ H₀ G:Hp} {m:Ms} {ρ:List Sl} (R:Rl PK pa G₀ H₀ m σ ρ G H) (h:((p ρ).bind k).ok m Z)
  (hq:∀ m1 x G1 H1,Stp pa G H G1 H1->Wd PK pa m1 G1 H1->Rl PK pa G₀ H₀ m1 σ ρ G1 H1->(k x).ok m1 Z->Q x H1):TAp PK p σ H Q:=by
 refine ⟨pa,G₀,H₀,m,ρ,G,R,Tr.ok_mono (Tr.ok_bind.mp h) λm1 x hx G1 H1 s1 w1=>?_⟩
 exact hq m1 x G1 H1 s1 w1 (R.step s1 w1) hx
theorem Zpj {p q:gA} {lo hi:Option Expr} {p2:Pos} (he:PE X e (TAe PK i)) (hl:PO X lo (TAp PK p)) (hu:PO X hi (TAp PK q)):PE X (.Subscript e (.Slice lo hi none p2) pos) (TAe PK (u6 i p q)):=(ZcA ZgE he hl hu).imp λσ H Q hz0=>by
 obtain ⟨pa,G₀,H₀,m,ρ,G,R,z⟩:=hz0
 refine TAe.then R z λm1 x v G1 H1 s1 w1 R1 d1 q1=>?_
 refine TAp.then R1 q1 λm2 lo G2 H2 s2 w2 R2 q2=>?_
 refine TAp.then R2 q2 λm3 hi G3 H3 s3 w3 R3 q3=>?_
 obtain ⟨d,hd,k⟩:=Tr.ok_of q3
 have s13:=(s1.trans s2 w1.some).trans s3 w2.some
 have k':=Kn.later k s13 w3.some
 have d3:=d1.mono (s2.gs.trans s3.gs)
 cases d3 with
 | lst a1 a2=>cases hd; exact .inl ⟨_,_,rfl,SqL.of (w3.sub _ _ a1),λp hp=>k'.lst w3 (a2.cut lo hi) hp⟩
 | @tup a xs ds a1 a2 =>
  cases hd
  by_cases hw:HT.bX xs.length 0 lo=0/\HT.bX xs.length xs.length hi=xs.length
  ·refine .inr (.inr ⟨_,_,rfl,SqT.of (w3.sub _ _ a1),hw,k'.here w3 ?_⟩)
   have e:lD ds lo hi=ds:=by
    unfold lD
    rw [<- a2.length,hw.1,hw.2]
    simp
    rw [a2.length]
    exact List.take_length
   rw [e]
   exact .tup a1 a2
  ·exact .inr (.inl ⟨_,_,rfl,SqT.of (w3.sub _ _ a1),hw,λp hp=>k'.tup w3 (a2.cut lo hi) hp⟩)
 | _=>cases hd
theorem DnAll.range {H:Hp} (lo:Int) (n:Nat):DnAll H (gX lo n) ((eE lo n).map PyData.int):=by
 rw [ZhI]
 exact DnAll.ints _
noncomputable def mB (lo hi:Int):Bool:=iR lo && iR hi && decide ((hi - lo).toNat<=1000)
noncomputable def mz:List PyData->Option (List PyData)
 | [.int lo,.int hi]=>if mB lo hi=true then some (cB lo hi) else none
 | _=>none
theorem Zhx {G:Hp} {vs:List V} {xs ys:List PyData} (d:DnAll G vs xs) (h:mz xs=some ys):∃ k n:Int,vs=[.int k,.int n]/\(-(2 ^ 62)<=k/\k < 2 ^ 62/\-(2 ^ 62)<=n/\n < 2 ^ 62/\(n - k).toNat<=1000)/\ys=cB k n:=by
 unfold mz at h
 split at h
 ·split at h
  ·rename_i hn
   cases h
   cases d with
   | cons d1 d2 =>
    cases d2 with
    | cons d2 d3 =>
     cases d3
     cases d1
     cases d2
     unfold mB at hn
     rw [Bool.and_eq_true,Bool.and_eq_true] at hn
     have h1:=of_decide_eq_true hn.1.1
     have h2:=of_decide_eq_true hn.1.2
     exact ⟨_,_,rfl,⟨h1.1,h1.2,h2.1,h2.2,of_decide_eq_true hn.2⟩,rfl⟩
  ·cases h
 ·cases h
noncomputable def Zf8 (t:TA):TE:=i9 (λxs H Q=>∃ a lo hi,xs=[.ref a]/\H a=some (.rng lo hi)/\-(2 ^ 62)<=lo/\lo < 2 ^ 62/\-(2 ^ 62)<=hi/\hi < 2 ^ 62/\(hi - lo).toNat<=1000/\∀ p,H p=none->Q (.ref p) (upd H p (.tup (gX lo (hi - lo).toNat))))
 (fg (i9 (λxs H Q=>∃ i j:Int,xs=[.int i,.int j]/\∀ p,H p=none->Q (.ref p) (upd H p (.rng i j))) t) cw)
noncomputable def u5 (is:List Sl->Tr (List PyData)):List Sl->Tr PyData:=λρ=>(is ρ).bind λxs=>(Tr.of (mz xs)).bind λys=>.ret (.tuple ys)
theorem Zpi (h:PE X e (Zf8 (TAd PK is))):PE X e (TAe PK (u5 is)):=h.imp λσ H Q hz0=>by
 obtain ⟨pa,G₀,H₀,m,ρ,G,R,z⟩:=hz0
 refine TAd.then R z λm1 xs vs G1 H1 s1 w1 R1 d1 q1=>?_
 rw [Tr.ok_bind] at q1
 obtain ⟨ys,hy,k⟩:=Tr.ok_of q1
 obtain ⟨lo,hi,rfl,⟨b1,b2,b3,b4,b5⟩,rfl⟩:=Zhx d1 hy
 refine ⟨lo,hi,rfl,λp hp=>?_⟩
 obtain ⟨w2,s2⟩:=w1.own (o:=.rng lo hi) hp
 refine ⟨p,lo,hi,rfl,cA,b1,b2,b3,b4,b5,λq hq=>?_⟩
 exact (Kn.later k (s1.trans s2 w1.some) w2.some).tup w2 (DnAll.range _ _) hq
noncomputable def ints?:List PyData->Option (List Int)
 | []=>some []
 | .int n::xs=>(ints? xs).bind λns=>some (n::ns)
 | _=>none
@[simp] theorem ints?_map:∀ ns:List Int,ints? (ns.map PyData.int)=some ns
 | []=>rfl
 | n::ns=>by rw [List.map_cons,ints?,ints?_map ns]; rfl
theorem DnAll.ints_inv {H:Hp} {vs:List V} {ds:List PyData} {ns:List Int} (a:DnAll H vs ds) (h:ints? ds=some ns):vs=ns.map V.int/\ds=ns.map PyData.int:=by
 induction vs generalizing ds ns with
 | nil=>cases a; cases h; exact ⟨rfl,rfl⟩
 | cons v vs ih =>
  cases a with
  | cons g t =>
   cases g with
   | int n =>
    unfold ints? at h
    rename_i ds
    cases e:ints? ds with
    | none=>rw [e] at h; cases h
    | some ms =>
     rw [e] at h
     cases h
     obtain ⟨h1,h2⟩:=ih t e
     exact ⟨by rw [h1]; rfl,by rw [h2]; rfl⟩
   | _=>unfold ints? at h; cases h
section
variable {prog:Program} {w:World} {A:Around} {E:Value->Shared->Prop} {s:Shared}
noncomputable def ItAt (b:Bool) (h:Heap) (it a:Addr) (k:Nat):Prop:=match b with
 | true=>h.IsListIter it a k
 | false=>h.IsTupleIter it a k
noncomputable def SqAt (b:Bool) (h:Heap) (a:Addr) (items:Array Value):Prop:=match b with
 | true=>h.IsList a items
 | false=>h.IsTuple a items
theorem ItAt.at {b:Bool} {h h':Heap} {it a:Addr} {k:Nat} (x:ItAt b h it a k) (e:∀ o,h.get? it=some o->h'.get? it=some o):ItAt b h' it a k:=by
 cases b with
 | true=>exact Heap.IsListIter.at x e
 | false=>obtain ⟨o,ho,r⟩:=(show h.IsTupleIter it a k from x); exact ⟨o,e o ho,r⟩
theorem SqAt.at {b:Bool} {h h':Heap} {a:Addr} {items:Array Value} (x:SqAt b h a items) (e:∀ o,h.get? a=some o->h'.get? a=some o):SqAt b h' a items:=by
 cases b with
 | true=>exact Heap.IsList.at x e
 | false=>exact Heap.IsTuple.at x e
theorem ItAt.there {b:Bool} {h:Heap} {it a:Addr} {k:Nat} (x:ItAt b h it a k):∃ o,h.get? it=some o/\∀ v,o.data≠.cell v:=by
 cases b with
 | true=>obtain ⟨o,ho,_,hd⟩:=(show h.IsListIter it a k from x); exact ⟨o,ho,λv z=>by rw [hd] at z; cases z⟩
 | false=>obtain ⟨o,ho,_,hd⟩:=(show h.IsTupleIter it a k from x); exact ⟨o,ho,λv z=>by rw [hd] at z; cases z⟩
theorem Zi2 {it l:Addr} {i:Nat} {items:Array Value} {x:Value} {Q:Value->Shared->Prop} (hit:s.heap.IsTupleIter it l i) (hl:s.heap.IsTuple l items) (hx:items[i]?=some x)
  (hQ:∀ h',h'.IsTupleIter it l (i+1)->Heap.SameBut it s.heap h'->Q x { s with heap:=h' }):wpAny (model prog w) A (Builtin.SmallTypes.nextOf (.ref it)) Q E s:=by
 obtain ⟨o,ho,hc,hd⟩:=id hit; obtain ⟨ol,hol,_,nl,hdl⟩:=hl
 unfold Builtin.SmallTypes.nextOf
 refine wpAny_bind (wpAny_callSpecial?_slot (name:=Str.ofString "__next__") hit.typeIs F.slot_tuple_iterator_next (wpAny_call_entry F.slot_tuple_iterator_next hit.typeIs F.entry_tuple_iterator_next ?_ (F.args_tuple_iterator_next_1 _)))
 show wpAny _ _ (field (.ref it) 0 >>= _) _ _ s; refine wpAny_bind (wpAny_field ho hd (x:=.ref l) rfl ?_)
 show wpAny _ _ (if (Value.ref l == Value.none)=true then _ else _) _ _ s; rw [if_neg (show ¬ ((Value.ref l == Value.none)=true) from Bool.false_ne_true)]
 show wpAny _ _ (field (.ref it) 1 >>= _) _ _ s; refine wpAny_bind (wpAny_field ho hd (x:=.int i 0) rfl ?_)
 show wpAny _ _ (seqItems? (.ref l) >>= _) _ _ s; refine wpAny_bind (wpAny_seqItems hol hdl ?_); simp only [Int.toNat_natCast,hx]
 refine wpAny_bind (wpAny_setField ho hd (by simp) (wpAny_pure ⟨x,rfl,wpAny_pure (hQ _ ⟨_,Heap.get?_update_self _ ho (Obj.isFreed_of_fields (Obj.data_mapFields hd _)),(Obj.cls_mapFields ..).trans hc,?_⟩ (Heap.SameBut.update ..))⟩))
 rw [Obj.data_mapFields hd]; simp [rawInt]
theorem Zi3 {it l:Addr} {i:Nat} {items:Array Value} {Q:Value->Shared->Prop} (hh:A.handled=none) (hit:s.heap.IsTupleIter it l i) (hl:s.heap.IsTuple l items) (hx:items[i]?=none)
  (hE:∀ h' e,Heap.ExtBut it s.heap h'->(∃ o,h'.get? e=some o/\o.cls=.type "StopIteration")->E (.ref e) { s with heap:=h' }):wpAny (model prog w) A (Builtin.SmallTypes.nextOf (.ref it)) Q E s:=by
 obtain ⟨o,ho,hc,hd⟩:=id hit; obtain ⟨ol,hol,_,nl,hdl⟩:=hl
 unfold Builtin.SmallTypes.nextOf
 refine wpAny_bind (wpAny_callSpecial?_slot (name:=Str.ofString "__next__") hit.typeIs F.slot_tuple_iterator_next (wpAny_call_entry F.slot_tuple_iterator_next hit.typeIs F.entry_tuple_iterator_next ?_ (F.args_tuple_iterator_next_1 _)))
 show wpAny _ _ (field (.ref it) 0 >>= _) _ _ s; refine wpAny_bind (wpAny_field ho hd (x:=.ref l) rfl ?_)
 show wpAny _ _ (if (Value.ref l == Value.none)=true then _ else _) _ _ s; rw [if_neg (show ¬ ((Value.ref l == Value.none)=true) from Bool.false_ne_true)]
 show wpAny _ _ (field (.ref it) 1 >>= _) _ _ s; refine wpAny_bind (wpAny_field ho hd (x:=.int i 0) rfl ?_)
 show wpAny _ _ (seqItems? (.ref l) >>= _) _ _ s; refine wpAny_bind (wpAny_seqItems hol hdl ?_); simp only [Int.toNat_natCast,hx]
 refine wpAny_bind (wpAny_rule (wpAny_bind (wpAny_setField ho hd (by simp) ?_))); show wpAny _ _ (newExc (.type "StopIteration") [] >>= _) _ _ _
 refine wpAny_bind ?_; simp only [newExc,newTuple]; refine wpAny_bind (wpAny_newObj_type ?_ (by size_fits))
 refine wpAny_bind (m:=firstArgMember _ _) (wpAny_of_eq (a:=Value.none) (by first | rfl | (simp only [firstArgMember]; rfl)) ?_); refine wpAny_newObj_type ?_ (by size_fits); simp only [raiseNew]
 refine wpAny_bind (wpAny_handled ?_); first | rw [show A.in1.handled=none from hh] | rw [hh]
 refine wpAny_bind (wpAny_pure (wpAny_throw (hE _ _ (((Heap.SameBut.update ..).extBut.push _).push _) ⟨_,Heap.get?_push_size _ rfl,rfl⟩)))
theorem oW {b:Bool} {it l:Addr} {i:Nat} {items:Array Value} {x:Value} {Q:Value->Shared->Prop} (hit:ItAt b s.heap it l i) (hl:SqAt b s.heap l items) (hx:items[i]?=some x)
  (hQ:∀ h',ItAt b h' it l (i+1)->Heap.SameBut it s.heap h'->Q x { s with heap:=h' }):wpAny (model prog w) A (Builtin.SmallTypes.nextOf (.ref it)) Q E s:=by
 cases b with
 | true=>exact wpAny_nextOf_list_item hit hl hx hQ
 | false=>exact Zi2 hit hl hx hQ
theorem sZ {b:Bool} {it l:Addr} {i:Nat} {items:Array Value} {Q:Value->Shared->Prop} (hh:A.handled=none) (hit:ItAt b s.heap it l i) (hl:SqAt b s.heap l items) (hx:items[i]?=none)
  (hE:∀ h' e,Heap.ExtBut it s.heap h'->(∃ o,h'.get? e=some o/\o.cls=.type "StopIteration")->E (.ref e) { s with heap:=h' }):wpAny (model prog w) A (Builtin.SmallTypes.nextOf (.ref it)) Q E s:=by
 cases b with
 | true=>exact wpAny_nextOf_list_end hh hit hl hx hE
 | false=>exact Zi3 hh hit hl hx hE
theorem ItAt.bt {b:Bool} {h h':Heap} {it a c:Addr} {k:Nat} (x:ItAt b h it a k) (e:Heap.ExtBut c h h') (n:it≠c):ItAt b h' it a k:=x.at λo q=>e it o n q
theorem SqAt.bt {b:Bool} {h h':Heap} {a c:Addr} {items:Array Value} (x:SqAt b h a items) (e:Heap.ExtBut c h h') (n:a≠c):SqAt b h' a items:=x.at λo q=>e a o n q
theorem Zfm {b1 b2:Bool} {z TI TO i1 i2 l1 l2:Addr} {k1 k2:Nat} {xs ys:Array Value} {x y a b:Value} {Q:Value->Shared->Prop} (D:ZipApart z TI TO i1 i2 l1 l2)
  (hz:IsZip s.heap z TI TO .none) (hTI:IsPair s.heap TI (.ref i1) (.ref i2)) (hTO:IsPair s.heap TO a b) (h1:ItAt b1 s.heap i1 l1 k1) (h2:ItAt b2 s.heap i2 l2 k2) (hl1:SqAt b1 s.heap l1 xs) (hl2:SqAt b2 s.heap l2 ys) (hx:xs[k1]?=some x) (hy:ys[k2]?=some y)
  (hQ:∀ h',IsZip h' z TI TO (rawInt s.heap.objs.size)->IsPair h' TO x y->ItAt b1 h' i1 l1 (k1+1)->ItAt b2 h' i2 l2 (k2+1)->IsPair h' s.heap.objs.size x y ->
   (∀ c o,c≠z->c≠TO->c≠i1->c≠i2->s.heap.get? c=some o->h'.get? c=some o)->Q (.ref s.heap.objs.size) { s with heap:=h' }) :
  wpAny (model prog w) A (Builtin.«zip.__next__» ⟨[.ref z],[]⟩) (λfin s'=>∃ v,fin=.done (.ret v)/\Q v s') E s:=by
 show wpAny _ _ (field (.ref z) 2 >>= _) _ _ _; refine wpAny_bind (wpAny_field hz rfl (x:=.bool false) rfl ?_)
 show wpAny _ _ (field (.ref z) 3 >>= _) _ _ _; refine wpAny_bind (wpAny_field hz rfl (x:=.ref TI) rfl ?_); refine wpAny_bind (wpAny_seqItems hTI rfl ?_)
 show wpAny _ _ (Builtin.SmallTypes.ownedTupleIsFree (.ref z) >>= _) _ _ _; refine wpAny_bind ?_; unfold Builtin.SmallTypes.ownedTupleIsFree
 refine wpAny_bind (wpAny_field hz rfl (x:=.none) rfl (wpAny_pure ?_)); simp only [if_true]; refine wpAny_bind (wpAny_rule ?_); refine wpAny_bind (wpAny_field hz rfl (x:=.ref TO) rfl ?_)
 refine wpAny_bind (wpAny_setField_rec hz (by simp) λg1 hz1 e1=>?_); replace hz1:IsZip g1 z TI TO .ellipsis:=hz1
 refine wpAny_bind ?_; simp only [List.zipIdx_cons,List.zipIdx_nil,List.forIn_cons,List.forIn_nil]; refine wpAny_bind (wpAny_bind (wpAny_onRaise ?_))
 show wpAny _ _ (Builtin.SmallTypes.nextOf (.ref i1) >>= _) _ _ _; refine wpAny_bind (oW (h1.bt e1.extBut D.i1z) (hl1.bt e1.extBut D.l1z) hx λg2 t1 e2=>wpAny_pure ?_)
 have p2:IsPair g2 TO a b:=e2.extBut _ _ D.TOi1 (e1.extBut _ _ D.TOz hTO)
 refine wpAny_bind (wpAny_seqItems p2 rfl ?_); refine wpAny_bind (wpAny_updateSeq_pair p2 λg3 p3 e3=>?_); replace p3:IsPair g3 TO x b:=p3
 refine wpAny_bind (wpAny_letGo (wpAny_pure ?_)); refine wpAny_bind (wpAny_bind (wpAny_onRaise ?_))
 show wpAny _ _ (Builtin.SmallTypes.nextOf (.ref i2) >>= _) _ _ _
 refine wpAny_bind (oW (((h2.bt e1.extBut D.i2z).bt e2.extBut D.i12.symm).bt e3.extBut D.TOi2.symm) (((hl2.bt e1.extBut D.l2z).bt e2.extBut D.l2i1).bt e3.extBut D.l2TO) hy λg4 t2 e4=>wpAny_pure ?_)
 have p4:IsPair g4 TO x b:=e4.extBut _ _ D.TOi2 p3
 refine wpAny_bind (wpAny_seqItems p4 rfl ?_); refine wpAny_bind (wpAny_updateSeq_pair p4 λg5 p5 e5=>?_); replace p5:IsPair g5 TO x y:=p5
 refine wpAny_bind (wpAny_letGo (wpAny_pure (wpAny_pure ?_))); refine wpAny_bind (wpAny_seqItems p5 rfl ?_); refine wpAny_bind (wpAny_newTuple ?_)
 have hsz:g5.objs.size=s.heap.objs.size:=by rw [e5.1,e4.1,e3.1,e2.1,e1.1]
 have z5:IsZip g5 z TI TO .ellipsis:=e5.extBut _ _ D.TOz.symm (e4.extBut _ _ D.i2z.symm (e3.extBut _ _ D.TOz.symm (e2.extBut _ _ D.i1z.symm hz1)))
 have k5:∀ c o,c≠z->c≠TO->c≠i1->c≠i2->s.heap.get? c=some o->g5.get? c=some o:=λc o c1 c2 c3 c4 q=>e5.extBut _ _ c2 (e4.extBut _ _ c4 (e3.extBut _ _ c2 (e2.extBut _ _ c3 (e1.extBut _ _ c1 q))))
 have u1:ItAt b1 g5 i1 l1 (k1+1):=((t1.bt e3.extBut D.TOi1.symm).bt e4.extBut D.i12).bt e5.extBut D.TOi1.symm
 have u2:ItAt b2 g5 i2 l2 (k2+1):=t2.bt e5.extBut D.TOi2.symm
 have zlt:z < g5.objs.size:=Heap.lt_size z5
 show wpAny _ _ (Builtin.SmallTypes.ownedTupleHandOut (.ref z) (.ref g5.objs.size) >>= _) _ _ _; refine wpAny_bind ?_; unfold Builtin.SmallTypes.ownedTupleHandOut
 have z6:IsZip (g5.push { cls:=.type "tuple",data:=.seq #[x,y] }) z TI TO .ellipsis:=Heap.get?_push_of_some _ z5
 refine wpAny_bind (wpAny_setField_rec z6 (by simp) λg7 z7 e7=>?_); replace z7:IsZip g7 z TI TO (rawInt g5.objs.size):=z7
 refine wpAny_setField_rec z7 (by simp) λg8 z8 e8=>?_; replace z8:IsZip g8 z TI TO (rawInt g5.objs.size):=z8
 have up:∀ c o,c≠z->g5.get? c=some o->g8.get? c=some o:=λc o c1 q=>e8.extBut _ _ c1 (e7.extBut _ _ c1 (Heap.get?_push_of_some _ q))
 have t8:IsPair g8 g5.objs.size x y:=e8.extBut _ _ (Nat.ne_of_gt zlt) (e7.extBut _ _ (Nat.ne_of_gt zlt) (Heap.get?_push_size _ rfl))
 rw [hsz] at z8 t8
 refine wpAny_pure ⟨_,rfl,?_⟩; show Q (.ref g5.objs.size) _; rw [hsz]
 exact hQ g8 z8 (up _ _ D.TOz p5) (u1.at λo q=>up _ o D.i1z q) (u2.at λo q=>up _ o D.i2z q) t8 λc o c1 c2 c3 c4 q=>up c o c1 (k5 c o c1 c2 c3 c4 q)
theorem Zfo {b1 b2:Bool} {z TI TO i1 i2 l1 l2:Addr} {k1 k2:Nat} {xs ys:Array Value} {a b:Value} {Q:Fin->Shared->Prop} (hh:A.handled=none) (D:ZipApart z TI TO i1 i2 l1 l2)
  (hz:IsZip s.heap z TI TO .none) (hTI:IsPair s.heap TI (.ref i1) (.ref i2)) (hTO:IsPair s.heap TO a b) (h1:ItAt b1 s.heap i1 l1 k1) (h2:ItAt b2 s.heap i2 l2 k2) (hl1:SqAt b1 s.heap l1 xs) (hl2:SqAt b2 s.heap l2 ys) (hend:xs[k1]?=none\/ys[k2]?=none)
  (hE:∀ h' e,(∀ c o,c≠z->c≠TO->c≠i1->c≠i2->s.heap.get? c=some o->h'.get? c=some o)->(∃ o,h'.get? e=some o/\o.cls=.type "StopIteration")->E (.ref e) { s with heap:=h' }) :
  wpAny (model prog w) A (Builtin.«zip.__next__» ⟨[.ref z],[]⟩) Q E s:=by
 show wpAny _ _ (field (.ref z) 2 >>= _) _ _ _; refine wpAny_bind (wpAny_field hz rfl (x:=.bool false) rfl ?_)
 show wpAny _ _ (field (.ref z) 3 >>= _) _ _ _; refine wpAny_bind (wpAny_field hz rfl (x:=.ref TI) rfl ?_); refine wpAny_bind (wpAny_seqItems hTI rfl ?_)
 show wpAny _ _ (Builtin.SmallTypes.ownedTupleIsFree (.ref z) >>= _) _ _ _; refine wpAny_bind ?_; unfold Builtin.SmallTypes.ownedTupleIsFree
 refine wpAny_bind (wpAny_field hz rfl (x:=.none) rfl (wpAny_pure ?_)); simp only [if_true]; refine wpAny_bind (wpAny_rule ?_); refine wpAny_bind (wpAny_field hz rfl (x:=.ref TO) rfl ?_)
 refine wpAny_bind (wpAny_setField_rec hz (by simp) λg1 hz1 e1=>?_); replace hz1:IsZip g1 z TI TO .ellipsis:=hz1
 refine wpAny_bind ?_; simp only [List.zipIdx_cons,List.zipIdx_nil,List.forIn_cons,List.forIn_nil]; refine wpAny_bind (wpAny_bind (wpAny_onRaise ?_))
 show wpAny _ _ (Builtin.SmallTypes.nextOf (.ref i1) >>= _) _ _ _
 cases hx:xs[k1]? with
 | none =>
  refine wpAny_bind (sZ hh (h1.bt e1.extBut D.i1z) (hl1.bt e1.extBut D.l1z) hx λg2 e e2 he=>?_)
  obtain ⟨oe,hoe,hce⟩:=he
  have z2:IsZip g2 z TI TO .ellipsis:=e2 _ _ D.i1z.symm hz1
  have ne:e≠z:=λq=>by subst q; rw [z2] at hoe; cases hoe; simp at hce
  exact wpAny_setField_rec z2 (by simp) λg3 _ e3=>hE g3 e (λc o c1 _ c3 _ q=>e3.extBut _ _ c1 (e2 _ _ c3 (e1.extBut _ _ c1 q))) ⟨oe,e3.extBut _ _ ne hoe,hce⟩
 | some x =>
  have hy:ys[k2]?=none:=by rcases hend with h | h; rw [hx] at h; cases h; exact h
  refine wpAny_bind (oW (h1.bt e1.extBut D.i1z) (hl1.bt e1.extBut D.l1z) hx λg2 t1 e2=>wpAny_pure ?_)
  have p2:IsPair g2 TO a b:=e2.extBut _ _ D.TOi1 (e1.extBut _ _ D.TOz hTO)
  refine wpAny_bind (wpAny_seqItems p2 rfl ?_); refine wpAny_bind (wpAny_updateSeq_pair p2 λg3 p3 e3=>?_)
  refine wpAny_bind (wpAny_letGo (wpAny_pure ?_)); refine wpAny_bind (wpAny_bind (wpAny_onRaise ?_))
  show wpAny _ _ (Builtin.SmallTypes.nextOf (.ref i2) >>= _) _ _ _
  refine wpAny_bind (sZ hh (((h2.bt e1.extBut D.i2z).bt e2.extBut D.i12.symm).bt e3.extBut D.TOi2.symm) (((hl2.bt e1.extBut D.l2z).bt e2.extBut D.l2i1).bt e3.extBut D.l2TO) hy λg4 e e4 he=>?_)
  obtain ⟨oe,hoe,hce⟩:=he
  have z4:IsZip g4 z TI TO .ellipsis:=e4 _ _ D.i2z.symm (e3.extBut _ _ D.TOz.symm (e2.extBut _ _ D.i1z.symm hz1))
  have ne:e≠z:=λq=>by subst q; rw [z4] at hoe; cases hoe; simp at hce
  exact wpAny_setField_rec z4 (by simp) λg5 _ e5=>hE g5 e (λc o c1 c2 c3 c4 q=>e5.extBut _ _ c1 (e4 _ _ c4 (e3.extBut _ _ c2 (e2.extBut _ _ c3 (e1.extBut _ _ c1 q))))) ⟨oe,e5.extBut _ _ ne hoe,hce⟩
noncomputable def dD (b:Bool) (l:Addr):Obj:=match b with
 | true=>{ cls:=.type "list_iterator",data:=.fields #[.ref l,.int 0 0] }
 | false=>{ cls:=.type "tuple_iterator",data:=.fields #[.ref l,.int 0 0] }
theorem iH {b:Bool} {l:Addr} {items:Array Value} {Q:Value->Shared->Prop} (hl:SqAt b s.heap l items) (hQ:Q (.ref s.heap.objs.size) { s with heap:=s.heap.push (dD b l) }):wpAny (model prog w) A (pyIter (.ref l)) Q E s:=by
 cases b with
 | true=>exact wpAny_pyIter_list hl hQ
 | false=>exact wpAny_pyIter_tuple hl hQ
theorem SqAt.push {b:Bool} {h:Heap} {l:Addr} {items:Array Value} (x:SqAt b h l items) (o:Obj):SqAt b (h.push o) l items:=x.at λ_ q=>Heap.get?_push_of_some _ q
theorem jU {b:Bool} {h:Heap} {it l:Addr} (e:h.get? it=some (dD b l)):ItAt b h it l 0:=by
 cases b with
 | true=>exact ⟨_,e,rfl,rfl⟩
 | false=>exact ⟨_,e,rfl,rfl⟩
noncomputable abbrev zA (b1:Bool) (h:Heap) (l1:Addr):Heap:=h.push (dD b1 l1)
noncomputable abbrev zB (b1 b2:Bool) (h:Heap) (l1 l2:Addr):Heap:=(zA b1 h l1).push (dD b2 l2)
noncomputable abbrev zC (b1 b2:Bool) (h:Heap) (l1 l2:Addr):Heap:=(zB b1 b2 h l1 l2).push { cls:=.type "tuple",data:=.seq #[.ref h.objs.size,.ref (zA b1 h l1).objs.size] }
noncomputable abbrev zD (b1 b2:Bool) (h:Heap) (l1 l2:Addr):Heap:=(zC b1 b2 h l1 l2).push { cls:=.type "tuple",data:=.seq #[.none,.none] }
noncomputable abbrev zH (b1 b2:Bool) (h:Heap) (l1 l2:Addr):Heap:=(zD b1 b2 h l1 l2).push { cls:=.type "zip",data:=.fields #[.none,.bool false,.bool false,.ref (zB b1 b2 h l1 l2).objs.size,.ref (zC b1 b2 h l1 l2).objs.size] }
theorem Zje (b1 b2:Bool) (l1 l2:Addr) (xs ys:Array Value) :
  Meets (Builtin.«zip.__new__» ⟨[.type "zip",.ref l1,.ref l2],[]⟩) (λ_ R s=>SqAt b1 s.heap l1 xs/\SqAt b2 s.heap l2 ys/\R (.ok (.ret (.ref (zD b1 b2 s.heap l1 l2).objs.size))) { s with heap:=zH b1 b2 s.heap l1 l2 }) :=
 .of_wp λprog w A R s h=>by
  obtain ⟨hp,g,d,tk,os⟩:=s
  obtain ⟨hl1,hl2,h⟩:=h
  have hsub:=sub_zip
  have q1:SqAt b1 (Shared.heap ⟨hp,g,d,tk,os⟩) l1 xs:=hl1
  have q2:SqAt b2 (Shared.heap ⟨hp.push (dD b1 l1),g,d,tk,os⟩) l2 ys:=hl2.push _
  wp_walk using iH q1,iH q2
  exact ⟨_,rfl,h⟩
theorem Zoo {b1 b2:Bool} {l1 l2:Addr} {xs ys:Array Value} {Q:Value->Shared->Prop} (hl1:SqAt b1 s.heap l1 xs) (hl2:SqAt b2 s.heap l2 ys)
  (h:∀ h',IsZip h' (s.heap.objs.size+4) (s.heap.objs.size+2) (s.heap.objs.size+3) .none->IsPair h' (s.heap.objs.size+2) (.ref s.heap.objs.size) (.ref (s.heap.objs.size+1))->IsPair h' (s.heap.objs.size+3) .none .none ->
   ItAt b1 h' s.heap.objs.size l1 0->ItAt b2 h' (s.heap.objs.size+1) l2 0->(∀ c o,s.heap.get? c=some o->h'.get? c=some o)->Q (.ref (s.heap.objs.size+4)) { s with heap:=h' }) :
  wpAny (model prog w) A (call (.type "zip") [.ref l1,.ref l2]) Q E s:=by
 refine callType_new F.called_zip (by decide) (F.typeCall_zip_2 _ _) (F.newCall_zip_2 _ _) (λobj=>F.args_object_init_3 obj _ _) F.entry_zip_new (Zje b1 b2 l1 l2 xs ys) ⟨hl1,hl2,?_⟩
 have n1:(zA b1 s.heap l1).objs.size=s.heap.objs.size+1:=Heap.size_push ..
 have n2:(zB b1 b2 s.heap l1 l2).objs.size=s.heap.objs.size+2:=(Heap.size_push ..).trans (by rw [n1])
 have n3:(zC b1 b2 s.heap l1 l2).objs.size=s.heap.objs.size+3:=(Heap.size_push ..).trans (by rw [n2])
 have n4:(zD b1 b2 s.heap l1 l2).objs.size=s.heap.objs.size+4:=(Heap.size_push ..).trans (by rw [n3])
 have a5:IsZip (zH b1 b2 s.heap l1 l2) (zD b1 b2 s.heap l1 l2).objs.size (zB b1 b2 s.heap l1 l2).objs.size (zC b1 b2 s.heap l1 l2).objs.size .none:=Heap.get?_push_size _ rfl
 have a4:IsPair (zH b1 b2 s.heap l1 l2) (zC b1 b2 s.heap l1 l2).objs.size .none .none:=Heap.get?_push_of_some _ (Heap.get?_push_size _ rfl)
 have a3:IsPair (zH b1 b2 s.heap l1 l2) (zB b1 b2 s.heap l1 l2).objs.size (.ref s.heap.objs.size) (.ref (zA b1 s.heap l1).objs.size):=Heap.get?_push_of_some _ (Heap.get?_push_of_some _ (Heap.get?_push_size _ rfl))
 have a2:(zH b1 b2 s.heap l1 l2).get? (zA b1 s.heap l1).objs.size=some (dD b2 l2):=Heap.get?_push_of_some _ (Heap.get?_push_of_some _ (Heap.get?_push_of_some _ (Heap.get?_push_size _ (by cases b2 <;> rfl))))
 have a1:(zH b1 b2 s.heap l1 l2).get? s.heap.objs.size=some (dD b1 l1):=Heap.get?_push_of_some _ (Heap.get?_push_of_some _ (Heap.get?_push_of_some _ (Heap.get?_push_of_some _ (Heap.get?_push_size _ (by cases b1 <;> rfl)))))
 rw [n2,n3,n4] at a5
 rw [n3] at a4
 rw [n1,n2] at a3
 rw [n1] at a2
 show _/\_
 rw [n4]
 exact ⟨⟨_,a5,rfl⟩,h _ a5 a3 a4 (jU a1) (jU a2) λc o x=>Heap.get?_push_of_some _ (Heap.get?_push_of_some _ (Heap.get?_push_of_some _ (Heap.get?_push_of_some _ (Heap.get?_push_of_some _ x))))⟩
theorem ZhP {b1 b2:Bool} {z TI TO i1 i2 l1 l2:Addr} {k1 k2:Nat} {xs ys:Array Value} {x y a b:Value} {Q:Option Value->Shared->Prop} (D:ZipApart z TI TO i1 i2 l1 l2)
  (hz:IsZip s.heap z TI TO .none) (hTI:IsPair s.heap TI (.ref i1) (.ref i2)) (hTO:IsPair s.heap TO a b) (h1:ItAt b1 s.heap i1 l1 k1) (h2:ItAt b2 s.heap i2 l2 k2) (hl1:SqAt b1 s.heap l1 xs) (hl2:SqAt b2 s.heap l2 ys) (hx:xs[k1]?=some x) (hy:ys[k2]?=some y)
  (hQ:∀ h',IsZip h' z TI TO (rawInt s.heap.objs.size)->IsPair h' TO x y->ItAt b1 h' i1 l1 (k1+1)->ItAt b2 h' i2 l2 (k2+1)->IsPair h' s.heap.objs.size x y ->
   (∀ c o,c≠z->c≠TO->c≠i1->c≠i2->s.heap.get? c=some o->h'.get? c=some o)->Q (some (.ref s.heap.objs.size)) { s with heap:=h' }):wpAny (model prog w) A (pyNext (.ref z)) Q E s:=by
 have hT:s.TypeIs (.ref z) "zip":=⟨_,hz,rfl⟩
 unfold pyNext
 exact wpAny_bind (wpAny_attempt (wpAny_callSpecial?_slot (name:=Str.ofString "__next__") hT F.slot_zip_next (wpAny_call_entry F.slot_zip_next hT F.entry_zip_next (Zfm D hz hTI hTO h1 h2 hl1 hl2 hx hy λh' a1 a2 a3 a4 a5 a6=>wpAny_pure (hQ h' a1 a2 a3 a4 a5 a6)) (F.args_zip_next_1 _))))
theorem ZhR {b1 b2:Bool} {z TI TO i1 i2 l1 l2:Addr} {k1 k2:Nat} {xs ys:Array Value} {a b:Value} {Q:Option Value->Shared->Prop} (hh:A.handled=none) (D:ZipApart z TI TO i1 i2 l1 l2)
  (hz:IsZip s.heap z TI TO .none) (hTI:IsPair s.heap TI (.ref i1) (.ref i2)) (hTO:IsPair s.heap TO a b) (h1:ItAt b1 s.heap i1 l1 k1) (h2:ItAt b2 s.heap i2 l2 k2) (hl1:SqAt b1 s.heap l1 xs) (hl2:SqAt b2 s.heap l2 ys) (hend:xs[k1]?=none\/ys[k2]?=none)
  (hQ:∀ h',(∀ c o,c≠z->c≠TO->c≠i1->c≠i2->s.heap.get? c=some o->h'.get? c=some o)->Q none { s with heap:=h' }):wpAny (model prog w) A (pyNext (.ref z)) Q E s:=by
 have hT:s.TypeIs (.ref z) "zip":=⟨_,hz,rfl⟩
 unfold pyNext
 refine wpAny_bind (wpAny_attempt (wpAny_callSpecial?_slot (name:=Str.ofString "__next__") hT F.slot_zip_next (wpAny_call_entry F.slot_zip_next hT F.entry_zip_next (Zfo hh D hz hTI hTO h1 h2 hl1 hl2 hend λh' e hk he=>?_) (F.args_zip_next_1 _))))
 obtain ⟨o,ho,hc⟩:=he
 exact wpAny_bind (wpAny_isInstance (T:="StopIteration") (b:=true) ⟨o,ho,hc⟩ isSubtype_stop (wpAny_pure (hQ _ hk)))
end
section
variable {X:Cx} {pins:List (Addr×Obj)} {σ:St} {H:Hp} {s:Shared} {h':Heap}
theorem Inv.turns {t':Nat} {ch:List Addr} (I:Inv X pins σ H s) (k:∀ b o,b ∉ ch->s.heap.get? b=some o->h'.get? b=some o) (hf:∀ b∈ch,gE X pins H b):Inv X pins σ H { s with heap:=h',toks:=t' }:=by
 have nit:∀ b u,H b=some u->b ∉ ch:=λb u e z=>by rw [(hf b z).1] at e; cases e
 refine I.step (g':=s.gens) (d':=s.drawn) (ch:=ch) (λb hb=>?_) (λb o _ _ hc e _=>k b o hc e) (λb o _ _ hc e _=>⟨o.slots,k b o hc e⟩) (λ_ _ _ _ n=>n)
  (λb o hc e=>⟨o,k b o hc e⟩) (λ_ _ e=>e) (λ_ _ _ e=>e) (λb ps e=>⟨#[],by rw [e]; simp⟩) (λm hm=>?_) (λb u e=>?_) I.bare
 ·obtain ⟨_,f1,_,f3,f4,f5⟩:=hf b hb
  exact ⟨f3,f1,f4,f5⟩
 ·obtain ⟨o,es,ep,ho,r⟩:=hm
  exact ⟨o,es,ep,k _ o (λz=>(hf _ z).2.1 rfl) ho,r⟩
 ·refine (I.hok b u e).stay (λc v hc q=>k c v ?_ q) (λ_ q=>q) (λ_ _ q=>q) λ_ _ _ _ q _=>q
  rcases hc with z | z
  ·rw [z]; exact nit b u e
  ·exact nit c _ z
theorem Inv.pair {T:Addr} {x y:V} {u v:Value} (I:Inv X pins σ H s) (hT:H T=none) (ho:IsPair s.heap T u v) (r1:RelV x u) (r2:RelV y v)
  (hL:T≠X.env.locals) (hs0:X.s₀.heap.objs.size<=T) (hc:∀ x c,X.env.cells.lookup x=some c->c≠T) (hp:∀ p∈X.pn++pins,p.1≠T):Inv X pins σ (upd H T (.tup [x,y])) s:=by
 have ne:∀ {b:Addr} {o:HO},H b=some o->b≠T:=λe=>c7 e hT
 refine I.step (g':=s.gens) (d':=s.drawn) (t':=s.toks) (h':=s.heap) (ch:=[T]) (λb hb=>?_) (λb o _ _ _ e _=>e) (λb o _ _ _ e _=>⟨o.slots,e⟩) (λb o hb e n=>?_) (λb o _ e=>⟨o,e⟩)
  (λb xs e=>by rw [bG (ne e)]; exact e) (λb o u e=>by rw [bG (ne e)]; exact e) (λb ps e=>⟨#[],by rw [bG (ne e),e]; simp⟩) (λm hm=>hm) (λb u e=>?_) I.bare
 ·have e:b=T:=by simpa using hb
  subst e
  exact ⟨.inr hs0,hL,hc,hp⟩
 ·have hb':b≠T:=by simpa using hb
  rw [bG hb']
  exact n
 ·by_cases hb:b=T
  ·subst hb
   rw [cA] at e
   cases e
   exact ⟨by show 2<=sizeLine; decide,[_,_],.cons r1 (.cons r2 .nil),⟨_,ho,rfl,_,rfl⟩⟩
  ·rw [bG hb] at e
   exact (I.hok b u e).stay (λc v _ q=>q) (λc q=>by rw [bG (ne q)]; exact q) (λc xs q=>by rw [bG (ne q)]; exact q) λc ob xs _ q _=>by rw [bG (ne q)]; exact q
end
noncomputable def bR (b:Bool) (xs:List V):HO:=match b with
 | true=>.lst xs
 | false=>.tup xs
theorem dZ {P:Program} {w:World} {H:Hp} {h:Heap} (ok:HOk P w H h) {b:Bool} {a:Addr} {xs:List V} (e:H a=some (bR b xs)):∃ its:List Value,Vals xs its/\SqAt b h a its.toArray:=by
 cases b with
 | true=>obtain ⟨_,its,n,r,q⟩:=ok a _ e; exact ⟨its,r,⟨_,q,rfl,n,rfl⟩⟩
 | false=>obtain ⟨_,its,r,q⟩:=ok a _ e; exact ⟨its,r,q⟩
noncomputable def jz (b1 b2:Bool) (l1 l2:Addr):It :=
 ⟨λi H=>∃ xs ys x y,H l1=some (bR b1 xs)/\H l2=some (bR b2 ys)/\xs[i]?=some x/\ys[i]?=some y,
  λi H v H'=>∃ xs ys x y p,H l1=some (bR b1 xs)/\H l2=some (bR b2 ys)/\xs[i]?=some x/\ys[i]?=some y/\H p=none/\v=.ref p/\H'=upd H p (.tup [x,y]),
  λi H=>∃ xs ys,H l1=some (bR b1 xs)/\H l2=some (bR b2 ys)/\(xs[i]?=none\/ys[i]?=none)⟩
noncomputable def ZSt (b1 b2:Bool) (z TI TO i1 i2 l1 l2:Addr) (i:Nat) (h:Heap):Prop :=
 IsZip h z TI TO .none/\IsPair h TI (.ref i1) (.ref i2)/\(∃ a b,IsPair h TO a b)/\ItAt b1 h i1 l1 i/\ItAt b2 h i2 l2 i
theorem ZfT {P:Program} {w:World} {K:PySem.W.Frag} {elts:List Expr} {x1:Nat} {pos:Pos} {b1 b2:Bool} {l1 l2:Addr} (z TI TO i1 i2:Addr)
  (d:TI≠z/\TO≠z/\i1≠z/\i2≠z/\TI≠TO/\TI≠i1/\TI≠i2/\TO≠i1/\TO≠i2/\i1≠i2) :
  Turn P w K (.Tuple elts x1 pos) (jz b1 b2 l1 l2) [z,TI,TO,i1,i2] z (ZSt b1 b2 z TI TO i1 i2 l1 l2) where
 mem:=by simp
 obj:=λi h st b hb=>by
  obtain ⟨hz,hTI,⟨a,c,hTO⟩,h1,h2⟩:=st
  simp at hb
  rcases hb with rfl | rfl | rfl | rfl | rfl
  ·exact ⟨_,hz,λv q=>by cases q⟩
  ·exact ⟨_,hTI,λv q=>by cases q⟩
  ·exact ⟨_,hTO,λv q=>by cases q⟩
  ·exact h1.there
  ·exact h2.there
 keep:=λi h h' st k=>by
  obtain ⟨hz,hTI,⟨a,c,hTO⟩,h1,h2⟩:=st
  exact ⟨k _ (by simp) _ hz,k _ (by simp) _ hTI,⟨a,c,k _ (by simp) _ hTO⟩,h1.at λo e=>k _ (by simp) o e,h2.at λo e=>k _ (by simp) o e⟩
 item:=by
  intro X hP hw hK hc i pins s σ H E I hf st hg
  subst hP hw hK
  obtain ⟨xs,ys,x,y,e1,e2,hx,hy⟩:=hg
  obtain ⟨hz,hTI,⟨a,c,hTO⟩,h1,h2⟩:=st
  obtain ⟨us,r1,q1⟩:=dZ I.hok e1
  obtain ⟨vs,r2,q2⟩:=dZ I.hok e2
  obtain ⟨u,hu,ru⟩:=r1.get hx
  obtain ⟨v,hv,rv⟩:=r2.get hy
  have n1:∀ b∈[z,TI,TO,i1,i2],l1≠b/\l2≠b:=λb hb=>⟨c7 e1 (hf b hb).1,c7 e2 (hf b hb).1⟩
  obtain ⟨d1,d2,d3,d4,d5,d6,d7,d8,d9,d10⟩:=d
  have D:ZipApart z TI TO i1 i2 l1 l2:=⟨d1,d2,d3,d4,d5,d6,d7,d8,d9,d10,(n1 z (by simp)).1,(n1 TO (by simp)).1,(n1 i1 (by simp)).1,(n1 i2 (by simp)).1,(n1 z (by simp)).2,(n1 TO (by simp)).2,(n1 i1 (by simp)).2,(n1 i2 (by simp)).2⟩
  refine ZhP D hz hTI hTO h1 h2 q1 q2 (by simpa using hu) (by simpa using hv) λh' z' p' t1 t2 pr kk=>?_
  refine ⟨_,rfl,wpAny_letOwnedTupleGo_zip z' λh2' z2 sb=>?_⟩
  have lt:∀ {b:Addr} {o:Obj},s.heap.get? b=some o->s.heap.objs.size≠b:=λq=>Nat.ne_of_gt (Heap.lt_size q)
  have zlt:=lt hz
  have I1:Inv X pins σ H { s with heap:=h2' }:=I.turns (ch:=[z,TI,TO,i1,i2]) (t':=s.toks) (λb o hb e=>by
   simp at hb
   exact sb.extBut _ _ hb.1 (kk b o hb.1 hb.2.2.1 hb.2.2.2.1 hb.2.2.2.2 e)) hf
  have hTn:H s.heap.objs.size=none:=I.hok.fresh (Nat.le_refl _)
  have I2:=I1.pair (T:=s.heap.objs.size) (x:=x) (y:=y) hTn (sb.extBut _ _ zlt pr) ru rv (Nat.ne_of_gt I.lt) I.sz
   (λq cc e hq=>by obtain ⟨vv,zz⟩:=I.cell q cc e; exact absurd zz.lt (by rw [hq]; exact Nat.lt_irrefl _)) (λp hp hq=>absurd (Heap.lt_size (I.pin p hp).1) (by rw [hq]; exact Nat.lt_irrefl _))
  refine ⟨.ref s.heap.objs.size,_,I2,rfl,⟨xs,ys,x,y,_,e1,e2,hx,hy,hTn,rfl,rfl⟩,⟨z2,sb.extBut _ _ d1 (kk _ _ d1 d5 d6 d7 hTI),⟨u,v,sb.extBut _ _ d2 p'⟩,t1.at λo e=>sb.extBut _ _ d3 e,t2.at λo e=>sb.extBut _ _ d4 e⟩,λb hb=>?_⟩
  have hbn:b≠s.heap.objs.size:=by
   simp at hb
   obtain ⟨o1,g1,_⟩:=h1.there
   obtain ⟨o2,g2,_⟩:=h2.there
   rcases hb with rfl | rfl | rfl | rfl | rfl
   ·exact (lt hz).symm
   ·exact (lt hTI).symm
   ·exact (lt hTO).symm
   ·exact (lt g1).symm
   ·exact (lt g2).symm
  rw [bG hbn]
  exact (hf b hb).1
 done:=by
  intro X hP hw hK hc i pins s σ H E I hf st hg
  subst hP hw hK
  obtain ⟨xs,ys,e1,e2,hend⟩:=hg
  obtain ⟨hz,hTI,⟨a,c,hTO⟩,h1,h2⟩:=st
  obtain ⟨us,r1,q1⟩:=dZ I.hok e1
  obtain ⟨vs,r2,q2⟩:=dZ I.hok e2
  have n1:∀ b∈[z,TI,TO,i1,i2],l1≠b/\l2≠b:=λb hb=>⟨c7 e1 (hf b hb).1,c7 e2 (hf b hb).1⟩
  obtain ⟨d1,d2,d3,d4,d5,d6,d7,d8,d9,d10⟩:=d
  have D:ZipApart z TI TO i1 i2 l1 l2:=⟨d1,d2,d3,d4,d5,d6,d7,d8,d9,d10,(n1 z (by simp)).1,(n1 TO (by simp)).1,(n1 i1 (by simp)).1,(n1 i2 (by simp)).1,(n1 z (by simp)).2,(n1 TO (by simp)).2,(n1 i1 (by simp)).2,(n1 i2 (by simp)).2⟩
  refine ZhR (I.ok.hd hc) D hz hTI hTO h1 h2 q1 q2 (hend.imp (λq=>by simpa using r1.none_of q) (λq=>by simpa using r2.none_of q)) λh' kk=>⟨rfl,?_⟩
  exact I.turns (ch:=[z,TI,TO,i1,i2]) (t':=s.toks) (λb o hb e=>by
   simp at hb
   exact kk b o hb.1 hb.2.2.1 hb.2.2.2.1 hb.2.2.2.2 e) hf
 self:=λ_ _ _ _ _ st h=>wpAny_pyIter_zip st.1 h
end L2
namespace L2
open PySem PySem.Spec PyProof.Rows
open AutoSeq1 (wpAny_loadPart')
section
variable {X:Cx} {tg:Expr} {PK:Pk} {a b:Expr} {i j:List Sl->Tr PyData} {p pos:Pos}
noncomputable def Zdt (ta tb:TE):TI:=λσ H R=>ta σ H λx H1=>tb σ H1 λy H2=>∃ b1 b2 l1 l2 xs ys,x=.ref l1/\y=.ref l2/\H2 l1=some (bR b1 xs)/\H2 l2=some (bR b2 ys)/\R (jz b1 b2 l1 l2) H2
theorem Zcy {elts:List Expr} {x1:Nat} {tpos:Pos} {ta tb:TE} (hc:X.calm=true) (hg:Gl X "zip") (hm:X.mg "zip"=none) (ha:PE X a ta) (hb:PE X b tb)
  (hs:starEach [a,b] X.env=[(false,eval a X.env),(false,eval b X.env)]:=by rfl) (hs2:starEach [b] X.env=[(false,eval b X.env)]:=by rfl):PI X (.Tuple elts x1 tpos) (.Call (.Name "zip" p) [a,b] [] pos) (Zdt ta tb):=by
 intro pins s σ H R I h
 have hab:PA X [a,b] (fg ta (fg tb cw)):=cD ha (cD hb cU (by rw [hs2]; rfl)) (by rw [hs,hs2])
 refine Call_ (iP I hg hm boot_zip (PyProof.Rows.callWith_type1 (thn (hab pos pins s σ H (λvs H2=>∃ b1 b2 l1 l2 xs ys,vs=[.ref l1,.ref l2]/\H2 l1=some (bR b1 xs)/\H2 l2=some (bR b2 ys)/\R (jz b1 b2 l1 l2) H2) I ?_) λus s1 ⟨vs,H1,I1,r1,q1⟩=>?_) (by rw [hs,hs2]) (by rw [hs2]; rfl)))
 ·refine (show ta σ H _ from ?_)
  have h':ta σ H λx H1=>tb σ H1 λy H2=>∃ b1 b2 l1 l2 xs ys,x=.ref l1/\y=.ref l2/\H2 l1=some (bR b1 xs)/\H2 l2=some (bR b2 ys)/\R (jz b1 b2 l1 l2) H2:=h
  have e:(λ(x:V) (H1:Hp)=>tb σ H1 λy H2=>∃ b1 b2 l1 l2 xs ys,x=.ref l1/\y=.ref l2/\H2 l1=some (bR b1 xs)/\H2 l2=some (bR b2 ys)/\R (jz b1 b2 l1 l2) H2) =
    λx H1=>fg tb cw σ H1 λxs H2=>∃ b1 b2 l1 l2 us ys,x::xs=[.ref l1,.ref l2]/\H2 l1=some (bR b1 us)/\H2 l2=some (bR b2 ys)/\R (jz b1 b2 l1 l2) H2:=by
   funext x H1
   show _=tb σ H1 _
   congr 1
   funext y H2
   show _=(∃ b1 b2 l1 l2 us ys,[x,y]=[.ref l1,.ref l2]/\H2 l1=some (bR b1 us)/\H2 l2=some (bR b2 ys)/\R (jz b1 b2 l1 l2) H2)
   apply propext
   constructor
   ·rintro ⟨b1,b2,l1,l2,xs,ys,rfl,rfl,q⟩; exact ⟨b1,b2,l1,l2,xs,ys,rfl,q⟩
   ·rintro ⟨b1,b2,l1,l2,xs,ys,e,q⟩
    have e1:x=V.ref l1/\y=V.ref l2:=by simpa using e
    exact ⟨b1,b2,l1,l2,xs,ys,e1.1,e1.2,q⟩
  rw [e] at h'
  exact h'
 ·obtain ⟨b1,b2,l1,l2,xs,ys,rfl,e1,e2,q⟩:=q1
  obtain ⟨u1,u2,rfl,r1,r2⟩:=n8 r1
  cases r1
  cases r2
  obtain ⟨us,ru,q1⟩:=dZ I1.hok e1
  obtain ⟨vs,rv,q2⟩:=dZ I1.hok e2
  refine Zoo q1 q2 λh' z pTI pTO t1 t2 kk=>?_
  have I2:Inv X pins σ H1 { s1 with heap:=h' }:=I1.kept (t':=s1.toks) kk
  have na:∀ n k:Nat,n≠k->(s1.heap.objs.size+n:Nat)≠s1.heap.objs.size+k:=λn k h e=>h (by omega)
  refine wpAny_pyIter_zip z ⟨s1.heap.objs.size+4,[s1.heap.objs.size+4,s1.heap.objs.size+2,s1.heap.objs.size+3,s1.heap.objs.size,s1.heap.objs.size+1],_,_,H1,rfl,I2,ZfT _ _ _ _ _ ⟨na 2 4 (by decide),na 3 4 (by decide),na 0 4 (by decide),na 1 4 (by decide),na 2 3 (by decide),na 2 0 (by decide),na 2 1 (by decide),na 3 0 (by decide),na 3 1 (by decide),na 0 1 (by decide)⟩,⟨z,pTI,⟨_,_,pTO⟩,t1,t2⟩,λb hb=>?_,q⟩
  have hle:s1.heap.objs.size<=b:=by
   simp at hb
   rcases hb with rfl | rfl | rfl | rfl | rfl <;> first | exact Nat.le_add_right _ _ | exact Nat.le_refl _
  exact I1.fpOk hle (I1.hok.fresh hle)
noncomputable def dY (xs ys:List PyData):List PyData:=(xs.zip ys).map λ(x,y)=>.tuple [x,y]
theorem jW {G:Hp} {v:V} {x:PyData} {xs:List PyData} (d:Dn G v x) (h:fN x=some xs):∃ b a vs,v=.ref a/\G a=some (bR b vs)/\DnAll G vs xs:=by
 cases d with
 | lst h1 h2=>cases h; exact ⟨true,_,_,rfl,h1,h2⟩
 | tup h1 h2=>cases h; exact ⟨false,_,_,rfl,h1,h2⟩
 | _=>cases h
theorem lu {b:Bool} {xs ys:List V} (h:some (bR b xs)=some (bR b ys)):xs=ys:=by
 cases b <;> (cases h; rfl)
theorem ZjR {pa:Addr} {G:Hp} {b1 b2:Bool} {l1 l2:Addr} {us vs:List V} {xs ys:List PyData} (h1:G l1=some (bR b1 us)) (h2:G l2=some (bR b2 vs)) (d1:DnAll G us xs) (d2:DnAll G vs ys):jw PK pa (jz b1 b2 l1 l2) G (dY xs ys):=λm G2 H2 sb w=>by
 have e1:H2 l1=some (bR b1 us):=w.sub _ _ (sb _ _ h1)
 have e2:H2 l2=some (bR b2 vs):=w.sub _ _ (sb _ _ h2)
 refine ⟨λn d hd=>?_,us,vs,e1,e2,?_⟩
 ·unfold dY at hd
  rw [List.getElem?_map] at hd
  cases hz:(xs.zip ys)[n]? with
  | none=>rw [hz] at hd; cases hd
  | some xy =>
   rw [hz] at hd
   cases hd
   have hxy:=List.getElem?_zip_eq_some.mp hz
   obtain ⟨u,hu,du⟩:=d1.get n hxy.1
   obtain ⟨v,hv,dv⟩:=d2.get n hxy.2
   refine ⟨⟨us,vs,u,v,e1,e2,hu,hv⟩,λx H3 hz0=>?_⟩
   obtain ⟨us',vs',u',v',p,f1,f2,hu',hv',hp,ex,eH⟩:=hz0
   rw [e1] at f1
   rw [e2] at f2
   have:=lu f1
   have:=lu f2
   subst us' vs'
   rw [hu] at hu'
   rw [hv] at hv'
   cases hu'
   cases hv'
   subst ex eH
   obtain ⟨w3,s3⟩:=w.new (o:=.tup [u,v]) hp
   exact ⟨_,s3,w3,.tup cA (.cons ((du.mono sb).mono s3.gs) (.cons ((dv.mono sb).mono s3.gs) .nil))⟩
 ·unfold dY
  rw [List.length_map,List.length_zip,d1.length.symm,d2.length.symm]
  rcases Nat.le_total us.length vs.length with hle | hle
  ·left
   rw [Nat.min_eq_left hle]
   simp
  ·right
   rw [Nat.min_eq_right hle]
   simp
noncomputable def qs (i j:List Sl->Tr PyData):List Sl->Tr (List PyData):=λρ=>(i ρ).bind λx=>(j ρ).bind λy=>(Tr.of (fN x)).bind λxs=>(Tr.of (fN y)).bind λys=>.ret (dY xs ys)
theorem Ze4 {iter:Expr} (h:PI X tg iter (Zdt (TAe PK i) (TAe PK j))):PI X tg iter (gD PK (qs i j)):=h.imp λσ H R0 hz0=>by
 obtain ⟨pa,G₀,H₀,m,ρ,G,R,z⟩:=hz0
 refine TAe.then R z λm1 x v G1 H1 s1 w1 R1 d1 q1=>?_
 refine TAe.then R1 q1 λm2 y u G2 H2 s2 w2 R2 d2 q2=>?_
 rw [Tr.ok_bind] at q2
 obtain ⟨xs,hx,q2⟩:=Tr.ok_of q2
 rw [Tr.ok_bind] at q2
 obtain ⟨ys,hy,q2⟩:=Tr.ok_of q2
 obtain ⟨b1,l1,us,rfl,e1,f1⟩:=jW (d1.mono s2.gs) hx
 obtain ⟨b2,l2,vs,rfl,e2,f2⟩:=jW d2 hy
 exact ⟨b1,b2,l1,l2,us,vs,rfl,rfl,w2.sub _ _ e1,w2.sub _ _ e2,q2 _ G2 H2 (s1.trans s2 w1.some) w2 (ZjR e1 e2 f1 f2)⟩
end
theorem js {prog:Program} {w:World} {A:Around} (hh:A.handled=none) (b:Bool) (it l:Addr) (hne:l≠it) (items:Array Value):Draws prog w A it [it,l] items.size (λi v=>items[i]?=some v) (λi h=>ItAt b h it l i/\SqAt b h l items) where
 live:=λ_ _ st=>let ⟨o,ho,_⟩:=st.1.there; ⟨o,ho⟩
 frame:=λ_ _ _ st hk=>⟨st.1.at λo e=>hk it (by simp) o e,st.2.at λo e=>hk l (by simp) o e⟩
 item:=λi s Q E hi st hQ=>oW st.1 st.2 (x:=items[i]) (by simp [hi]) λh' hit' hs'=>hQ _ h' s.toks (by simp [hi]) ⟨hit',st.2.bt hs'.extBut hne⟩ hs'
 done:=λs Q E st hE=>sZ hh st.1 st.2 (by simp) hE
theorem Zjh (b:Bool) (l:Addr) (items:Array Value) :
  Meets (Builtin.«enumerate.__new__» ⟨[.type "enumerate",.ref l],[]⟩) (λ_ R s=>SqAt b s.heap l items /\
   R (.ok (.ret (.ref (s.heap.push (dD b l)).objs.size))) { s with heap:=(s.heap.push (dD b l)).push { cls:=.type "enumerate",data:=.fields #[.none,.bool false,.ref s.heap.objs.size,rawInt 0,.none,.none] } }) :=
 .of_wp λprog w A R s h=>by
  obtain ⟨hp,g,d,tk,os⟩:=s
  obtain ⟨hl,h⟩:=h
  have hsub:=sub_enumerate
  have q:SqAt b (Shared.heap ⟨hp,g,d,tk,os⟩) l items:=hl
  have ho:∃ ob,hp.get? l=some ob:=by
   cases b with
   | true=>obtain ⟨ob,e,_⟩:=hl; exact ⟨ob,e⟩
   | false=>obtain ⟨ob,e,_⟩:=hl; exact ⟨ob,e⟩
  obtain ⟨ob,ho⟩:=ho
  wp_walk using wpAny_loadPart' ho
  refine wpAny_stack_any λst=>wpAny_pure ?_
  split
  ·rename_i c _ _ _ _ _
   cases (c == Value.type "enumerate")
   ·wp_walk using wpAny_loadPart' ho,iH q
    exact ⟨_,rfl,h⟩
   ·wp_walk using wpAny_loadPart' ho,iH q
    exact ⟨_,rfl,h⟩
  ·wp_walk using wpAny_loadPart' ho,iH q
   exact ⟨_,rfl,h⟩
section
variable {prog:Program} {w:World} {A:Around} {E:Value->Shared->Prop} {s:Shared}
theorem Zov {b:Bool} {l:Addr} {items:Array Value} {Q:Value->Shared->Prop} (hl:SqAt b s.heap l items)
  (h:∀ h',IsEnum h' (s.heap.objs.size+1) s.heap.objs.size 0 .none->ItAt b h' s.heap.objs.size l 0->(∀ c o,s.heap.get? c=some o->h'.get? c=some o)->Q (.ref (s.heap.objs.size+1)) { s with heap:=h' }) :
  wpAny (model prog w) A (call (.type "enumerate") [.ref l]) Q E s:=by
 refine callType_new F.called_enumerate (by decide) (F.typeCall_enumerate_1 _) (F.newCall_enumerate_1 _) (λobj=>F.args_object_init_2 obj _) F.entry_enumerate_new (Zjh b l items) ⟨hl,?_⟩
 have n1:(s.heap.push (dD b l)).objs.size=s.heap.objs.size+1:=Heap.size_push ..
 have a2:IsEnum ((s.heap.push (dD b l)).push { cls:=.type "enumerate",data:=.fields #[.none,.bool false,.ref s.heap.objs.size,rawInt 0,.none,.none] }) (s.heap.push (dD b l)).objs.size s.heap.objs.size 0 .none:=Heap.get?_push_size _ rfl
 have a1:((s.heap.push (dD b l)).push { cls:=.type "enumerate",data:=.fields #[.none,.bool false,.ref s.heap.objs.size,rawInt 0,.none,.none] }).get? s.heap.objs.size=some (dD b l):=Heap.get?_push_of_some _ (Heap.get?_push_size _ (by cases b <;> rfl))
 rw [n1] at a2
 show _/\_
 rw [n1]
 exact ⟨⟨_,a2,rfl⟩,h _ a2 (jU a1) λc o x=>Heap.get?_push_of_some _ (Heap.get?_push_of_some _ x)⟩
end
noncomputable def kr (b:Bool) (l:Addr):It :=
 ⟨λi H=>∃ xs x,H l=some (bR b xs)/\xs[i]?=some x,
  λi H v H'=>∃ xs x p,H l=some (bR b xs)/\xs[i]?=some x/\H p=none/\v=.ref p/\H'=upd H p (.tup [.int i,x]),
  λi H=>∃ xs,H l=some (bR b xs)/\xs.length=i⟩
theorem ZfX {P:Program} {w:World} {K:PySem.W.Frag} {elts:List Expr} {x1:Nat} {pos:Pos} {b:Bool} {l:Addr} (e it:Addr) (hne:e≠it) :
  Turn P w K (.Tuple elts x1 pos) (kr b l) [e,it] e (λi h=>(∃ old,IsEnum h e it i old)/\ItAt b h it l i) where
 mem:=by simp
 obj:=λi h st c hb=>by
  obtain ⟨⟨old,he⟩,h1⟩:=st
  simp at hb
  rcases hb with rfl | rfl
  ·exact ⟨_,he,λv q=>by cases q⟩
  ·exact h1.there
 keep:=λi h h' st k=>by
  obtain ⟨⟨old,he⟩,h1⟩:=st
  exact ⟨⟨old,k _ (by simp) _ he⟩,h1.at λo q=>k _ (by simp) o q⟩
 item:=by
  intro X hP hw hK hc i pins s σ H E I hf st hg
  subst hP hw hK
  obtain ⟨xs,x,e1,hx⟩:=hg
  obtain ⟨⟨old,he⟩,h1⟩:=st
  obtain ⟨us,r1,q1⟩:=dZ I.hok e1
  obtain ⟨u,hu,ru⟩:=r1.get hx
  have nl:∀ c∈[e,it],l≠c:=λc hc=>c7 e1 (hf c hc).1
  have hlt:i < us.toArray.size:=by
   have:=(List.getElem?_eq_some_iff.mp hu).1
   simpa using this
  refine wpAny_pyNext_enum_itemD (js (A:=X.A.in1) (show X.A.in1.handled=none from I.ok.hd hc) b it l (nl it (by simp)) us.toArray) he ⟨h1,q1⟩ hlt hne (by simp only [List.mem_cons,List.not_mem_nil,or_false,not_or]; exact ⟨hne,(nl e (by simp)).symm⟩) λx' h' tk hP' ho st' hT hsz kk=>?_
  have hxu:x'=u:=by
   have q:us[i]?=some x':=by simpa using hP'
   rw [hu] at q
   cases q
   rfl
  subst hxu
  refine ⟨_,rfl,wpAny_letOwnedTupleGo_enum ho λh2' z2 sb=>?_⟩
  have lt:∀ {c:Addr} {o:Obj},s.heap.get? c=some o->s.heap.objs.size≠c:=λq=>Nat.ne_of_gt (Heap.lt_size q)
  have I1:Inv X pins σ H { s with heap:=h2',toks:=tk+1 }:=I.turns (ch:=[e,it]) (λc o hb q=>by
   simp at hb
   exact sb.extBut _ _ hb.1 (kk c o hb.1 hb.2 q)) hf
  have hTn:H s.heap.objs.size=none:=I.hok.fresh (Nat.le_refl _)
  have I2:=I1.pair (T:=s.heap.objs.size) (x:=.int i) (y:=x) hTn (sb.extBut _ _ (lt he) hT) ⟨tk,rfl⟩ ru (Nat.ne_of_gt I.lt) I.sz
   (λq cc ee hq=>by obtain ⟨vv,zz⟩:=I.cell q cc ee; exact absurd zz.lt (by rw [hq]; exact Nat.lt_irrefl _)) (λp hp hq=>absurd (Heap.lt_size (I.pin p hp).1) (by rw [hq]; exact Nat.lt_irrefl _))
  refine ⟨.ref s.heap.objs.size,_,I2,rfl,⟨xs,x,_,e1,hx,hTn,rfl,rfl⟩,⟨⟨_,z2⟩,st'.1.at λo q=>sb.extBut _ _ (Ne.symm hne) q⟩,λc hb=>?_⟩
  have hbn:c≠s.heap.objs.size:=by
   simp at hb
   obtain ⟨o1,g1,_⟩:=h1.there
   rcases hb with rfl | rfl
   ·exact (lt he).symm
   ·exact (lt g1).symm
  rw [bG hbn]
  exact (hf c hb).1
 done:=by
  intro X hP hw hK hc i pins s σ H E I hf st hg
  subst hP hw hK
  obtain ⟨xs,e1,hend⟩:=hg
  obtain ⟨⟨old,he⟩,h1⟩:=st
  obtain ⟨us,r1,q1⟩:=dZ I.hok e1
  have nl:∀ c∈[e,it],l≠c:=λc hc=>c7 e1 (hf c hc).1
  have hsz:us.toArray.size=i:=by rw [List.size_toArray,<- r1.length]; exact hend
  subst hsz
  refine wpAny_pyNext_enum_endD (js (A:=X.A.in1) (show X.A.in1.handled=none from I.ok.hd hc) b it l (nl it (by simp)) us.toArray) he ⟨h1,q1⟩ λh' eb=>⟨rfl,?_⟩
  exact I.turns (ch:=[e,it]) (t':=s.toks) (λc o hb q=>by
   simp at hb
   exact eb c o hb.2 q) hf
 self:=λ_ _ _ _ _ st h=>by
  obtain ⟨⟨old,he⟩,_⟩:=st
  exact wpAny_pyIter_enum he h
section
variable {X:Cx} {tg:Expr} {PK:Pk} {a b:Expr} {i j:List Sl->Tr PyData} {p pos:Pos}
noncomputable def Zdx (ta:TE):TI:=λσ H R=>ta σ H λx H1=>∃ b l xs,x=.ref l/\H1 l=some (bR b xs)/\R (kr b l) H1
theorem sQ {elts:List Expr} {x1:Nat} {tpos:Pos} {ta:TE} (hc:X.calm=true) (hg:Gl X "enumerate") (hm:X.mg "enumerate"=none) (ha:PE X a ta)
  (hs:starEach [a] X.env=[(false,eval a X.env)]:=by rfl):PI X (.Tuple elts x1 tpos) (.Call (.Name "enumerate" p) [a] [] pos) (Zdx ta):=by
 intro pins s σ H R I h
 have hab:PA X [a] (fg ta cw):=cD ha cU (by rw [hs]; rfl)
 have h':fg ta cw σ H λvs H1=>∃ x,vs=[x]/\∃ b l xs,x=.ref l/\H1 l=some (bR b xs)/\R (kr b l) H1:=by
  have e:(λ(x:V) (H1:Hp)=>∃ b l xs,x=.ref l/\H1 l=some (bR b xs)/\R (kr b l) H1)=λx H1=>cw σ H1 λxs H2=>∃ y,x::xs=[y]/\∃ b l xs,y=.ref l/\H2 l=some (bR b xs)/\R (kr b l) H2:=by
   funext x H1
   apply propext
   constructor
   ·exact λq=>⟨x,rfl,q⟩
   ·rintro ⟨y,e,q⟩
    have e':x=y:=by simpa using e
    subst e'
    exact q
  have h0:ta σ H λx H1=>∃ b l xs,x=.ref l/\H1 l=some (bR b xs)/\R (kr b l) H1:=h
  rw [e] at h0
  exact h0
 refine Call_ (iP I hg hm boot_enumerate (PyProof.Rows.callWith_type1 (thn (hab pos pins s σ H _ I h') λus s1 hz0=>?_) (by rw [hs]; rfl) rfl))
 obtain ⟨vs,H1,I1,r1,q1⟩:=hz0
 obtain ⟨x,rfl,b,l,xs,rfl,e1,q⟩:=q1
 obtain ⟨u,rfl,ru⟩:=gS r1
 cases ru
 obtain ⟨us,ru,q1⟩:=dZ I1.hok e1
 refine Zov q1 λh' z t1 kk=>?_
 have I2:Inv X pins σ H1 { s1 with heap:=h' }:=I1.kept (t':=s1.toks) kk
 refine wpAny_pyIter_enum z ⟨s1.heap.objs.size+1,[s1.heap.objs.size+1,s1.heap.objs.size],_,_,H1,rfl,I2,ZfX _ _ (λq=>absurd (show (s1.heap.objs.size+1:Nat)=s1.heap.objs.size from q) (by omega)),⟨⟨_,z⟩,t1⟩,λc hb=>?_,q⟩
 have hle:s1.heap.objs.size<=c:=by
  simp at hb
  rcases hb with rfl | rfl <;> first | exact Nat.le_add_right _ _ | exact Nat.le_refl _
 exact I1.fpOk hle (I1.hok.fresh hle)
noncomputable def fX (xs:List PyData):List PyData:=(List.range xs.length).zipWith (λ(n:Nat) x=>.tuple [.int n,x]) xs
theorem ZjV {pa:Addr} {G:Hp} {b:Bool} {l:Addr} {us:List V} {xs:List PyData} (h1:G l=some (bR b us)) (d1:DnAll G us xs):jw PK pa (kr b l) G (fX xs):=λm G2 H2 sb w=>by
 have e1:H2 l=some (bR b us):=w.sub _ _ (sb _ _ h1)
 have hlen:(fX xs).length=xs.length:=by unfold fX; simp
 refine ⟨λn d hd=>?_,us,e1,by rw [hlen,d1.length]⟩
 have hn:n < xs.length:=by rw [<- hlen]; exact (List.getElem?_eq_some_iff.mp hd).1
 have hd':d=.tuple [.int n,xs[n]]:=by
  unfold fX at hd
  rw [List.getElem?_zipWith] at hd
  simp [hn] at hd
  exact hd.symm
 subst hd'
 obtain ⟨u,hu,du⟩:=d1.get n (show xs[n]?=some xs[n] by simp [hn])
 refine ⟨⟨us,u,e1,hu⟩,λx H3 hz0=>?_⟩
 obtain ⟨us',u',p,f1,hu',hp,ex,eH⟩:=hz0
 rw [e1] at f1
 have:=lu f1
 subst us'
 rw [hu] at hu'
 cases hu'
 subst ex eH
 obtain ⟨w3,s3⟩:=w.new (o:=.tup [.int n,u]) hp
 exact ⟨_,s3,w3,.tup cA (.cons (.int n) (.cons ((du.mono sb).mono s3.gs) .nil))⟩
noncomputable def nO (i:List Sl->Tr PyData):List Sl->Tr (List PyData):=λρ=>(i ρ).bind λx=>(Tr.of (fN x)).bind λxs=>.ret (fX xs)
theorem uW {iter:Expr} (h:PI X tg iter (Zdx (TAe PK i))):PI X tg iter (gD PK (nO i)):=h.imp λσ H R0 hz0=>by
 obtain ⟨pa,G₀,H₀,m,ρ,G,R,z⟩:=hz0
 refine TAe.then R z λm1 x v G1 H1 s1 w1 R1 d1 q1=>?_
 rw [Tr.ok_bind] at q1
 obtain ⟨xs,hx,q1⟩:=Tr.ok_of q1
 obtain ⟨b1,l1,us,rfl,e1,f1⟩:=jW d1 hx
 exact ⟨b1,l1,us,rfl,w1.sub _ _ e1,q1 _ G1 H1 s1 w1 (ZjV e1 f1)⟩
end
end L2
namespace L2
open PySem PySem.Spec PyProof.Rows
section
variable {prog:Program} {w:World} {A:Around}
theorem ZfE (hh:A.handled=none) (b:Bool) (I ax:Addr) (hne:ax≠I) (items:Array Value):Walks prog w A I [I,ax] [I] items.size (λi v=>items[i]?=some v) (λi h=>ItAt b h I ax i/\SqAt b h ax items):=by
 cases b with
 | true=>exact Walks.list hh I ax hne items
 | false=>exact Walks.tuple hh I ax hne items
end
theorem Zj8 {ns:List Int} {us:List Value} (r:Vals (ns.map V.int) us) {i:Nat} {v:Value} (h:us[i]?=some v):∃ t,v=.int ((ns[i]?).getD 0) t:=by
 have hi:i < us.length:=(List.getElem?_eq_some_iff.mp h).1
 have hl:us.length=ns.length:=by rw [<- r.length,List.length_map]
 obtain ⟨u,e1,e2⟩:=r.get (i:=i) (x:=V.int ns[i]) (by simp [show i < ns.length by omega])
 rw [h] at e1
 cases e1
 obtain ⟨t,e2⟩:=e2
 exact ⟨t,by simp [show i < ns.length by omega,e2]⟩
theorem Zh6 (ns:List Int):preSum (λi=>(ns[i]?).getD 0) ns.length=ns.sum:=by
 have key:∀ k,k<=ns.length->preSum (λi=>(ns[i]?).getD 0) k=(ns.take k).sum:=by
  intro k
  induction k with
  | zero=>intro _; simp [preSum]
  | succ k ih =>
   intro hk
   rw [preSum,ih (by omega),List.take_add_one,List.sum_append]
   simp [show k < ns.length by omega]
 rw [key _ (Nat.le_refl _),List.take_length]
section
variable {X:Cx} {PK:Pk}
theorem pZ (hc:X.calm=true):gg X (.builtin "sum") (λxs H Q=>∃ (b:Bool) (l:Addr) (ns:List Int),xs=[.ref l]/\H l=some (bR b (ns.map V.int))/\Q (.int ns.sum) H):=by
 intro pins s σ H xs us Q I r h
 obtain ⟨b,l,ns,rfl,e1,q⟩:=h
 obtain ⟨u,rfl,ru⟩:=gS r
 cases ru
 obtain ⟨vs,rv,sq⟩:=dZ I.hok e1
 have hlt:l < s.heap.objs.size:=I.hok.lt e1
 refine call_sum_walkG (iH sq ?_)
 refine ⟨s.heap.objs.size,[s.heap.objs.size,l],[s.heap.objs.size],vs.toArray.size,_,_,λi=>(ns[i]?).getD 0,rfl,ZfE (A:=X.A.in1) (I.ok.hd hc) b _ l (Nat.ne_of_lt hlt) vs.toArray,
  ⟨jU (Heap.get?_push_size _ (by cases b <;> rfl)),sq.push _⟩,λc hc=>?_,λi v hv=>Zj8 rv (by simpa using hv),λh' tk t' hk=>?_⟩
 ·rw [Heap.size_push]
  simp at hc
  rcases hc with rfl | rfl
  ·exact Nat.lt_succ_self _
  ·exact Nat.lt_succ_of_lt hlt
 ·refine ⟨.int ns.sum,H,I.kept (t':=tk) λc o e=>hk c o (λz=>?_) (Heap.get?_push_of_some _ e),⟨t',?_⟩,q⟩
  ·have:c=s.heap.objs.size:=by simpa using z
   subst this
   exact Nat.lt_irrefl _ (Heap.lt_size e)
  ·have e:vs.toArray.size=ns.length:=by rw [List.size_toArray,<- rv.length,List.length_map]
   rw [e,Zh6]
noncomputable def bools?:List PyData->Option (List Bool)
 | []=>some []
 | .bool n::xs=>(bools? xs).bind λns=>some (n::ns)
 | _=>none
@[simp] theorem bools?_map:∀ ns:List Bool,bools? (ns.map PyData.bool)=some ns
 | []=>rfl
 | n::ns=>by rw [List.map_cons,bools?,bools?_map ns]; rfl
noncomputable def mK {α:Type} (p:List PyData->Option α) (f:α->Option PyData):List PyData->Option PyData
 | [x]=>(fN x).bind λxs=>(p xs).bind f
 | _=>none
noncomputable def ij:List PyData->Option PyData:=mK ints? λns=>some (.int ns.sum)
theorem ZiQ {α:Type} {p:List PyData->Option α} {f:α->Option PyData} {G:Hp} {vs:List V} {ds:List PyData} {d:PyData} (hv:DnAll G vs ds) (h:mK p f ds=some d):∃ b l us xs y,vs=[.ref l]/\G l=some (bR b us)/\DnAll G us xs/\p xs=some y/\f y=some d:=by
 unfold mK at h
 split at h
 ·rename_i x
  cases hx:fN x with
  | none=>rw [hx] at h; cases h
  | some xs =>
   rw [hx] at h
   have h':(p xs).bind f=some d:=h
   cases hp:p xs with
   | none=>rw [hp] at h'; cases h'
   | some y =>
    rw [hp] at h'
    cases hv with
    | cons h1 h2 =>
     cases h2
     obtain ⟨b,l,us,rfl,e1,e2⟩:=jW h1 hx
     exact ⟨b,l,us,xs,y,rfl,e1,e2,hp,h'⟩
 ·cases h
theorem nY:iZ (λxs H Q=>∃ (b:Bool) (l:Addr) (ns:List Int),xs=[.ref l]/\H l=some (bR b (ns.map V.int))/\Q (.int ns.sum) H) ij:=λPK pa m G H vs ds d Q w hv hd k=>by
 obtain ⟨b,l,us,xs,ns,rfl,e1,e2,hp,hf⟩:=ZiQ hv hd
 obtain ⟨rfl,rfl⟩:=e2.ints_inv hp
 cases hf
 exact ⟨b,l,ns,rfl,w.sub _ _ e1,k.here w (.int _)⟩
variable {a b c e:Expr} {pos:Pos} {i j l:List Sl->Tr PyData}
noncomputable def qE (f g:PyData->PyData->Option PyData) (i j l:List Sl->Tr PyData):List Sl->Tr PyData:=λρ=>(i ρ).bind λx=>(j ρ).bind λy=>(Tr.of (f x y)).bind λz=>(Tr.of (jA z)).bind λk =>
 if k=true then (l ρ).bind λu=>Tr.of (g y u) else .ret (.bool false)
theorem Zoe {r r':R2} {f g:PyData->PyData->Option PyData} (hv:df r f) (hv':df r' g):∀ σ H Q,TAe PK (qE f g i j l) σ H Q->ZaD r r' (TAe PK i) (TAe PK j) (TAe PK l) σ H Q:=by
 rintro σ H Q ⟨pa,G₀,H₀,m,ρ,G,R,q⟩
 refine TAe.then R q λm1 x v G1 H1 s1 w1 R1 d1 q1=>?_
 refine TAe.then R1 q1 λm2 y u G2 H2 s2 w2 R2 d2 q2=>?_
 rw [Tr.ok_bind] at q2
 obtain ⟨z,hz,q3⟩:=Tr.ok_of q2
 rw [Tr.ok_bind] at q3
 obtain ⟨k,hk,q5⟩:=Tr.ok_of q3
 have s12:=s1.trans s2 w1.some
 refine hv PK pa m2 G2 H2 v u x y z _ w2 (d1.mono s2.gs) d2 hz λzz G3 H3 s3 w3 d3=>?_
 cases d3 <;> simp only [jA] at hk <;> cases hk
 refine ⟨_,rfl,?_⟩
 have s13:=s12.trans s3 w2.some
 cases k with
 | true =>
  rw [if_pos rfl] at q5 ⊢
  refine TAe.then (R2.step s3 w3) q5 λm4 t vt G4 H4 s4 w4 R4 d4 q4=>?_
  obtain ⟨zz,hzz,q4⟩:=Tr.ok_of q4
  exact hv' PK pa m4 G4 H4 u vt y t zz Q w4 (d2.mono (s3.gs.trans s4.gs)) d4 hzz (Kn.later q4 (s13.trans s4 w3.some) w4.some)
 | false =>
  rw [if_neg Bool.false_ne_true] at q5 ⊢
  exact (Kn.later q5 s13 w3.some).here w3 (.bl false)
theorem Zpk {op op':CmpOp} {r r':R2} {f g:PyData->PyData->Option PyData} (ho:OpR X (compareOp op) r) (hv:df r f) (ho':OpR X (compareOp op') r') (hv':df r' g) (ha:PE X a (TAe PK i)) (hb:PE X b (TAe PK j)) (hc:PE X c (TAe PK l))
  (hm:lastMarks [op,op'] [b,c]=false:=by with_unfolding_all rfl):PE X (.Compare a [op,op'] [b,c] pos) (TAe PK (qE f g i j l)):=(Zix ho ho' ha hb hc hm).imp (Zoe hv hv')
theorem Zj4:OpR X (inplaceOp .Mult) (rI CMulG λi j=>.int (i * j)):=jh λ_ _ _ _ _ _ _ hc q=>imul_int q hc.ok
theorem pip {op:Operator} {r:R2} (h:OpR X (inplaceOp op) r):PIp X op r:=h
noncomputable def pU:PyData->PyData->Option PyData
 | .int m,.int n=>some (.int (m+n))
 | _,_=>none
theorem ZfK:df (gj λi j=>.int (i+j)) pU:=λPK pa m G H x y dx dy dz Q w hx hy hz k=>by
 unfold pU at hz
 split at hz
 ·cases hz; cases hx; cases hy
  exact ⟨_,_,rfl,rfl,k.here w (.int _)⟩
 ·cases hz
noncomputable def ng:PyData->PyData->Option PyData
 | .int m,.int n=>if (fit m && fit n)=true then some (.int (m * n)) else none
 | _,_=>none
theorem ZfJ:df (rI CMulG λi j=>.int (i * j)) ng:=λPK pa m G H x y dx dy dz Q w hx hy hz k=>by
 unfold ng at hz
 split at hz
 ·split at hz
  ·rename_i hc
   rw [Bool.and_eq_true] at hc
   cases hz; cases hx; cases hy
   exact ⟨_,_,rfl,rfl,⟨of_decide_eq_true hc.1,of_decide_eq_true hc.2⟩,k.here w (.int _)⟩
  ·cases hz
 ·cases hz
end
theorem ZiW {PK:Pk} {is:List Sl->Tr (List PyData)}:∀ σ H Q,TAe PK (dG is) σ H Q->gC PK is σ H Q:=by
 intro σ H Q z
 obtain ⟨pa,G₀,H₀,m,ρ,G,R,z⟩:=z
 exact ⟨pa,G₀,H₀,m,ρ,G,R,Tr.ok_mono (Tr.ok_bind.mp z) λm1 xs k=>Ko1.of k R.wd.some⟩
theorem Zo2 {PK:Pk} {X:Cx} {st:Stmt} {is:List Sl->Tr (List PyData)} {i:List Sl->Tr PyData} {n k:Nat} {ix:List Nat} {g:PyData->List Sl->Option (List Sl)} (h:PS X st (ig (jC (gD PK is) n ix (λ_=>gP PK g) (λ_=>TAe PK i)) (jr k))) (hn:iD n g):PS X st (cr PK (cf k (dG (hZ is n ix g i)))) :=
 cm (h.imp (Zgq λσ H Q z=>Zdc hn σ H Q (ZiW σ H Q z)))
variable {ρ:List Sl} {s t:List Sl->Tr Ou} {i j l:List Sl->Tr PyData} {is:List Sl->Tr (List PyData)} {as:List Sl->Tr (List Sl)} {f:List Sl->Tr Re} {p q:List Sl->Tr Bool} {k n:Nat} {x y d:PyData} {xs ys:List PyData} {sl:Sl}
theorem ZkM:aa 0 (.d x::ρ)=.ret x:=rfl
theorem ZkL:aa (k+1) (sl::ρ)=aa k ρ:=rfl
theorem Zm7:aC d ρ=.ret d:=rfl
noncomputable def bZ (g:PyData->PyData->Option PyData) (x y:PyData):Tr PyData:=Tr.of (g x y)
noncomputable def ZeK (g:PyData->PyData->Option PyData) (j:List Sl->Tr PyData) (ρ:List Sl) (x:PyData):Tr PyData:=(j ρ).bind (bZ g x)
theorem ZmK {g:PyData->PyData->Option PyData}:ag g i j ρ=(i ρ).bind (ZeK g j ρ):=rfl
theorem ZmJ {g:PyData->PyData->Option PyData}:ZeK g j ρ x=(j ρ).bind (bZ g x):=rfl
theorem ZmZ (m n:Int):bZ cN (.int m) (.int n)=.ret (.int (m+n)):=rfl
theorem ZmY (h1:xs.isEmpty=false) (h2:small (xs.length+ys.length)=true):bZ cN (.tuple xs) (.tuple ys)=.ret (.tuple (xs++ys)):=by
 simp [bZ,cN,h1,h2]
theorem ZkY (m n:Int):bZ fL (.int m) (.int n)=.ret (.int (m - n)):=rfl
theorem ZlN {m n:Int} (h1:fit m=true) (h2:fit n=true):bZ fi (.int m) (.int n)=.ret (.int (m * n)):=by
 simp [bZ,fi,h1,h2]
theorem ZdS {m n:Int} (h1:n≠0) (h2:fit n=true):bZ ly (.int m) (.int n)=.ret (.int (m.fdiv n)):=by
 simp [bZ,ly,h1,h2]
theorem ZdP {m n:Int} (h1:n≠0):bZ kW (.int m) (.int n)=.ret (.int (m.fmod n)):=by
 simp [bZ,kW,h1]
theorem Zmz {g:Int->Int->Bool} (m n:Int):bZ (gw g) (.int m) (.int n)=.ret (.bool (g m n)):=rfl
theorem Zmr (m n:Int):bZ hV (.int m) (.int n)=.ret (.bool (m == n)):=rfl
theorem ZlM (m n:Int):bZ gY (.int m) (.int n)=.ret (.bool (!(m == n))):=rfl
theorem ZdO (m n:Str):bZ gY (.str m) (.str n)=.ret (.bool (!(m == n))):=rfl
theorem Zl6:bZ nc x .none=.ret (.bool (iq x)):=rfl
theorem Zl3:bZ li x .none=.ret (.bool (!iq x)):=rfl
theorem ZlZ (n:Int):bZ bT (.list xs) (.int n)=Tr.of (cR xs n):=rfl
theorem fE (n:Int):bZ bT (.tuple xs) (.int n)=Tr.of (cR xs n):=rfl
theorem qe {α:Type} {xs:List α} {n:Int} {v:α} (h0:0<=n) (h:xs[n.toNat]?=some v):cR xs n=some v:=by
 have e:(n.toNat:Int)=n:=Int.toNat_of_nonneg h0
 rw [<- e]
 exact gx h
section
variable {α:Type} {a0 a1 a2 a3 a4 a5 a6 a7 a8:α} {r:List α}
theorem qd:cR (a0::r) 0=some a0:=gx (j:=0) rfl
theorem qc:cR (a0::a1::r) 1=some a1:=gx (j:=1) rfl
theorem qb:cR (a0::a1::a2::r) 2=some a2:=gx (j:=2) rfl
theorem uM:cR (a0::a1::a2::a3::r) 3=some a3:=gx (j:=3) rfl
theorem uL:cR (a0::a1::a2::a3::a4::r) 4=some a4:=gx (j:=4) rfl
theorem uK:cR (a0::a1::a2::a3::a4::a5::r) 5=some a5:=gx (j:=5) rfl
theorem ZeU:cR (a0::a1::a2::a3::a4::a5::a6::r) 6=some a6:=gx (j:=6) rfl
theorem ZeT:cR (a0::a1::a2::a3::a4::a5::a6::a7::r) 7=some a7:=gx (j:=7) rfl
theorem ZeS:cR (a0::a1::a2::a3::a4::a5::a6::a7::a8::r) 8=some a8:=gx (j:=8) rfl
end
noncomputable def ZcV:PyData->Tr PyData
 | .int n=>.ret (.int (-n))
 | _=>.fail
theorem ZlL:iY i ρ=(i ρ).bind ZcV:=by
 unfold iY
 refine congrArg (Tr.bind (i ρ)) (funext λx=>?_)
 cases x <;> rfl
theorem ZlK (n:Int):ZcV (.int n)=.ret (.int (-n)):=rfl
noncomputable def rB (x:PyData):Tr Bool:=Tr.of (jA x)
theorem ZkX:cH i ρ=(i ρ).bind rB:=rfl
theorem ZkR (b:Bool):rB (.bool b)=.ret b:=rfl
noncomputable def rC (x:PyData):Tr Bool:=Tr.of (Zau x)
theorem ZkW:iU i ρ=(i ρ).bind rC:=rfl
theorem ZkV (b:Bool):rC (.bool b)=.ret b:=rfl
theorem ZkU (n:Int):rC (.int n)=.ret (n != 0):=rfl
noncomputable def uU (q:List Sl->Tr Bool) (ρ:List Sl) (b:Bool):Tr Bool:=if b=true then q ρ else .ret false
noncomputable def or1 (q:List Sl->Tr Bool) (ρ:List Sl) (b:Bool):Tr Bool:=if b=true then .ret true else q ρ
noncomputable def ZcR (b:Bool):Tr Bool:=.ret (!b)
theorem ZmX:vb p q ρ=(p ρ).bind (uU q ρ):=rfl
theorem ZlD:kd p q ρ=(p ρ).bind (or1 q ρ):=rfl
theorem ZlI:iX p ρ=(p ρ).bind ZcR:=rfl
theorem ZmV:uU q ρ true=q ρ:=rfl
theorem ZmW:uU q ρ false=.ret false:=rfl
theorem ZlC:or1 q ρ false=q ρ:=rfl
theorem ZlH (b:Bool):ZcR b=.ret (!b):=rfl
noncomputable def Ze2 (j:List Sl->Tr PyData) (ρ:List Sl) (b:Bool):Tr PyData:=if b=true then j ρ else .ret (.bool false)
noncomputable def ZcP (b:Bool):Tr PyData:=.ret (.bool (!b))
theorem ZmU:lW i j ρ=(cH i ρ).bind (Ze2 j ρ):=rfl
theorem ZlG:qy i ρ=(cH i ρ).bind ZcP:=rfl
theorem ZmT:Ze2 j ρ true=j ρ:=rfl
theorem ZlF (b:Bool):ZcP b=.ret (.bool (!b)):=rfl
noncomputable def t7 (i j:List Sl->Tr PyData) (ρ:List Sl) (b:Bool):Tr PyData:=if b=true then i ρ else j ρ
theorem Zmj:qC p i j ρ=(p ρ).bind (t7 i j ρ):=rfl
theorem Zmh:t7 i j ρ true=i ρ:=rfl
theorem Zmi:t7 i j ρ false=j ρ:=rfl
noncomputable def ux (g:PyData->PyData->Option PyData) (l:List Sl->Tr PyData) (ρ:List Sl) (y:PyData) (k:Bool):Tr PyData:=if k=true then (l ρ).bind (bZ g y) else .ret (.bool false)
noncomputable def uy (g:PyData->PyData->Option PyData) (l:List Sl->Tr PyData) (ρ:List Sl) (y z:PyData):Tr PyData:=(rB z).bind (ux g l ρ y)
noncomputable def uz (f g:PyData->PyData->Option PyData) (l:List Sl->Tr PyData) (ρ:List Sl) (x y:PyData):Tr PyData:=(bZ f x y).bind (uy g l ρ y)
noncomputable def ch1 (f g:PyData->PyData->Option PyData) (j l:List Sl->Tr PyData) (ρ:List Sl) (x:PyData):Tr PyData:=(j ρ).bind (uz f g l ρ x)
theorem ZmA {f g:PyData->PyData->Option PyData}:qE f g i j l ρ=(i ρ).bind (ch1 f g j l ρ):=rfl
theorem ZmE {f g:PyData->PyData->Option PyData}:ch1 f g j l ρ x=(j ρ).bind (uz f g l ρ x):=rfl
theorem ZmD {f g:PyData->PyData->Option PyData}:uz f g l ρ x y=(bZ f x y).bind (uy g l ρ y):=rfl
theorem ZmC {g:PyData->PyData->Option PyData} (b:Bool):uy g l ρ y (.bool b)=ux g l ρ y b:=rfl
theorem ZmB {g:PyData->PyData->Option PyData}:ux g l ρ y true=(l ρ).bind (bZ g y):=rfl
noncomputable def uv (x:PyData) (xs:List PyData):Tr (List PyData):=.ret (x::xs)
noncomputable def Zep (is:List Sl->Tr (List PyData)) (ρ:List Sl) (x:PyData):Tr (List PyData):=(is ρ).bind (uv x)
theorem ZlJ:bP ρ=.ret []:=rfl
theorem Zmy:bC i is ρ=(i ρ).bind (Zep is ρ):=rfl
theorem Zmx:Zep is ρ x=(is ρ).bind (uv x):=rfl
theorem Zmw:uv x xs=.ret (x::xs):=rfl
noncomputable def rA (xs:List PyData):Tr PyData:=if small xs.length=true then .ret (.tuple xs) else .fail
theorem ZkQ:fO is ρ=(is ρ).bind rA:=rfl
theorem ZkP (h:small xs.length=true):rA xs=.ret (.tuple xs):=by unfold rA; rw [if_pos h]
noncomputable def Zc3 (xs:List PyData):Tr PyData:=.ret (.list xs)
theorem ZlQ:dG is ρ=(is ρ).bind Zc3:=rfl
theorem ZlP:Zc3 xs=.ret (.list xs):=rfl
noncomputable def tG (xs:List PyData):Tr (List PyData):=if small xs.length=true then .ret xs else .fail
theorem ZlS:ff is ρ=(is ρ).bind tG:=rfl
theorem ZlR (h:small xs.length=true):tG xs=.ret xs:=by unfold tG; rw [if_pos h]
theorem dJ {n:Nat} (h:n<=10000):small n=true:=decide_eq_true (Nat.le_trans h (by decide))
noncomputable def fb (g:List PyData->Option PyData) (xs:List PyData):Tr PyData:=Tr.of (g xs)
theorem ZmF {g:List PyData->Option PyData}:cV g is ρ=(is ρ).bind (fb g):=rfl
theorem ZdQ:fb iO [.tuple xs]=.ret (.int xs.length):=rfl
theorem Zm0 (n:Int):fb lP [.int n]=.ret (.int (qr n)):=rfl
theorem ZlO (m n:Int):fb mT [.int m,.int n]=.ret (.int (gL m n)):=rfl
theorem Zl7 (b:Bool):fb jq [.bool b]=.ret (.int (if b then 1 else 0)):=rfl
theorem ZkO:fb iE [.list xs]=.ret (.tuple xs):=rfl
theorem uh (h:jH x=true):fb gI [x]=.ret (.str x.shown):=by
 simp [fb,gI,h]
theorem ZdN (ns:List Int):fb ij [.list (ns.map .int)]=.ret (.int ns.sum):=by
 unfold fb ij mK
 simp
theorem ZdM (ns:List Int):fb ij [.tuple (ns.map .int)]=.ret (.int ns.sum):=by
 unfold fb ij mK
 simp
noncomputable def m9 (T:String) (x:PyData):Tr PyData:=if mM x=true then .ret (.bool (pQ T (kB x))) else .fail
theorem Zl5 {T:String}:kg T i ρ=(i ρ).bind (m9 T):=rfl
theorem Zl4 {T:String} (h:mM x=true):m9 T x=.ret (.bool (pQ T (kB x))):=if_pos h
theorem Zi1 (n:Int):mM (.int n)=true:=rfl
noncomputable def rP (x:PyData) (lo:Option Int) (hi:Option Int):Tr PyData:=Tr.of (ZaQ x lo hi)
noncomputable def gi (q:gA) (ρ:List Sl) (x:PyData) (lo:Option Int):Tr PyData:=(q ρ).bind (rP x lo)
noncomputable def sl1 (p q:gA) (ρ:List Sl) (x:PyData):Tr PyData:=(p ρ).bind (gi q ρ x)
theorem Zk1 {p q:gA}:u6 i p q ρ=(i ρ).bind (sl1 p q ρ):=rfl
theorem Zk0 {p q:gA}:sl1 p q ρ x=(p ρ).bind (gi q ρ x):=rfl
theorem ZkZ {q:gA} {lo:Option Int}:gi q ρ x lo=(q ρ).bind (rP x lo):=rfl
theorem Zlz:u9 ρ=.ret none:=rfl
noncomputable def pa1:PyData->Tr (Option Int)
 | .int n=>.ret (some n)
 | _=>.fail
theorem Zly:qx i ρ=(i ρ).bind pa1:=by
 unfold qx
 refine congrArg (Tr.bind (i ρ)) (funext λx=>?_)
 cases x <;> rfl
theorem Zlx (n:Int):pa1 (.int n)=.ret (some n):=rfl
noncomputable def rq (xs:List PyData):Tr PyData:=(Tr.of (mz xs)).bind λys=>.ret (.tuple ys)
theorem ZkN:u5 is ρ=(is ρ).bind rq:=rfl
theorem ZdL {lo hi:Int} (h:mB lo hi=true):rq [.int lo,.int hi]=.ret (.tuple (cB lo hi)):=by
 simp [rq,mz,h]
theorem Zm3:bF ρ=.ret []:=rfl
noncomputable def nK (x:Sl) (xs:List Sl):Tr (List Sl):=.ret (x::xs)
noncomputable def aa1 (as:List Sl->Tr (List Sl)) (ρ:List Sl) (x:PyData):Tr (List Sl):=(as ρ).bind (nK (.d x))
theorem Zm4:ae i as ρ=(i ρ).bind (aa1 as ρ):=rfl
theorem Zm6:aa1 as ρ x=(as ρ).bind (nK (.d x)):=rfl
theorem Zm5 {xs:List Sl}:nK sl xs=.ret (sl::xs):=rfl
noncomputable def kM:Nat->List Sl->Tr Unit
 | 0,.pen::_=>.ret ()
 | k+1,_::ρ=>kM k ρ
 | _,_=>.fail
theorem Zlu:kM 0 (.pen::ρ)=.ret ():=rfl
theorem Zlt:kM (k+1) (sl::ρ)=kM k ρ:=rfl
noncomputable def aap (as:List Sl->Tr (List Sl)) (ρ:List Sl) (_:Unit):Tr (List Sl):=(as ρ).bind (nK .pen)
theorem Zm2:cL k as ρ=(kM k ρ).bind (aap as ρ):=by
 have key:∀ (k:Nat) (σ:List Sl) (as:List Sl->Tr (List Sl)) (ρ:List Sl),(match σ[k]? with | some Sl.pen=>(as ρ).bind λxs=>Tr.ret (Sl.pen::xs) | _=>Tr.fail)=(kM k σ).bind (aap as ρ):=by
  intro k
  induction k with
  | zero =>
   intro σ as ρ
   cases σ with
   | nil=>rfl
   | cons s r=>cases s <;> rfl
  | succ k ih =>
   intro σ as ρ
   cases σ with
   | nil=>rfl
   | cons s r=>exact ih r as ρ
 exact key k ρ as ρ
theorem Zm1 (u:Unit):aap as ρ u=(as ρ).bind (nK .pen):=rfl
theorem ZmG:bV f as ρ=(as ρ).bind f:=rfl
noncomputable def re1 (r:Re):Tr PyData:=.ret r.val
theorem Zls:bI f ρ=(f ρ).bind re1:=rfl
theorem Zlr (r:Re):re1 r=.ret r.val:=rfl
theorem Zmv {as:List Sl} (h:as.length=n):cg n k s as=(s (as++List.replicate k .un)).bind nk:=by
 unfold cg
 rw [if_pos (decide_eq_true h)]
theorem Zmo:nk (.next ρ)=.ret (.d .none):=rfl
theorem Zmn (r:Re):nk (.ret r)=.ret r:=rfl
noncomputable def rS (t:List Sl->Tr Ou):Ou->Tr Ou
 | .next ρ=>t ρ
 | o=>.ret o
theorem lz:bA s t ρ=(s ρ).bind (rS t):=by
 unfold bA
 refine congrArg (Tr.bind (s ρ)) (funext λo=>?_)
 cases o <;> rfl
theorem nr:rS t (.next ρ)=t ρ:=rfl
theorem Zlb (r:Re):rS t (.ret r)=.ret (.ret r):=rfl
theorem Zk2:dt ρ=.ret (.next ρ):=rfl
noncomputable def t4 (s t:List Sl->Tr Ou) (ρ:List Sl) (b:Bool):Tr Ou:=if b=true then s ρ else t ρ
theorem Zmc:dH p s t ρ=(p ρ).bind (t4 s t ρ):=rfl
theorem Zma:t4 s t ρ true=s ρ:=rfl
theorem Zmb:t4 s t ρ false=t ρ:=rfl
noncomputable def ZbU (x:PyData):Tr Ou:=.ret (.ret (.d x))
theorem Zlq:cF i ρ=(i ρ).bind ZbU:=rfl
theorem Zlp:ZbU x=.ret (.ret (.d x)):=rfl
noncomputable def ZbT (xs:List PyData):Tr Ou:=.ret (.ret (.own xs))
theorem Zlo:qw is ρ=(is ρ).bind ZbT:=rfl
theorem Zln:ZbT xs=.ret (.ret (.own xs)):=rfl
noncomputable def ZbS (r:Re):Tr Ou:=.ret (.ret r)
theorem Zlm:lS f ρ=(f ρ).bind ZbS:=rfl
theorem Zll (r:Re):ZbS r=.ret (.ret r):=rfl
theorem Zlk:iB 0 (.d x::ρ)=.ret (.ret (.d x)):=rfl
theorem Zlj:iB 0 (.own xs::ρ)=.ret (.ret (.own xs)):=rfl
theorem Zli:iB (k+1) (sl::ρ)=iB k ρ:=rfl
noncomputable def oo (k:Nat) (ρ:List Sl) (x:PyData):Tr Ou:=.ret (.next (ρ.set k (.d x)))
theorem Zla:cf k i ρ=(i ρ).bind (oo k ρ):=rfl
theorem Zk9:oo k ρ x=.ret (.next (ρ.set k (.d x))):=rfl
noncomputable def ZaZ (k:Nat) (ρ:List Sl) (x:List PyData):Tr Ou:=.ret (.next (ρ.set k (.own x)))
theorem Zk8:iV k is ρ=(is ρ).bind (ZaZ k ρ):=rfl
theorem Zk7:ZaZ k ρ xs=.ret (.next (ρ.set k (.own xs))):=rfl
theorem Zjo {α:Type} {a b:α} {r:List α}:(a::r).set 0 b=b::r:=rfl
theorem Zjn {α:Type} {a b:α} {r:List α}:(a::r).set (k+1) b=a::r.set k b:=rfl
noncomputable def uJ (g:PyData->PyData->Option PyData) (k:Nat) (ρ:List Sl) (x y:PyData):Tr Ou:=(bZ g x y).bind (oo k ρ)
noncomputable def ZeP (g:PyData->PyData->Option PyData) (k:Nat) (i:List Sl->Tr PyData) (ρ:List Sl) (x:PyData):Tr Ou:=(i ρ).bind (uJ g k ρ x)
theorem ZmN {g:PyData->PyData->Option PyData}:nP g k i ρ=(aa k ρ).bind (ZeP g k i ρ):=rfl
theorem ZmM {g:PyData->PyData->Option PyData}:ZeP g k i ρ x=(i ρ).bind (uJ g k ρ x):=rfl
theorem ZmL {g:PyData->PyData->Option PyData}:uJ g k ρ x y=(bZ g x y).bind (oo k ρ):=rfl
theorem Zmk (m n:Int):bZ pU (.int m) (.int n)=.ret (.int (m+n)):=rfl
theorem Zl9 {m n:Int} (h1:fit m=true) (h2:fit n=true):bZ ng (.int m) (.int n)=.ret (.int (m * n)):=by
 simp [bZ,ng,h1,h2]
noncomputable def iJ:Nat->List Sl->Tr (List PyData)
 | 0,.own xs::_=>.ret xs
 | k+1,_::ρ=>iJ k ρ
 | _,_=>.fail
theorem ZlB:iJ 0 (.own xs::ρ)=.ret xs:=rfl
theorem ZlA:iJ (k+1) (sl::ρ)=iJ k ρ:=rfl
theorem oP {β:Type} {g:List PyData->Tr β}:∀ (k:Nat) (σ:List Sl),(match σ[k]? with | some (Sl.own xs)=>g xs | _=>Tr.fail)=(iJ k σ).bind g
 | 0,[]=>rfl
 | 0,s::r=>by cases s <;> rfl
 | k+1,[]=>rfl
 | k+1,s::r=>oP k r
noncomputable def qj (k:Nat) (ρ:List Sl) (xs:List PyData) (x:PyData):Tr Ou:=if small (xs.length+1)=true then .ret (.next (ρ.set k (.own (xs++[x])))) else .fail
noncomputable def Ze1 (k:Nat) (i:List Sl->Tr PyData) (ρ:List Sl) (xs:List PyData):Tr Ou:=(i ρ).bind (qj k ρ xs)
theorem ZmS:jv k i ρ=(iJ k ρ).bind (Ze1 k i ρ):=oP k ρ
theorem ZmR:Ze1 k i ρ xs=(i ρ).bind (qj k ρ xs):=rfl
theorem ZmQ (h:small (xs.length+1)=true):qj k ρ xs x=.ret (.next (ρ.set k (.own (xs++[x])))):=by unfold qj; rw [if_pos h]
theorem Zml:iC k s ρ=s (fz k ρ):=rfl
theorem Zkz:fz 0 (.own xs::ρ)=.d (.list xs)::ρ:=rfl
theorem ZkA:fz 0 (.d x::ρ)=.d x::ρ:=rfl
theorem ZkB:fz (k+1) (sl::ρ)=sl::fz k ρ:=by
 unfold fz
 rw [List.getElem?_cons_succ]
 cases h:ρ[k]? with
 | none=>rfl
 | some s=>cases s <;> rfl
noncomputable def sY (ρ:List Sl):Tr Ou:=.ret (.next ρ)
noncomputable def ZeV (g:PyData->List Sl->Option (List Sl)) (ρ:List Sl) (x:PyData):Tr Ou:=(Tr.of (g x ρ)).bind sY
theorem ZmP {g:PyData->List Sl->Option (List Sl)}:lU g i ρ=(i ρ).bind (ZeV g ρ):=rfl
theorem ZmO {g:PyData->List Sl->Option (List Sl)}:ZeV g ρ x=(Tr.of (g x ρ)).bind sY:=rfl
theorem ZlE:sY ρ=.ret (.next ρ):=rfl
theorem Zkm:bE k x ρ=some (ρ.set k (.d x)):=rfl
theorem Zkk {gs:List PyData->List Sl->Option (List Sl)}:cI gs (.tuple xs) ρ=gs xs ρ:=rfl
theorem Zkn:cG [] ρ=some ρ:=rfl
theorem Zko {g:PyData->List Sl->Option (List Sl)} {gs:List PyData->List Sl->Option (List Sl)}:bJ g gs (x::xs) ρ=(g x ρ).bind (gs xs):=rfl
theorem Zkl {α β:Type} {a:α} {g:α->Option β}:(some a).bind g=g a:=rfl
noncomputable def ZcD (k n:Nat) (ρ:List Sl):List PyData->Tr Ou
 | [x,y]=>.ret (.next ((ρ.set k (.d x)).set n (.d y)))
 | _=>.fail
theorem Zlw:ka k n is ρ=(is ρ).bind (ZcD k n ρ):=by
 unfold ka
 refine congrArg (Tr.bind (is ρ)) (funext λxs=>?_)
 match xs with
 | []=>rfl
 | [_]=>rfl
 | [_,_]=>rfl
 | _::_::_::_=>rfl
theorem Zlv:ZcD k n ρ [x,y]=.ret (.next ((ρ.set k (.d x)).set n (.d y))):=rfl
noncomputable def fW (x:PyData):Tr (List PyData):=Tr.of (fN x)
theorem Zl2:gf i ρ=(i ρ).bind fW:=rfl
theorem Zl1:fW (.list xs)=.ret xs:=rfl
theorem Zl0:fW (.tuple xs)=.ret xs:=rfl
noncomputable def gH (xs:List PyData):Tr (List PyData):=Tr.of (kH xs)
noncomputable def oC (xs:List PyData):Tr (List PyData):=Tr.of (mC xs)
theorem Zlf:iW is ρ=(is ρ).bind gH:=rfl
theorem Zle:u7 is ρ=(is ρ).bind oC:=rfl
theorem ir {n:Int} (h1:-1000000000000<=n) (h2:n<=1000000000000):iR n=true:=decide_eq_true (by omega)
theorem lA {n:Int} (h:iR n=true):gH [.int n]=.ret (cB 0 n):=by
 simp [gH,kH,h]
theorem Zlg {m n:Int} (h1:iR m=true) (h2:iR n=true):oC [.int m,.int n]=.ret (cB m n):=by
 simp [oC,mC,h1,h2]
noncomputable def qS (xs:List PyData) (ys:List PyData):Tr (List PyData):=.ret (dY xs ys)
noncomputable def qT (y:PyData) (xs:List PyData):Tr (List PyData):=(fW y).bind (qS xs)
noncomputable def qU (x y:PyData):Tr (List PyData):=(fW x).bind (qT y)
noncomputable def Zaa (j:List Sl->Tr PyData) (ρ:List Sl) (x:PyData):Tr (List PyData):=(j ρ).bind (qU x)
theorem ZkK:qs i j ρ=(i ρ).bind (Zaa j ρ):=rfl
theorem ZkJ:Zaa j ρ x=(j ρ).bind (qU x):=rfl
theorem ZkI:qU x y=(fW x).bind (qT y):=rfl
theorem ZkH:qT y xs=(fW y).bind (qS xs):=rfl
theorem ZkG:qS xs ys=.ret (dY xs ys):=rfl
noncomputable def um (xs:List PyData):Tr (List PyData):=.ret (fX xs)
noncomputable def Zd1 (x:PyData):Tr (List PyData):=(fW x).bind um
theorem Zms:nO i ρ=(i ρ).bind Zd1:=rfl
theorem Zmu:Zd1 x=(fW x).bind um:=rfl
theorem Zmt:um xs=.ret (fX xs):=rfl
noncomputable def ZdE (g:PyData->List Sl->Option (List Sl)) (s:List Sl->Tr Ou) (ρ:List Sl) (xs:List PyData):Tr Ou:=dU g s xs ρ
theorem ZdR {g:PyData->List Sl->Option (List Sl)}:dA is g s ρ=(is ρ).bind (ZdE g s ρ):=rfl
theorem Zmm {g:PyData->List Sl->Option (List Sl)}:ZdE g s ρ xs=dU g s xs ρ:=rfl
noncomputable def ue (g:PyData->List Sl->Option (List Sl)) (s:List Sl->Tr Ou) (xs:List PyData):Ou->Tr Ou
 | .next ρ=>dU g s xs ρ
 | .cont ρ=>dU g s xs ρ
 | .brk ρ=>.ret (.next ρ)
 | .ret r=>.ret (.ret r)
noncomputable def nj (g:PyData->List Sl->Option (List Sl)) (s:List Sl->Tr Ou) (xs:List PyData) (ρ:List Sl):Tr Ou:=(s ρ).bind (ue g s xs)
theorem lw {g:PyData->List Sl->Option (List Sl)}:dU g s [] ρ=.ret (.next ρ):=rfl
theorem ft {g:PyData->List Sl->Option (List Sl)}:dU g s (x::xs) ρ=(Tr.of (g x ρ)).bind (nj g s xs):=by
 rw [dU]
 refine congrArg (Tr.bind (Tr.of (g x ρ))) (funext λρ1=>?_)
 unfold nj
 refine congrArg (Tr.bind (s ρ1)) (funext λo=>?_)
 cases o <;> rfl
theorem ui {g:PyData->List Sl->Option (List Sl)}:nj g s xs ρ=(s ρ).bind (ue g s xs):=rfl
theorem nu {g:PyData->List Sl->Option (List Sl)}:ue g s xs (.next ρ)=dU g s xs ρ:=rfl
noncomputable def jp (g:PyData->List Sl->Option (List Sl)) (el:List Sl->Tr PyData) (τ:List Sl) (x:PyData):Tr PyData:=(Tr.of (g x τ)).bind el
noncomputable def tN (n:Nat) (ix:List Nat) (g:PyData->List Sl->Option (List Sl)) (el:List Sl->Tr PyData) (ρ:List Sl) (xs:List PyData):Tr (List PyData):=if small xs.length=true then c8 (jp g el (blk n ix ρ)) xs else .fail
theorem ZlY {ix:List Nat} {g:PyData->List Sl->Option (List Sl)}:hZ is n ix g i ρ=(is ρ).bind (tN n ix g i ρ):=rfl
theorem ZlX {ix:List Nat} {g:PyData->List Sl->Option (List Sl)} (h:small xs.length=true):tN n ix g i ρ xs=c8 (jp g i (blk n ix ρ)) xs:=by unfold tN; rw [if_pos h]
theorem ZlW {τ:List Sl} {g:PyData->List Sl->Option (List Sl)}:jp g i τ x=(Tr.of (g x τ)).bind i:=rfl
theorem Zc2 {h:PyData->Tr PyData} {n:Nat} {P:PyData->Prop}:∀ {xs:List PyData},(∀ x∈xs,(h x).all n P)->(c8 h xs).all (xs.length * n) λys=>ys.length=xs.length/\∀ y∈ys,P y
 | [],_=>⟨rfl,λy hy=>by cases hy⟩
 | x::xs,hx=>by
  have e:(x::xs).length * n=n+(xs.length * n+0):=by rw [List.length_cons,Nat.succ_mul]; omega
  rw [e,c8]
  refine Tr.all_bind (hx x (by simp)) λy hy=>Tr.all_bind (Zc2 λz hz=>hx z (List.mem_cons_of_mem _ hz)) λys hys=>?_
  exact ⟨by simp [hys.1],λz hz=>by
   rcases List.mem_cons.mp hz with rfl | hz
   ·exact hy
   ·exact hys.2 z hz⟩
theorem Znx {α:Type} {w:Int} {k:Int->Tr α} {n:Nat} {P:α->Prop} (h1:0 < w) (h2:w < 1073741824) (h:∀ r,0<=r->r < w->(k r).all n P):(Tr.draw w k).all (n+1) P:=⟨h1,h2,h⟩
noncomputable def tw (y:PyData) (ys:List PyData):Tr (List PyData):=.ret (y::ys)
noncomputable def mt1 (h:PyData->Tr PyData) (xs:List PyData) (y:PyData):Tr (List PyData):=(c8 h xs).bind (tw y)
theorem Zi8 {h:PyData->Tr PyData}:c8 h []=.ret []:=rfl
theorem Zja {h:PyData->Tr PyData} {x:PyData} {xs:List PyData}:c8 h (x::xs)=(h x).bind (mt1 h xs):=rfl
theorem Zjc {h:PyData->Tr PyData} {y:PyData} {xs:List PyData}:mt1 h xs y=(c8 h xs).bind (tw y):=rfl
theorem Zjb {y:PyData} {ys:List PyData}:tw y ys=.ret (y::ys):=rfl
theorem pick {α:Type} {xs:List α} {r:Int} (h0:0<=r) (h1:r < xs.length):∃ v,cR xs r=some v/\v∈xs:=by
 have h:r.toNat < xs.length:=by omega
 exact ⟨xs[r.toNat],qe h0 (by simp [h]),List.getElem_mem h⟩
theorem Zjs {α:Type} {xs:List α} (h:xs.length=7):∃ a b c d e f g,xs=[a,b,c,d,e,f,g]:=by
 rcases xs with _ | ⟨a,_ | ⟨b,_ | ⟨c,_ | ⟨d,_ | ⟨e,_ | ⟨f,_ | ⟨g,_ | ⟨k,xs⟩⟩⟩⟩⟩⟩⟩⟩
 ·cases h
 ·cases h
 ·cases h
 ·cases h
 ·cases h
 ·cases h
 ·cases h
 ·exact ⟨a,b,c,d,e,f,g,rfl⟩
 ·exact absurd h (by simp)
end L2
namespace L2
open PySem
@[irreducible] noncomputable def Al {α:Type} (t:Tr α) (n:Nat) (P:α->Prop):Prop:=t.all n P
section
variable {α β:Type} {t:Tr α} {n n' N:Nat} {P:α->Prop} {P':β->Prop}
theorem Al.of (h:t.all n P):Al t n P:=by unfold Al; exact h
theorem Al.out (h:Al t n P):t.all n P:=by unfold Al at h; exact h
theorem fe {a:α} (h:P a):Al (.ret a) n P:=.of h
theorem fj {w:Int} {k:Int->Tr α} (h1:0 < w) (h2:w < 1073741824) (hN:n+1<=N) (h:∀ r,0<=r->r < w->Al (k r) n P):Al (.draw w k) N P:=.of (Tr.all_mono (Znx h1 h2 λr a b=>(h r a b).out) hN λ_ h=>h)
theorem gy {f:α->Tr β} (h:Al t n P) (hN:n+n'<=N) (hf:∀ a,P a->Al (f a) n' P'):Al (t.bind f) N P':=.of (Tr.all_mono (Tr.all_bind h.out λa ha=>(hf a ha).out) hN λ_ h=>h)
theorem lN {Q:α->Prop} (h:Al t n P) (hN:n<=N) (hq:∀ a,P a->Q a):Al t N Q:=.of (Tr.all_mono h.out hN hq)
theorem uV {h:PyData->Tr PyData} {P:PyData->Prop} {xs:List PyData} {Q:List PyData->Prop} (hN:xs.length * n<=N) (hx:∀ x∈xs,Al (h x) n P) (hq:∀ ys,ys.length=xs.length->(∀ y∈ys,P y)->Q ys):Al (c8 h xs) N Q :=
 .of (Tr.all_mono (Zc2 λx m=>(hx x m).out) hN λys ⟨a,b⟩=>hq ys a b)
end
noncomputable def lm (lo hi:Int) (x:PyData):Prop:=∃ z:Int,x=.int z/\lo<=z/\z<=hi
theorem Zdp {lo hi:Int}:∀ {xs:List PyData},(∀ x∈xs,lm lo hi x)->∃ ns:List Int,xs=ns.map PyData.int/\∀ n∈ns,lo<=n/\n<=hi
 | [],_=>⟨[],rfl,λn hn=>by cases hn⟩
 | x::xs,h=>by
  obtain ⟨ns,e,hn⟩:=Zdp (xs:=xs) λy hy=>h y (List.mem_cons_of_mem _ hy)
  obtain ⟨z,rfl,h1,h2⟩:=h x (by simp)
  exact ⟨z::ns,by rw [e]; rfl,λn hn'=>by
   rcases List.mem_cons.mp hn' with rfl | hn'
   ·exact ⟨h1,h2⟩
   ·exact hn n hn'⟩
theorem dC {lo hi:Int}:(cB lo hi).length=(hi - lo).toNat:=by unfold cB; rw [List.length_map,mE]
theorem sP {xs:List PyData} {lo hi r:Int} (h:∀ x∈xs,lm lo hi x) (h0:0<=r) (h1:r < xs.length):∃ z:Int,cR xs r=some (.int z)/\lo<=z/\z<=hi:=by
 obtain ⟨v,e,m⟩:=pick h0 h1
 obtain ⟨z,rfl,a,b⟩:=h v m
 exact ⟨z,e,a,b⟩
end L2
namespace L2
open PySem PySem.Spec PyProof.Rows
variable {PK:Pk} {X:Cx} {a b c e:Expr} {es:List Expr} {pos:Pos} {i j l:List Sl->Tr PyData} {is:List Sl->Tr (List PyData)} {p q:List Sl->Tr Bool} {st:Stmt}
noncomputable def gv:PyData->Bool
 | .none=>true
 | .bool _=>true
 | .int _=>true
 | .str _=>true
 | _=>false
theorem Dn.flat {G:Hp} {v:V} {x:PyData} (h:Dn G v x):gv x=true->hU v=true:=by
 cases h <;> simp [gv,hU]
theorem Dn.eqV {G:Hp} {v u:V} {x y:PyData} (h:Dn G v x) (g:Dn G u y) (fx:gv x=true) (fy:gv y=true):L2.eqV v u=PyData.eqv x y:=by
 cases h <;> simp only [gv] at fx <;> first | (cases fx; done) | (cases g <;> simp only [gv] at fy <;> first | (cases fy; done) | (simp [L2.eqV,PyData.eqv]))
theorem DnAll.flat {G:Hp}:∀ {vs:List V} {xs:List PyData},DnAll G vs xs->xs.all gv=true->vs.all hU=true
 | _,_,.nil,_=>rfl
 | _,_,.cons h t,f=>by
  rw [List.all_cons,Bool.and_eq_true] at f
  rw [List.all_cons,Bool.and_eq_true]
  exact ⟨h.flat f.1,DnAll.flat t f.2⟩
theorem DnAll.inV {G:Hp} {v:V} {x:PyData} (h:Dn G v x) (fx:gv x=true):∀ {vs:List V} {xs:List PyData},DnAll G vs xs->xs.all gv=true->L2.inV v vs=xs.any λy=>PyData.eqv y x
 | _,_,.nil,_=>rfl
 | _,_,.cons g t,f=>by
  rw [List.all_cons,Bool.and_eq_true] at f
  unfold L2.inV
  rw [List.any_cons,List.any_cons,g.eqV h f.1 fx]
  congr 1
  exact DnAll.inV h fx t f.2
noncomputable def lp (neg:Bool):PyData->PyData->Option PyData:=λx y=>(fN y).bind λys=>if (gv x && ys.all gv)=true then some (.bool (if neg then !(ys.any λz=>PyData.eqv z x) else ys.any λz=>PyData.eqv z x)) else none
theorem ZfI {K:PySem.W.Frag} {neg:Bool}:df (rIn K neg) (lp neg):=λPK pa m G H x y dx dy dz Q w hx hy hz k=>by
 unfold lp at hz
 cases e:fN dy with
 | none=>rw [e] at hz; cases hz
 | some ys =>
  rw [e] at hz
  have hz':(if (gv dx && ys.all gv)=true then some (PyData.bool (if neg then !(ys.any λz=>PyData.eqv z dx) else ys.any λz=>PyData.eqv z dx)) else none)=some dz:=hz
  split at hz'
  ·rename_i hc
   rw [Bool.and_eq_true] at hc
   cases hz'
   cases hy with
   | lst a1 a2 =>
    cases e
    refine ⟨_,_,rfl,.inl (SqL.of (w.sub _ _ a1)),hx.flat hc.1,a2.flat hc.2,?_⟩
    rw [DnAll.inV hx hc.1 a2 hc.2]
    exact k.here w (.bl _)
   | tup a1 a2 =>
    cases e
    refine ⟨_,_,rfl,.inr (SqT.of (w.sub _ _ a1)),hx.flat hc.1,a2.flat hc.2,?_⟩
    rw [DnAll.inV hx hc.1 a2 hc.2]
    exact k.here w (.bl _)
   | _=>cases e
  ·cases hz'
variable {PK:Pk} {X:Cx} {a b c e:Expr} {es:List Expr} {pos:Pos} {i j l:List Sl->Tr PyData} {as:List Sl->Tr (List Sl)}
variable {ρ:List Sl} {k:Nat} {xs:List PyData} {x:PyData} {sl:Sl} {f:List Sl->Tr Re}
theorem Zl8 {y:PyData} {neg:Bool}:bZ (lp neg) x y=Tr.of (lp neg x y):=rfl
theorem Zn9 {prog:Program} {w:World} {A:Around} {R:Result->Shared->Prop} {s:Shared} {elt target iter cnd:Expr} {scope:Scope} {pos:Pos} {it acc:Value} {env:Env} (J:Nat->Shared->Prop)
  (step:∀ k s0,J k s0->wpAny (model prog w) A (pyNext it) (λgot s1=>match got with
   | none=>R (.ok .next) s1
   | some v=>wpAny (model prog w) A (letOwnedTupleGo target it v) (λ_ s2=>wpAny (model prog w) A (assign target env v) (λ_ s3=>wpAny (model prog w) A (isTrue cnd env (eval cnd env)) (λok s3'=>if ok=true then wpAny (model prog w) A (eval elt env) (λy s4 =>
     wpAny (model prog w) A (call (.builtin "list.append") [acc,y]) (λ_ s5=>∃ j,j < k/\J j s5) (λ_ _=>False) s4) (λ_ _=>False) s3' else ∃ j,j < k/\J j s3') (λ_ _=>False) s3) (λ_ _=>False) s2) (λ_ _=>False) s1) (λ_ _=>False) s0)
  (k:Nat) (h:J k s):codeAny (model prog w) A (.compLoop (.ListComp elt [⟨target,iter,[cnd],0⟩] scope pos) 0 it acc env) R s:=by
 refine codeAny_loop rfl J (λk0 s0 hJ=>?_) k h
 show wpAny _ _ ((compTurn (.ListComp elt [⟨target,iter,[cnd],0⟩] scope pos) 0 it acc env).onRaise (λx=>do noteFrame x env; theTreesLotGoes x)) _ _ s0
 apply wpAny_noted
 rw [compTurn_list]
 refine wpAny_bind (wpAny_standAt (wpAny_bind (wpAny_mono (step k0 s0 hJ) (λgot s1 h1=>?_) λ_ _ z=>z.elim)))
 cases got with
 | none=>exact wpAny_pure h1
 | some v =>
  refine wpAny_bind (wpAny_mono h1 (λ_ s2 h2=>?_) λ_ _ z=>z.elim)
  refine wpAny_bind (wpAny_mono h2 (λ_ s3 h3=>?_) λ_ _ z=>z.elim)
  refine wpAny_bind (wpAny_mono (wpAny_tests_one h3) (λok s3' h3'=>?_) λ_ _ z=>z.elim)
  cases ok with
  | false=>exact wpAny_pure ⟨rfl,h3'⟩
  | true =>
   refine wpAny_bind (wpAny_bind (wpAny_mono h3' (λy s4 h4=>?_) λ_ _ z=>z.elim))
   exact wpAny_bind (wpAny_mono h4 (λ_ s5 h5=>wpAny_pure (wpAny_pure ⟨rfl,h5⟩)) λ_ _ z=>z.elim)
noncomputable def rG (wi:TI) (n:Nat) (ix:List Nat) (g:Blk->TG) (tc:Blk->TT) (te:Blk->TE):TE:=λσ H Q=>wi σ H λJ H1=>∀ b:Blk,∃ W:Nat->Nat->St->List V->Hp->Prop,(∃ m,W 0 m (fH n ix σ) [] H1)/\∀ i m τ ys H2,W i m τ ys H2 ->
 (J.stop i H2/\∀ p v H',H2 p=none->v=V.ref p->H'=upd H2 p (.lst ys)->Q v H') \/
 (J.go i H2/\ys.length < sizeLine/\∀ x H3,J.yld i H2 x H3->g b x τ H3 λτ2 H4=>tc b τ2 H4 λok H4'=>if ok=true then te b τ2 H4' λy H5=>∃ m',m' < m/\W (i+1) m' τ2 (ys++[y]) H5 else ∃ m',m' < m/\W (i+1) m' τ2 ys H4')
section
variable {X:Cx} {pins:List (Addr×Obj)} {σ:St} {H:Hp} {s:Shared}
theorem ZjB {elt target iter cnd:Expr} {scope:Scope} {pos:Pos} {Nx ts:List Str} {ix:List Nat} {g:Blk->TG} {tc:Blk->TT} {te:Blk->TE} {cl:List (Str×Addr)} {s2:Shared} {itv:Value} {R:Value->Addr->Result->Shared->Prop}
  {E:Value->Shared->Prop} {Q:VK}
  (hc:X.calm=true) (hg:∀ b,PG (cJ X (bN Nx ts ix) scope b) target (g b)) (hcn:∀ b,PT (cJ X (bN Nx ts ix) scope b) cnd (tc b)) (he:∀ b,PE (cJ X (bN Nx ts ix) scope b) elt (te b))
  (hNx:X.N=Nx) (ok:BlkOk Nx X.env.scope scope ix) (cl1:∀ x c,cl.lookup x=some c->X.env.cells.lookup x=some c) (cl2:∀ y∈scope.names,y.2=.free->∃ c,cl.lookup y.1=some c)
  (h2:qK X pins σ target (λJ H1=>∀ b:Blk,∃ W:Nat->Nat->St->List V->Hp->Prop,(∃ m,W 0 m (fH ts.length ix σ) [] H1)/\∀ i m τ ys H2,W i m τ ys H2 ->
   (J.stop i H2/\∀ p v H',H2 p=none->v=V.ref p->H'=upd H2 p (.lst ys)->Q v H') \/
   (J.go i H2/\ys.length < sizeLine/\∀ x H3,J.yld i H2 x H3->g b x τ H3 λτ2 H4=>tc b τ2 H4 λok H4'=>if ok=true then te b τ2 H4' λy H5=>∃ m',m' < m/\W (i+1) m' τ2 (ys++[y]) H5 else ∃ m',m' < m/\W (i+1) m' τ2 ys H4')) itv s2)
  (hR:vm X pins σ Q R) :
  wpAny (model X.prog X.w) X.A (newList []) (λacc s₃=>wpAny (model X.prog X.w) X.A (newFunctionEnv scope X.env.globals cl [] X.env.qual none .none (some X.env)) (λcenv s₄ =>
   codeAny (model X.prog X.w) X.A (.compStart (.ListComp elt [⟨target,iter,[cnd],0⟩] scope pos) 0 itv acc { cenv with scope:=relabel scope X.env }) (R acc cenv.locals) s₄) E s₃) E s2:=by
 obtain ⟨it,fp,tn,J,H1,e,I2,T,st2,f2,q2⟩:=h2
 subst e
 refine wpAny_newObj_type (Zai ?_)
 dsimp only
 generalize hG:s2.heap.push { cls:=.type "list",dict:=none,data:=.seq ([]:List Value).toArray }=G
 have hfs:∀ b∈fp,b < s2.heap.objs.size:=λb hb=>let ⟨o,e,_⟩:=T.obj _ _ st2 b hb; Heap.lt_size e
 have S:=ZeD (ts:=ts) hNx ok cl1 cl2 I2 f2 hfs hG
 generalize pushCells (G.push { cls:=.type "dict",data:=.dict #[] }) scope.names=h3 at S ⊢
 generalize cellsFrom (G.objs.size+1) scope.names cl=cs at S ⊢
 generalize G.objs.size=C at S ⊢
 obtain ⟨hC,hDC,I3,kp,hD3,fC,cellIn,pinIn,nofrs,pinD,stat⟩:=S
 let B:Blk:=⟨cs,C,s2,H1,fp,X.pn++pins⟩
 obtain ⟨W,⟨m0,w0⟩,turn⟩:=q2 B
 have loop:∀ s4:Shared,s4={ s2 with heap:=h3 } ->
   codeAny (model X.prog X.w) X.A (.compLoop (.ListComp elt [⟨target,iter,[cnd],0⟩] scope pos) 0 (.ref it) (.ref s2.heap.objs.size) (compEnvC scope cs C X.env)) (R (.ref s2.heap.objs.size) C) s4:=by
  rintro s4 rfl
  refine Zn9 (λk s'=>∃ i τ ys its n H',Inv (cJ X (bN Nx ts ix) scope B) [(s2.heap.objs.size,({ cls:=.type "list",data:=.seq (List.toArray its) n }:Obj))] τ H' s'/\tn i s'.heap/\(∀ b∈fp,H' b=none)/\Vals ys its/\ys.length<=sizeLine/\W i k τ ys H') ?_ m0
   ⟨0,_,[],[],_,H1,pinD I3 hD3 fC (λv z=>by cases z),T.keep _ _ _ st2 λb hb o e=>kp b o e,λb hb=>(f2 b hb).1,.nil,Nat.zero_le _,w0⟩
  rintro k s5 ⟨i,τ,ys,its,n,H5,I5,st5,fr5,rv,hz,w5⟩
  rcases turn i k τ ys H5 w5 with ⟨stop,qn⟩ | ⟨go,hlt,step⟩
  ·refine thn (T.done (cJ X (bN Nx ts ix) scope B) rfl rfl rfl hc i _ s5 τ H5 _ I5 (stat fr5) st5 stop) λgot s6 hz0=>?_
   obtain ⟨rfl,I6⟩:=hz0
   exact ZeC I2 f2 hC hDC pinIn I6 rv hz hR qn
  ·refine thn (T.item (cJ X (bN Nx ts ix) scope B) rfl rfl rfl hc i _ s5 τ H5 _ I5 (stat fr5) st5 go) λgot s6 hz0=>?_
   obtain ⟨u,hr,h6⟩:=hz0
   subst hr
   refine thn h6 λ_ s7 hz0=>?_
   obtain ⟨x,H7,I7,r7,y7,st7,fr7⟩:=hz0
   have I7':=I7.pinned (stat fr7) (T.obj _ _ st7)
   refine thn (hg B _ s7 τ H7 x u _ I7' r7 (step x H7 y7)) λ_ s8 hz0=>?_
   obtain ⟨τ8,H8,I8,q8⟩:=hz0
   refine thn (hcn B _ s8 τ8 H8 _ I8 q8) λokk s8' hz0=>?_
   obtain ⟨H8',I8',q8'⟩:=hz0
   cases okk with
   | false =>
    obtain ⟨m',hm',w9⟩:=q8'
    obtain ⟨ho,hn,_,_,_⟩:=I8'.pin (s2.heap.objs.size,({ cls:=.type "list",data:=.seq (List.toArray its) n }:Obj)) (List.mem_append_right _ (List.mem_append_left _ (by simp)))
    have I9':Inv (cJ X (bN Nx ts ix) scope B) [] τ8 H8' s8':=I8'.pins_of λp hp=>absurd hp (by simp)
    refine ⟨m',hm',i+1,τ8,ys,its,n,H8',pinD I9' ho hn (λv z=>by cases z),?_,λb hb=>?_,rv,hz,w9⟩
    ·refine T.keep _ _ _ st7 λb hb o e=>?_
     exact (I8'.pin (b,o) (List.mem_append_right _ (List.mem_append_right _ (jl hb e)))).1
    ·obtain ⟨o,e,d⟩:=T.obj _ _ st7 b hb
     exact (I8'.pin (b,o) (List.mem_append_right _ (List.mem_append_right _ (jl hb e)))).2.1
   | true =>
   refine thn (he B _ s8' τ8 H8' _ I8' q8') λy s9 hz0=>?_
   obtain ⟨vy,H9,I9,r9,m',hm',w9⟩:=hz0
   obtain ⟨ho,hn,_,_,_⟩:=I9.pin (s2.heap.objs.size,({ cls:=.type "list",data:=.seq (List.toArray its) n }:Obj)) (List.mem_append_right _ (List.mem_append_left _ (by simp)))
   have lenv:=rv.length
   refine wpAny_list_append_plain (l:=s2.heap.objs.size) ⟨n,ho⟩ (λh' hpl hsb=>?_) (by rw [List.size_toArray]; omega)
   obtain ⟨n',ho'⟩:=hpl
   have eobj:(its.toArray.push y)=List.toArray (its++[y]):=by simp
   rw [eobj] at ho'
   have I9':Inv (cJ X (bN Nx ts ix) scope B) [] τ8 H9 s9:=I9.pins_of λp hp=>absurd hp (by simp)
   have I10:Inv (cJ X (bN Nx ts ix) scope B) [] τ8 H9 { s9 with heap:=h' }:=I9'.turned (it:=s2.heap.objs.size) (t':=s9.toks) (λb o hb e=>(hsb.2 b hb).trans e) hn hDC (.inr (Nat.le_refl _)) cellIn (λp hp=>by
    have hp':p∈(X.pn++pins)++[]:=hp
    rw [List.append_nil] at hp'
    exact Nat.ne_of_lt (pinIn p hp'))
   refine ⟨m',hm',i+1,τ8,ys++[vy],its++[y],n',H9,pinD I10 ho' hn (λv z=>by cases z),?_,λb hb=>?_,rv.append (.cons r9 .nil),by rw [List.length_append]; show ys.length+1<=_; omega,w9⟩
   ·refine T.keep _ _ _ st7 λb hb o e=>?_
    have q:=(I9.pin (b,o) (List.mem_append_right _ (List.mem_append_right _ (jl hb e)))).1
    exact (hsb.2 b (Nat.ne_of_lt (hfs b hb))).trans q
   ·obtain ⟨o,e,d⟩:=T.obj _ _ st7 b hb
    exact (I9.pin (b,o) (List.mem_append_right _ (List.mem_append_right _ (jl hb e)))).2.1
 exact codeAny_compStart_list (loop _ rfl) (T.self X.A 0 _ _ _ (T.keep _ _ _ st2 λb hb o e=>kp b o e) (loop _ rfl))
theorem Zir {elt target iter cnd:Expr} {scope:Scope} {pos:Pos} {wi:TI} {g:Blk->TG} {tc:Blk->TT} {te:Blk->TE} (Nx:List Str) (ts:List Str) (ix:List Nat)
  (hc:X.calm=true) (hi:PI X target iter wi) (hg:∀ b,PG (cJ X (bN Nx ts ix) scope b) target (g b)) (hcn:∀ b,PT (cJ X (bN Nx ts ix) scope b) cnd (tc b)) (he:∀ b,PE (cJ X (bN Nx ts ix) scope b) elt (te b))
  (hNx:X.N=Nx) (ok:BlkOk Nx X.env.scope scope ix) (hs:∀ x,foldedSetIterable iter X.env x=pure x:=by intro _; rfl) :
  PE X (.ListComp elt [⟨target,iter,[cnd],0⟩] scope pos) (rG wi ts.length ix g tc te):=by
 intro pins s σ H Q I h
 obtain ⟨cl,hcl,cl1,cl2⟩:=uw (scope:=scope) (env:=X.env) λy hy hf=>I.ok.has y.1 (ok.frees y hy hf)
 rw [eval_ListComp]
 refine wpAny_comprehension_free (use:=none) rfl hs hcl ok.kind ok.locs (thn (hi pins s σ H _ I h) λv s1 h1=>thn h1 λitv s2 h2=>?_)
 refine ZjB (R:=λacc C=>compPost (model X.prog X.w) X.A X.xe none (EP X pins σ Q) acc C) hc hg hcn he hNx ok cl1 cl2 h2 ?_
 rintro D C H' s' v I' rfl q ⟨m,hm⟩ hn hL h0 hcl' hp
 exact ⟨m,hm,λh' hsb=>⟨.ref D,H',I'.turned (it:=C) (t':=s'.toks) (λb o hb e=>(hsb.2 b hb).trans e) hn hL (.inr h0) hcl' hp,rfl,q⟩⟩
end
section
variable {PK:Pk} {X:Cx} {e:Expr} {st:Stmt} {i:List Sl->Tr PyData} {is:List Sl->Tr (List PyData)} {p:List Sl->Tr Bool}
noncomputable def oZ (y:Option PyData) (ys:List PyData):Tr (List PyData):=.ret (match y with
 | some y=>y::ys
 | none=>ys)
noncomputable def gM (h:PyData->Tr (Option PyData)):List PyData->Tr (List PyData)
 | []=>.ret []
 | x::xs=>(h x).bind λy=>(gM h xs).bind (oZ y)
noncomputable def lq (p:List Sl->Tr Bool) (i:List Sl->Tr PyData) (τ:List Sl):Tr (Option PyData):=(p τ).bind λok=>if ok=true then (i τ).bind λy=>.ret (some y) else .ret none
noncomputable def qA (is:List Sl->Tr (List PyData)) (n:Nat) (ix:List Nat) (g:PyData->List Sl->Option (List Sl)) (p:List Sl->Tr Bool) (el:List Sl->Tr PyData):List Sl->Tr (List PyData):=λρ =>
 (is ρ).bind λxs=>if small xs.length=true then gM (λx=>(Tr.of (g x (blk n ix ρ))).bind (lq p el)) xs else .fail
theorem ZjA {n:Nat} {ix:List Nat} {g:PyData->List Sl->Option (List Sl)} (hn:iD n g):∀ σ H Q,gC PK (qA is n ix g p i) σ H Q->rG (gD PK is) n ix (λ_=>gP PK g) (λ_=>TAt PK p) (λ_=>TAe PK i) σ H Q:=by
 rintro σ H Q ⟨pa,G₀,H₀,m,ρ,G,R,z⟩
 refine ⟨pa,G₀,H₀,m,ρ,G,R,Tr.ok_mono (Tr.ok_bind.mp z) λm1 xs k J G1 H1 s1 w1 jo=>λB=>?_⟩
 obtain ⟨hs,k⟩:=fU k
 have hs:xs.length<=sizeLine:=of_decide_eq_true hs
 let el:PyData->Tr (Option PyData):=λx=>(Tr.of (g x (blk n ix ρ))).bind (lq p i)
 let W:Nat->Nat->St->List V->Hp->Prop:=λk mm τ ys H2=>mm=xs.length - k/\k<=xs.length/\ys.length<=k/\∃ m G2 ds,Sub G1 G2/\Stp pa G H G2 H2/\Rl PK pa G₀ H₀ m τ (blk n ix ρ) G2 H2 /\
  DnAll G2 ys ds/\(gM el (xs.drop k)).ok m λm' zs=>Ko1 PK pa m' G H (ds++zs) Q
 refine ⟨W,⟨xs.length,rfl,Nat.zero_le _,Nat.le_refl _,m1,G1,[],.refl,s1,(R.step s1 w1).blk n ix,.nil,k⟩,?_⟩
 rintro k mm τ ys H2 ⟨rfl,hk,hy,m2,G2,ds,sb,st2,R2,dn,k2⟩
 obtain ⟨j1,j2⟩:=jo m2 G2 H2 sb R2.wd
 by_cases hlt:k < xs.length
 ·have hx:xs[k]?=some xs[k]:=by simp [hlt]
  obtain ⟨jg,jy⟩:=j1 k _ hx
  refine .inr ⟨jg,by omega,λx H3 y=>?_⟩
  obtain ⟨G3,s3,w3,d3⟩:=jy x H3 y
  rw [List.drop_eq_getElem_cons hlt] at k2
  unfold gM at k2
  rw [Tr.ok_bind,Tr.ok_bind] at k2
  obtain ⟨ρ3,hg3,k3⟩:=Tr.ok_of k2
  refine ⟨pa,G₀,H₀,m2,_,G3,_,ρ3,R2.step s3 w3,d3,hg3,λτ4 R4=>?_⟩
  obtain ⟨pl,pk⟩:=hn _ _ _ hg3
  have hback:∀ (q:Nat) (sl:Sl),(blk n ix ρ)[q]?=some sl->sl=.un\/ρ3[q]?=some sl:=λq sl hq=>by
   by_cases hqn:q < n
   ·left
    unfold blk at hq
    rw [List.getElem?_append_left (by simpa using hqn),List.getElem?_replicate,if_pos hqn] at hq
    cases hq
    rfl
   ·right
    rw [pk q (Nat.le_of_not_lt hqn)]
    exact hq
  unfold lq at k3
  rw [Tr.ok_bind] at k3
  refine ⟨pa,G₀,H₀,m2,ρ3,G3,R4,Tr.ok_mono k3 λm4 ok k4 G4 H4 s4 w4=>?_⟩
  have R4':=R4.step s4 w4
  have s34:=s3.trans s4 w3.some
  cases ok with
  | false =>
   have k4':((gM el (xs.drop (k+1))).bind (oZ none)).ok m4 λm' zs=>Ko1 PK pa m' G H (ds++zs) Q:=k4
   refine ⟨xs.length - (k+1),by omega,rfl,hlt,by omega,m4,G4,ds,sb.trans s34.gs,st2.trans s34 R2.wd.some,R4'.weak pl hback,DnAll.mono s34.gs dn,?_⟩
   exact Tr.ok_mono (Tr.ok_bind.mp k4') λm6 zs k6=>k6
  | true =>
   have k4':((i ρ3).bind λy=>.ret (some y)).ok m4 λm' y=>((gM el (xs.drop (k+1))).bind (oZ y)).ok m' λm' zs=>Ko1 PK pa m' G H (ds++zs) Q:=k4
   rw [Tr.ok_bind] at k4'
   refine ⟨pa,G₀,H₀,m4,ρ3,G4,R4',Tr.ok_mono k4' λm5 yd k5=>?_⟩
   intro v G5 H5 s5 w5 d5
   have s35:=s34.trans s5 w4.some
   refine ⟨xs.length - (k+1),by omega,rfl,hlt,by rw [List.length_append]; show ys.length+1<=_; omega,m5,G5,ds++[yd],sb.trans s35.gs,st2.trans s35 R2.wd.some,(R4'.step s5 w5).weak pl hback,(DnAll.mono s35.gs dn).snoc d5,?_⟩
   have k5':((gM el (xs.drop (k+1))).bind (oZ (some yd))).ok m5 λm' zs=>Ko1 PK pa m' G H (ds++zs) Q:=k5
   refine Tr.ok_mono (Tr.ok_bind.mp k5') λm6 zs k6=>?_
   rw [List.append_assoc]
   exact k6
 ·have e:k=xs.length:=by omega
  subst e
  refine .inl ⟨j2,λp v H' hp ev eH=>?_⟩
  subst ev eH
  rw [List.drop_length] at k2
  have k2':Ko1 PK pa m2 G H (ds++[]) Q:=k2
  rw [List.append_nil] at k2'
  exact (Ko1.later k2' st2 R2.wd.some).new R2.wd dn hp
theorem Zpb {n:Nat} {ix:List Nat} {g:PyData->List Sl->Option (List Sl)} (h:PE X e (rG (gD PK is) n ix (λ_=>gP PK g) (λ_=>TAt PK p) (λ_=>TAe PK i))) (hn:iD n g):PE X e (gC PK (qA is n ix g p i)):=h.imp (ZjA hn)
end
section
variable {X:Cx}
section
variable {ρ:List Sl} {is:List Sl->Tr (List PyData)} {n:Nat} {i:List Sl->Tr PyData} {p:List Sl->Tr Bool} {xs:List PyData} {x:PyData}
noncomputable def lf (g:PyData->List Sl->Option (List Sl)) (p:List Sl->Tr Bool) (el:List Sl->Tr PyData) (τ:List Sl) (x:PyData):Tr (Option PyData):=(Tr.of (g x τ)).bind (lq p el)
noncomputable def tL (n:Nat) (ix:List Nat) (g:PyData->List Sl->Option (List Sl)) (p:List Sl->Tr Bool) (el:List Sl->Tr PyData) (ρ:List Sl) (xs:List PyData):Tr (List PyData):=if small xs.length=true then gM (lf g p el (blk n ix ρ)) xs else .fail
theorem ZlT {ix:List Nat} {g:PyData->List Sl->Option (List Sl)}:qA is n ix g p i ρ=(is ρ).bind (tL n ix g p i ρ):=rfl
theorem ZlV {ix:List Nat} {g:PyData->List Sl->Option (List Sl)} (h:small xs.length=true):tL n ix g p i ρ xs=gM (lf g p i (blk n ix ρ)) xs:=by unfold tL; rw [if_pos h]
theorem ZlU {τ:List Sl} {g:PyData->List Sl->Option (List Sl)}:lf g p i τ x=(Tr.of (g x τ)).bind (lq p i):=rfl
noncomputable def t5 (y:PyData):Tr (Option PyData):=.ret (some y)
noncomputable def t6 (i:List Sl->Tr PyData) (τ:List Sl) (b:Bool):Tr (Option PyData):=if b=true then (i τ).bind t5 else .ret none
theorem Zmd {τ:List Sl}:lq p i τ=(p τ).bind (t6 i τ):=rfl
theorem Zmf {τ:List Sl}:t6 i τ true=(i τ).bind t5:=rfl
theorem Zmg {τ:List Sl}:t6 i τ false=.ret none:=rfl
theorem Zme:t5 x=.ret (some x):=rfl
end
end
section
variable {PK:Pk} {X:Cx} {e:Expr} {as:List Sl->Tr (List Sl)}
end
section
variable {ρ:List Sl} {as:List Sl->Tr (List Sl)} {f:List PyData->Option PyData} {x:PyData} {xs:List PyData} {i j:List Sl->Tr PyData} {k:Nat} {p:List Sl->Tr Bool} {s:List Sl->Tr Ou}
noncomputable def ml (k:Nat) (ρ:List Sl) (x:PyData) (xs:List PyData):PyData->Tr Ou
 | .int y=>(Tr.of (gu xs.length y)).bind λt=>.ret (.next (ρ.set k (.own (xs.set t x))))
 | _=>.fail
noncomputable def rQ (k:Nat) (n:List Sl->Tr PyData) (ρ:List Sl) (x:PyData) (xs:List PyData):Tr Ou:=(n ρ).bind (ml k ρ x xs)
noncomputable def rR (k:Nat) (n:List Sl->Tr PyData) (ρ:List Sl) (x:PyData):Tr Ou:=(iJ k ρ).bind (rQ k n ρ x)
theorem Zk6:qv k j i ρ=(i ρ).bind (rR k j ρ):=by
 unfold qv
 refine congrArg (Tr.bind (i ρ)) (funext λx=>?_)
 rw [rR,<- oP k ρ]
 cases ρ[k]? with
 | none=>rfl
 | some sl =>
  cases sl with
  | own xs =>
   show ((j ρ).bind _:Tr Ou)=(j ρ).bind (ml k ρ x xs)
   refine congrArg (Tr.bind (j ρ)) (funext λy=>?_)
   cases y <;> rfl
  | _=>rfl
theorem Zk5 {n:List Sl->Tr PyData}:rR k n ρ x=(iJ k ρ).bind (rQ k n ρ x):=rfl
theorem Zk4 {n:List Sl->Tr PyData}:rQ k n ρ x xs=(n ρ).bind (ml k ρ x xs):=rfl
theorem Zk3 {y:Int} {t:Nat} (h:gu xs.length y=some t):ml k ρ x xs (.int y)=.ret (.next (ρ.set k (.own (xs.set t x)))):=by
 simp only [ml,h]
 rfl
end
end L2
namespace L2
open PySem PySem.Spec PyProof.Rows
open AutoSeq1 (wpAny_loadPart')
noncomputable def lZ (hi:Int) (n:Nat):It:=⟨λi _=>i < n,λi H x H'=>H'=H/\x=.int (hi - i),λi _=>n<=i⟩
theorem ZfV {P:Program} {w:World} {K:PySem.W.Frag} {tg:Expr} (it:Addr) (hi:Int) (n:Nat):Turn P w K tg (lZ hi n) [it] it (λi h=>IsRangeIter h it (hi+(i:Nat) * (-1)) ((n:Int) - (i:Nat)) (-1)) where
 mem:=by simp
 obj:=λi h st b hb=>by
  have e:b=it:=by simpa using hb
  subst e
  exact ⟨_,st,λv z=>by
   have z':Data.fields _=Data.cell v:=z
   cases z'⟩
 keep:=λi h h' st k=>k it (by simp) _ st
 item:=by
  intro X hP hw hK hc i pins s σ H E I hf st hg
  subst hP hw hK
  obtain ⟨f0,f1,f2,f3,f4,f5⟩:=hf it (by simp)
  have W:=Walks.range (prog:=X.prog) (w:=X.w) (I.ok.hd hc) it hi (-1) n
  refine W.item i s _ _ hg st λv h' tk hv st' kk=>?_
  obtain ⟨t,rfl⟩:=hv
  have I1:Inv X pins σ H { s with heap:=h',toks:=tk }:=I.turned (λb o hb e=>kk b o (by simpa using hb) e) f0 f1 f3 f4 f5
  refine ⟨_,rfl,nh (s:={ s with heap:=h',toks:=tk }) (n:="range_iterator") st' rfl rfl (by decide) ⟨.int (hi - i),H,I1,⟨t,?_⟩,⟨rfl,rfl⟩,st',λb hb=>(hf b hb).1⟩⟩
  have e:hi+(i:Int) * -1=hi - i:=by omega
  rw [e]
 done:=by
  intro X hP hw hK hc i pins s σ H E I hf st hg
  subst hP hw hK
  obtain ⟨f0,f1,f2,f3,f4,f5⟩:=hf it (by simp)
  exact wpAny_pyNext_range_end (I.ok.hd hc) st (by have:n<=i:=hg; omega) λh' eb=>⟨rfl,I.turned (t':=s.toks) (λb o hb e=>eb b o hb e) f0 f1 f3 f4 f5⟩
 self:=λ_ _ _ _ _ st h=>wpAny_pyIter_rangeiter st h
theorem Zjg (r:Addr) (a b c:Int) (t u v:Tok) (hs:¬ (!(Builtin.Range.rangeFitsLong a && Builtin.Range.rangeFitsLong b && Builtin.Range.rangeFitsLong c && Builtin.Range.rangeFitsLong (-c) && Builtin.Range.rangeFitsLong (a - c) && Builtin.Range.rangeFitsLong (Builtin.Range.rangeSize a b c)))=true) :
  Meets (Builtin.«range.__reversed__» ⟨[.ref r],[]⟩) (λ_ R s=>s.heap.get? r=some { cls:=.type "range",dict:=none,data:=.fields #[.int a t,.int b u,.int c v],slots:=#[] } /\
   R (.ok (.ret (.ref s.heap.objs.size))) { s with heap:=s.heap.push { cls:=.type "range_iterator",data:=.fields #[rawInt (a+(Builtin.Range.rangeSize a b c - 1) * c),rawInt (Builtin.Range.rangeSize a b c),rawInt (-c)] },toks:=s.toks }) :=
 .of_wp λprog w A R s h=>by
  obtain ⟨hp,g,d,tk,os⟩:=s
  obtain ⟨hl,h⟩:=h
  have hs':=hs
  rw [Bool.not_eq_true',Bool.not_eq_false] at hs'
  wp_walk
  rw [if_pos hs']
  exact ⟨_,rfl,h⟩
theorem lx {n:Int} (h1:-(2 ^ 63)<=n) (h2:n < 2 ^ 63):Builtin.Range.rangeFitsLong n=true:=by
 unfold Builtin.Range.rangeFitsLong
 simp
 omega
section
variable {prog:Program} {w:World} {A:Around} {E:Value->Shared->Prop} {s:Shared}
theorem Zoc {r:Addr} {a b:Int} {t u v:Tok} {Q₁:Value->Shared->Prop} (hr:IsRange s.heap r a b 1 t u v) (ha:-(2 ^ 62)<=a) (ha':a < 2 ^ 62) (hb:-(2 ^ 62)<=b) (hb':b < 2 ^ 62)
  (h:Q₁ (.ref s.heap.objs.size) { s with heap:=s.heap.push { cls:=.type "range_iterator",data:=.fields #[rawInt (a+(Builtin.Range.rangeSize a b 1 - 1) * 1),rawInt (Builtin.Range.rangeSize a b 1),rawInt (-1)] } }) :
  codeAny (model prog w) A (.call (.builtin "reversed.__new__") ⟨[.type "reversed",.ref r],[]⟩) (wants Q₁ E) s:=by
 have hT:s.TypeIs (.ref r) "range":=⟨_,hr,rfl⟩
 refine codeAny_of_tree ?_
 show wpAny _ A.in1 (do checkBuiltinCall "reversed.__new__" ⟨[.type "reversed",.ref r],[]⟩; again (.builtin "reversed.__new__" ⟨[.type "reversed",.ref r],[]⟩)) _ _ s
 refine wpAny_bind (wpAny_of_eq (F.newCall_reversed_1 _) (wpAny_pure ⟨plainId_quiet F.plain_reversed_new _,codeAny_builtin F.entry_reversed_new ?_⟩))
 rw [Around.under_plainId F.plain_reversed_new _]
 unfold Builtin.«reversed.__new__»
 refine wpAny_bind (wpAny_of_eq (newClass_reversed _) ?_)
 try dsimp only
 refine wpAny_bind (wpAny_of_eq (a:=()) (by first | rfl | kernel_rfl) ?_)
 refine wpAny_bind (wpAny_of_eq (a:=()) (by first | rfl | kernel_rfl) ?_)
 try dsimp only
 refine wpAny_bind (wpAny_specialOf hT F.slot_range_reversed.lookup ?_)
 try dsimp only
 refine wpAny_bind (wpAny_of_eq (F.slot_range_reversed.bind _) ?_)
 try dsimp only
 first
 | rw [if_neg (show ¬ ((Value.builtin "range.__reversed__" == Value.none)=true) from Bool.false_ne_true)]
 | (show wpAny _ _ (if (Value.builtin "range.__reversed__" == Value.none)=true then _ else _) _ _ _; rw [if_neg (show ¬ ((Value.builtin "range.__reversed__" == Value.none)=true) from Bool.false_ne_true)])
 refine wpAny_bind (wpAny_rule ?_)
 have hsz:Builtin.Range.rangeSize a b 1=if a < b then b - a else 0:=rangeSize_one a b
 refine wpAny_bind (m:=runValue (.call (.builtin "range.__reversed__") ⟨[.ref r],[]⟩)) (show wpAny _ _ (call (.builtin "range.__reversed__") [.ref r]) _ _ _ from
  call_meets F.slot_range_reversed hT F.entry_range_reversed (F.args_range_reversed_1 _) (Zjg r a b 1 t u v ?_) ⟨hr,?_⟩)
 ·rw [Bool.not_eq_true',Bool.not_eq_false,lx (by omega) (by omega),lx (by omega) (by omega),lx (by decide) (by decide),lx (by decide) (by decide),lx (n:=a - 1) (by omega) (by omega),lx (n:=Builtin.Range.rangeSize a b 1) (by rw [hsz]; split <;> omega) (by rw [hsz]; split <;> omega)]
  rfl
 ·first
  | exact wpAny_pure h
  | exact wpAny_bind (wpAny_pure (wpAny_pure h))
theorem Zgu:isSubtype (.type "range_iterator") (.type "reversed")=pure false:=by rw [isSubtype_type]; kernel_rfl
theorem Zor {r:Addr} {a b:Int} {t u v:Tok} {Q:Value->Shared->Prop} (hr:IsRange s.heap r a b 1 t u v) (ha:-(2 ^ 62)<=a) (ha':a < 2 ^ 62) (hb:-(2 ^ 62)<=b) (hb':b < 2 ^ 62)
  (h:Q (.ref s.heap.objs.size) { s with heap:=s.heap.push { cls:=.type "range_iterator",data:=.fields #[rawInt (a+(Builtin.Range.rangeSize a b 1 - 1) * 1),rawInt (Builtin.Range.rangeSize a b 1),rawInt (-1)] } }):wpAny (model prog w) A (call (.type "reversed") [.ref r]) Q E s:=by
 refine callType_other (U:="range_iterator") (Q₁:=λobj s₁=>obj=.ref s.heap.objs.size/\s₁={ s with heap:=s.heap.push { cls:=.type "range_iterator",data:=.fields #[rawInt (a+(Builtin.Range.rangeSize a b 1 - 1) * 1),rawInt (Builtin.Range.rangeSize a b 1),rawInt (-1)] } }) (by decide +kernel) F.create_reversed ⟨_,_,F.mro_reversed⟩ F.made_reversed Zgu (F.typeCall_reversed_1 _) (Zoc hr ha ha' hb hb' ⟨rfl,rfl⟩) ?_
 rintro obj s₁ ⟨rfl,rfl⟩
 exact ⟨⟨_,Heap.get?_push_size _ rfl,rfl⟩,h⟩
end
theorem ZcF:Manifest.owners.lookup (String.ofList ['d','e','s','r','e','v','e','r'].reverse)=some Manifest.sig_reversed:=by kernel_rfl
theorem Zgy:Slot "reversed" "__init__" "object.__init__" :=
 .of (owner:="object") (n:="__init__") (by rw [typeLookup_type,builtinLookup_eq_fast]; kernel_rfl) (by decide +kernel) (by decide +kernel) (by decide +kernel)
  (by first | exact .inl (by decide +kernel) | exact .inr (by decide +kernel)) (by rw [isSubtype_type]; kernel_rfl)
theorem mj:Slot "reversed" "__next__" "reversed.__next__" :=
 .of (owner:="reversed") (n:="__next__") (by rw [typeLookup_type,builtinLookup_eq_fast]; kernel_rfl) (by decide +kernel) (by decide +kernel) (by decide +kernel)
  (by first | exact .inl (by decide +kernel) | exact .inr (by decide +kernel)) (by rw [isSubtype_type]; kernel_rfl)
theorem Zd2:entryFor table "reversed.__next__"=some Builtin.«reversed.__next__»:=entryFor_of_tree (by kernel_rfl)
theorem ZeZ (a:Value):argsOk "reversed.__next__" ⟨[a],[]⟩:=by
 unfold argsOk; rw [signature?_of (id:="reversed.__next__") (n:=['_','_','t','x','e','n','_','_']) (o:=['d','e','s','r','e','v','e','r']) (by kernel_rfl) ZcF]; kernel_rfl
theorem ZaO:Slot "reversed" "__iter__" "reversed.__iter__" :=
 .of (owner:="reversed") (n:="__iter__") (by rw [typeLookup_type,builtinLookup_eq_fast]; kernel_rfl) (by decide +kernel) (by decide +kernel) (by decide +kernel)
  (by first | exact .inl (by decide +kernel) | exact .inr (by decide +kernel)) (by rw [isSubtype_type]; kernel_rfl)
theorem Zo5 (a:Value):argsOk "reversed.__iter__" ⟨[a],[]⟩:=by
 unfold argsOk; rw [signature?_of (id:="reversed.__iter__") (n:=['_','_','r','e','t','i','_','_']) (o:=['d','e','s','r','e','v','e','r']) (by kernel_rfl) ZcF]; kernel_rfl
theorem Zne:entryFor table "reversed.__iter__"=some Builtin.«dict_keyiterator.__iter__» :=
 entryFor_alias (id':="dict_keyiterator.__iter__") (by kernel_rfl) (by first | rfl | decide +kernel | (unfold String.splitOn; simp +decide [String.splitOnAux])) (by decide +kernel) (by kernel_rfl)
theorem Zom:TypeCalled "reversed" "reversed.__new__" "object.__init__" :=
 ⟨by decide +kernel,by decide +kernel,⟨_,_,F.mro_reversed⟩,F.made_reversed,by decide +kernel,by rw [isSubtype_type]; kernel_rfl,Zgy⟩
theorem ZiZ:typeLookup (.type "tuple") "__reversed__"=pure none:=by rw [typeLookup_type,builtinLookup_eq_fast]; kernel_rfl
theorem Zjf (l:Addr) (items:Array Value) (hfit:(items.size:Int) < 2 ^ 63) :
  Meets (Builtin.«reversed.__new__» ⟨[.type "reversed",.ref l],[]⟩) (λ_ R s=>IsTup s.heap l items /\
   R (.ok (.ret (.ref s.heap.objs.size))) { s with heap:=s.heap.push { cls:=.type "reversed",data:=.fields #[.ref l,rawInt ((items.size:Int) - 1)] },toks:=s.toks+1+1 }) :=
 .of_wp λprog w A R s h=>by
  obtain ⟨hp,g,d,tk,os⟩:=s
  obtain ⟨hl,h⟩:=h
  have hl':(Shared.mk hp g d tk os).heap.IsTuple l items:=hl
  unfold Builtin.«reversed.__new__»
  refine wpAny_bind (wpAny_of_eq (newClass_reversed _) ?_)
  try dsimp only
  refine wpAny_bind (wpAny_of_eq (a:=()) (by first | rfl | kernel_rfl) ?_)
  refine wpAny_bind (wpAny_of_eq (a:=()) (by first | rfl | kernel_rfl) ?_)
  try dsimp only
  refine wpAny_bind (wpAny_specialOf hl'.typeIs ZiZ ?_)
  try dsimp only
  refine wpAny_bind ?_
  show wpAny _ _ (isInstance (Value.ref l) (.type "dict") >>= _) _ _ _
  refine wpAny_bind (wpAny_isInstance (T:="tuple") (b:=false) hl'.typeIs (by rw [isSubtype_type]; kernel_rfl) ?_)
  show wpAny _ _ (specialOf (Value.ref l) "__getitem__" >>= _) _ _ _
  refine wpAny_bind (wpAny_specialOf hl'.typeIs F.slot_tuple_getitem.lookup ?_)
  refine wpAny_pure ?_
  show wpAny _ _ (call (Value.builtin "len") [Value.ref l] >>= _) _ _ _
  refine wpAny_bind (len_tuple hl hfit ?_)
  refine wpAny_bind (wpAny_of_eq (a:=some (items.size:Int)) rfl ?_)
  show wpAny _ _ (newObj (.type "reversed") (.fields #[.ref l,rawInt ((items.size:Int) - 1)]) >>= _) _ _ _
  refine wpAny_bind (wpAny_newObj_type ?_)
  exact wpAny_pure ⟨_,rfl,h⟩
noncomputable def IsTRev (h:Heap) (a l:Addr) (i:Int):Prop:=∃ o,h.get? a=some o/\o.cls=.type "reversed"/\o.data=.fields #[.ref l,rawInt i]
theorem IsTRev.at {h h':Heap} {a l:Addr} {i:Int} (x:IsTRev h a l i) (e:∀ o,h.get? a=some o->h'.get? a=some o):IsTRev h' a l i:=let ⟨o,ho,r⟩:=x; ⟨o,e _ ho,r⟩
section
variable {prog:Program} {w:World} {A:Around} {E:Value->Shared->Prop} {s:Shared}
theorem Zoq {l:Addr} {items:Array Value} {Q:Value->Shared->Prop} (hl:IsTup s.heap l items) (hfit:(items.size:Int) < 2 ^ 63)
  (h:Q (.ref s.heap.objs.size) { s with heap:=s.heap.push { cls:=.type "reversed",data:=.fields #[.ref l,rawInt ((items.size:Int) - 1)] },toks:=s.toks+1+1 }) :
  wpAny (model prog w) A (call (.type "reversed") [.ref l]) Q E s :=
 callType_new Zom (by decide) (F.typeCall_reversed_1 _) (F.newCall_reversed_1 _) (λobj=>F.args_object_init_2 obj _) F.entry_reversed_new (Zjf l items hfit) ⟨hl,⟨_,Heap.get?_push_size _ rfl,rfl⟩,h⟩
theorem ZhS {it l:Addr} {i:Nat} {items:Array Value} {x:Value} {Q:Option Value->Shared->Prop} (hit:IsTRev s.heap it l (i:Int)) (hl:IsTup s.heap l items) (hne:l≠it) (hx:items[i]?=some x) (hfit:(items.size:Int) < 2 ^ 63)
  (hQ:∀ h',IsTRev h' it l ((i:Int) - 1)->Heap.SameBut it s.heap h'->Q (some x) { s with heap:=h',toks:=s.toks+1 }):wpAny (model prog w) A (pyNext (.ref it)) Q E s:=by
 obtain ⟨o,ho,hc,hd⟩:=id hit
 have hT:s.TypeIs (.ref it) "reversed":=⟨o,ho,hc⟩
 have hl':s.heap.IsTuple l items:=hl
 have hlt:i < items.size:=(Array.getElem?_eq_some_iff.mp hx).1
 unfold pyNext
 refine wpAny_bind (wpAny_attempt (wpAny_callSpecial?_slot (name:=Str.ofString "__next__") hT mj
  (wpAny_call_entry mj hT Zd2 ?_ (ZeZ _))))
 unfold Builtin.«reversed.__next__»
 refine wpAny_bind (wpAny_of_eq (a:=(Value.ref it,[])) rfl ?_)
 try dsimp only
 refine wpAny_bind (wpAny_field ho hd (x:=.ref l) rfl ?_)
 refine wpAny_bind (wpAny_field ho hd (x:=rawInt (i:Int)) rfl ?_)
 show wpAny _ _ (if (i:Int) < 0 then _ else _) _ _ s
 rw [if_neg (by omega)]
 refine wpAny_bind (wpAny_specialOf hl'.typeIs F.slot_tuple_getitem.lookup ?_)
 show wpAny _ _ (mkInt (i:Int) >>= _) _ _ s
 refine wpAny_bind (wpAny_mkInt ?_)
 refine wpAny_bind (wpAny_attempt (getItem_tuple (j:=i) (x:=x) hl (by omega) (by omega) ?_ hx ?_))
 ·unfold seqIndex?
  simp
  omega
 ·dsimp only
  refine wpAny_bind (wpAny_field ho hd (x:=rawInt (i:Int)) rfl ?_)
  show wpAny _ _ (setField (.ref it) 1 (rawInt ((i:Int) - 1)) >>= _) _ _ _
  refine wpAny_bind (wpAny_setField ho hd (by simp) ?_)
  refine wpAny_pure ⟨x,rfl,wpAny_pure (hQ _ ?_ (Heap.SameBut.update ..))⟩
  exact ⟨_,Heap.get?_update_self _ ho (Obj.isFreed_of_fields (Obj.data_mapFields hd _)),(Obj.cls_mapFields ..).trans hc,by
   rw [Obj.data_mapFields hd]; simp⟩
theorem ZhT {it l:Addr} {Q:Option Value->Shared->Prop} (hh:A.handled=none) (hit:IsTRev s.heap it l (-1))
  (hQ:∀ h',Heap.ExtBut it s.heap h'->Q none { s with heap:=h' }):wpAny (model prog w) A (pyNext (.ref it)) Q E s:=by
 obtain ⟨o,ho,hc,hd⟩:=id hit
 have hT:s.TypeIs (.ref it) "reversed":=⟨o,ho,hc⟩
 unfold pyNext
 refine wpAny_bind (wpAny_attempt (wpAny_callSpecial?_slot (name:=Str.ofString "__next__") hT mj
  (wpAny_call_entry mj hT Zd2 ?_ (ZeZ _))))
 unfold Builtin.«reversed.__next__»
 refine wpAny_bind (wpAny_of_eq (a:=(Value.ref it,[])) rfl ?_)
 try dsimp only
 refine wpAny_bind (wpAny_field ho hd (x:=.ref l) rfl ?_)
 refine wpAny_bind (wpAny_field ho hd (x:=rawInt (-1)) rfl ?_)
 show wpAny _ _ (if (-1:Int) < 0 then _ else _) _ _ s
 rw [if_pos (by decide)]
 refine wpAny_bind (wpAny_rule ?_)
 refine wpAny_bind ?_
 show wpAny _ _ (setField (.ref it) 1 (rawInt (-1)) >>= _) _ _ _
 refine wpAny_bind (wpAny_setField ho hd (by simp) ?_)
 have ho2:=Heap.get?_update_self (Obj.mapFields λx_1=>x_1.setIfInBounds 1 (rawInt (-1))) ho (Obj.isFreed_of_fields (Obj.data_mapFields hd _))
 refine wpAny_setField ho2 (Obj.data_mapFields hd _) (by simp) ?_
 have eb:Heap.ExtBut it s.heap ((s.heap.update it (Obj.mapFields λx_1=>x_1.setIfInBounds 1 (rawInt (-1)))).update it (Obj.mapFields λx_1=>x_1.setIfInBounds 0 Value.none)):=λb o' hb e=>(Heap.SameBut.update _ _ _).extBut b o' hb ((Heap.SameBut.update _ _ _).extBut b o' hb e)
 show wpAny _ _ (newExc (.type "StopIteration") [] >>= _ >>= _) _ _ _
 refine wpAny_bind ?_
 refine wpAny_bind ?_
 simp only [newExc,newTuple]
 refine wpAny_bind (wpAny_newObj_type ?_ (by size_fits))
 refine wpAny_bind (m:=firstArgMember _ _) (wpAny_of_eq (a:=Value.none) (by first | rfl | (simp only [firstArgMember]; rfl)) ?_)
 refine wpAny_newObj_type ?_ (by size_fits)
 simp only [raiseNew]
 refine wpAny_bind (wpAny_handled ?_)
 first | rw [show A.in1.handled=none from hh] | rw [hh]
 refine wpAny_bind (wpAny_pure (wpAny_throw ?_))
 refine wpAny_bind (wpAny_isInstance (T:="StopIteration") (b:=true) ⟨_,Heap.get?_push_size _ rfl,rfl⟩ isSubtype_stop ?_)
 exact wpAny_pure (hQ _ ((eb.push _).push _))
theorem Zco {it l:Addr} {i:Int} {Q:Value->Shared->Prop} (hit:IsTRev s.heap it l i) (h:Q (.ref it) s):wpAny (model prog w) A (pyIter (.ref it)) Q E s:=by
 obtain ⟨o,ho,hc,hd⟩:=id hit
 have hT:s.TypeIs (.ref it) "reversed":=⟨o,ho,hc⟩
 refine wpAny_pyIter_slot hT ZaO (wpAny_call_entry ZaO hT Zne ?_ (Zo5 _))
 show wpAny _ _ (ret (.ref it)) _ _ s
 exact wpAny_pure ⟨_,rfl,"reversed",_,hT,mj.lookup,h⟩
end
noncomputable def nT (b:Bool) (l:Addr) (n:Nat):It :=
 ⟨λi H=>i < n/\∃ xs,H l=some (bR b xs)/\xs.length=n,λi H x H'=>H'=H/\∃ xs,H l=some (bR b xs)/\xs[n - 1 - i]?=some x,λi _=>i=n⟩
noncomputable def RvAt (b:Bool) (h:Heap) (it l:Addr) (i:Int):Prop:=match b with
 | true=>h.IsRevIter it l i
 | false=>IsTRev h it l i
theorem RvAt.there {b:Bool} {h:Heap} {it l:Addr} {i:Int} (x:RvAt b h it l i):∃ o n vs,h.get? it=some o/\o.cls=.type n/\o.data=.fields vs/\["enumerate","zip","dict_itemiterator","dict_reverseitemiterator","odict_iterator","itertools.zip_longest","itertools.pairwise"].contains n=false:=by
 cases b with
 | true=>obtain ⟨o,h1,h2,h3⟩:=x; exact ⟨o,_,_,h1,h2,h3,by decide⟩
 | false=>obtain ⟨o,h1,h2,h3⟩:=x; exact ⟨o,_,_,h1,h2,h3,by decide⟩
theorem RvAt.at {b:Bool} {h h':Heap} {it l:Addr} {i:Int} (x:RvAt b h it l i) (e:∀ o,h.get? it=some o->h'.get? it=some o):RvAt b h' it l i:=by
 cases b with
 | true=>exact Heap.IsRevIter.at x e
 | false=>exact IsTRev.at x e
theorem Zar {P:Program} {w:World} {K:PySem.W.Frag} {tg:Expr} {b:Bool} {l:Addr} {n:Nat} (it:Addr) (hn:(n:Int) < 2 ^ 63):Turn P w K tg (nT b l n) [it] it (λi h=>RvAt b h it l ((n:Int) - 1 - (i:Nat))) where
 mem:=by simp
 obj:=λi h st c hb=>by
  have e:c=it:=by simpa using hb
  subst e
  obtain ⟨o,_,_,h1,_,h3,_⟩:=st.there
  exact ⟨o,h1,λv z=>by rw [h3] at z; cases z⟩
 keep:=λi h h' st k=>st.at λo e=>k it (by simp) o e
 item:=by
  intro X hP hw hK hc i pins s σ H E I hf st hg
  subst hP hw hK
  obtain ⟨hi,xs,e1,hlen⟩:=hg
  obtain ⟨us,r1,q1⟩:=dZ I.hok e1
  obtain ⟨f0,f1,f2,f3,f4,f5⟩:=hf it (by simp)
  have hxl:n - 1 - i < xs.length:=by omega
  have hx:xs[n - 1 - i]?=some xs[n - 1 - i]:=List.getElem?_eq_getElem hxl
  obtain ⟨u,hu,ru⟩:=r1.get hx
  have ne:l≠it:=c7 e1 f0
  have ei:(n:Int) - 1 - (i:Nat)=((n - 1 - i:Nat):Int):=by omega
  have ei2:((n - 1 - i:Nat):Int) - 1=(n:Int) - 1 - ((i+1:Nat):Int):=by omega
  rw [ei] at st
  have usz:us.toArray.size=n:=by rw [List.size_toArray,<- r1.length]; exact hlen
  have fin:∀ (h':Heap) (tk:Nat),RvAt b h' it l ((n:Int) - 1 - ((i+1:Nat):Int))->Heap.SameBut it s.heap h'->∃ u',some u=some u'/\wpAny (model X.prog X.w) X.A (letOwnedTupleGo tg (.ref it) u') (λ_ s2=>∃ x H',Inv X pins σ H' s2/\RelV x u'/\(nT b l n).yld i H x H'/\RvAt b s2.heap it l ((n:Int) - 1 - ((i+1:Nat):Int))/\∀ b∈[it],H' b=none) E { s with heap:=h',toks:=tk }:=λh' tk st' sb=>by
   have I1:Inv X pins σ H { s with heap:=h',toks:=tk }:=I.turned (λb o hb e=>(sb.2 b hb).trans e) f0 f1 f3 f4 f5
   obtain ⟨o,nm,vs,g1,g2,g3,g4⟩:=st'.there
   exact ⟨u,rfl,nh (s:={ s with heap:=h',toks:=tk }) g1 g2 g3 g4 ⟨_,H,I1,ru,⟨rfl,xs,e1,hx⟩,st',λb hb=>(hf b hb).1⟩⟩
  cases b with
  | true =>
   refine wpAny_pyNext_rev_item (i:=n - 1 - i) st q1 (x:=u) (by simpa using hu) λh' st' sb=>?_
   rw [ei2] at st'
   exact fin h' s.toks st' sb
  | false =>
   refine ZhS (i:=n - 1 - i) st q1 ne (x:=u) (by simpa using hu) (by rw [usz]; exact hn) λh' st' sb=>?_
   rw [ei2] at st'
   exact fin h' (s.toks+1) st' sb
 done:=by
  intro X hP hw hK hc i pins s σ H E I hf st hg
  subst hP hw hK
  obtain ⟨f0,f1,f2,f3,f4,f5⟩:=hf it (by simp)
  have hi:i=n:=hg
  subst hi
  have e:(i:Int) - 1 - (i:Nat)=-1:=by omega
  rw [e] at st
  cases b with
  | true=>exact wpAny_pyNext_rev_end (I.ok.hd hc) st λh' eb=>⟨rfl,I.turned (t':=s.toks) (λb o hb e=>eb b o hb e) f0 f1 f3 f4 f5⟩
  | false=>exact ZhT (I.ok.hd hc) st λh' eb=>⟨rfl,I.turned (t':=s.toks) (λb o hb e=>eb b o hb e) f0 f1 f3 f4 f5⟩
 self:=λ_ _ _ _ _ st h=>by
  cases b with
  | true=>exact wpAny_pyIter_revIter st h
  | false=>exact Zco st h
section
variable {X:Cx} {tg:Expr} {PK:Pk} {a b:Expr} {i j:List Sl->Tr PyData} {p pos:Pos}
noncomputable def Zdw (ta:TE):TI:=λσ H R=>ta σ H λx H1=>(∃ b l xs,x=.ref l/\H1 l=some (bR b xs)/\R (nT b l xs.length) H1) \/
 (∃ l lo hi,x=.ref l/\H1 l=some (.rng lo hi)/\-(2 ^ 62)<=lo/\lo < 2 ^ 62/\-(2 ^ 62)<=hi/\hi < 2 ^ 62/\R (lZ (lo+(hi - lo).toNat - 1) (hi - lo).toNat) H1)
theorem Zib {ta:TE} (hg:Gl X "reversed") (hm:X.mg "reversed"=none) (ha:PE X a ta)
  (hs:starEach [a] X.env=[(false,eval a X.env)]:=by rfl):PI X tg (.Call (.Name "reversed" p) [a] [] pos) (Zdw ta):=by
 intro pins s σ H R I h
 have hab:PA X [a] (fg ta cw):=cD ha cU (by rw [hs]; rfl)
 have h':fg ta cw σ H λvs H1=>∃ x,vs=[x]/\((∃ b l xs,x=.ref l/\H1 l=some (bR b xs)/\R (nT b l xs.length) H1) \/
   (∃ l lo hi,x=.ref l/\H1 l=some (.rng lo hi)/\-(2 ^ 62)<=lo/\lo < 2 ^ 62/\-(2 ^ 62)<=hi/\hi < 2 ^ 62/\R (lZ (lo+(hi - lo).toNat - 1) (hi - lo).toNat) H1)):=by
  have h0:ta σ H λx H1=>(∃ b l xs,x=.ref l/\H1 l=some (bR b xs)/\R (nT b l xs.length) H1) \/
   (∃ l lo hi,x=.ref l/\H1 l=some (.rng lo hi)/\-(2 ^ 62)<=lo/\lo < 2 ^ 62/\-(2 ^ 62)<=hi/\hi < 2 ^ 62/\R (lZ (lo+(hi - lo).toNat - 1) (hi - lo).toNat) H1):=h
  refine cast (congrArg (ta σ H) ?_) h0
  funext x H1
  apply propext
  constructor
  ·exact λq=>⟨x,rfl,q⟩
  ·rintro ⟨y,e,q⟩
   have e':x=y:=by simpa using e
   subst e'
   exact q
 refine Call_ (iP I hg hm boot_reversed (PyProof.Rows.callWith_type1 (thn (hab pos pins s σ H _ I h') λus s1 hz0=>?_) (by rw [hs]; rfl) rfl))
 obtain ⟨vs,H1,I1,r1,q1⟩:=hz0
 obtain ⟨x,rfl,q1⟩:=q1
 obtain ⟨u,rfl,ru⟩:=gS r1
 have fp:∀ c∈[s1.heap.objs.size],gE X pins H1 c:=λc hb=>by
  have e:c=s1.heap.objs.size:=by simpa using hb
  subst e
  exact I1.fpOk (Nat.le_refl _) (I1.hok.fresh (Nat.le_refl _))
 have hn:=jS
 rcases q1 with ⟨b,l,xs,rfl,e1,q⟩ | ⟨l,lo,hi,rfl,e1,b1,b2,b3,b4,q⟩
 ·cases ru
  obtain ⟨us,r2,q2⟩:=dZ I1.hok e1
  have usz:us.toArray.size=xs.length:=by rw [List.size_toArray,<- r2.length]
  have hz:xs.length<=sizeLine:=by
   cases b with
   | true=>exact (I1.hok _ _ e1).1
   | false=>exact (I1.hok _ _ e1).1
  cases b with
  | true =>
   refine call_reversed_list q2 (wpAny_pyIter_revIter ⟨_,Heap.get?_push_size _ rfl,rfl,rfl⟩ ?_)
   refine ⟨_,_,_,_,H1,rfl,I1.kept (t':=s1.toks) λb o e=>Heap.get?_push_of_some _ e,Zar (b:=true) (l:=l) (n:=xs.length) s1.heap.objs.size (by omega),?_,fp,q⟩
   refine ⟨_,Heap.get?_push_size _ rfl,rfl,?_⟩
   rw [usz]
   show Data.fields #[_,rawInt ((xs.length:Int) - 1)]=Data.fields #[_,rawInt ((xs.length:Int) - 1 - ((0:Nat):Int))]
   simp
  | false =>
   refine Zoq q2 (by rw [usz]; omega) (Zco ⟨_,Heap.get?_push_size _ rfl,rfl,rfl⟩ ?_)
   refine ⟨_,_,_,_,H1,rfl,I1.kept (t':=s1.toks+1+1) λb o e=>Heap.get?_push_of_some _ e,Zar (b:=false) (l:=l) (n:=xs.length) s1.heap.objs.size (by omega),?_,fp,q⟩
   refine ⟨_,Heap.get?_push_size _ rfl,rfl,?_⟩
   rw [usz]
   show Data.fields #[_,rawInt ((xs.length:Int) - 1)]=Data.fields #[_,rawInt ((xs.length:Int) - 1 - ((0:Nat):Int))]
   simp
 ·cases ru
  obtain ⟨t,u,v,e⟩:=I1.hok _ _ e1
  have hsz:Builtin.Range.rangeSize lo hi 1=((hi - lo).toNat:Int):=by rw [rangeSize_one]; split <;> omega
  refine Zor e b1 b2 b3 b4 (wpAny_pyIter_rangeiter (Heap.get?_push_size _ rfl) ?_)
  refine ⟨_,_,_,_,H1,rfl,I1.kept (t':=s1.toks) λb o e=>Heap.get?_push_of_some _ e,ZfV s1.heap.objs.size (lo+(hi - lo).toNat - 1) (hi - lo).toNat,?_,fp,q⟩
  rw [hsz]
  have e1:lo+(((hi - lo).toNat:Int) - 1) * 1=lo+(hi - lo).toNat - 1+((0:Nat):Int) * (-1):=by simp; omega
  have e2:((hi - lo).toNat:Int)=((hi - lo).toNat:Int) - ((0:Nat):Int):=by simp
  rw [e1]
  show IsRangeIter _ _ _ (((hi - lo).toNat:Int) - ((0:Nat):Int)) (-1)
  rw [<- e2]
  exact Heap.get?_push_size _ rfl
end
end L2
namespace L2
open PySem PySem.Spec PyProof.Rows
section
variable {X:Cx} {tg:Expr} {PK:Pk} {e:Expr} {i j:List Sl->Tr PyData} {is:List Sl->Tr (List PyData)} {p pos:Pos}
theorem Zot:gg X (.type "range") (λxs H Q=>∃ j:Int,xs=[.int j]/\∀ p,H p=none->Q (.ref p) (upd H p (.rng 0 j))):=by
 intro pins s σ H xs us Q I r h
 obtain ⟨j,rfl,q⟩:=h
 cases r with
 | cons r1 rr =>
  cases rr
  obtain ⟨t,rfl⟩:=r1
  refine call_range_1 ?_
  exact ⟨.ref s.heap.objs.size,_,I.laid (t':=s.toks+1+1) (λb o e=>Heap.get?_push_of_some _ e) (Nat.le_refl _) (show ObjOk X.prog X.w _ _ _ (.rng 0 j) from ⟨s.toks,t,s.toks+1,Heap.get?_push_size _ rfl⟩),rfl,q _ (I.hok.fresh (Nat.le_refl _))⟩
theorem ZjT {pa:Addr} {G:Hp} {lo:Int} {n:Nat}:jw PK pa (lZ (lo+n - 1) n) G ((eE lo n).map PyData.int).reverse:=λm G2 H2 sb w=>by
 have hl:((eE lo n).map PyData.int).length=n:=by rw [List.length_map,mE]
 refine ⟨λk x hx=>?_,by show n<=_; rw [List.length_reverse,hl]; exact Nat.le_refl _⟩
 have hk:k < n:=by
  have:=(List.getElem?_eq_some_iff.mp hx).1
  rwa [List.length_reverse,hl] at this
 refine ⟨hk,λy H3 hz0=>?_⟩
 obtain ⟨e1,e2⟩:=hz0
 subst e1 e2
 have:x=.int (lo+n - 1 - k):=by
  rw [List.getElem?_reverse (by rw [hl]; exact hk),hl] at hx
  unfold eE at hx
  rw [List.map_map,List.getElem?_map,List.getElem?_range (by omega)] at hx
  cases hx
  show PyData.int (lo+((n - 1 - k:Nat):Int))=_
  congr 1
  omega
 subst this
 exact ⟨G2,.refl,w,.int _⟩
noncomputable def u8 (is:List Sl->Tr (List PyData)):List Sl->Tr (List PyData):=λρ=>(is ρ).bind λxs=>(Tr.of (kH xs)).bind λys=>.ret ys.reverse
noncomputable def Zf9 (t:TA):TE:=i9 (λxs H Q=>∃ j:Int,xs=[.int j]/\∀ p,H p=none->Q (.ref p) (upd H p (.rng 0 j))) t
theorem Zpg {iter:Expr} (h:PI X tg iter (Zdw (Zf9 (TAd PK is)))):PI X tg iter (gD PK (u8 is)):=h.imp λσ H R0 hz0=>by
 obtain ⟨pa,G₀,H₀,m,ρ,G,R,z⟩:=hz0
 refine TAd.then R z λm1 xs vs G1 H1 s1 w1 R1 d1 q1=>?_
 rw [Tr.ok_bind] at q1
 obtain ⟨ys,hy,q1⟩:=Tr.ok_of q1
 obtain ⟨n,e,h1,h2,rfl⟩:=ZbR d1 hy
 refine ⟨n,e,λp hp=>?_⟩
 obtain ⟨w2,s2⟩:=w1.own (o:=.rng 0 n) hp
 refine .inr ⟨p,0,n,rfl,cA,by decide,by decide,h1,h2,?_⟩
 have q:=q1 (lZ (0+(n - 0).toNat - 1) (n - 0).toNat) G1 _ (s1.trans s2 w1.some) w2
 unfold cB at q
 exact q ZjT
end
section
variable {X:Cx} {PK:Pk} {i n:List Sl->Tr PyData}
noncomputable def nN (k:Nat) (i:List Sl->Tr PyData):List Sl->Tr Ou:=λρ=>match ρ[k]? with
 | some (.own xs)=>(i ρ).bind λx=>match x with
  | .list ys=>if small (xs.length+ys.length)=true then .ret (.next (ρ.set k (.own (xs++ys)))) else .fail
  | _=>.fail
 | _=>.fail
theorem Zo4 {k:Nat} {K:PySem.W.Frag} {st:Stmt} (h:PS X st (rH (oj K "list" Zcd (i8 k) (fg (TAe PK i) cw)))):PS X st (cr PK (nN k i)):=h.imp λD σ H hz0=>by
 obtain ⟨pa,G₀,H₀,m,ρ,G,R,z⟩:=hz0
 unfold nN at z
 split at z
 ·rename_i xs hx
  obtain ⟨o,h1,h2⟩:=R.sl k _ hx
  cases h2 with
  | @own p vs _ a1 a2 a3 a4 =>
   refine ⟨_,h1,.inl ⟨rfl,_,SqL.of a1⟩,?_⟩
   refine TAe.then R z λm1 x v G1 H1 s1 w1 R1 d1 q1=>?_
   cases d1 with
   | @lst l us ds b1 b2 =>
    obtain ⟨hs,q1⟩:=fU q1
    obtain ⟨o,h1',h2⟩:=R1.sl k _ hx
    rw [h1] at h1'
    cases h1'
    cases h2 with
    | @own _ vs1 _ c1 c2 c3 c4 =>
     have hs':xs.length+ds.length<=sizeLine:=of_decide_eq_true hs
     refine ⟨p,l,vs1,us,rfl,rfl,c1,w1.sub _ _ b1,by rw [c4.length,b2.length]; exact hs',?_⟩
     exact q1 σ G1 _ s1.gs (R1.change hx h1 (c4.append b2))
   | _=>exact q1.elim
 ·exact z.elim
end
section
variable {prog:Program} {w:World} {A:Around} {E:Value->Shared->Prop} {s:Shared}
end
section
variable {X:Cx} {PK:Pk} {e st:Expr} {te ts:TE} {i j:List Sl->Tr PyData} {p2 pos:Pos}
end
section
variable {prog:Program} {w:World} {A:Around} {R:Result->Shared->Prop} {I S:Addr} {fp wr:List Addr} {n:Nat} {P:Nat->Value->Prop} {St:Nat->Heap->Prop} {h0:Heap}
end
section
variable {prog:Program} {w:World} {A:Around} {E:Value->Shared->Prop} {s:Shared}
end
section
variable {X:Cx}
end
section
variable {X:Cx} {PK:Pk} {e:Expr} {is:List Sl->Tr (List PyData)}
end
section
variable {prog:Program} {w:World} {A:Around} {E:Value->Shared->Prop} {s:Shared}
end
section
variable {X:Cx}
end
section
variable {X:Cx} {PK:Pk} {a b:Expr} {pos:Pos} {j:List Sl->Tr PyData}
end
section
variable {prog:Program} {w:World} {A:Around} {E:Value->Shared->Prop} {s:Shared}
theorem Zol {t b:Addr} {ws:List Value} {Q:Value->Shared->Prop} (ht:IsTup s.heap t ([]:List Value).toArray) (hb:IsTup s.heap b ws.toArray) (h1:Q (.ref b) s):wpAny (model prog w) A (binaryOp .Add (.ref t) (.ref b)) Q E s:=by
 obtain ⟨⟨cls,dd,data,sl⟩,ho,hc,n,hd⟩:=id ht
 obtain ⟨⟨cls2,dd2,data2,gi⟩,ho2,hc2,n2,hd2⟩:=id hb
 simp only at hc hd hc2 hd2
 subst hc hd hc2 hd2
 exact concat_meets ⟨_,ho,rfl⟩ ⟨_,ho2,rfl⟩ noFill_tuple_add seq_tuple_add PySem.F.slot_tuple_add PySem.F.entry_tuple_add (PySem.F.args_tuple_add_2 _ _) (tuple_addW0 t b _ ws.toArray n n2 dd dd2 sl gi rfl) ⟨ho,ho2,h1⟩
end
section
variable {X:Cx}
noncomputable def Zch (K:PySem.W.Frag):R2:=λx y H Q=>∃ a b ys,x=.ref a/\y=.ref b/\SqT K H a []/\SqT K H b ys/\Q (.ref b) H
theorem ZiN:OpR X (binaryOp .Add) (Zch X.K):=by
 intro pins s σ H x y v u Q I rx ry h
 obtain ⟨a,b,ys,rfl,rfl,ha,hb,q⟩:=h
 cases rx
 cases ry
 obtain ⟨its,r1,p1,_⟩:=I.tuple ha
 obtain ⟨its2,r2,p2,_⟩:=I.tuple hb
 cases r1
 exact Zol p1 p2 ⟨.ref b,H,I,rfl,q⟩
noncomputable def j9:PyData->PyData->Option PyData
 | .tuple [],.tuple ys=>some (.tuple ys)
 | x,y=>cN x y
noncomputable def Zcj (K:PySem.W.Frag):R2:=λx y H Q=>sG K x y H Q\/Zch K x y H Q
theorem ZiP:OpR X (binaryOp .Add) (Zcj X.K):=dm.or ZiN
theorem ZfL {K:PySem.W.Frag}:df (Zcj K) j9:=λPK pa m G H x y dx dy dz Q w hx hy hz k=>by
 unfold j9 at hz
 split at hz
 ·cases hz
  cases hx with
  | tup a1 a2 =>
   cases a2
   cases hy with
   | tup b1 b2=>exact .inr ⟨_,_,_,rfl,rfl,SqT.of (w.sub _ _ a1),SqT.of (w.sub _ _ b1),k.here w (.tup b1 b2)⟩
 ·exact .inl (dg PK pa m G H x y _ _ dz Q w hx hy hz k)
theorem ZdV {ys:List PyData}:bZ j9 (.tuple []) (.tuple ys)=.ret (.tuple ys):=rfl
theorem ZdU {x:PyData} {xs ys:List PyData} (h:small ((x::xs).length+ys.length)=true):bZ j9 (.tuple (x::xs)) (.tuple ys)=.ret (.tuple (x::xs++ys)):=by
 show Tr.of (cN (.tuple (x::xs)) (.tuple ys))=_
 unfold cN
 simp only [List.isEmpty_cons,Bool.not_false,Bool.true_and,h,if_true]
 rfl
end
section
variable {PK:Pk} {X:Cx} {a b:Expr} {pos:Pos} {i j:List Sl->Tr PyData}
noncomputable def vc (r:R2) (f:PyData->PyData->Option (List PyData)):Prop:=∀ (PK:Pk) (pa:Addr) (m:Ms) (G H:Hp) (x y:V) (dx dy:PyData) (dz:List PyData) (Q:VK),Wd PK pa m G H->Dn G x dx->Dn G y dy->f dx dy=some dz->Ko1 PK pa m G H dz Q->r x y H Q
noncomputable def qG (f:PyData->PyData->Option (List PyData)) (i j:List Sl->Tr PyData):List Sl->Tr (List PyData):=λρ=>(i ρ).bind λx=>(j ρ).bind λy=>Tr.of (f x y)
theorem Zpr {r:R2} {f:PyData->PyData->Option (List PyData)} (hv:vc r f):∀ σ H Q,gC PK (qG f i j) σ H Q->jB r (TAe PK i) (TAe PK j) σ H Q:=by
 rintro σ H Q ⟨pa,G₀,H₀,m,ρ,G,R,q⟩
 refine TAe.then R q λm1 x v G1 H1 s1 w1 R1 d1 q1=>?_
 refine TAe.then R1 q1 λm2 y u G2 H2 s2 w2 R2 d2 q2=>?_
 obtain ⟨z,hz,k⟩:=Tr.ok_of q2
 exact hv PK pa m2 G2 H2 v u x y z Q w2 (d1.mono s2.gs) d2 hz (Ko1.later k (s1.trans s2 w1.some) w2.some)
theorem Zpa {op:Operator} {r:R2} {f:PyData->PyData->Option (List PyData)} (ho:OpR X (binaryOp op) r) (hv:vc r f) (ha:PE X a (TAe PK i)) (hb:PE X b (TAe PK j)):PE X (.BinOp a op b pos) (gC PK (qG f i j)) :=
 (dk ho ha hb).imp (Zpr hv)
noncomputable def kI:PyData->PyData->Option (List PyData)
 | .list xs,.int k=>if (decide (-1000<=k) && decide (k<=1000) && decide (xs.length<=1000))=true then some (List.replicate k.toNat xs).flatten else none
 | _,_=>none
theorem Zee {G:Hp}:∀ {vs:List V} {ds:List PyData} {us:List V} {es:List PyData},DnAll G vs ds->DnAll G us es->DnAll G (vs++us) (ds++es)
 | _,_,_,_,.nil,h=>h
 | _,_,_,_,.cons a b,h=>.cons a (Zee b h)
theorem Zed {G:Hp} {vs:List V} {ds:List PyData} (h:DnAll G vs ds):∀ k:Nat,DnAll G (List.replicate k vs).flatten (List.replicate k ds).flatten
 | 0=>.nil
 | k+1=>by
  rw [List.replicate_succ,List.replicate_succ,List.flatten_cons,List.flatten_cons]
  exact Zee h (Zed h k)
theorem ZfG:vc sD kI:=λPK pa m G H x y dx dy dz Q w hx hy hz k=>by
 unfold kI at hz
 split at hz
 ·split at hz
  ·rename_i hc
   cases hz
   simp only [Bool.and_eq_true,decide_eq_true_eq] at hc
   cases hx with
   | lst a1 a2 =>
    cases hy
    refine ⟨_,_,_,rfl,rfl,w.sub _ _ a1,by omega,by omega,?_,λp hp=>?_⟩
    ·rw [a2.length]
     have h0:∀ z:Int,z<=1000->z.toNat<=1000:=λz hz=>by omega
     exact Nat.le_trans (Nat.mul_le_mul hc.2 (h0 _ hc.1.2)) (show 1000 * 1000<=sizeLine by decide)
    ·exact k.new w (Zed a2 _) hp
  ·cases hz
 ·cases hz
noncomputable def nD (f:PyData->PyData->Option (List PyData)) (x y:PyData):Tr (List PyData):=Tr.of (f x y)
noncomputable def ZeF (f:PyData->PyData->Option (List PyData)) (j:List Sl->Tr PyData) (ρ:List Sl) (x:PyData):Tr (List PyData):=(j ρ).bind (nD f x)
theorem ZmI {f:PyData->PyData->Option (List PyData)} {ρ:List Sl}:qG f i j ρ=(i ρ).bind (ZeF f j ρ):=rfl
theorem ZmH {f:PyData->PyData->Option (List PyData)} {ρ:List Sl} {x:PyData}:ZeF f j ρ x=(j ρ).bind (nD f x):=rfl
theorem ZhD {xs:List PyData} {k:Int} (h:(decide (-1000<=k) && decide (k<=1000) && decide (xs.length<=1000))=true):nD kI (.list xs) (.int k)=.ret (List.replicate k.toNat xs).flatten:=by
 simp only [nD,kI,h,if_true]
 rfl
end
theorem lc {α:Type} {n:Nat}:∀ {us:List α},us.length=n+1->∃ (a:α) (t:List α),us=a::t/\t.length=n
 | a::t,h=>⟨a,t,rfl,Nat.succ.inj h⟩
theorem Zjv {α:Type} {us:List α} (h:us.length=0):us=[]:=List.eq_nil_of_length_eq_zero h
theorem le {α:Type} {us:List α} (h:us.length=1):∃ a,us=[a]:=by
 obtain ⟨a,t,rfl,h2⟩:=lc h
 exact ⟨a,by rw [Zjv h2]⟩
theorem pI {α:Type} {us:List α} (h:us.length=2):∃ a0 a1,us=[a0,a1]:=by
 obtain ⟨a0,t,rfl,h2⟩:=lc h
 obtain ⟨a1,rfl⟩:=le h2
 exact ⟨a0,a1,rfl⟩
theorem tK {α:Type} {us:List α} (h:us.length=3):∃ a0 a1 a2,us=[a0,a1,a2]:=by
 obtain ⟨a0,t,rfl,h2⟩:=lc h
 obtain ⟨a1,a2,rfl⟩:=pI h2
 exact ⟨a0,a1,a2,rfl⟩
theorem Zdb {α:Type} {us:List α} (h:us.length=4):∃ a0 a1 a2 a3,us=[a0,a1,a2,a3]:=by
 obtain ⟨a0,t,rfl,h2⟩:=lc h
 obtain ⟨a1,a2,a3,rfl⟩:=tK h2
 exact ⟨a0,a1,a2,a3,rfl⟩
theorem Zda {α:Type} {us:List α} (h:us.length=5):∃ a0 a1 a2 a3 a4,us=[a0,a1,a2,a3,a4]:=by
 obtain ⟨a0,t,rfl,h2⟩:=lc h
 obtain ⟨a1,a2,a3,a4,rfl⟩:=Zdb h2
 exact ⟨a0,a1,a2,a3,a4,rfl⟩
theorem Zjy {α:Type} {us:List α} (h:us.length=6):∃ a0 a1 a2 a3 a4 a5,us=[a0,a1,a2,a3,a4,a5]:=by
 obtain ⟨a0,t,rfl,h2⟩:=lc h
 obtain ⟨a1,a2,a3,a4,a5,rfl⟩:=Zda h2
 exact ⟨a0,a1,a2,a3,a4,a5,rfl⟩
section
variable {PK:Pk} {X:Cx} {pos:Pos} {n:Nat} {is:List Sl->Tr (List PyData)} {s t:List Sl->Tr Ou}
end
section
variable {PK:Pk} {X:Cx} {a b c d e:Expr} {pos:Pos} {i j l n:List Sl->Tr PyData}
end
end L2
set_option exponentiation.threshold 9000
namespace Tw
open PySem L2
noncomputable def nb (k:Nat) (n:Int):Prop:=n.natAbs < 2 ^ k
theorem cE {k:Nat} {n:Int} (h:nb k n) (hk:k<=8000):fit n=true:=decide_eq_true (Nat.lt_of_lt_of_le h (Nat.pow_le_pow_right (by decide) hk))
theorem ce {k l:Nat} {n:Int} (h:nb k n) (hk:k<=l):nb l n:=Nat.lt_of_lt_of_le h (Nat.pow_le_pow_right (by decide) hk)
theorem eZ {k l:Nat} {m n:Int} (h:nb k m) (h':nb l n):nb (k+l) (m * n):=by
 unfold nb at *
 rw [Int.natAbs_mul,Nat.pow_add]
 exact Nat.mul_lt_mul'' h h'
theorem fA {k l:Nat} {m n:Int} (h:nb k m) (h':nb l n):nb (max k l+1) (m+n):=by
 have h1:=ce h (Nat.le_max_left k l)
 have h2:=ce h' (Nat.le_max_right k l)
 unfold nb at *
 rw [Nat.pow_succ,Nat.mul_two]
 exact Nat.lt_of_le_of_lt (Int.natAbs_add_le m n) (Nat.add_lt_add h1 h2)
theorem gq {k:Nat} {n:Int} (h:nb k n):nb k (-n):=by
 unfold nb at *
 omega
theorem fq {k l:Nat} {m n:Int} (h:nb k m) (h':nb l n):nb (max k l+1) (m - n):=by
 rw [Int.sub_eq_add_neg]
 exact fA h (gq h')
theorem de {k:Nat} {n:Int} (h1:-(2 ^ k:Nat) < n) (h2:n < (2 ^ k:Nat)):nb k n:=by
 unfold nb
 omega
theorem gZ {k:Nat} {c:Prop} [Decidable c] {m n:Int} (h:nb k m) (h':nb k n):nb k (if c then m else n):=by split <;> assumption
noncomputable def ws (f:Int->Int):Nat->List Int->Int
 | _,[]=>0
 | k,w::l=>w * f k+ws f (k+1) l
theorem mh {a:Nat}:∀ {l:List Int},(∀ w∈l,nb a w)->nb (a+l.length) l.sum
 | [],h=>by unfold nb; simp; exact Nat.pos_of_ne_zero (by simp)
 | w::l,h=>by
  rw [List.sum_cons]
  refine ce (fA (h w (by simp)) (mh (l:=l) λv hv=>h v (List.mem_cons_of_mem _ hv))) ?_
  rw [List.length_cons]
  omega
structure Shp where
 top:Int
 depth:Int
 start:Int
 piece:Int
 keep:Int
 lack:Int
 lost:Int
 back:Int
 late:Int
noncomputable def Shp.l (s:Shp):List Int:=[s.top,s.depth,s.start,s.piece,s.keep,s.lack,s.lost,s.back,s.late]
@[irreducible] noncomputable def Shp.d (s:Shp):PyData:=.tuple (s.l.map PyData.int)
structure Shp.Ok (s:Shp):Prop where
 t0:0<=s.top
 d0:0<=s.depth
 td:s.top+s.depth<=100
 start0:0<=s.start
 start:nb 45 s.start
 piece:nb 45 s.piece
 keep:nb 45 s.keep
 lack:nb 45 s.lack
 lost:nb 45 s.lost
 back:nb 45 s.back
 late:nb 45 s.late
theorem ZgO (s:Shp):bZ bT s.d (.int 0)=.ret (.int s.top):=by unfold Shp.d; rw [fE]; exact congrArg Tr.of qd
theorem ZgN (s:Shp):bZ bT s.d (.int 1)=.ret (.int s.depth):=by unfold Shp.d; rw [fE]; exact congrArg Tr.of qc
theorem ZgM (s:Shp):bZ bT s.d (.int 2)=.ret (.int s.start):=by unfold Shp.d; rw [fE]; exact congrArg Tr.of qb
theorem ZgL (s:Shp):bZ bT s.d (.int 3)=.ret (.int s.piece):=by unfold Shp.d; rw [fE]; exact congrArg Tr.of uM
theorem ZgK (s:Shp):bZ bT s.d (.int 4)=.ret (.int s.keep):=by unfold Shp.d; rw [fE]; exact congrArg Tr.of uL
theorem ZgJ (s:Shp):bZ bT s.d (.int 5)=.ret (.int s.lack):=by unfold Shp.d; rw [fE]; exact congrArg Tr.of uK
theorem ZgI (s:Shp):bZ bT s.d (.int 6)=.ret (.int s.lost):=by unfold Shp.d; rw [fE]; exact congrArg Tr.of ZeU
theorem ZgH (s:Shp):bZ bT s.d (.int 7)=.ret (.int s.back):=by unfold Shp.d; rw [fE]; exact congrArg Tr.of ZeT
theorem ZgG (s:Shp):bZ bT s.d (.int 8)=.ret (.int s.late):=by unfold Shp.d; rw [fE]; exact congrArg Tr.of ZeS
section
variable (s:Shp)
noncomputable def Shp.nx (y f:Int):Int:=gL (y - f) (-s.depth)
noncomputable def Shp.day (y f:Int):Int:=(if s.nx y f > 0 then s.keep * s.nx y f else s.lack * -s.nx y f)+s.lost * (s.nx y f - (y - f))
noncomputable def Shp.ord (x y:Int):Int:=if y<=x then 0 else s.start+s.piece * (y - x)
noncomputable def Shp.fin (x:Int):Int:=if x > 0 then -s.back * x else s.late * -x
noncomputable def Shp.wg (day:List Int) (y:Int) (ahead:Int->Int) (sc:Int):Int:=ws (λf=>sc * s.day y f+ahead (s.nx y f)) 0 day
noncomputable def Shp.sm (day:List Int) (ahead:Int->Int) (sc:Int) (y:Int):Int:=sc * day.sum * s.piece * y+s.wg day y ahead sc
end
noncomputable def Shp.n (s:Shp):Nat:=(s.top+1 - -s.depth).toNat
noncomputable def Shp.row (s:Shp) (f:Int->Int):List Int:=(eE (-s.depth) s.n).map f
noncomputable def lI (l:List Int):PyData:=.list (l.map PyData.int)
noncomputable def tI (l:List Int):PyData:=.tuple (l.map PyData.int)
noncomputable def fD (fs:List (List Int)):PyData:=.tuple (fs.map tI)
theorem Shp.Ok.n_eq {s:Shp} (h:s.Ok):(s.n:Int)=s.top+s.depth+1:=by have:=h.t0; have:=h.d0; unfold Shp.n; omega
theorem oy (s:Shp) (f:Int->Int):(s.row f).length=s.n:=by unfold Shp.row; rw [List.length_map,mE]
theorem oz {s:Shp} {f:Int->Int} {x:Int} (h1:-s.depth<=x) (h2:x<=s.top):(s.row f)[(x+s.depth).toNat]?=some (f x):=by
 unfold Shp.row eE
 rw [List.map_map,List.getElem?_map,List.getElem?_range (by unfold Shp.n; omega)]
 show some (f (-s.depth+((x+s.depth).toNat:Int)))=_
 congr 2
 omega
theorem my {s:Shp} {f:Int->Int} {x:Int} (h1:-s.depth<=x) (h2:x<=s.top):cR ((s.row f).map PyData.int) (x+s.depth)=some (.int (f x)) :=
 qe (by omega) (by rw [List.getElem?_map,oz h1 h2]; rfl)
theorem Zhw {s:Shp} {f g:Int->Int} (h:∀ x,-s.depth<=x->x<=s.top->f x=g x):s.row f=s.row g:=by
 unfold Shp.row eE
 rw [List.map_map,List.map_map]
 refine List.map_congr_left λi hi=>?_
 have:=List.mem_range.mp hi
 unfold Shp.n at this
 show f (-s.depth+(i:Int))=g (-s.depth+(i:Int))
 exact h _ (by omega) (by omega)
theorem kS (s:Shp) (y f:Int):-s.depth<=s.nx y f:=by unfold Shp.nx gL; split <;> omega
theorem kR {s:Shp} (h:s.Ok) {y f:Int} (hy:y<=s.top) (hf:0<=f):s.nx y f<=s.top:=by have:=h.t0; have:=h.d0; unfold Shp.nx gL; split <;> omega
theorem ZcO {s:Shp} (h:s.Ok) {y f:Int} (h1:-s.depth<=y) (h2:y<=s.top) (hf:0<=f):nb 8 (s.nx y f):=by
 have a:=kS s y f
 have b:=kR h h2 hf
 have c:=h.td
 have:=h.t0
 have:=h.d0
 exact de (by show -256 < _; omega) (by show _ < 256; omega)
end Tw
namespace L2
open PySem PySem.Spec PyProof.Rows
variable {ρ:List Sl} {s t:List Sl->Tr Ou} {i j l:List Sl->Tr PyData} {is:List Sl->Tr (List PyData)} {k n:Nat} {x y d:PyData} {xs ys:List PyData} {sl:Sl}
theorem rb2 {α β:Type} {a:α} {f:α->Tr β}:(Tr.ret a).bind f=f a:=Eq.trans (Tr.ret_bind a f) (Eq.refl _)
noncomputable def sx (xs:List PyData):Tr (List PyData):=.ret xs.reverse
theorem Zld:sx xs=.ret xs.reverse:=rfl
noncomputable def ZbH (xs:List PyData):Tr (List PyData):=(gH xs).bind sx
theorem Zlh:u8 is ρ=(is ρ).bind ZbH:=rfl
theorem Zlc:ZbH xs=(gH xs).bind sx:=rfl
noncomputable def ug (k:Nat) (ρ:List Sl) (xs:List PyData):PyData->Tr Ou
 | .list ys=>if small (xs.length+ys.length)=true then .ret (.next (ρ.set k (.own (xs++ys)))) else .fail
 | _=>.fail
noncomputable def ZdK (k:Nat) (i:List Sl->Tr PyData) (ρ:List Sl) (xs:List PyData):Tr Ou:=(i ρ).bind (ug k ρ xs)
theorem Zmq:nN k i ρ=(iJ k ρ).bind (ZdK k i ρ):=by
 refine Eq.trans ?_ (oP k ρ)
 unfold nN
 cases ρ[k]? with
 | none=>rfl
 | some sl =>
  cases sl with
  | own xs=>exact congrArg (Tr.bind (i ρ)) (funext λx=>by cases x <;> rfl)
  | _=>rfl
theorem Zmp:ZdK k i ρ xs=(i ρ).bind (ug k ρ xs):=rfl
theorem ZdT (h:small (xs.length+ys.length)=true):ug k ρ xs (.list ys)=.ret (.next (ρ.set k (.own (xs++ys)))):=by
 show (if small (xs.length+ys.length)=true then _ else _)=_
 rw [if_pos h]
theorem Zpe {α:Type} {t:Tr α} {P:α->Prop} (h:Al t 0 P):∃ a,t=.ret a/\P a:=by
 have h':=h.out
 cases t with
 | ret a=>exact ⟨a,rfl,h'⟩
 | draw w k=>exact h'.elim
 | fail=>exact h'.elim
 | op f k=>exact h'.elim
 | new c k=>exact h'.elim
theorem ql {α:Type} {t:Tr α} {a:α} (h:Al t 0 λb=>b=a):t=.ret a:=by
 obtain ⟨b,e,rfl⟩:=Zpe h
 exact e
theorem qk {α:Type} {t:Tr α} {a:α} {P:α->Prop} {N:Nat} (h:t=.ret a) (hp:P a):Al t N P:=by rw [h]; exact fe hp
theorem ZdD {s:List Sl->Tr Ou} {g:PyData->List Sl->Option (List Sl)} {n:Nat} {full:List PyData} (I:List PyData->List Sl->Prop) {Q:Ou->Prop} (ht:∀ pre x post ρ,full=pre++x::post->I pre ρ->∃ ρ1,g x ρ=some ρ1/\(s ρ1).all n λo=>∃ ρ2,o=.next ρ2/\I (pre++[x]) ρ2) (hq:∀ ρ,I full ρ->Q (.next ρ)) :
  ∀ {xs pre:List PyData} {ρ:List Sl},full=pre++xs->I pre ρ->(dU g s xs ρ).all (xs.length * n) Q
 | [],pre,ρ,e,h0=>hq ρ (by rw [e,List.append_nil]; exact h0)
 | x::xs,pre,ρ,e0,h0=>by
  obtain ⟨ρ1,e,ha⟩:=ht pre x xs ρ e0 h0
  have en:(x::xs).length * n=n+xs.length * n:=by rw [List.length_cons,Nat.succ_mul]; omega
  rw [en,ft,e,Tr.of_some,Tr.ret_bind]
  unfold nj
  refine Tr.all_bind ha λo ⟨ρ2,eo,h2⟩=>?_
  subst eo
  rw [nu]
  exact ZdD I ht hq (by rw [e0,List.append_assoc]; rfl) h2
theorem jt {n N:Nat} {g:PyData->List Sl->Option (List Sl)} {s:List Sl->Tr Ou} {xs:List PyData} {ρ:List Sl} {Q:Ou->Prop} (I:List PyData->List Sl->Prop) (h0:I [] ρ) (hN:xs.length * n<=N) (ht:∀ pre x post ρ,xs=pre++x::post->I pre ρ->∃ ρ1,g x ρ=some ρ1/\Al (s ρ1) n λo=>∃ ρ2,o=.next ρ2/\I (pre++[x]) ρ2) (hq:∀ ρ,I xs ρ->Q (.next ρ)):Al (dU g s xs ρ) N Q :=
 .of (Tr.all_mono (ZdD (full:=xs) I (λpre x post ρ e h=>let ⟨ρ1,e,a⟩:=ht pre x post ρ e h; ⟨ρ1,e,a.out⟩) hq (pre:=[]) rfl h0) hN λ_ h=>h)
theorem ZbP {lo hi:Int} {pre post:List PyData} {x:PyData} (h:cB lo hi=pre++x::post):x=.int (lo+pre.length)/\(pre.length:Int) < hi - lo:=by
 have h1:(cB lo hi)[pre.length]?=some x:=by rw [h]; simp
 have hl:pre.length < (cB lo hi).length:=(List.getElem?_eq_some_iff.mp h1).1
 rw [dC] at hl
 unfold cB eE at h1
 rw [List.map_map,List.getElem?_map,List.getElem?_range (by omega)] at h1
 refine ⟨?_,by omega⟩
 cases h1
 rfl
theorem Zhy {lo hi:Int} {pre post:List PyData} {x:PyData} (h:(cB lo hi).reverse=pre++x::post):x=.int (hi - 1 - pre.length)/\(pre.length:Int) < hi - lo:=by
 have h1:((cB lo hi).reverse)[pre.length]?=some x:=by rw [h]; simp
 have hl:pre.length < ((cB lo hi).reverse).length:=(List.getElem?_eq_some_iff.mp h1).1
 rw [List.length_reverse,dC] at hl
 rw [List.getElem?_reverse (by rw [dC]; exact hl),dC] at h1
 unfold cB eE at h1
 rw [List.map_map,List.getElem?_map,List.getElem?_range (by omega)] at h1
 refine ⟨?_,by omega⟩
 cases h1
 show PyData.int (lo+(((hi - lo).toNat - 1 - pre.length:Nat):Int))=_
 congr 1
 omega
theorem Zji {h:PyData->Tr PyData} {f:Int->PyData} {lo hi:Int} (hx:∀ z:Int,lo<=z->z < hi->h (.int z)=.ret (f z)):c8 h (cB lo hi)=.ret ((eE lo (hi - lo).toNat).map f):=by
 have key:∀ l:List Int,(∀ z∈l,lo<=z/\z < hi)->c8 h (l.map PyData.int)=.ret (l.map f):=by
  intro l
  induction l with
  | nil=>intro _; rfl
  | cons z l ih =>
   intro hz
   have hh:=hz z (by simp)
   rw [List.map_cons,c8,hx z hh.1 hh.2,Tr.ret_bind,ih λy hy=>hz y (List.mem_cons_of_mem _ hy)]
   rfl
 unfold cB
 refine key _ λz hz=>?_
 have:=ZhJ hz
 omega
theorem ZdY {xs:List PyData} {pre post:List PyData} {x:PyData} (h:fX xs=pre++x::post):∃ y,xs[pre.length]?=some y/\x=.tuple [.int pre.length,y]:=by
 have h1:(fX xs)[pre.length]?=some x:=by rw [h]; simp
 unfold fX at h1
 rw [List.getElem?_zipWith] at h1
 cases hx:xs[pre.length]? with
 | none=>rw [hx] at h1; simp at h1
 | some y =>
  have hl:pre.length < xs.length:=(List.getElem?_eq_some_iff.mp hx).1
  rw [hx,List.getElem?_range hl] at h1
  simp at h1
  exact ⟨y,rfl,h1.symm⟩
theorem ul (xs:List PyData):(fX xs).length=xs.length:=by unfold fX; simp
end L2
namespace Tw
open PySem L2
noncomputable def bst (g:Int->Int) (top:Int):Nat->Int×Int
 | 0=>(g top,top)
 | n+1=>if (bst g top n).1 < g (top - ((n+1:Nat):Int)) then bst g top n else (g (top - ((n+1:Nat):Int)),top - ((n+1:Nat):Int))
noncomputable def pck (g:Int->Int) (top K x:Int):Int×Int :=
 match (top - x).toNat with
 | 0=>(g x,x)
 | n+1=>if K+(bst g top n).1 < g x then (K+(bst g top n).1,(bst g top n).2) else (g x,x)
noncomputable def cst (g:Int->Int) (top K P x:Int):Int:=(pck g top K x).1 - P * x
structure DayB (l:List Int):Prop where
 len:l.length<=16
 nb:∀ w∈l,nb 30 w
 w0:∀ w∈l,0<=w
 pos:0 < l.sum
theorem uu {s:Shp} (h:s.Ok) {y f:Int} (hy:nb 20 y) (hf:nb 40 f):nb 100 (s.day y f):=by
 have hd:nb 7 s.depth:=by have:=h.t0; have:=h.d0; have:=h.td; exact de (by show -128 < _; omega) (by show _ < 128; omega)
 have hn:nb 50 (s.nx y f):=by
  unfold Shp.nx gL
  exact gZ (ce (gq hd) (by decide)) (ce (fq hy hf) (by decide))
 unfold Shp.day
 refine ce (fA (gZ (k:=95) (eZ h.keep hn) (eZ h.lack (gq hn))) (eZ h.lost (fq hn (fq hy hf)))) (by decide)
noncomputable def Bd (s:Shp) (b:Nat) (f:Int->Int):Prop:=∀ x,-s.depth<=x->x<=s.top->nb b (f x)
theorem mf {day:List Int} (hd:DayB day):nb 46 day.sum:=ce (mh hd.nb) (by have:=hd.len; omega)
noncomputable def Shp.bk (s:Shp):List (List Int)->(Int->Int)×Int
 | []=>(s.fin,1)
 | day::rest=>(cst (s.sm day (s.bk rest).1 (s.bk rest).2) s.top ((s.bk rest).2 * day.sum * s.start) ((s.bk rest).2 * day.sum * s.piece),(s.bk rest).2 * day.sum)
theorem uE {s:Shp}:∀ {fs:List (List Int)},(∀ l∈fs,DayB l)->0 < (s.bk fs).2
 | [],_=>by show (0:Int) < 1; decide
 | day::rest,h=>Int.mul_pos (uE λl hl=>h l (List.mem_cons_of_mem _ hl)) (h day (by simp)).pos
theorem ZdJ {s:Shp} (h:s.Ok):Bd s 100 s.fin:=λx h1 h2=>by
 have:=h.t0
 have:=h.d0
 have:=h.td
 have hx:nb 20 x:=de (by show -1048576 < _; omega) (by show _ < 1048576; omega)
 unfold Shp.fin
 exact ce (gZ (k:=65) (eZ (gq h.back) hx) (eZ h.late (gq hx))) (by decide)
noncomputable abbrev rng (lo hi:Int):List Int:=eE lo (hi - lo).toNat
variable {α:Type}
noncomputable def f3 (lo a b c:Int) (t:Int->Int->Int->Option α):Option α:=(rng lo a).findSome? λu=>(rng (u+1) b).findSome? λv=>(rng (v+1) c).findSome? λw=>t u v w
noncomputable def enu:Nat->List Int->List PyData
 | _,[]=>[]
 | k,n::ns=>.tuple [.int k,.int n]::enu (k+1) ns
theorem Zd0:∀ (ns:List Int) (k:Nat),(List.range' k (ns.map PyData.int).length).zipWith (λ(n:Nat) x=>PyData.tuple [.int n,x]) (ns.map PyData.int)=enu k ns
 | [],k=>rfl
 | n::ns,k=>by
  rw [List.map_cons,List.length_cons,List.range'_succ,List.zipWith_cons_cons,Zd0 ns (k+1)]
  rfl
theorem Znd (ns:List Int):fX (ns.map PyData.int)=enu 0 ns:=by
 unfold fX
 rw [List.range_eq_range',Zd0]
theorem ZdZ:∀ (ns:List Int) (k:Nat),(enu k ns).length=ns.length
 | [],k=>rfl
 | n::ns,k=>by rw [enu,List.length_cons,List.length_cons,ZdZ ns]
theorem Zgt {ls:List Int} (h:∀ n∈ls,0<=n):∀ n∈ls,n<=ls.sum:=by
 induction ls with
 | nil=>intro n hn; cases hn
 | cons a l ih =>
  intro n hn
  have h0:0<=l.sum:=by
   clear ih hn
   have h':∀ n∈l,0<=n:=λm hm=>h m (List.mem_cons_of_mem _ hm)
   clear h
   induction l with
   | nil=>decide
   | cons b l ih2 =>
    rw [List.sum_cons]
    have:=h' b (by simp)
    have:=ih2 λm hm=>h' m (List.mem_cons_of_mem _ hm)
    omega
  have ha:=h a (by simp)
  rw [List.sum_cons]
  rcases List.mem_cons.mp hn with rfl | hn
  ·omega
  ·have:=ih (λm hm=>h m (List.mem_cons_of_mem _ hm)) n hn
   omega
structure Shp.Dr (s:Shp):Prop where
 t0:0<=s.top
 d0:0<=s.depth
 td:s.top+s.depth<=39
 p:∀ n∈[s.start,s.piece,s.keep,s.lack,s.lost,s.back,s.late],0<=n/\n<=1000000
theorem Shp.Dr.ok {s:Shp} (h:s.Dr):s.Ok:=by
 have hp:=h.p
 simp only [List.mem_cons,List.not_mem_nil,or_false,forall_eq_or_imp,forall_eq] at hp
 obtain ⟨h1,h2,h3,h4,h5,h6,h7⟩:=hp
 have k:∀ n:Int,0<=n/\n<=1000000->nb 45 n:=λn hn=>de (by show -35184372088832 < _; omega) (by show _ < 35184372088832; omega)
 exact ⟨h.t0,h.d0,by have:=h.td; omega,h1.1,k _ h1,k _ h2,k _ h3,k _ h4,k _ h5,k _ h6,k _ h7⟩
theorem ZgF {a b c d e f g h i:Int}:PyData.tuple [.int a,.int b,.int c,.int d,.int e,.int f,.int g,.int h,.int i]=(Shp.mk a b c d e f g h i).d:=by
 unfold Shp.d
 rfl
theorem m8 (l:List Int):fW (tI l)=.ret (l.map PyData.int):=rfl
theorem ZjY (l:List (List Int)):fW (fD l)=.ret (l.map tI):=rfl
theorem rJ (l:List Int):fb ij [tI l]=.ret (.int l.sum):=ZdM l
theorem Zc9 (l:List (List Int)):fb iO [fD l]=.ret (.int l.length):=by
 show Tr.ret (PyData.int ((l.map tI).length:Int))=_
 rw [List.length_map]
structure Rp (d:PyData) (k n:Nat):Prop where
 hd:d.hasDict=false
 sh:d.showable=true
 dp:d.depth<=k
 ln:d.shown.length<=n
theorem ZbL {d:PyData} {k n:Nat} (h:Rp d k n) (hk:k<=32) (hn:n<=10000000):jH d=true:=by
 unfold jH
 rw [h.hd,h.sh,decide_eq_true (Nat.le_trans h.dp hk),decide_eq_true (Nat.le_trans h.ln (Nat.le_trans hn (by rw [sizeLine_eq]; decide)))]
 rfl
theorem mx {d:PyData} {k n k' n':Nat} (h:Rp d k n) (hk:k<=k') (hn:n<=n'):Rp d k' n':=⟨h.hd,h.sh,Nat.le_trans h.dp hk,Nat.le_trans h.ln hn⟩
theorem kG {i:Int} (h:nb 1900 i):Rp (.int i) 0 1901:=by
 have h1:=ZaV [i] λn hn=>by simp at hn; subst hn; exact h
 have h2:=(ZaU [i] λn hn=>by simp at hn; subst hn; exact h).1
 refine ⟨rfl,?_,Nat.zero_le _,?_⟩
 ·simp only [List.map_cons,List.map_nil,PyData.showableAll,Bool.and_true] at h1
  exact h1
 ·simp only [List.map_cons,List.map_nil,PyData.shownAll,List.sum_cons,List.sum_nil,List.length_cons,List.length_nil] at h2
  omega
theorem sA {k n:Nat}:∀ {xs:List PyData},(∀ x∈xs,Rp x k n)->PyData.hasDictAll xs=false/\PyData.showableAll xs=true/\PyData.depthAll xs<=k/\((PyData.shownAll xs).map (·.length)).sum<=xs.length * n/\(PyData.shownAll xs).length=xs.length
 | [],_=>⟨rfl,rfl,Nat.zero_le _,by simp [PyData.shownAll],rfl⟩
 | x::xs,h=>by
  obtain ⟨h1,h2,h3,h4,h5⟩:=sA (xs:=xs) λy hy=>h y (List.mem_cons_of_mem _ hy)
  have hx:=h x (by simp)
  refine ⟨?_,?_,?_,?_,?_⟩
  ·rw [PyData.hasDictAll,hx.hd,h1]; rfl
  ·rw [PyData.showableAll,hx.sh,h2]; rfl
  ·rw [PyData.depthAll]; have:=hx.dp; omega
  ·rw [PyData.shownAll,List.map_cons,List.sum_cons,List.length_cons,Nat.succ_mul]; have:=hx.ln; omega
  ·rw [PyData.shownAll,List.length_cons,List.length_cons,h5]
theorem ZbK {xs:List PyData} {k n:Nat} (h:∀ x∈xs,Rp x k n):Rp (.tuple xs) (k+1) (xs.length * n+2 * xs.length+10):=by
 obtain ⟨h1,h2,h3,h4,h5⟩:=sA h
 have c3:=tupleText_len_le (PyData.shownAll xs)
 refine ⟨?_,?_,?_,?_⟩
 ·rw [PyData.hasDict,h1]
 ·rw [PyData.showable,h2]
 ·rw [PyData.depth]; omega
 ·rw [PyData.shown]; omega
theorem ZbM {xs:List PyData} {k n:Nat} (h:∀ x∈xs,Rp x k n):Rp (.list xs) (k+1) (xs.length * n+2 * xs.length+10):=by
 obtain ⟨h1,h2,h3,h4,h5⟩:=sA h
 have c3:=listText_len_le (PyData.shownAll xs)
 refine ⟨?_,?_,?_,?_⟩
 ·rw [PyData.hasDict,h1]
 ·rw [PyData.showable,h2]
 ·rw [PyData.depth]; omega
 ·rw [PyData.shown]; omega
theorem rL (x:Str):(x == x)=true:=by simp
theorem euclid {p:List Sl->Tr Bool} {s:List Sl->Tr Ou} {E:Nat->Nat->List Sl} (hp:∀ a b:Nat,p (E a b)=.ret (decide (b≠0))) (hs:∀ a b:Nat,b≠0->s (E a b)=.ret (.next (E b (a % b)))) :
  ∀ n k a b:Nat,b < 2 ^ n->fm p s (2 * n+1+k) (E a b)=.ret (.next (E (Nat.gcd a b) 0)):=by
 have stop:∀ k a:Nat,fm p s (k+1) (E a 0)=.ret (.next (E a 0)):=λk a=>by
  rw [fm,hp,Tr.ret_bind]
  rfl
 have go:∀ k a b:Nat,b≠0->fm p s (k+1) (E a b)=fm p s k (E b (a % b)):=λk a b hb=>by
  rw [fm,hp,Tr.ret_bind,decide_eq_true hb,if_pos rfl,hs a b hb,Tr.ret_bind]
 intro n
 induction n with
 | zero =>
  intro k a b hb
  have e:b=0:=by simp at hb; exact hb
  subst e
  rw [Nat.gcd_zero_right,Nat.add_comm (2 * 0+1) k]
  exact stop k a
 | succ n ih =>
  intro k a b hb
  by_cases h0:b=0
  ·subst h0
   have e:2 * (n+1)+1+k=(2 * (n+1)+k)+1:=by omega
   rw [Nat.gcd_zero_right,e]
   exact stop _ a
  ·have e:2 * (n+1)+1+k=(2 * n+2+k)+1:=by omega
   rw [e,go _ a b h0]
   have hr:a % b < b:=Nat.mod_lt _ (Nat.pos_of_ne_zero h0)
   by_cases h1:a % b=0
   ·rw [h1]
    have e2:2 * n+2+k=(2 * n+1+k)+1:=by omega
    have eg:Nat.gcd a b=b:=by rw [Nat.gcd_comm,Nat.gcd_rec,h1,Nat.gcd_zero_left]
    rw [e2,eg]
    exact stop _ b
   ·have e2:2 * n+2+k=(2 * n+1+k)+1:=by omega
    rw [e2,go _ b (a % b) h1]
    have hlt:b % (a % b) < 2 ^ n:=by
     have h2:b % (a % b) < a % b:=Nat.mod_lt _ (Nat.pos_of_ne_zero h1)
     have h3:b % (a % b)+a % b<=b:=by
      have h4:=Nat.div_add_mod b (a % b)
      have h5:1<=b / (a % b):=(Nat.le_div_iff_mul_le (Nat.pos_of_ne_zero h1)).mpr (by omega)
      have h6:a % b<=(a % b) * (b / (a % b)):=Nat.le_mul_of_pos_right _ h5
      omega
     rw [Nat.pow_succ] at hb
     omega
    rw [ih k (a % b) (b % (a % b)) hlt]
    have eg:Nat.gcd a b=Nat.gcd (a % b) (b % (a % b)):=by
     rw [Nat.gcd_comm a b,Nat.gcd_rec b a,Nat.gcd_rec (a % b) b,Nat.gcd_comm]
    rw [eg]
theorem ZdI (a b:Nat):(a:Int).fmod (b:Int)=((a % b:Nat):Int):=by
 rw [Int.fmod_eq_emod_of_nonneg _ (Int.natCast_nonneg b)]
 rfl
theorem Ze8 (n:Int):qr n=(n.natAbs:Int):=by
 unfold qr
 split <;> omega
noncomputable def mn (t b:Int):PyData:=.tuple [.int (Gc.jn t b),.int (Gc.iN t b)]
theorem Zjp {t b:Int} {k l:Nat} (ht:nb k t) (hb:nb l b) (h0:b≠0):nb k (Gc.jn t b)/\nb l (Gc.iN t b):=by
 obtain ⟨h1,h2⟩:=Gc.Zjq (t:=t) h0
 exact ⟨Nat.lt_of_le_of_lt h1 ht,Nat.lt_of_le_of_lt h2 hb⟩
theorem Znz {t b:Int} {l:Nat} (hb:nb l b) (h0:b≠0):nb l (Gc.den t b):=by
 unfold nb
 rw [Gc.ut]
 exact Nat.lt_of_le_of_lt (Nat.gcd_le_right _ (by omega)) hb
noncomputable def pr (p:Int×Int):List Int:=[p.1,p.2]
end Tw
namespace L2
open PySem PySem.Spec PyProof.Rows
noncomputable def Zcz (c:Addr) (at' left:Int):HO:=.lst [.ref c,.int at',.int left]
structure Pen2 (H:Hp) (p c:Addr) (ns:List Int) (m:Nat):Prop where
 ex:∃ (k:Nat) (left:Int),H p=some (Zcz c k left)/\k<=m/\0<=left
 cells:H c=some (.lst (ns.map V.int))
 len:ns.length<=63
 ne:c≠p
noncomputable def ZaK:Sp:=λvs H Q _=>∃ (p c:Addr) (ns:List Int) (m:Nat) (most:Int),vs=[.ref p,.int most]/\Pen2 H p c ns m/\m<=500000/\0 < most/\most < 1073741824 /\
 ∀ (r:Int) (H':Hp),0<=r->r < most->Pen2 H' p c ns (m+1)->Kept p H H'->Q (.int r) H'
noncomputable def Zgx (K:PySem.W.Frag):Sp:=λvs H Q _=>∃ (a:Addr) (ns:List Int),vs=[.ref a]/\SqL K H a (ns.map V.int)/\ns.length<=63 /\
 ∀ (p c:Addr) (H':Hp),H p=none->Pen2 H' p c ns 0->Same H H'->Q (.ref p) H'
noncomputable def cC (cn:Addr×List Int):Pk where
 is:=λo G m=>∃ (k:Nat) (left:Int),o=Zcz cn.1 k left/\k<=m/\0<=left/\G cn.1=some (.lst (cn.2.map V.int))/\cn.2.length<=63
 mono:=λs ⟨k,left,e,h1,h2,h3,h4⟩=>⟨k,left,e,h1,h2,s _ _ h3,h4⟩
 nch:=λ⟨_,_,e,_⟩=>by subst e; rfl
theorem ZhX {ι:Type} {X:Cx} {e:List Stmt} {t:ι->TS} (h:∀ i,PSs X e (t i)):PSs X e (λD σ H=>∃ i,t i D σ H):=λpins s σ H D I z=>by
 obtain ⟨i,z⟩:=z
 exact h i pins s σ H D I z
noncomputable def pD:List Sl->Tr Re:=λas=>match as with
 | [.pen,.d (.int most)]=>.draw most λr=>.ret (.d (.int r))
 | _=>.fail
theorem Zec {as:List Sl} {m:Ms} {Z:Ms->Re->Prop} (h:(pD as).ok m Z):∃ most,as=[.pen,.d (.int most)]:=by
 unfold pD at h
 split at h
 ·exact ⟨_,rfl⟩
 ·exact h.elim
theorem Zny {cn:Addr×List Int} {P:Program} {w:World} {K:PySem.W.Frag} {mg:Str->Option Value} {base:Heap} {x:Str} {k:Nat} {ps:List Str} (hp:ps.length=2) (C:Callee P w K mg base x k ps ZaK):ACal (cC cn) P w K mg base x k ps pD:=by
 refine ⟨?_,λas m Z h=>by obtain ⟨most,rfl⟩:=Zec h; exact hp.symm⟩
 obtain ⟨f,fd,F,hm,hk,hb⟩:=C.ex
 refine ⟨f,fd,F.imp λvs H Q E h=>?_,hm,hk,hb⟩
 obtain ⟨hv,pa,m,G,as,wd,ar,z⟩:=h
 obtain ⟨most,rfl⟩:=Zec z
 obtain ⟨h1,h2,h3,h4⟩:=z
 cases ar with
 | cons a1 ar =>
  cases ar with
  | cons a2 ar =>
   cases ar
   cases a1
   cases a2 with
   | d d2 =>
    cases d2
    obtain ⟨c,ns⟩:=cn
    obtain ⟨o,ho,kk,left,rfl,q1,q2,q3,q4⟩:=wd.pen
    replace q3:G c=some (.lst (ns.map V.int)):=q3
    have ncp:c≠pa:=λz=>by rw [z,wd.gpa] at q3; cases q3
    refine ⟨pa,c,ns,m.n,most,rfl,⟨⟨kk,left,ho,q1,q2⟩,wd.sub _ _ q3,q4,ncp⟩,by omega,h2,h3,λr H' r0 r1 P' K'=>?_⟩
    obtain ⟨⟨k2,l2,e2,g1,g2⟩,_,_,_⟩:=P'
    exact h4 r r0 r1 (.int r) G H' (.of (λ_ _ q=>q) (λ_ _ q=>.inl q) (λb o e n=>K' b o e n) λo h=>⟨_,e2,λk=>by rw [wd.pnch h] at k; cases k⟩) ⟨λb o e=>K' b o (wd.sub b o e) (λz=>by subst z; rw [wd.gpa] at e; cases e),wd.gpa,⟨_,e2,k2,l2,rfl,g1,g2,q3,q4⟩,wd.sto.same λb o h hb=>K' b o h λz=>by subst z; rw [wd.pnch h] at hb; cases hb⟩ (.int r)
noncomputable def iK (h:Heap) (fs:List Addr):Heap:=⟨h.objs.mapIdx λi o=>if i∈fs then { o with data:=.freed } else o,h.life⟩
theorem oV {h:Heap} {fs:List Addr} {b:Addr} (hb:b∈fs):(iK h fs).get? b=none:=by
 unfold iK Heap.get?
 simp only [Array.getElem?_mapIdx]
 cases h.objs[b]? with
 | none=>rfl
 | some o=>simp [hb]
theorem ji {h:Heap} {fs:List Addr} {b:Addr} (hb:b ∉ fs):(iK h fs).get? b=h.get? b:=by
 unfold iK Heap.get?
 simp only [Array.getElem?_mapIdx]
 cases h.objs[b]? with
 | none=>rfl
 | some o=>simp [hb]
theorem ZcT (h:Heap) (fs:List Addr):(iK h fs).StaysIn h:=λb o e=>by
 by_cases hb:b∈fs
 ·rw [oV hb] at e; cases e
 ·rw [ji hb] at e; exact e
theorem ffr {h base:Heap} {l:List Env} (hl:h.FunFrames base l) (fs:List Addr) (hf:∀ b∈frs l,b∈fs):h.FunFrames (iK h fs) l:=by
 induction l with
 | nil=>trivial
 | cons env rest ih =>
  obtain ⟨hk,⟨L,o,he,hn,ho,hd⟩,hr⟩:=hl
  have hm:∀ b∈frs rest,b∈frs (env::rest):=λb hb=>by
   unfold frs at hb ⊢
   rw [List.filterMap_cons,he]
   exact List.mem_cons_of_mem _ hb
  refine ⟨hk,⟨L,o,he,oV (hf L ?_),ho,hd⟩,ih hr λb hb=>hf b (hm b hb)⟩
  unfold frs
  rw [List.filterMap_cons,he]
  exact List.mem_cons_self
theorem HOk.tracked {P:Program} {w:World} {H:Hp} {h h':Heap} (x:HOk P w H h) (k:∀ b u,H b≠none->h.get? b=some u->h'.get? b=some u):HOk P w H h':=λa o e =>
 (x a o e).stay (λb u hb q=>k b u (λz=>by rcases hb with r | r <;> (first | (subst r; rw [z] at e; cases e) | (rw [z] at r; cases r))) q) (λ_ q=>q) (λ_ _ q=>q) λ_ _ _ _ q _=>q
theorem ObjOk.get {P:Program} {w:World} {H:Hp} {h:Heap} {a:Addr} {o:HO} (x:ObjOk P w H h a o):∃ u,h.get? a=some u:=by
 induction o with
 | lst xs=>obtain ⟨_,_,_,_,e⟩:=x; exact ⟨_,e⟩
 | tup xs=>obtain ⟨_,_,_,ob,e,_⟩:=x; exact ⟨_,e⟩
 | dK kvs=>obtain ⟨_,_,_,_,o,_,_,e,_⟩:=x; exact ⟨_,e⟩
 | dT kvs=>obtain ⟨_,_,_,_,o,_,_,e,_⟩:=x; exact ⟨_,e⟩
 | set S n=>obtain ⟨o,_,_,_,e,_⟩:=x; exact ⟨_,e⟩
 | ins C dx fs=>obtain ⟨_,_,_,e,_⟩:=x; exact ⟨_,e⟩
 | own y=>obtain ⟨_,e⟩:=x; exact ⟨_,e⟩
 | xd fs=>obtain ⟨_,⟨_,_,_,e,_⟩,_⟩:=x; exact ⟨_,e⟩
 | rng lo hi=>obtain ⟨_,_,_,e⟩:=x; exact ⟨_,e⟩
 | frz ob u _=>obtain ⟨e,_⟩:=x; exact ⟨_,e⟩
 | tbl ps=>exact ⟨_,(show h.get? a=some _ from x)⟩
 | met f y=>exact ⟨_,(show h.get? a=some _ from x)⟩
 | ext φ=>obtain ⟨_,⟨_,e⟩,_⟩:=x; exact ⟨_,e⟩
 | cod ps=>obtain ⟨_,e,_⟩:=x; exact ⟨_,e⟩
 | chg u ih=>exact ih x
noncomputable def gR (P:Program) (w:World):gQ:=λouter H s E e s'=>∃ (ea t:Addr) (cls:Value) (b':Heap) (H':Hp),e=.ref ea/\s'.os=s.os/\AllBare s'.gens/\Un (frs outer) [] H H' s.heap s'.heap/\HOk P w H' s'.heap /\
 Heap.FlyingW b' outer ea cls (.ref t) s'.heap/\(∀ b o,s.heap.get? b=some o->b ∉ frs outer->∃ o',b'.get? b=some o')/\(∀ b,H' b≠none->∃ o',b'.get? b=some o')/\E cls none H'
theorem ZhL {P:Program} {w:World} {K:PySem.W.Frag} {mg:Str->Option Value} {base:Heap} {N:List Str} {qual:Str} {scope:Scope} {f:Addr} {cd:Value} {A:Around} {outer:List Env} {s₀:Shared} {H₀:Hp} {E:XK}
  {pins:List (Addr×Obj)} {σ:St} {H:Hp} {s:Shared} {h':Heap} {e:Addr} {cls:Value} {args:List Value}
  (I:Inv (fG (gR P w) P w K mg base N qual scope f cd A outer s₀ H₀ E) pins σ H s) (hx:Heap.MadeExcOf s.heap h' e cls args) (hE:E cls none H) :
  (fG (gR P w) P w K mg base N qual scope f cd A outer s₀ H₀ E).xe (.ref e) { s with heap:=h' }:=by
 let X:=fG (gR P w) P w K mg base N qual scope f cd A outer s₀ H₀ E
 have hst:s.heap.FunFrames base (envOfC qual scope s₀.heap.objs.size f cd::outer):=I.stack
 have hfree:∀ b∈frs (envOfC qual scope s₀.heap.objs.size f cd::outer),H b=none:=I.stkFree
 have hfr:(A.deeper (envOfC qual scope s₀.heap.objs.size f cd)).frames=some (envOfC qual scope s₀.heap.objs.size f cd::outer):=I.ok.frames
 have hbase:Un (frs outer) [] H₀ H s₀.heap s.heap:=I.base
 obtain ⟨_,⟨L,oL,hL,_,hoL,_⟩,_⟩:=id hst
 have hLe:L=s₀.heap.objs.size:=(Option.some.inj hL).symm
 have hfs:∀ b,b∈frs (envOfC qual scope s₀.heap.objs.size f cd::outer) ↔ b=L\/b∈frs outer:=λb=>by
  unfold frs
  rw [List.filterMap_cons,hL]
  exact List.mem_cons
 show wpAny (model P w) (A.deeper (envOfC qual scope s₀.heap.objs.size f cd)) (leaving (envOfC qual scope s₀.heap.objs.size f cd) (.ref e)) (λ_ s''=>gR P w outer H₀ s₀ E (.ref e) s'') (λe' s''=>gR P w outer H₀ s₀ E e' s'') { s with heap:=h' }
 refine wpAny_leaves_madeW (s:={ s with heap:=h' }) (base:=iK s.heap (frs (envOfC qual scope s₀.heap.objs.size f cd::outer))) hfr hL (ZcT _ _) (ffr hst _ λb hb=>hb) hx λh'' t fl tup tn ups=>?_
 have stay:∀ b o,s.heap.get? b=some o->b ∉ frs (envOfC qual scope s₀.heap.objs.size f cd::outer)->h''.get? b=some o:=λb o hb hn=>fl.1 b o (by rw [ji hn]; exact hb)
 have slot:∀ b o,s.heap.get? b=some o->b∈frs (envOfC qual scope s₀.heap.objs.size f cd::outer)->∃ sl,h''.get? b=some { o with slots:=sl }:=λb o hb hn=>by
  obtain ⟨_,o',ho',hd⟩:=hst.mem hn
  rw [hb] at ho'
  cases ho'
  exact ups b o (hx.keeps b o hb) hd
 have old:∀ b o,s₀.heap.get? b=some o->b≠L:=λb o hb z=>by
  have:=Heap.lt_size hb
  rw [z,hLe] at this
  exact absurd this (Nat.lt_irrefl _)
 have un:Un (frs outer) [] H₀ H s₀.heap h'':=by
  refine ⟨λb o hb hn hf hx=>?_,λb o hb hn hf hx=>?_,hbase.free,λb o hb hx=>?_,hbase.tups,hbase.frzs,hbase.tbls⟩
  ·exact stay b o (hbase.keep b o hb hn hf hx) λz=>((hfs b).mp z).elim (old b o hb) hf
  ·obtain ⟨sl,e1⟩:=hbase.slot b o hb hn hf hx
   obtain ⟨gi,e2⟩:=slot b _ e1 ((hfs b).mpr (.inr hf))
   exact ⟨gi,e2⟩
  ·obtain ⟨o',e1⟩:=hbase.there b o hb hx
   by_cases hq:b∈frs (envOfC qual scope s₀.heap.objs.size f cd::outer)
   ·obtain ⟨gi,e2⟩:=slot b _ e1 hq
    exact ⟨_,e2⟩
   ·exact ⟨o',stay b o' e1 hq⟩
 refine ⟨e,t,cls,_,H,rfl,I.os,I.bare,un,HOk.tracked I.hok λb u hb q=>stay b u q λz=>hb (hfree b z),fl,λb o hb hf=>?_,λb hb=>?_,hE⟩
 ·obtain ⟨o',e1⟩:=hbase.there b o hb (by simp)
  exact ⟨o',by rw [ji λz=>((hfs b).mp z).elim (old b o hb) hf]; exact e1⟩
 ·cases e1:H b with
  | none=>exact absurd e1 hb
  | some u =>
   obtain ⟨o',e2⟩:=(I.hok b u e1).get
   exact ⟨o',by rw [ji λz=>hb (hfree b z)]; exact e2⟩
theorem rebase {b' h:Heap} {l:List Env} {e:Addr} {cls a0:Value} (x:Heap.FlyingW b' l e cls a0 h):∃ T,b'.get? T=none/\(∃ oT ts,h.get? T=some oT/\oT.data=.fields ts)/\(∃ oe vs,h.get? e=some oe/\oe.cls=cls/\oe.data=.fields vs)/\Heap.FlyingW (iK h (e::T::frs l)) l e cls a0 h:=by
 obtain ⟨f1,f2,f3,oe,vs,T,oT,ts,he,hc,hd,h1,hT,hTe,hoT,hdT,h3⟩:=x
 refine ⟨T,hT,⟨oT,ts,hoT,hdT⟩,⟨oe,vs,he,hc.1,hd⟩,ZcT _ _,oV (by simp),ffr f3 _ λb hb=>List.mem_cons_of_mem _ (List.mem_cons_of_mem _ hb),oe,vs,T,oT,ts,he,hc,hd,h1,oV (by simp),hTe,hoT,hdT,h3⟩
theorem lands {P:Program} {w:World} {A:Around} {env:Env} {outer:List Env} {L:Addr} {H:Hp} {s:Shared} {b':Heap} {e:Addr} {cls a0:Value} {Q:Unit->Shared->Prop} {E:Value->Shared->Prop}
  (hfr:A.frames=some (env::outer)) (hf:env.frame=some L) (hfl:Heap.FlyingW b' (env::outer) e cls a0 s.heap) (hok:HOk P w H s.heap) (hst:∀ b∈frs (env::outer),H b=none) (ht:∀ b,H b≠none->∃ o',b'.get? b=some o')
  (k:∀ h' T,b'.get? T=none->T ∉ frs (env::outer)->Un (frs (env::outer)) [e,T] H H s.heap h'->HOk P w H h'->Heap.FlyingW (iK s.heap (e::T::frs (env::outer))) (env::outer) e cls a0 h'->Q () { s with heap:=h' }) :
  wpAny (model P w) A (noteFrame (.ref e) env) (λ_ s₂=>wpAny (model P w) A (setFlight (.ref e) none) Q E s₂) E s:=by
 obtain ⟨T,hT,⟨oT,ts,hoT,hdT⟩,⟨oe,vs,hoe,hoc,hod⟩,fl⟩:=rebase hfl
 have nof:∀ {b:Addr} {o:Obj} {us:Array Value},s.heap.get? b=some o->o.data=.fields us->b ∉ frs (env::outer):=λ{b o us} h1 h2 z=>by
  obtain ⟨_,o',ho',hd⟩:=hfl.2.2.1.mem z
  rw [h1] at ho'
  cases ho'
  exact hd us h2
 refine wpAny_looks_onW hfr hf fl λh₄ held ups₄=>?_
 refine wpAny_landsW held λh₅ fl₅ ups₅=>?_
 have ups:=ups₄.trans ups₅
 have stay:∀ b o,s.heap.get? b=some o->b ∉ frs (env::outer)->b ∉ [e,T]->h₅.get? b=some o:=λb o hb hn hx=>fl₅.1 b o (by
  rw [ji]
  ·exact hb
  ·intro z
   rcases List.mem_cons.mp z with z | z
   ·exact hx (by simp [z])
   ·rcases List.mem_cons.mp z with z | z
    ·exact hx (by simp [z])
    ·exact hn z)
 have slot:∀ b o,s.heap.get? b=some o->b∈frs (env::outer)->∃ sl,h₅.get? b=some { o with slots:=sl }:=λb o hb hn=>by
  obtain ⟨_,o',ho',hd⟩:=hfl.2.2.1.mem hn
  rw [hb] at ho'
  cases ho'
  exact ups b o hb hd
 have non:∀ b,b'.get? b=none->H b=none:=λb hb=>by
  cases e1:H b with
  | none=>rfl
  | some u =>
   obtain ⟨o',e2⟩:=ht b (by rw [e1]; simp)
   rw [hb] at e2; cases e2
 have he:H e=none:=non e hfl.2.1
 have hTn:H T=none:=non T hT
 refine k h₅ T hT (nof hoT hdT) ⟨λb o hb hn hf hx=>stay b o hb hf hx,λb o hb hn hf hx=>slot b o hb hf,λb o hb hn hx=>hn,λb o hb hx=>?_,λ_ _ z=>z,λ_ _ _ z=>z,λb ps z=>⟨#[],by rw [z,Array.append_empty]⟩⟩
  (HOk.tracked hok λb u hb q=>stay b u q (λz=>hb (hst b z)) λz=>?_) fl₅
 ·by_cases hq:b∈frs (env::outer)
  ·obtain ⟨sl,e1⟩:=slot b o hb hq
   exact ⟨_,e1⟩
  ·exact ⟨o,stay b o hb hq hx⟩
 ·rcases List.mem_cons.mp z with z | z
  ·subst z; exact hb he
  ·rcases List.mem_cons.mp z with z | z
   ·subst z; exact hb hTn
   ·cases z
structure Xcl (K:PySem.W.Frag) (C:Addr) (bmB:List Value) (newId:String):Prop where
 ex:∃ (nm q:Str) (N:Addr) (bs bm:List Value) (hdct:Bool) (sn:List Str) (sub:List Value) (ab:Bool) (col:Option Bool) (dd:Option Addr) (k0 k1 k2 k3 k5:Option Value) (mN:Str->Option Value),
  K.lookup C=some (excClassObj nm q C N bs bm hdct sn sub ab col dd k0 k1 k2 k3 k5 newId)/\(∀ h:Heap,K.In h->h.Ns N mN/\OwnTail h bmB bm)/\mN "__init__"=none/\bm.contains (.type "BaseException")=true
theorem ZhK {X:Cx} {pins:List (Addr×Obj)} {σ:St} {H:Hp} {s:Shared} {x:Str} {np cpos pos:Pos} {arg:Expr} {C:Addr} {B newId initId:String} {bmB:List Value} {t:TE} {Q:Flow->Shared->Prop}
  (F:ExcBaseFacts B newId initId bmB) (c:Xcl X.K C bmB newId) (hg:Gl X x) (hm:X.mg x=some (.ref C)) (hc:X.calm=true) (ha:PE X arg t) (I:Inv X pins σ H s)
  (h:t σ H λv H1=>∀ s1 h' e args,Inv X pins σ H1 s1->Heap.MadeExcOf s1.heap h' e (.ref C) args->X.xe (.ref e) { s1 with heap:=h' })
  (hs:starEach [arg] X.env=[(false,eval arg X.env)]:=by rfl) (hdb:(x == ("__debug__":Str))=false:=by decide) :
  wpAny (model X.prog X.w) X.A (exec (.Raise (some (.Call (.Name x np) [arg] [] cpos)) none pos) X.env) Q X.xe s:=by
 obtain ⟨nm,q,N,bs,bm,hdct,sn,sub,ab,col,dd,k0,k1,k2,k3,k5,mN,lk,hn,hni,hb⟩:=c.ex
 refine wpAny_Raise_call_subT (C:=C) (nm:=nm) (q:=q) (N:=N) (bs:=bs) (bm:=bm) (hdct:=hdct) (sn:=sn) (sub:=sub) (ab:=ab) (col:=col) (dd:=dd) (k0:=k0) (k1:=k1) (k2:=k2) (k3:=k3) (k5:=k5) (mN:=mN) F hb (I.ok.hd hc) (by rw [hs]; rfl) hni ?_
 refine pJ I hg hm ⟨rfl,?_⟩ (hd:=hdb)
 rw [hs]
 refine Calls.evalArgs_plain (Calls.spliced_cons (thn (ha pins s σ H _ I h) λu s1 hz0=>Calls.spliced_nil ?_))
 obtain ⟨v,H1,I1,r1,z⟩:=hz0
 have KX:X.K.In s1.heap:=I1.kIn
 exact ⟨rfl,by show 1<=sizeLine; decide,KX _ _ lk,(hn _ KX).1,(hn _ KX).2,λh' e hx=>z s1 h' e _ I1 hx⟩
theorem Zh2 {P:Program} {w:World} {K:PySem.W.Frag} {mg:Str->Option Value} {base:Heap} {N:List Str} {qual:Str} {scope:Scope} {f:Addr} {cd:Value} {A:Around} {outer:List Env} {s₀:Shared} {H₀:Hp} {E:XK}
  {x msg:Str} {np cpos pos mp:Pos} {mk:Nat} {C:Addr} {B newId initId:String} {bmB:List Value}
  (F:ExcBaseFacts B newId initId bmB) (c:Xcl K C bmB newId) (hg:Gl (fG (gR P w) P w K mg base N qual scope f cd A outer s₀ H₀ E) x) (hm:mg x=some (.ref C)) (hdb:(x == ("__debug__":Str))=false:=by decide) :
  PS (fG (gR P w) P w K mg base N qual scope f cd A outer s₀ H₀ E) (.Raise (some (.Call (.Name x np) [.Constant (.str msg) mk mp] [] cpos)) none pos) (λ_ _ H=>E (.ref C) none H):=by
 intro pins s σ H D I h
 exact ZhK F c hg hm rfl Zik I (λs1 h' e args I1 hx=>ZhL I1 hx h) rfl hdb
theorem Un.skip {fs ex:List Addr} {H H1 H2:Hp} {h h1 h2:Heap} (a:Un fs [] H H1 h h1) (b:Un fs ex H1 H2 h1 h2) (hx:∀ c∈ex,h.get? c=none):Un fs [] H H2 h h2:=by
 have no:∀ {c:Addr} {o:Obj},h.get? c=some o->c ∉ ex:=λ{c o} e z=>by rw [hx c z] at e; cases e
 refine ⟨λc o e n f _=>?_,λc o e n f _=>?_,λc o e n _=>?_,λc o e _=>?_,λc xs e=>b.tups c xs (a.tups c xs e),λc o u e=>b.frzs c o u (a.frzs c o u e),λc ps e=>?_⟩
 ·exact b.keep c o (a.keep c o e n f (by simp)) (a.free c o e n (by simp)) f (no e)
 ·obtain ⟨sl,e1⟩:=a.slot c o e n f (by simp)
  obtain ⟨gi,e2⟩:=b.slot c _ e1 (a.free c o e n (by simp)) f (no e)
  exact ⟨gi,e2⟩
 ·obtain ⟨o',e1⟩:=a.there c o e (by simp)
  exact b.free c o' e1 (a.free c o e n (by simp)) (no e)
 ·obtain ⟨o',e1⟩:=a.there c o e (by simp)
  exact b.there c o' e1 (no e)
 ·obtain ⟨m1,e1⟩:=a.tbls c ps e
  obtain ⟨m2,e2⟩:=b.tbls c _ e1
  exact ⟨m1++m2,by rw [e2,Array.append_assoc]⟩
theorem Zoj {X:Cx} {pins:List (Addr×Obj)} {σ:St} {H:Hp} {s s':Shared} {E:XK} {e:Value} {outer:List Env} {L:Addr} {Q:Unit->Shared->Prop} {EE:Value->Shared->Prop}
  (I:Inv X pins σ H s) (hstk:X.stack=X.env::outer) (hL:X.env.frame=some L) (hq:gR X.prog X.w X.stack H s E e s')
  (k:∀ (ea:Addr) (cls:Value) (H':Hp) (h':Heap),e=.ref ea->Inv X pins σ H' { s' with heap:=h' }->H' ea=none->(∃ oe,h'.get? ea=some oe/\oe.cls=cls)->(∃ b'' t,Heap.FlyingW b'' X.stack ea cls (.ref t) h'/\(∀ c,b''.get? c=none->c ∉ frs X.stack->s.heap.get? c=none)/\∀ b,H' b≠none->∃ o',b''.get? b=some o')->Un (frs X.stack) [] H H' s.heap h'->E cls none H'->Q () { s' with heap:=h' }) :
  wpAny (model X.prog X.w) X.A (noteFrame e X.env) (λ_ s₂=>wpAny (model X.prog X.w) X.A (setFlight e none) Q EE s₂) EE s':=by
 obtain ⟨ea,t,cls,b',H',rfl,os,bare,un,hok,fl,hb',ht,hE⟩:=hq
 have hst:∀ b∈frs X.stack,H b=none:=I.stkFree
 have funs:s.heap.FunFrames X.base X.stack:=I.stack
 have hst':∀ b∈frs X.stack,H' b=none:=λb hb=>by
  obtain ⟨_,o,ho,_⟩:=funs.mem hb
  exact un.free b o ho (hst b hb) (by simp)
 have hfr:X.A.frames=some X.stack:=I.ok.frames
 have notin:∀ c:Addr,b'.get? c=none->c ∉ frs X.stack->s.heap.get? c=none:=λc hc hf=>by
  cases e1:s.heap.get? c with
  | none=>rfl
  | some o =>
   obtain ⟨o',e2⟩:=hb' c o e1 hf
   rw [hc] at e2; cases e2
 have hea:ea ∉ frs X.stack:=λz=>by
  obtain ⟨_,o',ho',hd⟩:=fl.2.2.1.mem z
  obtain ⟨oe,vs,e1,_,e2,_⟩:=fl.first
  rw [e1] at ho'
  cases ho'
  exact hd vs e2
 rw [hstk] at hfr fl hst' un hea notin
 refine lands hfr hL fl hok hst' ht λh₅ T hT hTf un5 hok5 fl5=>?_
 have un':=un.skip un5 λc hc=>by
  rcases List.mem_cons.mp hc with z | z
  ·subst z; exact notin c fl.2.1 hea
  ·rcases List.mem_cons.mp z with z | z
   ·subst z; exact notin c hT hTf
   ·cases z
 rw [<- hstk] at un'
 have I5:Inv X pins σ H' { s' with heap:=h₅ }:=I.call' (s':={ s' with heap:=h₅ }) os un' hok5 bare λb hb=>absurd hb (by simp)
 have he:H' ea=none:=by
  cases e1:H' ea with
  | none=>rfl
  | some u =>
   obtain ⟨o',e2⟩:=ht ea (by rw [e1]; simp)
   rw [fl.2.1] at e2; cases e2
 refine k ea cls H' h₅ rfl I5 he fl5.there ⟨_,t,by rw [hstk]; exact fl5,λc hc hf=>?_,λb hb=>?_⟩ un' hE
 rotate_left
 ·cases e1:H' b with
  | none=>exact absurd e1 hb
  | some u =>
   obtain ⟨o',e2⟩:=(hok b u e1).get
   refine ⟨o',?_⟩
   rw [ji]
   ·exact e2
   ·intro z
    rcases List.mem_cons.mp z with z | z
    ·subst z; exact hb he
    ·rcases List.mem_cons.mp z with z | z
     ·subst z
      obtain ⟨o3,e3⟩:=ht b hb
      rw [hT] at e3; cases e3
     ·exact hb (hst' b z)
 by_cases h1:c=ea
 ·subst h1; exact notin c fl.2.1 hea
 ·by_cases h2:c=T
  ·subst h2; exact notin c hT hTf
  ·rw [ji (λz=>by
    rcases List.mem_cons.mp z with z | z
    ·exact h1 z
    ·rcases List.mem_cons.mp z with z | z
     ·exact h2 z
     ·rw [hstk] at hf; exact hf z)] at hc
   cases e1:s.heap.get? c with
   | none=>rfl
   | some o =>
    obtain ⟨o',e2⟩:=un.there c o e1 (by simp)
    rw [hc] at e2; cases e2
end L2
namespace L2
open PySem PySem.Spec PySem.Calls PyProof.Rows
section
variable {M:Model} {A:Around} {E:Value->Shared->Prop}
variable {nm q:Str} {C N:Addr} {bs bm:List Value} {hdct:Bool} {sn:List Str} {sub:List Value} {ab:Bool} {col:Option Bool} {dd:Option Addr} {k0 k1 k2 k3 k5:Option Value} {newId:String}
variable {nm' q':Str} {D N':Addr} {bs' bm':List Value} {hdct':Bool} {sn':List Str} {sub':List Value} {ab':Bool} {col':Option Bool} {dd':Option Addr} {j0 j1 j2 j3 j5:Option Value} {newId':String}
end
section
variable {prog:Program} {w:World} {A:Around} {E:Value->Shared->Prop} {s:Shared} {env:Env}
end
end L2
namespace L2
open PySem PySem.Spec PyProof.Rows
section
variable {X:Cx} {pins:List (Addr×Obj)} {σ:St} {H:Hp} {s:Shared}
theorem Zjz {A:Around} {E:Value->Shared->Prop} {x:Str} {u:Value} {pos:Pos} {Q:Value->Shared->Prop} (I:Inv X pins σ H s) (hg:Gl X x) (hm:X.mg x=some u) (h:Q u s)
  (hd:(x == ("__debug__":Str))=false:=by decide):wpAny (model X.prog X.w) A (eval (.Name x pos) X.env) Q E s :=
 Calls.Name_function_global I.ok.kind hg (Calls.loadGlobal_global (by rw [I.ok.glob]; exact I.mod.glob.keeps I.bk) hm h) hd
noncomputable def ku (e:Addr) (cls:Value) (h:Heap):Prop:=∃ oe,h.get? e=some oe/\oe.cls=cls
theorem ZjH {A:Around} {H0:Hp} {s0:Shared} {b':Heap} {e t:Addr} {cls:Value} {Q:Unit->Shared->Prop} {E:Value->Shared->Prop}
  (I0:Inv X pins σ H0 s0) (I:Inv X pins σ H s) (un:Un (frs X.stack) [] H0 H s0.heap s.heap) (he:H e=none) (fl:Heap.FlyingW b' X.stack e cls (.ref t) s.heap) (hf:∀ c,b'.get? c=none->c ∉ frs X.stack->s0.heap.get? c=none)
  (hb:∀ b,H b≠none->∃ o',b'.get? b=some o') (hos:s.os=s0.os)
  (k:∀ h',Inv X pins σ (upd H e (.ext (ku e cls))) { s with heap:=h' }->Q () { s with heap:=h' }):wpAny (model X.prog X.w) A (setFlight (.ref e) none) Q E s:=by
 obtain ⟨T,hT,⟨oT,ts,hoT,hdT⟩,⟨oe,vs,hoe,hoc,hod⟩,fl'⟩:=rebase fl
 have hst:∀ b∈frs X.stack,H b=none:=I.stkFree
 have nof:∀ {b:Addr} {o:Obj} {us:Array Value},s.heap.get? b=some o->o.data=.fields us->b ∉ frs X.stack:=λ{b o us} h1 h2 z=>by
  obtain ⟨_,o',ho',hd⟩:=fl.2.2.1.mem z
  rw [h1] at ho'
  cases ho'
  exact hd us h2
 refine lands_againW fl' λh₅ fl₅ ups=>?_
 have stay:∀ b o,s.heap.get? b=some o->b ∉ frs X.stack->b ∉ [e,T]->h₅.get? b=some o:=λb o hb hn hx=>fl₅.1 b o (by
  rw [ji]
  ·exact hb
  ·intro z
   rcases List.mem_cons.mp z with z | z
   ·exact hx (by simp [z])
   ·rcases List.mem_cons.mp z with z | z
    ·exact hx (by simp [z])
    ·exact hn z)
 have slot:∀ b o,s.heap.get? b=some o->b∈frs X.stack->∃ sl,h₅.get? b=some { o with slots:=sl }:=λb o hb hn=>by
  obtain ⟨_,o',ho',hd⟩:=fl.2.2.1.mem hn
  rw [hb] at ho'
  cases ho'
  exact ups b o hb hd
 have hTn:H T=none:=by
  cases e1:H T with
  | none=>rfl
  | some u =>
   obtain ⟨o',e2⟩:=hb T (by rw [e1]; simp)
   rw [hT] at e2; cases e2
 have un5:Un (frs X.stack) [e,T] H H s.heap h₅:=⟨λb o hb hn hf hx=>stay b o hb hf hx,λb o hb hn hf hx=>slot b o hb hf,λb o hb hn hx=>hn,λb o hb hx=>by
  by_cases hq:b∈frs X.stack
  ·obtain ⟨sl,e1⟩:=slot b o hb hq
   exact ⟨_,e1⟩
  ·exact ⟨o,stay b o hb hq hx⟩,λ_ _ z=>z,λ_ _ _ z=>z,λb ps z=>⟨#[],by rw [z,Array.append_empty]⟩⟩
 have hok5:HOk X.prog X.w H h₅:=HOk.tracked I.hok λb u hb q=>stay b u q (λz=>hb (hst b z)) λz=>by
  rcases List.mem_cons.mp z with z | z
  ·subst z; exact hb he
  ·rcases List.mem_cons.mp z with z | z
   ·subst z; exact hb hTn
   ·cases z
 have un':=un.skip un5 λc hc=>by
  rcases List.mem_cons.mp hc with z | z
  ·subst z; exact hf c fl.2.1 (nof hoe hod)
  ·rcases List.mem_cons.mp z with z | z
   ·subst z; exact hf c hT (nof hoT hdT)
   ·cases z
 obtain ⟨oe5,hoe5,hoc5⟩:=fl₅.there
 have hs0:s0.heap.get? e=none:=hf e fl.2.1 (nof hoe hod)
 have ne0:∀ {b:Addr} {o:Obj},s0.heap.get? b=some o->b≠e:=λ{b o} h1 z=>by rw [z,hs0] at h1; cases h1
 have nH:∀ {b:Addr} {o:HO},H b=some o->b≠e:=λ{b o} h1 z=>by rw [z,he] at h1; cases h1
 have un2:Un (frs X.stack) [] H0 (upd H e (.ext (ku e cls))) s0.heap h₅:=⟨un'.keep,un'.slot,λb o hb hn hx=>by rw [bG (ne0 hb)]; exact un'.free b o hb hn hx,un'.there,
  λb xs z=>by rw [bG (nH (un'.tups b xs z))]; exact un'.tups b xs z,λb o u z=>by rw [bG (nH (un'.frzs b o u z))]; exact un'.frzs b o u z,λb ps z=>by
   obtain ⟨m,z⟩:=un'.tbls b ps z
   exact ⟨m,by rw [bG (nH z)]; exact z⟩⟩
 have hok2:HOk X.prog X.w (upd H e (.ext (ku e cls))) h₅:=λb o hb=>by
  by_cases hbe:b=e
  ·subst hbe
   rw [cA] at hb
   cases hb
   exact ⟨⟨oe5,hoe5,hoc5⟩,⟨oe5,hoe5⟩,λh1 h2 ⟨o1,e1,c1⟩ kk=>⟨o1,kk o1 e1,c1⟩⟩
  ·rw [bG hbe] at hb
   exact (hok5 b o hb).stay (λ_ _ _ q=>q) (λc z=>by rw [bG (nH z)]; exact z) (λc xs z=>by rw [bG (nH z)]; exact z) λc ob xs _ z _=>by rw [bG (nH z)]; exact z
 exact k h₅ (I0.call' (s':={ s with heap:=h₅ }) hos un2 hok2 I.bare λb hb=>absurd hb (by simp))
end
noncomputable abbrev Cx.marked (X:Cx) (ea:Addr):Cx:={ X with A:=X.A.mark (some (.ref ea)),calm:=false,xe:=λ_ _=>False }
theorem Inv.marked {X:Cx} {pins:List (Addr×Obj)} {σ:St} {H:Hp} {s:Shared} (I:Inv X pins σ H s) (ea:Addr):Inv (X.marked ea) pins σ H s :=
 ⟨⟨I.ok.mod,I.ok.kind,I.ok.glob,I.ok.blt,I.ok.above,I.ok.inj,I.ok.has,I.ok.cab,λz=>(by cases z),I.ok.frames,I.ok.stk,I.ok.exf,I.ok.bs,I.ok.bsz,I.ok.noex,I.ok.exfs,I.ok.funs,I.ok.frf⟩,I.os,I.bare,I.base,I.loc,I.cell,I.free,I.freeC,I.pin,I.hok,I.len⟩
theorem Inv.unmarked {X:Cx} {pins:List (Addr×Obj)} {σ:St} {H:Hp} {s:Shared} {ea:Addr} (I:Inv (X.marked ea) pins σ H s) (I0:X.Ok):Inv X pins σ H s :=
 ⟨I0,I.os,I.bare,I.base,I.loc,I.cell,I.free,I.freeC,I.pin,I.hok,I.len⟩
end L2
namespace PySem
noncomputable def clsNames:List Str:=["__getattribute__","__getattr__","__class__"]
inductive OwnTailN (h:Heap) (bmB:List Value):List Value->Prop
 | base:OwnTailN h bmB bmB
 | own {A:Addr} {c0:Value} {dd:Option Addr} {cd:ClassData} {sl:Array (Option Value)} {mA:Str->Option Value} {tl:List Value} :
   h.get? A=some { cls:=c0,dict:=dd,data:=.cls cd,slots:=sl }->h.Ns cd.ns mA->(∀ n∈clsNames,mA n=none)->OwnTailN h bmB tl->OwnTailN h bmB (.ref A::tl)
section
variable {M:Model} {A:Around} {E:Value->Shared->Prop} {h:Heap} {g:Array GenState} {d:Drawn} {t:Nat} {os:OsState}
variable {nm q:Str} {C N:Addr} {bs bm bmB:List Value} {hdct:Bool} {sn:List Str} {sub:List Value} {ab:Bool} {col:Option Bool} {dd:Option Addr} {k0 k1 k2 k3 k5:Option Value} {B newId:String}
end
section
variable {prog:Program} {w:World} {A:Around} {E:Value->Shared->Prop} {h:Heap} {g:Array GenState} {d:Drawn} {t:Nat} {os:OsState} {a:Addr} {o:Obj}
 {nm q:Str} {C N:Addr} {bs bm bmB:List Value} {hdct:Bool} {sn:List Str} {sub:List Value} {ab:Bool} {col:Option Bool} {dd:Option Addr} {k0 k1 k2 k3 k5:Option Value} {B newId:String} {mN:Str->Option Value}
end
end PySem
namespace L2
open PySem PySem.Spec PyProof.Rows
section
variable {X:Cx} {C:Addr} {B:String} {bmB:List Value}
end
end L2
namespace L2
open PySem PySem.Spec PyProof.Rows PySem.W
noncomputable def nC:List Value:=[.type "ValueError",.type "Exception",.type "BaseException",.type "object"]
noncomputable def og (K:Frag) (bmB:List Value):List Value->Bool
 | []=>bmB == []
 | v::r=>(v::r) == bmB || match v with
  | .ref A=>(match K.lookup A with
   | some ⟨_,_,.cls cd,_⟩=>nsOkIn K cd.ns && (nsIn K cd.ns "__getattribute__" == some none && nsIn K cd.ns "__getattr__" == some none && nsIn K cd.ns "__class__" == some none) && og K bmB r
   | _=>false)
  | _=>false
theorem Zeq {m:Str->Option Value} (a:m "__getattribute__"=none) (b:m "__getattr__"=none) (c:m "__class__"=none):∀ n∈clsNames,m n=none:=by
 intro n hn
 unfold clsNames at hn
 simp only [List.mem_cons,List.not_mem_nil,or_false] at hn
 rcases hn with rfl | rfl | rfl
 ·exact a
 ·exact b
 ·exact c
theorem Zaz {K:Frag} {h:Heap} {bmB:List Value} (X:K.In h):∀ {l:List Value},og K bmB l=true->OwnTailN h bmB l
 | [],e=>by rw [<- beq_iff_eq.mp e]; exact .base
 | v::r,e=>by
  unfold og at e
  rcases Bool.or_eq_true_iff.mp e with q | q
  ·rw [beq_iff_eq.mp q]; exact .base
  ·split at q
   ·split at q
    ·rename_i ho
     simp only [Bool.and_eq_true,beq_iff_eq] at q
     exact .own (X _ _ ho) (.of_isNs (isNs_of_in X q.1.1)) (Zeq (nsMap_none_of_in X q.1.1 q.1.2.1.1) (nsMap_none_of_in X q.1.1 q.1.2.1.2) (nsMap_none_of_in X q.1.1 q.1.2.2)) (Zaz X q.2)
    ·cases q
   ·cases q
noncomputable def qY (K:Frag) (C:Addr) (bmB:List Value) (newId:String):Bool:=match K.lookup C with
 | some ⟨.type "type",_,.cls cd,sl⟩=>(match cd.mro,sl.toList with
  | .ref C'::bm,[_,_,_,_,some (.builtin n),_]=>C' == C && n == newId && !cd.hasDel && tailIn K bmB bm && og K bmB bm && nsOkIn K cd.ns && nsIn K cd.ns "__init__" == some none
    && nsIn K cd.ns "__getattribute__" == some none && nsIn K cd.ns "__getattr__" == some none && nsIn K cd.ns "__class__" == some none && bm.contains (.type "BaseException")
  | _,_=>false)
 | _=>false
theorem ZiY {K:Frag} {N:Addr} {h h':Heap} {m:Str->Option Value} (X:K.In h) (X':K.In h') (e:nsOkIn K N=true) (n:h.Ns N m):h'.Ns N m:=by
 obtain ⟨o,es,ep,ho,r⟩:=n
 refine ⟨o,es,ep,?_,r⟩
 unfold nsOkIn at e
 cases hl:K.lookup N with
 | none=>rw [hl] at e; cases e
 | some u =>
  have h1:=X _ _ hl
  rw [ho] at h1
  cases h1
  exact X' _ _ hl
theorem Zfv {K:Frag} {h:Heap} {C:Addr} {bmB:List Value} {newId:String} (X:K.In h) (q:qY K C bmB newId=true) :
  ∃ (nm q:Str) (N:Addr) (bs bm:List Value) (hdct:Bool) (sn:List Str) (sub:List Value) (ab:Bool) (col:Option Bool) (dd:Option Addr) (k0 k1 k2 k3 k5:Option Value) (mN:Str->Option Value),
  K.lookup C=some (excClassObj nm q C N bs bm hdct sn sub ab col dd k0 k1 k2 k3 k5 newId)/\(∀ h:Heap,K.In h->h.Ns N mN/\OwnTail h bmB bm/\OwnTailN h bmB bm)/\mN "__init__"=none/\(∀ n∈clsNames,mN n=none)/\bm.contains (.type "BaseException")=true:=by
 unfold qY at q
 split at q
 ·rename_i dd cd sl ho
  split at q
  ·rename_i C' bm k0 k1 k2 k3 n k5 hm hs
   simp only [Bool.and_eq_true,beq_iff_eq,Bool.not_eq_true'] at q
   obtain ⟨⟨⟨⟨⟨⟨⟨⟨⟨⟨rfl,rfl⟩,hdel⟩,ht⟩,htn⟩,hok⟩,hni⟩,n1⟩,n2⟩,n3⟩,hb⟩:=q
   obtain ⟨nm,bs,mro,ns,qn,hd,sn,sub,ab,col,del⟩:=cd
   dsimp only at hm hdel hok hni n1 n2 n3
   subst hm hdel
   have hsl:sl=#[k0,k1,k2,k3,some (.builtin n),k5]:=by
    obtain ⟨l⟩:=sl
    simp only at hs
    rw [hs]
   subst hsl
   exact ⟨nm,qn,ns,bs,bm,hd,sn,sub,ab,col,dd,k0,k1,k2,k3,k5,_,ho,λh' X'=>⟨ZiY X X' hok (.of_isNs (isNs_of_in X hok)),tail_of_in X' ht,Zaz X' htn⟩,nsMap_none_of_in X hok hni,Zeq (nsMap_none_of_in X hok n1) (nsMap_none_of_in X hok n2) (nsMap_none_of_in X hok n3),hb⟩
  ·cases q
 ·cases q
theorem Zfu {K:Frag} {h:Heap} {C:Addr} {bmB:List Value} {newId:String} (X:K.In h) (q:qY K C bmB newId=true):Xcl K C bmB newId:=by
 obtain ⟨nm,q,N,bs,bm,hdct,sn,sub,ab,col,dd,k0,k1,k2,k3,k5,mN,lk,hn,hi,hc,hb⟩:=Zfv X q
 exact ⟨nm,q,N,bs,bm,hdct,sn,sub,ab,col,dd,k0,k1,k2,k3,k5,mN,lk,λh X=>⟨(hn h X).1,(hn h X).2.1⟩,hi,hb⟩
end L2
namespace L2
open PySem PySem.Spec PyProof.Rows
section
variable {PK:Pk} {X:Cx} {pos:Pos} {i j:List Sl->Tr PyData}
end
noncomputable def swp:HO->Bool
 | .lst _=>true
 | .dK _=>true
 | .chg _=>true
 | _=>false
section
variable {X:Cx} {pins:List (Addr×Obj)} {σ:St} {H:Hp} {s:Shared} {a:Addr} {o o':HO}
theorem Inv.swap (I:Inv X pins σ H s) (h:H a=some o) (n:swp o=true) (k:ObjOk X.prog X.w (upd H a o') s.heap a o->ObjOk X.prog X.w (upd H a o') s.heap a o'):Inv X pins σ (upd H a o') s:=by
 have up:∀ b u,H b=some u->swp u=false->upd H a o' b=some u:=λb u e z=>by
  rw [bG]
  ·exact e
  ·rintro rfl
   rw [h] at e; cases e
   rw [n] at z; cases z
 have nn:∀ b,H b=none->upd H a o' b=none:=λb e=>by
  rw [bG]
  ·exact e
  ·rintro rfl
   rw [h] at e; cases e
 have st:∀ b u,H b=some u->ObjOk X.prog X.w (upd H a o') s.heap b u:=λb u e =>
  (I.hok b u e).stay (λ_ _ _ q=>q) (λc q=>up c _ q rfl) (λc xs q=>up c _ q rfl) λc ob u' vs q _=>up c _ q rfl
 refine ⟨I.ok,I.os,I.bare,⟨I.base.keep,I.base.slot,λb o e n hx=>nn b (I.base.free b o e n hx),I.base.there,λb xs e=>up b _ (I.base.tups b xs e) rfl,λb ob u e=>up b _ (I.base.frzs b ob u e) rfl,λb ps e=>?_⟩,I.loc,I.cell,nn _ I.free,λx c e=>nn _ (I.freeC x c e),λp hp=>?_,λb u e=>?_,I.len⟩
 ·obtain ⟨more,q⟩:=I.base.tbls b ps e
  exact ⟨more,up b _ q rfl⟩
 ·obtain ⟨h1,h2,h3⟩:=I.pin p hp
  exact ⟨h1,nn _ h2,h3⟩
 ·by_cases e':b=a
  ·subst e'
   rw [cA] at e; cases e
   exact k (st b o h)
  ·rw [bG e'] at e
   exact st b u e
inductive Cv:Hp->Hp->Prop
 | refl {H:Hp}:Cv H H
 | opn {H:Hp} {a:Addr} {u:HO}:H a=some (.chg u)->Cv H (upd H a u)
 | shut {H:Hp} {a:Addr} {u:HO}:H a=some u->swp u=true->Cv H (upd H a (.chg u))
theorem Inv.cv {H':Hp} (I:Inv X pins σ H s) (c:Cv H H'):Inv X pins σ H' s:=by
 cases c with
 | refl=>exact I
 | opn h=>exact I.swap h rfl λz=>z
 | shut h n=>exact I.swap h n λz=>z
end
section
variable {X:Cx} {e:Expr} {st:Stmt} {te:TE} {ts:TS}
theorem PE.cvR (h:PE X e te):PE X e (λσ H Q=>te σ H λv H1=>∃ H2,Cv H1 H2/\Q v H2):=λpins s σ H Q I q =>
 thn (h pins s σ H _ I q) λu s1 ⟨v,H1,I1,r,H2,c,q1⟩=>⟨v,H2,I1.cv c,r,q1⟩
theorem MtR.cv {id:String} {r:V->List V->Hp->VK->Prop} (h:MtR X id r):MtR X id (λx vs H Q=>∃ H1,Cv H H1/\r x vs H1 λv H2=>∃ H3,Cv H2 H3/\Q v H3):=λpins s σ H x vs v us Q I rx rv ⟨H1,c,q⟩ =>
 thn (h pins s σ H1 x vs v us _ (I.cv c) rx rv q) λu s1 ⟨v,H2,I2,r,H3,c3,q3⟩=>⟨v,H3,I2.cv c3,r,q3⟩
end
noncomputable def adr:PyData->Option Addr
 | .dict [(.none,.int (.ofNat a))]=>some a
 | _=>none
theorem iA {G:Hp} {v:V} {x:PyData} {a:Addr} (d:Dn G v x) (h:adr x=some a):v=.ref a/\x=ah a:=by
 cases d with
 | hdl b=>cases h; exact ⟨rfl,rfl⟩
 | @dct b ks ds r ds' =>
  exfalso
  cases ks with
  | nil=>cases h
  | cons k ks =>
   cases ds with
   | nil=>cases h
   | cons d ds =>
    obtain ⟨k,v⟩:=k
    cases k <;> cases h
 | @dcp b o ks ds hn r ds' =>
  exfalso
  cases ks with
  | nil=>cases h
  | cons k ks =>
   cases ds with
   | nil=>cases h
   | cons d ds=>cases h
 | _=>cases h
noncomputable def fM (x:PyData) (g:Addr->Sto->Option (Sto×PyData)):Tr PyData:=match adr x with
 | some a=>.op (g a) .ret
 | none=>.fail
theorem gK {x:PyData} {g:Addr->Sto->Option (Sto×PyData)} {m:Ms} {Q:Ms->PyData->Prop} (h:(fM x g).ok m Q):∃ a s y,adr x=some a/\g a m.st=some (s,y)/\Q ⟨m.n,s⟩ y:=by
 unfold fM at h
 cases e:adr x with
 | none=>rw [e] at h; exact h.elim
 | some a =>
  rw [e] at h
  obtain ⟨s,y,h1,h2⟩:=h
  exact ⟨a,s,y,rfl,h1,h2⟩
section
variable {PK:Pk} {pa:Addr} {m:Ms} {G H:Hp} {a:Addr}
theorem ZfD (w:Wd PK pa m G H) {c:Cel} (h:m.st.get a=some c):a≠pa:=λe=>by
 subst e
 obtain ⟨o,e1,e2⟩:=(w.sto.cel a c h).at
 rw [w.pnch e1] at e2; cases e2
theorem nX (w:Wd PK pa m G H) {c c':Cel} {o':HO} (h:m.st.get a=some c) (hn:nch o'=false) (k:ThOk G (upd H a o') a c'):Wd PK pa ⟨m.n,m.st.put a c'⟩ G (upd H a o')/\Stp pa G H G (upd H a o'):=by
 have hne:=ZfD w h
 have hg:=w.sto.gn a c h
 obtain ⟨o,e1,e2⟩:=(w.sto.cel a c h).at
 have keep:∀ b u,H b=some u->b≠a->upd H a o' b=some u:=λb u e z=>by rw [bG z]; exact e
 refine ⟨⟨λb u e=>keep b u (w.sub b u e) λz=>(by subst z; rw [hg] at e; cases e),w.gpa,?_,⟨λb d e=>?_,λb d e=>?_⟩⟩,⟨λ_ _ h=>h,λ_ _ h=>.inl h,λb u e _ z=>keep b u e λq=>(by subst q; rw [e1] at e; cases e; rw [e2] at z; cases z),λb u e=>?_⟩⟩
 ·obtain ⟨u,e,q⟩:=w.pen
  exact ⟨u,keep _ u e (Ne.symm hne),q⟩
 ·by_cases z:b=a
  ·subst z
   rw [show (Ms.st ⟨m.n,m.st.put b c'⟩)=m.st.put b c' from rfl,Sto.put_same] at e; cases e
   exact k
  ·rw [show (Ms.st ⟨m.n,m.st.put a c'⟩)=m.st.put a c' from rfl,Sto.put_ne z] at e
   exact (w.sto.cel b d e).step (λ_ _ h=>h) λu q _=>keep b u q z
 ·by_cases z:b=a
  ·subst z; exact hg
  ·rw [show (Ms.st ⟨m.n,m.st.put a c'⟩)=m.st.put a c' from rfl,Sto.put_ne z] at e
   exact w.sto.gn b d e
 ·by_cases z:b=a
  ·subst z; exact ⟨o',cA,λ_=>hn⟩
  ·exact ⟨u,keep b u e z,id⟩
theorem Zak (w:Wd PK pa m G H) (hp:H a=none):m.st.get a=none:=by
 cases e:m.st.get a with
 | none=>rfl
 | some c =>
  obtain ⟨o,e1,_⟩:=(w.sto.cel a c e).at
  rw [hp] at e1; cases e1
theorem Zaj (w:Wd PK pa m G H) {c':Cel} {o':HO} (hp:H a=none) (k:ThOk G (upd H a o') a c'):Wd PK pa ⟨m.n,m.st.put a c'⟩ G (upd H a o')/\Stp pa G H G (upd H a o'):=by
 obtain ⟨w1,s1⟩:=w.own (o:=o') hp
 refine ⟨⟨w1.sub,w1.gpa,w1.pen,⟨λb d e=>?_,λb d e=>?_⟩⟩,s1⟩
 ·by_cases z:b=a
  ·subst z
   rw [show (Ms.st ⟨m.n,m.st.put b c'⟩)=m.st.put b c' from rfl,Sto.put_same] at e; cases e
   exact k
  ·rw [show (Ms.st ⟨m.n,m.st.put a c'⟩)=m.st.put a c' from rfl,Sto.put_ne z] at e
   exact w1.sto.cel b d e
 ·by_cases z:b=a
  ·subst z; exact w.gnone hp
  ·rw [show (Ms.st ⟨m.n,m.st.put a c'⟩)=m.st.put a c' from rfl,Sto.put_ne z] at e
   exact w1.sto.gn b d e
end
theorem FD.lookup {G:Hp} {f:Str} {d:PyData} {vs:List (Str×V)} {ds:List (Str×PyData)} (h:FD G vs ds):ds.lookup f=some d->∃ v,vs.lookup f=some v/\Dn G v d:=by
 induction h with
 | nil=>intro e; cases e
 | @cons g v d' vs ds h1 h2 ih =>
  intro e
  cases k:f == g with
  | true =>
   simp only [List.lookup,k] at e ⊢
   cases e
   exact ⟨_,rfl,h1⟩
  | false =>
   simp only [List.lookup,k] at e ⊢
   exact ih e
theorem FD.nolook {G:Hp} {f:Str} {vs:List (Str×V)} {ds:List (Str×PyData)} (h:FD G vs ds):ds.lookup f=none->vs.lookup f=none:=by
 induction h with
 | nil=>intro _; rfl
 | @cons g v d' vs ds h1 h2 ih =>
  intro e
  cases k:f == g with
  | true=>simp only [List.lookup,k] at e; cases e
  | false =>
   simp only [List.lookup,k] at e ⊢
   exact ih e
theorem FD.length {G:Hp} {vs:List (Str×V)} {ds:List (Str×PyData)} (h:FD G vs ds):vs.length=ds.length:=by
 induction h with
 | nil=>rfl
 | cons _ _ ih=>rw [List.length_cons,List.length_cons,ih]
noncomputable def gJ (f:Str) (v:PyData):List (Str×PyData)->List (Str×PyData)
 | []=>[(f,v)]
 | (g,x)::r=>if g=f then (g,v)::r else (g,x)::gJ f v r
theorem FD.put {G:Hp} {f:Str} {v:V} {d:PyData} (h:Dn G v d) {vs:List (Str×V)} {ds:List (Str×PyData)} (k:FD G vs ds):FD G (eF f v vs) (gJ f d ds):=by
 induction k with
 | nil=>exact .cons h .nil
 | @cons g u d' vs ds h1 h2 ih =>
  unfold eF gJ
  by_cases e:g=f
  ·rw [if_pos e,if_pos e]; exact .cons h h2
  ·rw [if_neg e,if_neg e]; exact .cons h1 ih
noncomputable def iG (C:Addr) (f:Str) (a:Addr) (st:Sto):Option (Sto×PyData):=match st.get a with
 | some (.ins C' fs)=>if C'=C then (fs.lookup f).map λx=>(st,x) else none
 | _=>none
theorem ZbW {C a:Addr} {f:Str} {st s:Sto} {y:PyData} (h:iG C f a st=some (s,y)):s=st/\∃ fs,st.get a=some (.ins C fs)/\fs.lookup f=some y:=by
 unfold iG at h
 split at h
 ·rename_i C' fs e
  split at h
  ·rename_i hC
   subst hC
   cases e2:fs.lookup f with
   | none=>rw [e2] at h; cases h
   | some z =>
    rw [e2] at h
    cases h
    exact ⟨rfl,fs,e,e2⟩
  ·cases h
 ·cases h
noncomputable def i5 (C:Addr) (f:Str) (y:PyData) (a:Addr) (st:Sto):Option (Sto×PyData):=match st.get a with
 | some (.ins C' fs)=>if C'=C/\fs.length < 1000 then some (st.put a (.ins C (gJ f y fs)),.none) else none
 | _=>none
theorem Zah {C a:Addr} {f:Str} {st s:Sto} {x y:PyData} (h:i5 C f x a st=some (s,y)):∃ fs,st.get a=some (.ins C fs)/\fs.length < 1000/\s=st.put a (.ins C (gJ f x fs)):=by
 unfold i5 at h
 split at h
 ·rename_i C' fs e
  split at h
  ·rename_i hC
   obtain ⟨rfl,hl⟩:=hC
   cases h
   exact ⟨fs,e,hl,rfl⟩
  ·cases h
 ·cases h
noncomputable def hI (C:Addr) (m:Str) (a:Addr) (st:Sto):Option (Sto×PyData):=match st.get a with
 | some (.ins C' fs)=>if C'=C/\fs.lookup m=none then some (st,.none) else none
 | _=>none
theorem ZcZ {C a:Addr} {m:Str} {st s:Sto} {y:PyData} (h:hI C m a st=some (s,y)):s=st/\∃ fs,st.get a=some (.ins C fs)/\fs.lookup m=none:=by
 unfold hI at h
 split at h
 ·rename_i C' fs e
  split at h
  ·rename_i hC
   obtain ⟨rfl,hl⟩:=hC
   cases h
   exact ⟨rfl,fs,e,hl⟩
  ·cases h
 ·cases h
section
variable {PK:Pk} {X:Cx} {C:Addr} {f:Str} {o e value:Expr} {es:List Expr} {pos pos' tpos apos p:Pos} {i j:List Sl->Tr PyData} {as:List Sl->Tr (List Sl)} {st:Stmt}
noncomputable def cM (C:Addr) (f:Str) (i:List Sl->Tr PyData):List Sl->Tr PyData:=λρ=>(i ρ).bind λx=>fM x (iG C f)
theorem cS (hc:Cls X.K C) (hn:NoAttr X.K C f) (he:PE X e (TAe PK i)) (hb:attributeBase e f X.env (eval e X.env)=eval e X.env:=by rfl):PE X (.Attribute e f pos) (TAe PK (cM C f i)):=(Ziv he hb).imp λσ H Q hz0=>by
 obtain ⟨pa,G₀,H₀,m,ρ,G,R,q⟩:=hz0
 refine TAe.then R q λm1 x v G1 H1 s1 w1 R1 d1 q1=>?_
 obtain ⟨a,s,y,ha,hg,k⟩:=gK q1
 obtain ⟨rfl,rfl⟩:=iA d1 ha
 obtain ⟨rfl,fs,e1,e2⟩:=ZbW hg
 obtain ⟨dx,vs,e3,e4⟩:=w1.sto.cel a _ e1
 obtain ⟨u,e5,e6⟩:=e4.lookup e2
 exact ⟨a,C,dx,vs,u,rfl,e3,hc,hn,e5,(Kn.later k s1 w1.some).here w1 e6⟩
noncomputable def fP (C:Addr) (f:Str) (i j:List Sl->Tr PyData):List Sl->Tr Ou:=λρ=>(j ρ).bind λy=>(i ρ).bind λx=>(fM x (i5 C f y)).bind λ_=>.ret (.next ρ)
theorem gb (hc:Cls X.K C) (hn:NoAttr X.K C f) (ha:PE X o (TAe PK i)) (hv:PE X value (TAe PK j)) (hs:swapsWith value (some (.Attribute o f pos')) pos.line X.env=pure false:=by rfl):PS X (.Assign [.Attribute o f pos'] value pos) (cr PK (fP C f i j)):=(Zh5 ha hv hs).imp λD σ H hz0=>by
 obtain ⟨pa,G₀,H₀,m,ρ,G,R,z⟩:=hz0
 refine TAe.then R z λm1 y v G1 H1 s1 w1 R1 d1 q1=>?_
 refine TAe.then R1 q1 λm2 x u G2 H2 s2 w2 R2 d2 q2=>?_
 obtain ⟨a,s,y',ha,hg,k⟩:=gK (Tr.ok_bind.mp q2)
 obtain ⟨rfl,rfl⟩:=iA d2 ha
 obtain ⟨fs,e1,hl,rfl⟩:=Zah hg
 obtain ⟨dx,vs,e3,e4⟩:=w2.sto.cel a _ e1
 obtain ⟨w3,s3⟩:=nX w2 (c':=.ins C (gJ f y fs)) (o':=.ins C dx (eF f v vs)) e1 rfl ⟨dx,_,cA,e4.put (d1.mono s2.gs)⟩
 exact ⟨a,C,dx,vs,rfl,e3,hc,hn,by rw [e4.length]; exact hl,k σ G2 _ (s1.gs.trans s2.gs) (R2.step s3 w3)⟩
noncomputable def lj (g:Int->Int->Int):PyData->PyData->Tr PyData
 | .int x,.int y=>.ret (.int (g x y))
 | _,_=>.fail
theorem Zj9 {g:Int->Int->Int} {x y:PyData} {m:Ms} {Q:Ms->PyData->Prop} (h:(lj g x y).ok m Q):∃ a b,x=.int a/\y=.int b/\Q m (.int (g a b)):=by
 unfold lj at h
 split at h
 ·exact ⟨_,_,rfl,rfl,h⟩
 ·exact h.elim
noncomputable def ju (C:Addr) (f:Str) (g:Int->Int->Int) (i j:List Sl->Tr PyData):List Sl->Tr Ou:=λρ=>(i ρ).bind λx=>(fM x (iG C f)).bind λv=>(j ρ).bind λy=>(lj g v y).bind λz=>(fM x (i5 C f z)).bind λ_=>.ret (.next ρ)
theorem lL {op:Operator} {g:Int->Int->Int} {rd:V->V->Hp->VK->Prop} (hop:qR X op rd) (hrd:∀ a b H Q,Q (.int (g a b)) H->rd (.int a) (.int b) H Q) (hc:Cls X.K C) (hn:NoAttr X.K C f) (ha:PE X o (TAe PK i)) (hv:PE X value (TAe PK j)):PS X (.AugAssign (.Attribute o f tpos) op value pos) (cr PK (ju C f g i j)):=(Zh4 ha hv hop).imp λD σ H hz0=>by
 obtain ⟨pa,G₀,H₀,m,ρ,G,R,z⟩:=hz0
 refine TAe.then R z λm1 x v G1 H1 s1 w1 R1 d1 q1=>?_
 obtain ⟨a,s,y,ha,hg,k⟩:=gK (Tr.ok_bind.mp q1)
 obtain ⟨rfl,rfl⟩:=iA d1 ha
 obtain ⟨rfl,fs,e1,e2⟩:=ZbW hg
 obtain ⟨dx,vs,e3,e4⟩:=w1.sto.cel a _ e1
 obtain ⟨u,e5,e6⟩:=e4.lookup e2
 refine ⟨a,C,dx,vs,u,rfl,e3,hc,hn,e5,?_⟩
 refine TAe.then R1 k λm2 y2 u2 G2 H2 s2 w2 R2 d2 q2=>?_
 obtain ⟨x1,x2,rfl,rfl,q2⟩:=Zj9 (Tr.ok_bind.mp q2)
 cases e6
 cases d2
 refine hrd _ _ _ _ ?_
 obtain ⟨a',s',y',ha',hg',k'⟩:=gK (Tr.ok_bind.mp q2)
 rw [ha] at ha'
 cases ha'
 obtain ⟨fs',f1,hl,rfl⟩:=Zah hg'
 obtain ⟨dx',vs',f3,f4⟩:=w2.sto.cel a _ f1
 obtain ⟨w3,s3⟩:=nX w2 (c':=.ins C (gJ f (.int (g x1 x2)) fs')) (o':=.ins C dx' (eF f (.int (g x1 x2)) vs')) f1 rfl ⟨dx',_,cA,f4.put (.int _)⟩
 exact ⟨dx',vs',f3,by rw [f4.length]; exact hl,k' σ G2 _ (s1.gs.trans s2.gs) (R2.step s3 w3)⟩
theorem Zdy:∀ a b H Q,Q (.int (a+b)) H->Zck (.int a) (.int b) H Q:=λa b H Q q=>⟨a,b,rfl,rfl,q⟩
theorem pV:∀ a b H Q,Q (.int (a - b)) H->ZbY (.int a) (.int b) H Q:=λa b H Q q=>⟨a,b,rfl,rfl,q⟩
structure MDef (K:PySem.W.Frag) (C:Addr) (m qual:Str) (st:Stmt) (ps:List Str):Prop where
 ex:∃ f fd,Fun K m qual st f fd/\Meth K C m f/\Binds K fd ps []
structure MCal (PK:Pk) (P:Program) (w:World) (K:PySem.W.Frag) (mg:Str->Option Value) (base:Heap) (C:Addr) (m:Str) (k:Nat) (ps:List Str) (f:List Sl->Tr Re):Prop where
 ex:∃ g fd,FnOk P w K mg base fZ k g fd ps (lR PK ps.length f)/\Meth K C m g/\Binds K fd ps []
 len:∀ as m Z,(f as).ok m Z->as.length=ps.length
theorem ZdG {P:Program} {w:World} {K:PySem.W.Frag} {mg:Str->Option Value} {base:Heap} {x qual:Str} {N ps:List Str} {kk k:Nat} {g:Addr} {fd:FuncData} {s:List Sl->Tr Ou} (D:Fun K x qual st g fd) (S:FnScope N ps (bM st)) (hk:N.length - ps.length=k)
  (hbody:∀ (f:Addr) (cdv:Value) (A:Around) (outer:List Env) (sh:Shared) (H:Hp) (E:XK),Room kk (A.deeper (envOfC qual (bM st) sh.heap.objs.size f cdv)) ->
   PSs (fG fZ P w K mg base N qual (bM st) f cdv A outer sh H E).nox (fF st) (cr PK s)):FnOk P w K mg base fZ (kk+1) g fd ps (lR PK ps.length (cg ps.length k s)):=by
 refine D.ok S (λvs H Q E h=>h.1) λcdv A outer sh H vs Q E hr hsp=>?_
 obtain ⟨hv,pa,m,G,as,wd,ar,z⟩:=hsp
 refine ⟨_,hbody g cdv A outer sh H E hr,?_⟩
 unfold cg at z
 obtain ⟨_,z⟩:=fU z
 refine ⟨pa,G,H,m,_,G,Rl.start wd ar (by rw [hv]; exact hk),Tr.ok_mono (Tr.ok_bind.mp z) λm1 o ko=>?_⟩
 cases o with
 | next ρ=>exact λσ G1 H1 sb R1=>ko .non G1 H1 R1.st R1.wd .non
 | ret r=>exact ko
 | brk ρ=>exact ko.elim
 | cont ρ=>exact ko.elim
theorem Zfb {n k:Nat} {s:List Sl->Tr Ou} (as:List Sl) (m:Ms) (Z:Ms->Re->Prop) (h:(cg n k s as).ok m Z):as.length=n:=by
 unfold cg at h
 exact of_decide_eq_true (fU h).1
theorem kY {P:Program} {w:World} {K:PySem.W.Frag} {mg:Str->Option Value} {base:Heap} {x qual:Str} {N ps:List Str} {kk k:Nat} {s:List Sl->Tr Ou} (D:MDef K C x qual st ps) (S:FnScope N ps (bM st)) (hk:N.length - ps.length=k)
  (hbody:∀ (f:Addr) (cdv:Value) (A:Around) (outer:List Env) (sh:Shared) (H:Hp) (E:XK),Room kk (A.deeper (envOfC qual (bM st) sh.heap.objs.size f cdv)) ->
   PSs (fG fZ P w K mg base N qual (bM st) f cdv A outer sh H E).nox (fF st) (cr PK s)):MCal PK P w K mg base C x (kk+1) ps (cg ps.length k s):=by
 obtain ⟨g,fd,F,M,hb⟩:=D.ex
 exact ⟨⟨g,fd,ZdG F S hk hbody,M,hb⟩,Zfb⟩
noncomputable def fk (C:Addr) (m:Str) (f:List Sl->Tr Re) (i:List Sl->Tr PyData) (as:List Sl->Tr (List Sl)):List Sl->Tr Re:=λρ=>(i ρ).bind λx=>(fM x (hI C m)).bind λ_=>(as ρ).bind λys=>f (.d x::ys)
theorem Zc1 {m:Str} {g:List Sl->Tr Re} {ps:List Str} (len:∀ as m Z,(g as).ok m Z->as.length=ps.length):∀ σ H Q,lX PK (fk C m g i as) σ H Q->rF C m (lR PK ps.length g) [] E0 (TAe PK i) (TAa PK as) σ H Q:=by
 rintro σ H Q ⟨pa,G₀,H₀,ms,ρ,G,R,z⟩
 refine TAe.then R z λm1 x v G1 H1 s1 w1 R1 d1 q1=>?_
 obtain ⟨a,s,y,ha,hg,k⟩:=gK (Tr.ok_bind.mp q1)
 obtain ⟨rfl,rfl⟩:=iA d1 ha
 obtain ⟨rfl,fs,e1,e2⟩:=ZcZ hg
 obtain ⟨dx,vs,e3,e4⟩:=w1.sto.cel a _ e1
 refine ⟨a,dx,vs,rfl,e3,e4.nolook e2,?_⟩
 refine TAa.then R1 k λm2 xs us G2 H2 s2 w2 R2 d2 q2=>?_
 rw [List.append_nil]
 exact ⟨by rw [List.length_cons,d2.length,<- len _ _ _ q2]; rfl,pa,m2,G2,_,w2,.cons (.d (.hdl a)) d2,Tr.ok_mono q2 λm3 r k=>Kr.later k (s1.trans s2 w1.some) w2.some⟩
theorem uP {m:Str} {k:Nat} {ps:List Str} {g:List Sl->Tr Re} {pl:Sem Bool} (c:Cls X.K C) (M:MCal PK X.prog X.w X.K X.mg X.base C m k ps g) (hr:Room k X.A) (ho:PE X o (TAe PK i)) (ha:PA X (e::es) (TAa PK as))
  (hst:starEach (e::es) X.env=(false,eval e X.env)::starEach es X.env:=by rfl) (hpl:(backTo pos (starEach es X.env)).any (·.1)=false:=by rfl)
  (ht:eval (.Call (.Attribute o m apos) (e::es) [] pos) X.env=(do
   let ov <- eval o X.env
   standAt apos.atName
   let (f,first) <- holding [ov] (getMethod ov m pl)
   callWith pos f first (backTo pos (starEach (e::es) X.env)) (backToKw pos (keywordEach [] X.env))):=by rfl) :
  PE X (.Call (.Attribute o m apos) (e::es) [] pos) (lX PK (fk C m g i as)):=by
 obtain ⟨fa,fd,F,hm,hb⟩:=M.ex
 exact (Zip (pl:=pl) ho c hm F hr hb .nil oO ha hst hpl ht).imp (Zc1 M.len)
theorem hW {m:Str} {k:Nat} {ps:List Str} {g:List Sl->Tr Re} {pl:Sem Bool} (c:Cls X.K C) (M:MCal PK X.prog X.w X.K X.mg X.base C m k ps g) (hr:Room k X.A) (ho:PE X o (TAe PK i))
  (ht:eval (.Call (.Attribute o m apos) [] [] pos) X.env=(do
   let ov <- eval o X.env
   standAt apos.atName
   let (f,first) <- holding [ov] (getMethod ov m pl)
   callWith pos f first (backTo pos (starEach [] X.env)) (backToKw pos (keywordEach [] X.env))):=by rfl) :
  PE X (.Call (.Attribute o m apos) [] [] pos) (lX PK (fk C m g i bF)):=by
 obtain ⟨fa,fd,F,hm,hb⟩:=M.ex
 refine (Zio (pl:=pl) ho c hm F hr hb .nil oO ht).imp λσ H Q z=>?_
 obtain ⟨pa,G₀,H₀,ms,ρ,G,R,z1⟩:=Zc1 M.len σ H Q z
 refine ⟨pa,G₀,H₀,ms,ρ,G,R,Tr.ok_mono z1 λm1 x kn v G1 H1 s1 w1 d1=>?_⟩
 obtain ⟨a,dx,fs,h1,h2,h3,h4⟩:=kn v G1 H1 s1 w1 d1
 refine ⟨a,dx,fs,h1,h2,h3,?_⟩
 obtain ⟨pa',G₀',H₀',ms',ρ',G',R',z'⟩:=h4
 exact z' [] G' H1 .refl R'.wd .nil
structure KDef (K:PySem.W.Frag) (C:Addr) (qual:Str) (st:Stmt) (ps:List Str):Prop where
 ex:∃ f fd,Fun K "__init__" qual st f fd/\Mk K C f/\Binds K fd ps []
structure KCal (PK:Pk) (P:Program) (w:World) (K:PySem.W.Frag) (mg:Str->Option Value) (base:Heap) (C:Addr) (k:Nat) (ps:List Str) (f:List Sl->Tr Re):Prop where
 ex:∃ g fd,FnOk P w K mg base fZ k g fd ps (lR PK ps.length f)/\Mk K C g/\Binds K fd ps []
 len:∀ as m Z,(f as).ok m Z->as.length=ps.length
theorem ZjP {P:Program} {w:World} {K:PySem.W.Frag} {mg:Str->Option Value} {base:Heap} {qual:Str} {N ps:List Str} {kk k:Nat} {s:List Sl->Tr Ou} (D:KDef K C qual st ps) (S:FnScope N ps (bM st)) (hk:N.length - ps.length=k)
  (hbody:∀ (f:Addr) (cdv:Value) (A:Around) (outer:List Env) (sh:Shared) (H:Hp) (E:XK),Room kk (A.deeper (envOfC qual (bM st) sh.heap.objs.size f cdv)) ->
   PSs (fG fZ P w K mg base N qual (bM st) f cdv A outer sh H E).nox (fF st) (cr PK s)):KCal PK P w K mg base C (kk+1) ps (cg ps.length k s):=by
 obtain ⟨g,fd,F,M,hb⟩:=D.ex
 exact ⟨⟨g,fd,ZdG F S hk hbody,M,hb⟩,Zfb⟩
noncomputable def oa (a:Addr):Re->Tr PyData
 | .d .none=>.ret (ah a)
 | _=>.fail
theorem Zf2 {a:Addr} {r:Re} {m:Ms} {Q:Ms->PyData->Prop} (h:(oa a r).ok m Q):r=.d .none/\Q m (ah a):=by
 unfold oa at h
 split at h
 ·exact ⟨rfl,h⟩
 ·exact h.elim
noncomputable def qz (C:Addr) (f:List Sl->Tr Re) (as:List Sl->Tr (List Sl)):List Sl->Tr PyData:=λρ=>(as ρ).bind λys=>.new (.ins C []) λa=>(f (.d (ah a)::ys)).bind (oa a)
theorem Ze6 {x:Str} {k:Nat} {ps:List Str} {g:List Sl->Tr Re} (M:KCal PK X.prog X.w X.K X.mg X.base C k ps g) (hr:Room (k+1) X.A) (hg:Gl X x) (hm:X.mg x=some (.ref C)) (ha:PA X (e::es) (TAa PK as)) (hdb:(x == ("__debug__":Str))=false:=by decide)
  (he:starEach (e::es) X.env=(false,eval e X.env)::starEach es X.env:=by rfl) (hpl:(backTo pos (starEach es X.env)).any (·.1)=false:=by rfl) :
  PE X (.Call (.Name x p) (e::es) [] pos) (TAe PK (qz C g as)):=by
 obtain ⟨fa,fd,F,hM,hb⟩:=M.ex
 refine (Ziq hM F hr hg hm hb .nil oO ha hdb he hpl).imp λσ H Q hz0=>?_
 obtain ⟨pa,G₀,H₀,m,ρ,G,R,z⟩:=hz0
 refine TAa.then R z λm1 xs vs G1 H1 s1 w1 R1 d1 q1=>λa dx ha hdx hne=>?_
 have q2:=Tr.ok_bind.mp (q1 a (Zak w1 ha))
 obtain ⟨w2,s2⟩:=w1.own (o:=.own a) hdx
 have ha2:upd H1 dx (.own a) a=none:=by rw [bG (Ne.symm hne)]; exact ha
 obtain ⟨w3,s3⟩:=Zaj w2 (c':=.ins C []) (o':=.ins C dx []) ha2 ⟨dx,[],cA,.nil⟩
 rw [List.append_nil]
 refine ⟨by rw [List.length_cons,d1.length,<- M.len _ _ _ q2]; rfl,pa,_,G1,_,w3,.cons (.d (.hdl a)) (d1.mono s3.gs),Tr.ok_mono q2 λm3 r k=>?_⟩
 obtain ⟨rfl,k⟩:=Zf2 k
 intro v G4 H4 s4 w4 d4
 have d4:Dn G4 v .none:=d4
 cases d4
 exact ⟨rfl,k (.ref a) G4 H4 (s1.trans ((s2.trans s3 w2.some).trans s4 w3.some) w1.some) w4 (.hdl a)⟩
end
variable {X:Cx} {i j:List Sl->Tr PyData} {ρ:List Sl}
variable {X:Cx} {i j:List Sl->Tr PyData} {ρ:List Sl}
noncomputable def rdK (k:Str) (a:Addr) (st:Sto):Option (Sto×PyData):=match st.get a with
 | some (.dct kvs)=>(kvs.lookup k).map λx=>(st,x)
 | _=>none
section
variable {PK:Pk} {X:Cx} {k:Str} {o e value:Expr} {es:List Expr} {pos pos' p:Pos} {i j:List Sl->Tr PyData} {is:List Sl->Tr (List PyData)} {st:Stmt}
noncomputable def nM (is:List Sl->Tr (List PyData)):List Sl->Tr PyData:=λρ=>(is ρ).bind λxs=>if small xs.length=true then .new (.lst xs) λa=>.ret (ah a) else .fail
theorem uY (h:PA X es (TAd PK is)):PE X (.List es pos) (TAe PK (nM is)):=(oN h).cvR.imp λσ H Q hz0=>by
 obtain ⟨pa,G₀,H₀,m,ρ,G,R,z⟩:=hz0
 refine TAd.then R z λm1 xs vs G1 H1 s1 w1 R1 d1 q1=>?_
 obtain ⟨hs,q1⟩:=fU q1
 refine ⟨by rw [d1.length]; exact of_decide_eq_true hs,λp hp=>⟨_,Cv.shut cA rfl,?_⟩⟩
 rw [l7]
 obtain ⟨w2,s2⟩:=Zaj w1 (c':=.lst xs) (o':=.chg (.lst vs)) hp ⟨vs,cA,d1⟩
 exact q1 p (Zak w1 hp) (.ref p) G1 _ (s1.trans s2 w1.some) w2 (.hdl p)
noncomputable def jI (a:Addr) (st:Sto):Option (Sto×PyData):=match st.get a with
 | some (.lst xs)=>some (st,.list xs)
 | _=>none
theorem ZhG {a:Addr} {st s:Sto} {y:PyData} (h:jI a st=some (s,y)):s=st/\∃ xs,st.get a=some (.lst xs)/\y=.list xs:=by
 unfold jI at h
 split at h
 ·rename_i xs e
  cases h
  exact ⟨rfl,xs,e,rfl⟩
 ·cases h
noncomputable def f9 (a:Addr) (st:Sto):Option (Sto×PyData):=match st.get a with
 | some (.lst xs)=>some (st,.int xs.length)
 | _=>none
theorem tH {a:Addr} {st s:Sto} {y:PyData} (h:f9 a st=some (s,y)):s=st/\∃ xs,st.get a=some (.lst xs)/\y=.int xs.length:=by
 unfold f9 at h
 split at h
 ·rename_i xs e
  cases h
  exact ⟨rfl,xs,e,rfl⟩
 ·cases h
noncomputable def j7 (y:PyData) (a:Addr) (st:Sto):Option (Sto×PyData):=match st.get a with
 | some (.lst xs)=>if small (xs.length+1)=true then some (st.put a (.lst (xs++[y])),.none) else none
 | _=>none
theorem Zo9 {a:Addr} {st s:Sto} {x y:PyData} (h:j7 x a st=some (s,y)):∃ xs,st.get a=some (.lst xs)/\xs.length < sizeLine/\s=st.put a (.lst (xs++[x]))/\y=.none:=by
 unfold j7 at h
 split at h
 ·rename_i xs e
  split at h
  ·rename_i hs
   cases h
   exact ⟨xs,e,of_decide_eq_true hs,rfl,rfl⟩
  ·cases h
 ·cases h
noncomputable def kL (a:Addr) (st:Sto):Option (Sto×PyData):=match st.get a with
 | some (.lst xs)=>(xs[xs.length - 1]?).map λy=>(st.put a (.lst xs.dropLast),y)
 | _=>none
theorem Zh7 {a:Addr} {st s:Sto} {y:PyData} (h:kL a st=some (s,y)):∃ xs,st.get a=some (.lst xs)/\xs[xs.length - 1]?=some y/\s=st.put a (.lst xs.dropLast):=by
 unfold kL at h
 split at h
 ·rename_i xs e
  cases e2:xs[xs.length - 1]? with
  | none=>rw [e2] at h; cases h
  | some z =>
   rw [e2] at h
   cases h
   exact ⟨xs,e,e2,rfl⟩
 ·cases h
theorem DnAll.dropLast {G:Hp}:∀ {vs:List V} {ds:List PyData},DnAll G vs ds->DnAll G vs.dropLast ds.dropLast
 | _,_,.nil=>.nil
 | _,_,.cons h .nil=>.nil
 | _,_,.cons h (.cons h2 t)=>.cons h (DnAll.dropLast (.cons h2 t))
noncomputable def lV (i j:List Sl->Tr PyData):List Sl->Tr PyData:=λρ=>(i ρ).bind λx=>(fM x f9).bind λ_=>(j ρ).bind λy=>fM x (j7 y)
theorem u4 {K:PySem.W.Frag} (h:PE X e (oj K "list" (λx vs H Q=>∃ H1,Cv H H1/\sF x vs H1 λv H2=>∃ H3,Cv H2 H3/\Q v H3) (TAe PK i) (fg (TAe PK j) cw))):PE X e (TAe PK (lV i j)):=h.imp λσ H Q hz0=>by
 obtain ⟨pa,G₀,H₀,m,ρ,G,R,z⟩:=hz0
 refine TAe.then R z λm1 x v G1 H1 s1 w1 R1 d1 q1=>?_
 obtain ⟨a,s,y,ha,hg,q1⟩:=gK (Tr.ok_bind.mp q1)
 obtain ⟨rfl,rfl⟩:=iA d1 ha
 obtain ⟨rfl,xs,e1,_⟩:=tH hg
 obtain ⟨vs,e3,e4⟩:=w1.sto.cel a _ e1
 refine ⟨.inl ⟨rfl,_,.inl (.inr (.inr e3))⟩,?_⟩
 refine TAe.then R1 q1 λm2 y u G2 H2 s2 w2 R2 d2 q2=>?_
 obtain ⟨a',s',y',ha',hg',k⟩:=gK q2
 rw [ha] at ha'; cases ha'
 obtain ⟨ys,f1,hl,rfl,rfl⟩:=Zo9 hg'
 obtain ⟨us,f3,f4⟩:=w2.sto.cel a _ f1
 obtain ⟨w3,s3⟩:=nX w2 (c':=.lst (ys++[y])) (o':=.chg (.lst (us++[u]))) f1 rfl ⟨_,cA,f4.snoc d2⟩
 refine ⟨_,Cv.opn f3,a,us,u,rfl,rfl,cA,by rw [f4.length]; exact hl,_,Cv.shut cA rfl,?_⟩
 rw [l7,l7]
 exact k .non G2 _ ((s1.trans s2 w1.some).trans s3 w2.some) w3 .non
noncomputable def nL (i:List Sl->Tr PyData):List Sl->Tr PyData:=λρ=>(i ρ).bind λx=>fM x kL
theorem uX {K:PySem.W.Frag} (h:PE X e (ZaF K "list" (λx vs H Q=>∃ H1,Cv H H1/\Zb4 x vs H1 λv H2=>∃ H3,Cv H2 H3/\Q v H3) (TAe PK i))):PE X e (TAe PK (nL i)):=h.imp λσ H Q hz0=>by
 obtain ⟨pa,G₀,H₀,m,ρ,G,R,z⟩:=hz0
 refine TAe.then R z λm1 x v G1 H1 s1 w1 R1 d1 q1=>?_
 obtain ⟨a,s,y,ha,hg,k⟩:=gK q1
 obtain ⟨rfl,rfl⟩:=iA d1 ha
 obtain ⟨xs,e1,e2,rfl⟩:=Zh7 hg
 obtain ⟨vs,e3,e4⟩:=w1.sto.cel a _ e1
 obtain ⟨u,hu,du⟩:=e4.get _ e2
 obtain ⟨w3,s3⟩:=nX w1 (c':=.lst xs.dropLast) (o':=.chg (.lst vs.dropLast)) e1 rfl ⟨_,cA,e4.dropLast⟩
 refine ⟨.inl ⟨rfl,_,.inl (.inr (.inr e3))⟩,_,Cv.opn e3,a,vs,u,rfl,rfl,cA,by rw [e4.length]; exact hu,_,Cv.shut cA rfl,?_⟩
 rw [l7,l7]
 exact k u G1 _ (s1.trans s3 w1.some) w3 du
noncomputable def kQ:PyData->Tr Bool
 | .int n=>.ret (n != 0)
 | _=>.fail
theorem ZiX {x:PyData} {m:Ms} {Q:Ms->Bool->Prop} (h:(kQ x).ok m Q):∃ n,x=.int n/\Q m (n != 0):=by
 unfold kQ at h
 split at h
 ·exact ⟨_,rfl,h⟩
 ·exact h.elim
noncomputable def qu (i:List Sl->Tr PyData):List Sl->Tr Bool:=λρ=>(i ρ).bind λx=>(fM x f9).bind kQ
theorem Zc8 {α:Type} (xs:List α):(((xs.length:Nat):Int) != 0)=!xs.isEmpty:=by
 cases xs with
 | nil=>rfl
 | cons a r =>
  show (((r.length+1:Nat):Int) != 0)=true
  rw [bne_iff_ne]
  omega
theorem ZeQ (h:PE X e (TAe PK i)) (he:∀ whole,isTrue e X.env whole=(do let v <- whole; standAt e.pos; holding [v] (truthy v)):=by intro _; rfl):PT X e (TAt PK (qu i)):=(Zcr h he).imp λσ H Q hz0=>by
 obtain ⟨pa,G₀,H₀,m,ρ,G,R,q⟩:=hz0
 refine TAe.then R q λm1 x v G1 H1 s1 w1 R1 d1 q1=>?_
 obtain ⟨a,s,y,ha,hg,k⟩:=gK (Tr.ok_bind.mp q1)
 obtain ⟨rfl,rfl⟩:=iA d1 ha
 obtain ⟨rfl,xs,e1,rfl⟩:=tH hg
 obtain ⟨vs,e3,e4⟩:=w1.sto.cel a _ e1
 obtain ⟨n,hn,k⟩:=ZiX k
 cases hn
 rw [Zc8,<- e4.isEmpty] at k
 exact ⟨_,.inl ⟨_,.inl (.inr (.inr e3)),rfl⟩,k G1 H1 s1 w1⟩
noncomputable def sE (K:PySem.W.Frag) (neg:Bool):R2:=λx y H Q=>∃ p q xs,x=.ref p/\y=.ref q/\SqL K H p xs/\SqL K H q []/\Q (.bl (if neg then !xs.isEmpty else xs.isEmpty)) H
theorem ZiF {k:Nat} (hr:Room k X.A):OpR X (compareOp .NotEq) (sE X.K true):=by
 intro pins s σ H x y v u Q I rx ry h
 obtain ⟨p,q,xs,rfl,rfl,h1,h2,z⟩:=h
 cases rx
 cases ry
 obtain ⟨its,r,pl,hz⟩:=I.list h1
 obtain ⟨its2,r2,pl2,hz2⟩:=I.list h2
 have hu:X.A.units < cLine:=by have:=hr.un; omega
 cases r2
 cases r with
 | nil=>exact SeqAt.RcNeAt.lists (e:=λ_=>true) pl.isList pl2.isList rfl hu (λj h1=>absurd h1 (by simp)) X.prog X.w X.xe _ ⟨.bl _,H,I,rfl,z⟩
 | cons a b=>exact SeqAt.RcNeAt.lists_lengths pl.isList pl2.isList (by simp) hu X.prog X.w X.xe _ ⟨.bl _,H,I,rfl,z⟩
noncomputable def jY (neg:Bool):PyData->Tr PyData
 | .int n=>.ret (.bool (if neg then n != 0 else !(n != 0)))
 | _=>.fail
theorem Znf {neg:Bool} {x:PyData} {m:Ms} {Q:Ms->PyData->Prop} (h:(jY neg x).ok m Q):∃ n,x=.int n/\Q m (.bool (if neg then n != 0 else !(n != 0))):=by
 unfold jY at h
 split at h
 ·exact ⟨_,rfl,h⟩
 ·exact h.elim
noncomputable def uj (neg:Bool) (x:PyData):PyData->Tr PyData
 | .list []=>(fM x f9).bind (jY neg)
 | _=>.fail
theorem Znb {neg:Bool} {x y:PyData} {m:Ms} {Q:Ms->PyData->Prop} (h:(uj neg x y).ok m Q):y=.list []/\((fM x f9).bind (jY neg)).ok m Q:=by
 unfold uj at h
 split at h
 ·exact ⟨rfl,h⟩
 ·exact h.elim
noncomputable def qD (neg:Bool) (i j:List Sl->Tr PyData):List Sl->Tr PyData:=λρ=>(i ρ).bind λx=>(j ρ).bind (uj neg x)
theorem Zna {neg:Bool}:∀ σ H Q,TAe PK (qD neg i j) σ H Q->jB (sE X.K neg) (TAe PK i) (TAe PK j) σ H Q:=by
 rintro σ H Q ⟨pa,G₀,H₀,m,ρ,G,R,q⟩
 refine TAe.then R q λm1 x v G1 H1 s1 w1 R1 d1 q1=>?_
 refine TAe.then R1 q1 λm2 y u G2 H2 s2 w2 R2 d2 q2=>?_
 obtain ⟨rfl,q2⟩:=Znb q2
 obtain ⟨a,s,y,ha,hg,k⟩:=gK (Tr.ok_bind.mp q2)
 obtain ⟨rfl,rfl⟩:=iA d1 ha
 obtain ⟨rfl,xs,e1,rfl⟩:=tH hg
 obtain ⟨vs,e3,e4⟩:=w2.sto.cel a _ e1
 obtain ⟨n,hn,k⟩:=Znf k
 cases hn
 cases d2 with
 | lst f1 f2 =>
  cases f2
  refine ⟨a,_,vs,rfl,rfl,.inl (.inr (.inr e3)),SqL.of (w2.sub _ _ f1),?_⟩
  rw [Zc8,Bool.not_not,<- e4.isEmpty] at k
  exact (Kn.later k (s1.trans s2 w1.some) w2.some).here w2 (.bl _)
theorem Zo0 {op:CmpOp} {a b:Expr} {neg:Bool} (hop:OpR X (compareOp op) (sE X.K neg)) (ha:PE X a (TAe PK i)) (hb:PE X b (TAe PK j)) (hm:behindInMarks op b=false):PT X (.Compare a [op] [b] pos) (TAt PK (cH (qD neg i j))):=(kK hop ha hb hm).imp λσ H Q z=>ZaB Zna σ H Q (Zfa σ H Q z)
end
noncomputable def stil {α:Type}:Tr α->Tr α
 | .ret a=>.ret a
 | .draw n k=>.draw n λr=>stil (k r)
 | .fail=>.fail
 | .op _ _=>.fail
 | .new _ _=>.fail
theorem ZaJ {α:Type}:∀ {t:Tr α} {m:Ms} {Q:Ms->α->Prop},(stil t).ok m Q->t.ok m λm' a=>m'.st=m.st/\Q m' a
 | .ret a,m,Q,h=>⟨rfl,h⟩
 | .draw n k,m,Q,⟨h1,h2,h3,h⟩=>⟨h1,h2,h3,λr a b=>ZaJ (m:=m.up) (h r a b)⟩
 | .fail,m,Q,h=>h
 | .op _ _,m,Q,h=>h.elim
 | .new _ _,m,Q,h=>h.elim
theorem Zgv {α:Type} (a:α):stil (.ret a)=.ret a:=rfl
noncomputable def Zfh (PK:Pk) (pa:Addr) (J:It) (G:Hp) (st:Sto) (xs:List PyData):Prop:=∀ m G2 H2,Sub G G2->Wd PK pa m G2 H2->m.st=st ->
 (∀ (n:Nat) (d:PyData),xs[n]?=some d->J.go n H2/\∀ x H3,J.yld n H2 x H3->∃ G3,Stp pa G2 H2 G3 H3/\Wd PK pa m G3 H3/\Dn G3 x d)/\J.stop xs.length H2
noncomputable def vg (PK:Pk) (is:List Sl->Tr (List PyData)):TI:=λσ H R=>∃ pa G₀ H₀ m ρ G,Rl PK pa G₀ H₀ m σ ρ G H/\(is ρ).ok m λm' xs=>∀ J G' H',Stp pa G H G' H'->Wd PK pa m' G' H'->Zfh PK pa J G' m'.st xs->R J H'
noncomputable def pP (x:PyData):Tr (List PyData):=Tr.of (fN x)
noncomputable def va (i:List Sl->Tr PyData):List Sl->Tr (List PyData):=λρ=>(i ρ).bind λx=>(fM x jI).bind pP
section
variable {PK:Pk} {X:Cx} {e:Expr} {i:List Sl->Tr PyData} {is:List Sl->Tr (List PyData)} {st:Stmt}
theorem Zph {tg l:Expr} (hl:PE X l (TAe PK i)):PI X tg l (vg PK (va i)):=(Zid hl).imp λσ H R0 hz0=>by
 obtain ⟨pa,G₀,H₀,m,ρ,G,R,z⟩:=hz0
 refine TAe.then R z λm1 x v G1 H1 s1 w1 R1 d1 q1=>?_
 obtain ⟨a,s,y,ha,hg,k⟩:=gK (Tr.ok_bind.mp q1)
 obtain ⟨rfl,rfl⟩:=iA d1 ha
 obtain ⟨rfl,xs,e1,rfl⟩:=ZhG hg
 have k:∀ J G' H',Stp pa G H G' H'->Wd PK pa m1 G' H'->Zfh PK pa J G' m1.st xs->R0 J H':=k
 obtain ⟨vs,e3,e4⟩:=w1.sto.cel a _ e1
 refine ⟨a,rfl,⟨vs,.inl (.inr (.inr e3))⟩,k _ G1 H1 s1 w1 λm2 G2 H2 sb w2 es=>?_⟩
 obtain ⟨us,f3,f4⟩:=w2.sto.cel a (.lst xs) (by rw [es]; exact e1)
 have hq:SqL X.K H2 a us:=.inl (.inr (.inr f3))
 refine ⟨λn x hx=>?_,us,hq,by rw [f4.length]; exact Nat.le_refl _⟩
 obtain ⟨v,hv,dv⟩:=f4.get n hx
 refine ⟨⟨us,v,hq,hv⟩,λy H3 hz0=>?_⟩
 obtain ⟨e,hy⟩:=hz0
 subst e
 have:=hy us hq
 rw [hv] at this
 cases this
 exact ⟨G2,.refl,w2,dv⟩
noncomputable def qB (is:List Sl->Tr (List PyData)) (n:Nat) (ix:List Nat) (g:PyData->List Sl->Option (List Sl)) (el:List Sl->Tr PyData):List Sl->Tr (List PyData):=λρ =>
 (is ρ).bind λxs=>if small xs.length=true then c8 (λx=>stil ((Tr.of (g x (blk n ix ρ))).bind el)) xs else .fail
theorem ZjC {n:Nat} {ix:List Nat} {g:PyData->List Sl->Option (List Sl)} (hn:iD n g):∀ σ H Q,gC PK (qB is n ix g i) σ H Q->jC (vg PK is) n ix (λ_=>gP PK g) (λ_=>TAe PK i) σ H Q:=by
 rintro σ H Q ⟨pa,G₀,H₀,m,ρ,G,R,z⟩
 refine ⟨pa,G₀,H₀,m,ρ,G,R,Tr.ok_mono (Tr.ok_bind.mp z) λm1 xs k J G1 H1 s1 w1 jo=>λB=>?_⟩
 obtain ⟨hs,k⟩:=fU k
 have hs:xs.length<=sizeLine:=of_decide_eq_true hs
 let el:PyData->Tr PyData:=λx=>stil ((Tr.of (g x (blk n ix ρ))).bind i)
 let W:Nat->Nat->St->List V->Hp->Prop:=λk mm τ ys H2=>mm=xs.length - k/\k<=xs.length/\ys.length=k/\∃ m G2 ds,Sub G1 G2/\m.st=m1.st/\Stp pa G H G2 H2/\Rl PK pa G₀ H₀ m τ (blk n ix ρ) G2 H2 /\
  DnAll G2 ys ds/\(c8 el (xs.drop k)).ok m λm' zs=>Ko1 PK pa m' G H (ds++zs) Q
 refine ⟨W,⟨xs.length,rfl,Nat.zero_le _,rfl,m1,G1,[],.refl,rfl,s1,(R.step s1 w1).blk n ix,.nil,k⟩,?_⟩
 rintro k mm τ ys H2 ⟨rfl,hk,hy,m2,G2,ds,sb,es,st2,R2,dn,k2⟩
 obtain ⟨j1,j2⟩:=jo m2 G2 H2 sb R2.wd es
 by_cases hlt:k < xs.length
 ·have hx:xs[k]?=some xs[k]:=by simp [hlt]
  obtain ⟨jg,jy⟩:=j1 k _ hx
  refine .inr ⟨jg,by omega,λx H3 y=>?_⟩
  obtain ⟨G3,s3,w3,d3⟩:=jy x H3 y
  rw [List.drop_eq_getElem_cons hlt] at k2
  unfold c8 at k2
  rw [Tr.ok_bind] at k2
  replace k2:=Tr.ok_bind.mp (ZaJ k2)
  obtain ⟨ρ3,hg3,k3⟩:=Tr.ok_of k2
  refine ⟨pa,G₀,H₀,m2,_,G3,_,ρ3,R2.step s3 w3,d3,hg3,λτ4 R4=>?_⟩
  refine ⟨pa,G₀,H₀,m2,ρ3,G3,R4,Tr.ok_mono k3 λm5 yd k5=>?_⟩
  obtain ⟨es5,k5⟩:=k5
  intro v G5 H5 s5 w5 d5
  have s35:=s3.trans s5 w3.some
  obtain ⟨pl,pk⟩:=hn _ _ _ hg3
  refine ⟨xs.length - (k+1),by omega,rfl,hlt,by rw [List.length_append,hy]; rfl,m5,G5,ds++[yd],sb.trans s35.gs,es5.trans es,st2.trans s35 R2.wd.some,?_,(DnAll.mono s35.gs dn).snoc d5,?_⟩
  ·refine (R4.step s5 w5).weak pl λq sl hq=>?_
   by_cases hqn:q < n
   ·left
    unfold blk at hq
    rw [List.getElem?_append_left (by simpa using hqn),List.getElem?_replicate,if_pos hqn] at hq
    cases hq
    rfl
   ·right
    rw [pk q (Nat.le_of_not_lt hqn)]
    exact hq
  ·refine Tr.ok_mono (Tr.ok_bind.mp k5) λm6 zs k6=>?_
   rw [List.append_assoc]
   exact k6
 ·have e:k=xs.length:=by omega
  subst e
  refine .inl ⟨j2,λp v H' hp ev eH=>?_⟩
  subst ev eH
  rw [List.drop_length] at k2
  have k2':Ko1 PK pa m2 G H (ds++[]) Q:=k2
  rw [List.append_nil] at k2'
  exact (Ko1.later k2' st2 R2.wd.some).new R2.wd dn hp
theorem Zpc {n:Nat} {ix:List Nat} {g:PyData->List Sl->Option (List Sl)} (h:PE X e (jC (vg PK is) n ix (λ_=>gP PK g) (λ_=>TAe PK i))) (hn:iD n g):PE X e (gC PK (qB is n ix g i)):=h.imp (ZjC hn)
end
section
variable {prog:Program} {w:World} {A:Around} {R:Result->Shared->Prop} {s:Shared}
end
section
variable {CX:gQ} {P:Program} {w:World} {K:PySem.W.Frag} {mg:Str->Option Value} {base:Heap} {N:List Str} {scope:Scope} {cl:List (Str×Addr)} {q:Str} {f:Addr} {cd:Value} {A:Around} {outer:List Env} {s:Shared} {H:Hp} {E:XK} {σ:St}
end
structure CodK (K:PySem.W.Frag) (c P:Addr):Prop where
 ex:∃ o vs file tf flags tg inF text tt,K.lookup c=some o/\o.cls=.type "code"/\o.data=.fields vs/\vs[11]?=some (.ref P)/\vs.getD 18 .none=.str file tf/\vs.getD 7 .none=.int flags tg/\vs.getD 9 .none=.bool inF/\vs.getD 10 .none=.int text tt
 ne:c≠P
structure BltK (h:Heap) (mg:Str->Option Value):Prop where
 ex:∃ bm o,mg "__builtins__"=some (.ref bm)/\bm≠builtinsNs/\h.get? bm=some o/\o.cls=.type "module"/\o.dict=some builtinsNs/\o.data=.plain
section
variable {X:Cx} {pins:List (Addr×Obj)} {σ:St} {H:Hp} {s:Shared}
end
section
variable {X:Cx}
end
section
variable {P:Program} {w:World} {K:PySem.W.Frag} {mg:Str->Option Value} {base:Heap} {A:Around} {outer:List Env} {s s':Shared} {H H':Hp} {cs:List Addr} {h h':Heap}
end
section
variable {P:Program} {w:World} {K:PySem.W.Frag} {mg:Str->Option Value} {base:Heap}
end
section
variable {X:Cx} {pins:List (Addr×Obj)} {σ:St} {H:Hp} {s:Shared}
end
section
variable {X:Cx} {pins:List (Addr×Obj)} {σ:St} {H:Hp} {s:Shared}
end
section
variable {X:Cx} {pins:List (Addr×Obj)} {σ:St} {H:Hp} {s:Shared}
end
noncomputable def vj (PK:Pk) (pa:Addr) (m:Ms) (G H:Hp) (C:Addr) (E:XK):Prop:=∀ G' H',Stp pa G H G' H'->Wd PK pa m G' H'->E (.ref C) none H'
noncomputable def KrX (PK:Pk) (pa:Addr) (m:Ms) (G H:Hp) (C:Addr) (E:XK) (Q:VK):Option Re->Prop
 | some x=>Kr PK pa m G H x Q
 | none=>vj PK pa m G H C E
noncomputable def KoX (PK:Pk) (pa:Addr) (G₀ H₀ Gs:Hp) (D:Ends) (C:Addr) (E:XK) (m:Ms):Option Ou->Prop
 | some o=>Ko PK pa G₀ H₀ Gs D m o
 | none=>vj PK pa m G₀ H₀ C E
noncomputable def fY (PK:Pk) (C:Addr) (E:XK) (i:List Sl->Tr (Option Ou)):TS:=λD σ H=>∃ pa G₀ H₀ m ρ G,Rl PK pa G₀ H₀ m σ ρ G H/\(i ρ).ok m λm' o=>KoX PK pa G₀ H₀ G D C E m' o
noncomputable def Zpo (PK:Pk) (n:Nat) (C:Addr) (f:List Sl->Tr (Option Re)):Sp:=λvs H Q E=>vs.length=n/\∃ pa m G as,Wd PK pa m G H/\ArsOk pa G vs as/\(f as).ok m λm' o=>KrX PK pa m' G H C E Q o
section
variable {PK:Pk} {X:Cx} {C:Addr} {E:XK} {e:Expr} {es:List Expr} {pos:Pos} {i:List Sl->Tr PyData} {j:List Sl->Tr (Option PyData)} {as:List Sl->Tr (List Sl)} {st:Stmt} {sts:List Stmt} {s:List Sl->Tr Ou} {u v:List Sl->Tr (Option Ou)}
noncomputable def kv (s:List Sl->Tr Ou):List Sl->Tr (Option Ou):=λρ=>(s ρ).bind λx=>.ret (some x)
theorem Zfr (h:PS X st (cr PK s)):PS X st (fY PK C E (kv s)):=h.imp λD σ H ⟨pa,G₀,H₀,m,ρ,G,R,z⟩=>⟨pa,G₀,H₀,m,ρ,G,R,Tr.ok_mono (Tr.ok_bind.mp z) λ_ _ k=>k⟩
theorem Zab (h:PSs X sts (cr PK s)):PSs X sts (fY PK C E (kv s)):=h.imp λD σ H ⟨pa,G₀,H₀,m,ρ,G,R,z⟩=>⟨pa,G₀,H₀,m,ρ,G,R,Tr.ok_mono (Tr.ok_bind.mp z) λ_ _ k=>k⟩
noncomputable def q9 (p:List Sl->Tr Bool) (u v:List Sl->Tr (Option Ou)):List Sl->Tr (Option Ou):=λρ=>(p ρ).bind λb=>if b=true then u ρ else v ρ
theorem KoX.later {pa:Addr} {G₀ H₀ G G1:Hp} {D:Ends} {m:Ms} {o:Option Ou} (k:KoX PK pa G₀ H₀ G D C E m o) (sb:Sub G G1):KoX PK pa G₀ H₀ G1 D C E m o:=by
 cases o with
 | none=>exact k
 | some o=>exact Ko.later k sb
theorem Zfs {c:Expr} {p:List Sl->Tr Bool} {xs ys:List Stmt} (hc:PT X c (TAt PK p)) (ha:PSs X xs (fY PK C E u)) (hb:PSs X ys (fY PK C E v)):PS X (.If c xs ys pos) (fY PK C E (q9 p u v)):=(mG hc ha hb).imp λD σ H hz0=>by
 obtain ⟨pa,G₀,H₀,m,ρ,G,R,z⟩:=hz0
 refine TAt.then R z λm1 x G1 H1 s1 w1 R1 q1=>?_
 cases x with
 | true=>rw [if_pos rfl] at q1 ⊢; exact ⟨pa,G₀,H₀,m1,ρ,G1,R1,Tr.ok_mono q1 λ_ _ k'=>KoX.later k' s1.gs⟩
 | false=>rw [if_neg Bool.false_ne_true] at q1 ⊢; exact ⟨pa,G₀,H₀,m1,ρ,G1,R1,Tr.ok_mono q1 λ_ _ k'=>KoX.later k' s1.gs⟩
noncomputable def qZ:List Sl->Tr (Option Ou):=λ_=>.ret none
theorem Zfq (h:PS X st (λ_ _ H=>E (.ref C) none H)):PS X st (fY PK C E qZ):=h.imp λD σ H ⟨pa,G₀,H₀,m,ρ,G,R,z⟩=>(show vj PK pa m G₀ H₀ C E from z) G H R.st R.wd
noncomputable def ky (u v:List Sl->Tr (Option Ou)):List Sl->Tr (Option Ou):=λρ=>(u ρ).bind λo=>match o with
 | some (.next ρ')=>v ρ'
 | o=>.ret o
theorem Zfx:∀ D σ H,fY PK C E (ky u v) D σ H->rE (fY PK C E u) (fY PK C E v) D σ H:=by
 rintro D σ H ⟨pa,G₀,H₀,m,ρ,G,R,z⟩
 refine ⟨pa,G₀,H₀,m,ρ,G,R,Tr.ok_mono (Tr.ok_bind.mp z) λm1 o k=>?_⟩
 cases o with
 | none=>exact k
 | some o =>
  cases o with
  | next ρ'=>exact λσ' G' H' sb R'=>⟨pa,G₀,H₀,m1,ρ',G',R',Tr.ok_mono k λ_ _ k'=>KoX.later k' sb⟩
  | ret r=>exact k
  | brk ρ'=>exact k
  | cont ρ'=>exact k
theorem Zac (h1:PS X st (fY PK C E u)) (h2:PSs X sts (fY PK C E v)):PSs X (st::sts) (fY PK C E (ky u v)):=(f7 h1 h2).imp Zfx
theorem Zfp (h1:PS X st (fY PK C E u)):PSs X [st] (fY PK C E u):=jJ h1
noncomputable def uf:Option Ou->Tr (Option Re)
 | none=>.ret none
 | some o=>(nk o).bind λr=>.ret (some r)
noncomputable def kh (n k:Nat) (u:List Sl->Tr (Option Ou)):List Sl->Tr (Option Re):=λas=>if decide (as.length=n)=true then (u (as++List.replicate k .un)).bind uf else .fail
end
section
variable {PK:Pk} {X:Cx} {C:Addr} {E:XK} {e:Expr} {es:List Expr} {pos:Pos} {is:List Sl->Tr (List PyData)} {i j:List Sl->Tr (Option PyData)} {os:List Sl->Tr (Option (List PyData))}
end
end L2
namespace PySem
open Sem (wp)
section
variable {prog:Program} {w:World} {A:Around} {E:Value->Shared->Prop} {s:Shared} {a:Addr} {o:Obj} {xs:Array Value} {k:Nat}
end
section
variable {prog:Program} {w:World} {A:Around} {E:Value->Shared->Prop} {s:Shared}
end
section
variable {prog:Program} {w:World} {A:Around} {E:Value->Shared->Prop} {s:Shared}
end
section
variable {K:Type} [DecidableEq K]
end
end PySem
namespace L2
open PySem PySem.Spec PyProof.Rows
section
variable {prog:Program} {w:World} {A:Around} {R:Result->Shared->Prop} {K:Type} [DecidableEq K] {knd:KeyKind prog w K} {kf:Nat->K}
end
section
variable {prog:Program} {w:World} {A:Around} {E:Value->Shared->Prop} {s:Shared} {K:Type} [DecidableEq K] {knd:KeyKind prog w K} {kf:Nat->K}
end
section
variable {PK:Pk} {X:Cx} {a:Expr} {p p2 pos pos2:Pos} {i:List Sl->Tr PyData}
end
noncomputable def plE:Expr->Bool
 | .Starred ..=>false
 | _=>true
theorem Zgw {e:Expr} {es:List Expr} {env:Env} (h:plE e=true):starEach (e::es) env=(false,eval e env)::starEach es env:=by
 cases e <;> first | rfl | cases h
section
variable {X:Cx} {PK:Pk} {e:Expr} {es:List Expr} {i:List Sl->Tr PyData} {is:List Sl->Tr (List PyData)}
theorem fK (ha:PE X e (TAe PK i)) (hr:PA X es (TAd PK is)) (hs:plE e=true:=by rfl):PA X (e::es) (TAd PK (bC i is)):=bH ha hr (Zgw hs)
end
section
variable {X:Cx}
end
section
variable {X:Cx} {PK:Pk} {o e:Expr} {i j:List Sl->Tr PyData} {apos cpos:Pos} {sep:Str}
end
section
variable {X:Cx} {PK:Pk} {o e:Expr} {i j:List Sl->Tr PyData} {apos cpos:Pos} {name:Str} {id:String} {r:V->List V->Hp->VK->Prop} {f:PyData->PyData->Option PyData}
end
section
variable {X:Cx}
end
section
variable {X:Cx}
end
section
variable {X:Cx} {PK:Pk} {e:Expr} {i:List Sl->Tr PyData} {p q:gA} {lo hi:Option Expr} {p2 pos:Pos}
end
section
variable {X:Cx} {tg:Expr} {PK:Pk} {i:List Sl->Tr PyData}
end
section
variable {X:Cx} {PK:Pk} {e:Expr} {i:List Sl->Tr PyData} {p q:gA} {lo hi:Option Expr} {p2 pos:Pos} {tg:Expr}
end
structure XMal (PK:Pk) (P:Program) (w:World) (K:PySem.W.Frag) (mg:Str->Option Value) (base:Heap) (C0:Addr) (m:Str) (k:Nat) (ps:List Str) (C:Addr) (f:List Sl->Tr (Option Re)):Prop where
 ex:∃ g fd,FnOk P w K mg base (gR P w) k g fd ps (Zpo PK ps.length C f)/\Meth K C0 m g/\Binds K fd ps []
 len:∀ as m Z,(f as).ok m Z->as.length=ps.length
theorem Zft {PK:Pk} {P:Program} {w:World} {K:PySem.W.Frag} {mg:Str->Option Value} {base:Heap} {C0 C:Addr} {x qual:Str} {st:Stmt} {N ps:List Str} {kk k:Nat} {u:List Sl->Tr (Option Ou)} (D:MDef K C0 x qual st ps) (S:FnScope N ps (bM st)) (hk:N.length - ps.length=k)
  (hbody:∀ (f:Addr) (cdv:Value) (A:Around) (outer:List Env) (sh:Shared) (H:Hp) (E:XK),Room kk (A.deeper (envOfC qual (bM st) sh.heap.objs.size f cdv)) ->
   PSs (fG (gR P w) P w K mg base N qual (bM st) f cdv A outer sh H E) (fF st) (fY PK C E u)):XMal PK P w K mg base C0 x (kk+1) ps C (kh ps.length k u):=by
 have len:∀ as m Z,(kh ps.length k u as).ok m Z->as.length=ps.length:=λas m Z h=>by
  unfold kh at h
  exact of_decide_eq_true (fU h).1
 obtain ⟨g,fd,F,M,hb⟩:=D.ex
 obtain ⟨oc,od,kV,doc,pm,an,cdv,ct,osl,rfl,lk,hcd⟩:=F.ex
 refine ⟨⟨g,_,ZdH lk hcd S (λvs H Q E h=>h.1) λA outer sh H vs Q E hr hsp=>?_,M,hb⟩,len⟩
 obtain ⟨hv,pa,m,G,as,wd,ar,z⟩:=hsp
 refine ⟨_,hbody g cdv A outer sh H E hr,?_⟩
 unfold kh at z
 obtain ⟨_,z⟩:=fU z
 refine ⟨pa,G,H,m,_,G,Rl.start wd ar (by rw [hv]; exact hk),Tr.ok_mono (Tr.ok_bind.mp z) λm1 o ko=>?_⟩
 cases o with
 | none=>exact ko
 | some o =>
  cases o with
  | next ρ=>exact λσ G1 H1 sb R1=>(show Kr PK pa m1 G H (.d .none) Q from ko) .non G1 H1 R1.st R1.wd .non
  | ret r=>exact ko
  | brk ρ=>exact (show False from ko).elim
  | cont ρ=>exact (show False from ko).elim
section
variable {PK:Pk} {X:Cx} {C C0:Addr} {E:XK} {o e:Expr} {es:List Expr} {pos apos:Pos} {i:List Sl->Tr PyData} {as:List Sl->Tr (List Sl)}
noncomputable def nW (C0:Addr) (m:Str) (f:List Sl->Tr (Option Re)) (i:List Sl->Tr PyData) (as:List Sl->Tr (List Sl)):List Sl->Tr (Option PyData):=λρ=>(i ρ).bind λx=>(fM x (hI C0 m)).bind λ_=>(as ρ).bind λys=>(f (.d x::ys)).bind λo=>.ret (o.map Re.val)
end
noncomputable def cu (ts:List Addr) (PK:Pk):Pk where
 is o G m:=PK.is o G m/\∀ t∈ts,∃ ps,G t=some (.cod ps)
 mono:=λs h=>⟨PK.mono s h.1,λt ht=>let ⟨ps,e⟩:=h.2 t ht; ⟨ps,s _ _ e⟩⟩
 nch:=λh=>PK.nch h.1
section
variable {ts:List Addr} {PK:Pk}
theorem Wd.unS {pa:Addr} {m:Ms} {G H:Hp} (w:Wd (cu ts PK) pa m G H):Wd PK pa m G H:=⟨w.sub,w.gpa,let ⟨o,h,k⟩:=w.pen; ⟨o,h,k.1⟩,w.sto⟩
theorem Wd.reS {pa:Addr} {m m':Ms} {G H G' H':Hp} (w:Wd (cu ts PK) pa m G H) (s:Sub G G') (w':Wd PK pa m' G' H'):Wd (cu ts PK) pa m' G' H' :=
 ⟨w'.sub,w'.gpa,let ⟨o,h,k⟩:=w'.pen; ⟨o,h,k,λt ht=>let ⟨_,_,_,ke⟩:=w.pen; let ⟨ps,e⟩:=ke t ht; ⟨ps,s _ _ e⟩⟩,w'.sto⟩
theorem ACal.cods {P:Program} {w:World} {K:PySem.W.Frag} {mg:Str->Option Value} {base:Heap} {x:Str} {k:Nat} {ps:List Str} {f:List Sl->Tr Re} (C:ACal PK P w K mg base x k ps f):ACal (cu ts PK) P w K mg base x k ps f:=by
 obtain ⟨C,len⟩:=C
 obtain ⟨g,fd,F,hm,hk,hb⟩:=C.ex
 refine ⟨⟨g,fd,F.imp λvs H Q E h=>?_,hm,hk,hb⟩,len⟩
 obtain ⟨hv,pa,m,G,as,wd,ar,z⟩:=h
 exact ⟨hv,pa,m,G,as,wd.unS,ar,Tr.ok_mono z λm' r h v G' H' s w' d=>h v G' H' s (wd.reS s.gs w') d⟩
end
noncomputable def rM (ts:List Addr) (K:PySem.W.Frag):Sp:=λvs H Q _=>∃ (a:Addr) (ns:List Int),vs=[.ref a]/\SqL K H a (ns.map V.int)/\ns.length<=63/\(∀ t∈ts,H t=some (.cod #[]))/\∀ H',(∀ t∈ts,H' t=some (.cod #[]))->Q (.bl true) H'
noncomputable def tabs (ts:List Addr) (H0:Hp):Hp:=λb=>if b∈ts then some (.cod #[]) else H0 b
theorem ZaA {ts:List Addr} {H0:Hp} {b:Addr} (h:b∈ts):tabs ts H0 b=some (.cod #[]):=if_pos h
theorem l8 {ts:List Addr} {H0:Hp} {b:Addr} (h:b ∉ ts):tabs ts H0 b=H0 b:=if_neg h
theorem ZjF {P:Program} {w:World} {K:PySem.W.Frag} {mg mb:Str->Option Value} {k:Nat} {fa a:Addr} {ts:List Addr} {fd:FuncData} {x:Str} {s₁:Shared} {vs:List Value} {ns:List Int}
  (KX:K.In s₁.heap) (hns:s₁.heap.Ns mainGlobals mg) (hb:s₁.heap.Ns builtinsNs mb) (hbb:∀ x:Str,x≠"__name__"->mb x=bootBuiltins x) (hlim:s₁.heap.NoLimit) (hdig:s₁.heap.NoDigits) (hg:s₁.gens=#[])
  (ha:s₁.heap.get? a=some { cls:=.type "list",data:=.seq vs.toArray }) (hi:IntsAre vs ns) (hl:ns.length<=sizeLine) (h63:ns.length<=63) (hr:Room k callerA)
  (tb:∀ t∈ts,s₁.heap.get? t=some { cls:=.none,data:=.fields #[] }) (hKP:∀ t∈ts,K.lookup t=none) (ck:∀ t∈ts,∃ c0,CodK K c0 t) (hBl:BltK s₁.heap mg)
  (F:∀ base:Heap,K.In base->base.Ns mainGlobals mg->BltK base mg->FnOk P w K mg base fZ k fa fd [x] (rM ts K)) (hbind:∀ (s:Shared) (u:Value),BindsTo s fd ⟨[u],[]⟩ [(x,u)]) :
  codeAny (model P w) callerA (.call (.ref fa) ⟨[.ref a],[]⟩) (λr s'=>r=.ok (.ret (.bool true))/\OldK s₁.heap s'.heap/\s'.os=s₁.os/\AllBare s'.gens) s₁:=by
 have rv:=ZfN hi
 have lenV:=hi.length
 have apl:a ∉ ts:=λz=>by
  rw [tb a z] at ha
  cases ha
 have core:∀ H0:Hp,Zpx H0->SqL K H0 a (ns.map V.int)->HOk P w H0 s₁.heap->(∀ b,H0 b≠none->b=a)->(H0 a≠none->K.lookup a=none) ->
   codeAny (model P w) callerA (.call (.ref fa) ⟨[.ref a],[]⟩) (λr s'=>r=.ok (.ret (.bool true))/\OldK s₁.heap s'.heap/\s'.os=s₁.os/\AllBare s'.gens) s₁:=by
  intro H0 hO hS0 hok0 hA0 hK
  have hout:∀ b u,H0 b=some u->b ∉ ts:=λb u e z=>by
   have:=hA0 b (by rw [e]; simp)
   exact apl (this ▸ z)
  have hup:∀ b u,H0 b=some u->tabs ts H0 b=some u:=λb u e=>by rw [l8 (hout b u e)]; exact e
  have hS:SqL K (tabs ts H0) a (ns.map V.int):=Same.seq (λb o e=>hup b o e) hS0
  have hok:HOk P w (tabs ts H0) s₁.heap:=λb u e=>by
   by_cases z:b∈ts
   ·rw [ZaA z] at e
    cases e
    exact ⟨#[],tb b z,trivial,λpo v hv=>by cases hv⟩
   ·rw [l8 z] at e
    exact (hok0 b u e).stay (λ_ _ _ q=>q) (λc q=>hup c _ q) (λc xs q=>hup c _ q) λc ob u' vs q _=>hup c _ q
  have hA:∀ b,tabs ts H0 b≠none->b=a\/b∈ts:=λb h=>by
   by_cases z:b∈ts
   ·exact .inr z
   ·rw [l8 z] at h
    exact .inl (hA0 b h)
  generalize hH:tabs ts H0=H at *
  have hPl:∀ t∈ts,H t=some (.cod #[]):=λt ht=>by rw [<- hH]; exact ZaA ht
  have hb0:∀ b u,H0 b=some u->H b=some u:=hup
  have base_of:∀ {b:Addr} {o:Obj},s₁.heap.get? b=some o->H b=none->(iu s₁.heap H).get? b=some o:=λe n=>Zkd e n
  have noA:∀ {b:Addr} {o:Obj} {es:Array DictEntry} {ep:Nat},s₁.heap.get? b=some o->o.data=.dict es ep->H b=none:=λ{b o es ep} e d=>by
   cases q:H b with
   | none=>rfl
   | some u =>
    rcases hA b (by rw [q]; simp) with e' | e'
    ·subst e'
     rw [ha] at e; cases e
     have d':Data.seq vs.toArray _=Data.dict es ep:=d
     cases d'
    ·rw [tb b e'] at e; cases e
     have d':Data.fields #[]=Data.dict es ep:=d
     cases d'
  have nsK:∀ {b:Addr} {m:Str->Option Value},s₁.heap.Ns b m->(iu s₁.heap H).Ns b m:=λ{b m} hz0=>by
   obtain ⟨o,es,ep,e,d,r⟩:=hz0
   exact ⟨o,es,ep,base_of e (noA e d),d,r⟩
  have hKb:K.In (iu s₁.heap H):=λb o e=>base_of (KX b o e) (by
   cases q:H b with
   | none=>rfl
   | some u =>
    rcases hA b (by rw [q]; simp) with e' | e'
    ·subst e'
     cases q0:H0 b with
     | none =>
      rw [<- hH,l8 apl,q0] at q
      cases q
     | some u0=>rw [hK (by rw [q0]; simp)] at e; cases e
    ·rw [hKP b e'] at e; cases e)
  have hBb:BltK (iu s₁.heap H) mg:=by
   obtain ⟨bm,bo,b1,b2,b3,b4,b5,b6⟩:=hBl.ex
   refine ⟨bm,bo,b1,b2,base_of b3 ?_,b4,b5,b6⟩
   cases q:H bm with
   | none=>rfl
   | some u =>
    rcases hA bm (by rw [q]; simp) with e' | e'
    ·subst e'
     rw [ha] at b3; cases b3
     cases b6
    ·rw [tb bm e'] at b3; cases b3
     cases b6
  have hM:Mod K mg (iu s₁.heap H):=⟨hKb,nsK hns,⟨mb,nsK hb,hbb⟩,let ⟨mc,h1,h2⟩:=hlim; ⟨mc,nsK h1,h2⟩,let ⟨mc,h1,h2⟩:=hdig; ⟨mc,nsK h1,h2⟩⟩
  have e0:Env0 P w K mg (iu s₁.heap H) callerA [] s₁ H:=⟨rfl,hM,λb o e=>ZiV e,Nat.le_of_eq (Zkc _ _),trivial,λb hb=>absurd (show b∈([]:List Addr) from hb) (by simp),hok,.of_eq hg⟩
  refine codeAny_mono ((F _ hKb (nsK hns) hBb).run callerA [] s₁ H ⟨[.ref a],[]⟩ [.ref a] [.ref a] (λv H'=>v=.bl true/\∀ t∈ts,H' t=some (.cod #[])) (λ_ _ _=>False) hr e0 (hbind s₁ (.ref a)) (.cons rfl .nil) ⟨a,ns,rfl,hS,h63,hPl,λH' q=>⟨rfl,q⟩⟩) λr s' h=>?_
  cases r with
  | error e=>exact False.elim h
  | ok fl =>
   cases fl with
   | next=>exact False.elim h
   | brk=>exact False.elim h
   | cont=>exact False.elim h
   | ret u =>
    obtain ⟨v,H',os,bare,un,hok',r',q',hP'⟩:=h
    have q':v=.bl true:=q'
    subst q'
    obtain rfl:u=Value.bool true:=r'
    have cases3:∀ b o,s₁.heap.get? b=some o->s'.heap.get? b=some o\/(b∈ts/\∃ more,s'.heap.get? b=some { cls:=.none,data:=.fields (#[]++more) }):=λb o e=>by
     by_cases z:b∈ts
     ·obtain ⟨more,t1,_⟩:=hok' b _ (hP' b z)
      exact .inr ⟨z,more,t1⟩
     ·left
      cases q:H b with
      | none=>exact un.keep b o e q (by intro z; exact absurd (show b∈([]:List Addr) from z) (by simp)) (by simp)
      | some u =>
       rcases hO b with z0 | ⟨ob,xs,z0⟩
       ·rw [<- hH,l8 z,z0] at q; cases q
       ·have z1:=hb0 b _ z0
        have z2:=un.frzs b ob _ z1
        obtain ⟨e1,_⟩:=hok b _ z1
        obtain ⟨e2,_⟩:=hok' b _ z2
        rw [e] at e1; cases e1
        exact e2
    refine ⟨rfl,⟨λb o e=>?_,λb o e=>?_⟩,os,bare⟩
    ·rcases cases3 b o e with z | ⟨hz,more,z⟩
     ·exact .inl z
     ·rw [tb b hz] at e
      cases e
      obtain ⟨c0,ck⟩:=ck b hz
      obtain ⟨oc,vs',_,_,_,_,_,_,_,e1,e2,e3,e4,_⟩:=ck.ex
      exact .inr (.inl ⟨⟨c0,oc,vs',KX c0 oc e1,e2,e3,e4⟩,rfl,#[],more,rfl,z⟩)
    ·rcases cases3 b o e with z | ⟨_,more,z⟩
     ·exact ⟨_,z⟩
     ·exact ⟨_,z⟩
 cases hk:K.lookup a with
 | some o =>
  have e:=KX a o hk
  rw [ha] at e
  cases e
  refine core (λ_=>none) (λ_=>.inl rfl) (.inr ⟨_,vs.toArray,_,hk,rfl,rfl,rfl,by rw [List.size_toArray,lenV]; exact hl,by simpa using rv⟩) (λb u z=>by have z':(none:Option HO)=some u:=z; cases z') (λb z=>absurd rfl z) λz=>absurd rfl z
 | none =>
  refine core (λb=>if b=a then some (.frz { cls:=.type "list",data:=.seq vs.toArray } (.lst (ns.map V.int))) else none) (λb=>?_) (.inl (.inr (.inl ⟨{ cls:=.type "list",data:=.seq vs.toArray },if_pos rfl⟩))) (λb u z=>?_) (λb z=>?_) λ_=>hk
  ·by_cases hb:b=a
   ·exact .inr ⟨_,_,if_pos hb⟩
   ·exact .inl (if_neg hb)
  ·by_cases hb:b=a
   ·have z':=(if_pos hb).symm.trans z
    cases z'
    subst hb
    exact ⟨ha,by rw [List.length_map]; exact hl,vs,_,rv,ha⟩
   ·have z':=(if_neg hb).symm.trans z
    cases z'
  ·by_cases hb:b=a
   ·exact hb
   ·exact absurd (if_neg hb) z
theorem ZjE {ts:List Addr} {D:Ends} {p c:Addr} {ns:List Int} {H:Hp} {σ:St} {s:List Sl->Tr Ou} {n:Nat} (P:Pen2 H p c ns 0) (hT:∀ t∈ts,H t=some (.cod #[])) (hσ:σ.length=n+2) (h1:σ[1]?=some (some (.ref p))) (hrt:∀ H',(∀ t∈ts,H' t=some (.cod #[]))->D.rt (.bl true) H')
  (h:(s (.un::.pen::List.replicate n .un)).ok 0 λ_ o=>o=.ret (.d (.bool true))):∃ cn,cr (cu ts (cC cn)) s D σ H:=by
 obtain ⟨⟨k,l,e,hk,hl⟩,hc,hn,ncp⟩:=P
 have npc:p≠c:=Ne.symm ncp
 have pts:p ∉ ts:=λz=>by
  have:=hT p z
  rw [e] at this
  cases this
 have key:∀ (i:Nat) (sl:Sl),(Sl.un::.pen::List.replicate n .un)[i]?=some sl->sl=.un\/(i=1/\sl=.pen):=λi sl hi=>by
  match i with
  | 0=>simp at hi; exact .inl hi.symm
  | 1=>simp at hi; exact .inr ⟨rfl,hi.symm⟩
  | i+2 =>
   simp [List.getElem?_replicate] at hi
   exact .inl hi.2.symm
 obtain ⟨G,gs,gp,gc,gt⟩:∃ G:Hp,Sub G H/\G p=none/\G c=some (.lst (ns.map V.int))/\∀ t∈ts,∃ ps,G t=some (.cod ps):=by
  refine ⟨λb=>if b=p then none else H b,λb o hb=>?_,if_pos rfl,?_,λt ht=>⟨#[],?_⟩⟩
  ·by_cases z:b=p
   ·simp [z] at hb
   ·simpa [z] using hb
  ·simp [ncp,hc]
  ·have:t≠p:=λz=>pts (z ▸ ht)
   simp [this,hT t ht]
 refine ⟨(c,ns),p,G,H,0,_,G,⟨⟨gs,gp,?_,StoOk.none⟩,.refl,⟨_,e⟩,λi sl hi=>?_,by simp [hσ],λi j xs ys _ hi _=>?_,λi j xs ys _ hi _=>by rcases key i _ hi with z | ⟨_,z⟩ <;> cases z⟩,Tr.ok_mono h λm o ho=>?_⟩
 ·exact ⟨_,e,⟨k,l,rfl,hk,hl,gc,hn⟩,gt⟩
 ·have hlt:i < σ.length:=by
   have:=(List.getElem?_eq_some_iff.mp hi).1
   simp at this
   omega
  rcases key i sl hi with rfl | ⟨rfl,rfl⟩
  ·exact ⟨σ[i],by simp [hlt],.un⟩
  ·exact ⟨_,h1,.pen⟩
 ·rcases key i _ hi with z | ⟨_,z⟩ <;> cases z
 ·subst ho
  intro v G' H' s' w' d
  cases (show Dn G' v (.bool true) from d)
  exact hrt H' λt ht=>s'.hk _ _ (hT t ht) (λz=>pts (z ▸ ht)) rfl
section
variable {K:PySem.W.Frag} {mg:Str->Option Value}
end
section
variable {K:PySem.W.Frag} {mg:Str->Option Value}
end
section
variable {PK:Pk} {X:Cx} {e:Expr} {k:Nat}
end
namespace Tr
variable {α β:Type}
noncomputable def alls:Tr α->Sto->Nat->(Sto->α->Prop)->Prop
 | .ret a,st,_,P=>P st a
 | .draw w k,st,n+1,P=>0 < w/\w < 1073741824/\∀ r,0<=r->r < w->(k r).alls st n P
 | .draw _ _,_,0,_=>False
 | .fail,_,_,_=>False
 | .op f k,st,n,P=>∃ s x,f st=some (s,x)/\(k x).alls s n P
 | .new c k,st,n,P=>∀ a,st.get a=none->(k a).alls (st.put a c) n P
theorem alls_ok:∀ {t:Tr α} {n:Nat} {m:Ms} {P:Sto->α->Prop},t.alls m.st n P->m.n+n<=400000->t.ok m λm' a=>m'.n<=m.n+n/\P m'.st a
 | .ret a,n,m,P,h,hm=>⟨by omega,h⟩
 | .draw w k,n+1,m,P,⟨h1,h2,h⟩,hm=>⟨by omega,h1,h2,λr a b=>ok_mono (alls_ok (m:=m.up) (h r a b) (by show m.n+1+n<=400000; omega)) λm' x hz0=>by
  obtain ⟨p,q⟩:=hz0
  have p:m'.n<=m.n+1+n:=p
  exact ⟨by omega,q⟩⟩
 | .op f k,n,m,P,⟨s,x,e,h⟩,hm=>⟨s,x,e,alls_ok (m:=⟨m.n,s⟩) h hm⟩
 | .new c k,n,m,P,h,hm=>λa ha=>alls_ok (m:=⟨m.n,m.st.put a c⟩) (h a ha) hm
theorem alls_mono:∀ {t:Tr α} {st:Sto} {n n':Nat} {P P':Sto->α->Prop},t.alls st n P->n<=n'->(∀ s a,P s a->P' s a)->t.alls st n' P'
 | .ret a,st,n,n',P,P',h,hn,hp=>hp st a h
 | .draw w k,st,n+1,n'+1,P,P',⟨h1,h2,h⟩,hn,hp=>⟨h1,h2,λr a b=>alls_mono (h r a b) (by omega) hp⟩
 | .draw w k,st,n+1,0,P,P',h,hn,hp=>by omega
 | .op f k,st,n,n',P,P',⟨s,x,e,h⟩,hn,hp=>⟨s,x,e,alls_mono h hn hp⟩
 | .new c k,st,n,n',P,P',h,hn,hp=>λa ha=>alls_mono (h a ha) hn hp
theorem alls_bind:∀ {t:Tr α} {f:α->Tr β} {st:Sto} {n n':Nat} {P:Sto->α->Prop} {P':Sto->β->Prop},t.alls st n P->(∀ s a,P s a->(f a).alls s n' P')->(t.bind f).alls st (n+n') P'
 | .ret a,f,st,n,n',P,P',h,hf=>alls_mono (hf st a h) (by omega) λ_ _ x=>x
 | .draw w k,f,st,n+1,n',P,P',⟨h1,h2,h⟩,hf=>by
  have e:n+1+n'=(n+n')+1:=by omega
  rw [e]
  exact ⟨h1,h2,λr a b=>alls_bind (h r a b) hf⟩
 | .op g k,f,st,n,n',P,P',⟨s,x,e,h⟩,hf=>⟨s,x,e,alls_bind h hf⟩
 | .new c k,f,st,n,n',P,P',h,hf=>λa ha=>alls_bind (h a ha) hf
theorem all_alls:∀ {t:Tr α} {st:Sto} {n:Nat} {P:α->Prop},t.all n P->t.alls st n λs a=>s=st/\P a
 | .ret a,st,n,P,h=>⟨rfl,h⟩
 | .draw w k,st,n+1,P,⟨h1,h2,h⟩=>⟨h1,h2,λr a b=>all_alls (h r a b)⟩
end Tr
@[irreducible] noncomputable def As {α:Type} (t:Tr α) (st:Sto) (n:Nat) (P:Sto->α->Prop):Prop:=t.alls st n P
section
variable {α β:Type} {t:Tr α} {st:Sto} {n n' N:Nat} {P:Sto->α->Prop} {P':Sto->β->Prop}
theorem As.of (h:t.alls st n P):As t st n P:=by unfold As; exact h
theorem As.out (h:As t st n P):t.alls st n P:=by unfold As at h; exact h
theorem fh {a:α} (h:P st a):As (.ret a) st n P:=.of h
theorem r6 {w:Int} {k:Int->Tr α} (h1:0 < w) (h2:w < 1073741824) (hN:n+1<=N) (h:∀ r,0<=r->r < w->As (k r) st n P):As (.draw w k) st N P:=.of (Tr.alls_mono (n:=n+1) (show (Tr.draw w k).alls st (n+1) P from ⟨h1,h2,λr a b=>(h r a b).out⟩) hN λ_ _ h=>h)
theorem dh {f:α->Tr β} (h:As t st n P) (hN:n+n'<=N) (hf:∀ s a,P s a->As (f a) s n' P'):As (t.bind f) st N P':=.of (Tr.alls_mono (Tr.alls_bind h.out λs a ha=>(hf s a ha).out) hN λ_ _ h=>h)
theorem Za5 {Q:Sto->α->Prop} (h:As t st n P) (hN:n<=N) (hq:∀ s a,P s a->Q s a):As t st N Q:=.of (Tr.alls_mono h.out hN hq)
theorem Zha {P:α->Prop} {Q:Sto->α->Prop} (h:Al t n P) (hN:n<=N) (hq:∀ a,P a->Q st a):As t st N Q:=.of (Tr.alls_mono (Tr.all_alls h.out) hN λs a ⟨e,p⟩=>e ▸ hq a p)
theorem mw {f:α->Tr β} {P:α->Prop} (h:Al t n P) (hN:n+n'<=N) (hf:∀ a,P a->As (f a) st n' P'):As (t.bind f) st N P':=dh (Zha (Q:=λs a=>s=st/\P a) h (Nat.le_refl _) λa p=>⟨rfl,p⟩) hN λs a ⟨e,p⟩=>e ▸ hf a p
theorem Za3 {f:Sto->Option (Sto×PyData)} {k:PyData->Tr α} {s:Sto} {x:PyData} (e:f st=some (s,x)) (h:As (k x) s n P):As (.op f k) st n P:=.of ⟨s,x,e,h.out⟩
theorem Za4 {c:Cel} {k:Addr->Tr α} (h:∀ a,st.get a=none->As (k a) (st.put a c) n P):As (.new c k) st n P:=.of λa ha=>(h a ha).out
end
section
variable {PK:Pk} {X:Cx} {n:Nat}
end
noncomputable abbrev cY (h:Heap) (T:Addr) (a b c:Value):Prop:=h.get? T=some { cls:=.type "tuple",data:=.seq #[a,b,c] }
theorem ZfR (a b c:Value):checkTypeCall "zip" ⟨[a,b,c],[]⟩=pure ():=by kernel_rfl
theorem Zi4 (a b c:Value):checkBuiltinCall "zip.__new__" ⟨[.type "zip",a,b,c],[]⟩=pure ():=by kernel_rfl
theorem Zo6 (a b c d:Value):argsOk "object.__init__" ⟨[a,b,c,d],[]⟩:=by
 unfold argsOk; rw [signature?_of (id:="object.__init__") (n:=['_','_','t','i','n','i','_','_']) (o:=['t','c','e','j','b','o']) (by kernel_rfl) F.owner_object]; kernel_rfl
section
variable {prog:Program} {w:World} {A:Around} {E:Value->Shared->Prop} {s:Shared}
theorem l4 {T:Addr} {a b c x:Value} {k:Nat} {Q:Unit->Shared->Prop} (hT:cY s.heap T a b c)
  (h:∀ h',h'.get? T=some { cls:=.type "tuple",data:=.seq ((#[a,b,c]:Array Value).setIfInBounds k x) }->Heap.SameBut T s.heap h'->Q () { s with heap:=h' }) :
  wpAny (model prog w) A (updateSeq T (·.setIfInBounds k x)) Q E s:=by
 refine wpAny_updateSeq hT rfl (h _ ?_ (Heap.SameBut.update ..))
 rw [Heap.get?_update_self _ hT rfl]
 simp [Obj.mapSeq]
structure ZT (z TI TO i1 i2 i3:Addr) (f1 f2 f3:List Addr):Prop where
 TIz:TI≠z
 TOz:TO≠z
 i1z:i1≠z
 i2z:i2≠z
 i3z:i3≠z
 TITO:TI≠TO
 TIi1:TI≠i1
 TIi2:TI≠i2
 TIi3:TI≠i3
 TOi1:TO≠i1
 TOi2:TO≠i2
 TOi3:TO≠i3
 f1:∀ b∈f1,b≠z/\b≠TO/\b≠i2/\b≠i3
 f2:∀ b∈f2,b≠z/\b≠TO/\b≠i1/\b≠i3
 f3:∀ b∈f3,b≠z/\b≠TO/\b≠i1/\b≠i2
section
variable {z TI TO i1 i2 i3:Addr} {f1 f2 f3:List Addr} {n1 n2 n3 k1 k2 k3:Nat} {P1 P2 P3:Nat->Value->Prop} {S1 S2 S3:Nat->Heap->Prop} {a b c:Value}
theorem Zfl {Q:Value->Shared->Prop} (D:ZT z TI TO i1 i2 i3 f1 f2 f3) (D1:Draws prog w A i1 f1 n1 P1 S1) (D2:Draws prog w A i2 f2 n2 P2 S2) (D3:Draws prog w A i3 f3 n3 P3 S3)
  (hz:IsZip s.heap z TI TO .none) (hTI:cY s.heap TI (.ref i1) (.ref i2) (.ref i3)) (hTO:cY s.heap TO a b c) (h1:S1 k1 s.heap) (h2:S2 k2 s.heap) (h3:S3 k3 s.heap) (l1:k1 < n1) (l2:k2 < n2) (l3:k3 < n3)
  (hQ:∀ x y v h' tk,P1 k1 x->P2 k2 y->P3 k3 v->IsZip h' z TI TO (rawInt s.heap.objs.size)->cY h' TO x y v->S1 (k1+1) h'->S2 (k2+1) h'->S3 (k3+1) h'->cY h' s.heap.objs.size x y v ->
   (∀ c o,c≠z->c≠TO->c≠i1->c≠i2->c≠i3->s.heap.get? c=some o->h'.get? c=some o)->Q (.ref s.heap.objs.size) { s with heap:=h',toks:=tk }) :
  wpAny (model prog w) A (Builtin.«zip.__next__» ⟨[.ref z],[]⟩) (λfin s'=>∃ v,fin=.done (.ret v)/\Q v s') E s:=by
 show wpAny _ _ (field (.ref z) 2 >>= _) _ _ _; refine wpAny_bind (wpAny_field hz rfl (x:=.bool false) rfl ?_)
 show wpAny _ _ (field (.ref z) 3 >>= _) _ _ _; refine wpAny_bind (wpAny_field hz rfl (x:=.ref TI) rfl ?_); refine wpAny_bind (wpAny_seqItems hTI rfl ?_)
 show wpAny _ _ (Builtin.SmallTypes.ownedTupleIsFree (.ref z) >>= _) _ _ _; refine wpAny_bind ?_; unfold Builtin.SmallTypes.ownedTupleIsFree
 refine wpAny_bind (wpAny_field hz rfl (x:=.none) rfl (wpAny_pure ?_)); simp only [if_true]; refine wpAny_bind (wpAny_rule ?_); refine wpAny_bind (wpAny_field hz rfl (x:=.ref TO) rfl ?_)
 refine wpAny_bind (wpAny_setField_rec hz (by simp) λg1 hz1 e1=>?_); replace hz1:IsZip g1 z TI TO .ellipsis:=hz1
 refine wpAny_bind ?_; simp only [List.zipIdx_cons,List.zipIdx_nil,List.forIn_cons,List.forIn_nil]; refine wpAny_bind (wpAny_bind (wpAny_onRaise ?_))
 show wpAny _ _ (Builtin.SmallTypes.nextOf (.ref i1) >>= _) _ _ _; refine wpAny_bind (D1.item k1 _ _ _ l1 (D1.frame _ _ _ h1 λb hb o q=>e1.extBut _ _ (D.f1 b hb).1 q) λx g2 tk2 hx t1 e2=>wpAny_pure ?_)
 have p2:cY g2 TO a b c:=e2.extBut _ _ D.TOi1 (e1.extBut _ _ D.TOz hTO)
 refine wpAny_bind (wpAny_seqItems p2 rfl ?_); refine wpAny_bind (l4 p2 λg3 p3 e3=>?_); replace p3:cY g3 TO x b c:=p3
 refine wpAny_bind (wpAny_letGo (wpAny_pure ?_)); refine wpAny_bind (wpAny_bind (wpAny_onRaise ?_))
 show wpAny _ _ (Builtin.SmallTypes.nextOf (.ref i2) >>= _) _ _ _
 refine wpAny_bind (D2.item k2 _ _ _ l2 (D2.frame _ _ _ h2 λb hb o q=>e3.extBut _ _ (D.f2 b hb).2.1 (e2.extBut _ _ (D.f2 b hb).2.2.1 (e1.extBut _ _ (D.f2 b hb).1 q))) λy g4 tk4 hy t2 e4=>wpAny_pure ?_)
 have p4:cY g4 TO x b c:=e4.extBut _ _ D.TOi2 p3
 refine wpAny_bind (wpAny_seqItems p4 rfl ?_); refine wpAny_bind (l4 p4 λg5 p5 e5=>?_); replace p5:cY g5 TO x y c:=p5
 refine wpAny_bind (wpAny_letGo (wpAny_pure ?_)); refine wpAny_bind (wpAny_bind (wpAny_onRaise ?_))
 show wpAny _ _ (Builtin.SmallTypes.nextOf (.ref i3) >>= _) _ _ _
 refine wpAny_bind (D3.item k3 _ _ _ l3 (D3.frame _ _ _ h3 λb hb o q=>e5.extBut _ _ (D.f3 b hb).2.1 (e4.extBut _ _ (D.f3 b hb).2.2.2 (e3.extBut _ _ (D.f3 b hb).2.1 (e2.extBut _ _ (D.f3 b hb).2.2.1 (e1.extBut _ _ (D.f3 b hb).1 q))))) λv g6 tk6 hv t3 e6=>wpAny_pure ?_)
 have p6:cY g6 TO x y c:=e6.extBut _ _ D.TOi3 p5
 refine wpAny_bind (wpAny_seqItems p6 rfl ?_); refine wpAny_bind (l4 p6 λg7 p7 e7=>?_); replace p7:cY g7 TO x y v:=p7
 refine wpAny_bind (wpAny_letGo (wpAny_pure (wpAny_pure ?_))); refine wpAny_bind (wpAny_seqItems p7 rfl ?_); refine wpAny_bind (wpAny_newTuple ?_)
 have hsz:g7.objs.size=s.heap.objs.size:=by rw [e7.1,e6.1,e5.1,e4.1,e3.1,e2.1,e1.1]
 have z7:IsZip g7 z TI TO .ellipsis:=e7.extBut _ _ D.TOz.symm (e6.extBut _ _ D.i3z.symm (e5.extBut _ _ D.TOz.symm (e4.extBut _ _ D.i2z.symm (e3.extBut _ _ D.TOz.symm (e2.extBut _ _ D.i1z.symm hz1)))))
 have k7:∀ c o,c≠z->c≠TO->c≠i1->c≠i2->c≠i3->s.heap.get? c=some o->g7.get? c=some o:=λc o c1 c2 c3 c4 c5 q=>e7.extBut _ _ c2 (e6.extBut _ _ c5 (e5.extBut _ _ c2 (e4.extBut _ _ c4 (e3.extBut _ _ c2 (e2.extBut _ _ c3 (e1.extBut _ _ c1 q))))))
 have zlt:z < g7.objs.size:=Heap.lt_size z7
 show wpAny _ _ (Builtin.SmallTypes.ownedTupleHandOut (.ref z) (.ref g7.objs.size) >>= _) _ _ _; refine wpAny_bind ?_; unfold Builtin.SmallTypes.ownedTupleHandOut
 have z8:IsZip (g7.push { cls:=.type "tuple",data:=.seq #[x,y,v] }) z TI TO .ellipsis:=Heap.get?_push_of_some _ z7
 refine wpAny_bind (wpAny_setField_rec z8 (by simp) λg9 z9 e9=>?_); replace z9:IsZip g9 z TI TO (rawInt g7.objs.size):=z9
 refine wpAny_setField_rec z9 (by simp) λga za ea=>?_; replace za:IsZip ga z TI TO (rawInt g7.objs.size):=za
 have up:∀ c o,c≠z->g7.get? c=some o->ga.get? c=some o:=λc o c1 q=>ea.extBut _ _ c1 (e9.extBut _ _ c1 (Heap.get?_push_of_some _ q))
 have ta:cY ga g7.objs.size x y v:=ea.extBut _ _ (Nat.ne_of_gt zlt) (e9.extBut _ _ (Nat.ne_of_gt zlt) (Heap.get?_push_size _ rfl))
 rw [hsz] at za ta
 have u1:S1 (k1+1) ga:=D1.frame _ _ _ t1 λb hb o q=>up _ _ (D.f1 b hb).1 (e7.extBut _ _ (D.f1 b hb).2.1 (e6.extBut _ _ (D.f1 b hb).2.2.2 (e5.extBut _ _ (D.f1 b hb).2.1 (e4.extBut _ _ (D.f1 b hb).2.2.1 (e3.extBut _ _ (D.f1 b hb).2.1 q)))))
 have u2:S2 (k2+1) ga:=D2.frame _ _ _ t2 λb hb o q=>up _ _ (D.f2 b hb).1 (e7.extBut _ _ (D.f2 b hb).2.1 (e6.extBut _ _ (D.f2 b hb).2.2.2 (e5.extBut _ _ (D.f2 b hb).2.1 q)))
 have u3:S3 (k3+1) ga:=D3.frame _ _ _ t3 λb hb o q=>up _ _ (D.f3 b hb).1 (e7.extBut _ _ (D.f3 b hb).2.1 q)
 refine wpAny_pure ⟨_,rfl,?_⟩; show Q (.ref g7.objs.size) _; rw [hsz]
 exact hQ x y v ga _ hx hy hv za (up _ _ D.TOz p7) u1 u2 u3 ta λc o c1 c2 c3 c4 c5 q=>up c o c1 (k7 c o c1 c2 c3 c4 c5 q)
theorem Zfn {Q:Fin->Shared->Prop} (D:ZT z TI TO i1 i2 i3 f1 f2 f3) (D1:Draws prog w A i1 f1 n1 P1 S1) (D2:Draws prog w A i2 f2 n2 P2 S2) (D3:Draws prog w A i3 f3 n3 P3 S3)
  (hz:IsZip s.heap z TI TO .none) (hTI:cY s.heap TI (.ref i1) (.ref i2) (.ref i3)) (hTO:cY s.heap TO a b c) (h1:S1 k1 s.heap) (h2:S2 k2 s.heap) (h3:S3 k3 s.heap) (hend:k1=n1\/(k1 < n1/\(k2=n2\/(k2 < n2/\k3=n3))))
  (hE:∀ h' e tk,(∀ c o,c≠z->c≠TO->c≠i1->c≠i2->c≠i3->s.heap.get? c=some o->h'.get? c=some o)->(∃ o,h'.get? e=some o/\o.cls=.type "StopIteration")->E (.ref e) { s with heap:=h',toks:=tk }) :
  wpAny (model prog w) A (Builtin.«zip.__next__» ⟨[.ref z],[]⟩) Q E s:=by
 show wpAny _ _ (field (.ref z) 2 >>= _) _ _ _; refine wpAny_bind (wpAny_field hz rfl (x:=.bool false) rfl ?_)
 show wpAny _ _ (field (.ref z) 3 >>= _) _ _ _; refine wpAny_bind (wpAny_field hz rfl (x:=.ref TI) rfl ?_); refine wpAny_bind (wpAny_seqItems hTI rfl ?_)
 show wpAny _ _ (Builtin.SmallTypes.ownedTupleIsFree (.ref z) >>= _) _ _ _; refine wpAny_bind ?_; unfold Builtin.SmallTypes.ownedTupleIsFree
 refine wpAny_bind (wpAny_field hz rfl (x:=.none) rfl (wpAny_pure ?_)); simp only [if_true]; refine wpAny_bind (wpAny_rule ?_); refine wpAny_bind (wpAny_field hz rfl (x:=.ref TO) rfl ?_)
 refine wpAny_bind (wpAny_setField_rec hz (by simp) λg1 hz1 e1=>?_); replace hz1:IsZip g1 z TI TO .ellipsis:=hz1
 refine wpAny_bind ?_; simp only [List.zipIdx_cons,List.zipIdx_nil,List.forIn_cons,List.forIn_nil]; refine wpAny_bind (wpAny_bind (wpAny_onRaise ?_))
 show wpAny _ _ (Builtin.SmallTypes.nextOf (.ref i1) >>= _) _ _ _
 have h1':=D1.frame _ _ g1 h1 λb hb o q=>e1.extBut _ _ (D.f1 b hb).1 q
 rcases hend with e | ⟨l1,hend⟩
 ·subst e
  refine wpAny_bind (D1.done _ _ _ h1' λg2 e e2 he=>?_)
  obtain ⟨oe,hoe,hce⟩:=he
  have z2:IsZip g2 z TI TO .ellipsis:=e2 _ _ D.i1z.symm hz1
  have ne:e≠z:=λq=>by subst q; rw [z2] at hoe; cases hoe; simp at hce
  exact wpAny_setField_rec z2 (by simp) λg3 _ e3=>hE g3 e _ (λc o c1 _ c3 _ _ q=>e3.extBut _ _ c1 (e2 _ _ c3 (e1.extBut _ _ c1 q))) ⟨oe,e3.extBut _ _ ne hoe,hce⟩
 ·refine wpAny_bind (D1.item k1 _ _ _ l1 h1' λx g2 tk2 hx t1 e2=>wpAny_pure ?_)
  have p2:cY g2 TO a b c:=e2.extBut _ _ D.TOi1 (e1.extBut _ _ D.TOz hTO)
  refine wpAny_bind (wpAny_seqItems p2 rfl ?_); refine wpAny_bind (l4 p2 λg3 p3 e3=>?_); replace p3:cY g3 TO x b c:=p3
  refine wpAny_bind (wpAny_letGo (wpAny_pure ?_)); refine wpAny_bind (wpAny_bind (wpAny_onRaise ?_))
  show wpAny _ _ (Builtin.SmallTypes.nextOf (.ref i2) >>= _) _ _ _
  have h2':=D2.frame _ _ g3 h2 λb hb o q=>e3.extBut _ _ (D.f2 b hb).2.1 (e2.extBut _ _ (D.f2 b hb).2.2.1 (e1.extBut _ _ (D.f2 b hb).1 q))
  have z3:IsZip g3 z TI TO .ellipsis:=e3.extBut _ _ D.TOz.symm (e2.extBut _ _ D.i1z.symm hz1)
  rcases hend with e | ⟨l2,e⟩
  ·subst e
   refine wpAny_bind (D2.done _ _ _ h2' λg4 e e4 he=>?_)
   obtain ⟨oe,hoe,hce⟩:=he
   have z4:IsZip g4 z TI TO .ellipsis:=e4 _ _ D.i2z.symm z3
   have ne:e≠z:=λq=>by subst q; rw [z4] at hoe; cases hoe; simp at hce
   exact wpAny_setField_rec z4 (by simp) λg5 _ e5=>hE g5 e _ (λc o c1 c2 c3 c4 _ q=>e5.extBut _ _ c1 (e4 _ _ c4 (e3.extBut _ _ c2 (e2.extBut _ _ c3 (e1.extBut _ _ c1 q))))) ⟨oe,e5.extBut _ _ ne hoe,hce⟩
  ·subst e
   refine wpAny_bind (D2.item k2 _ _ _ l2 h2' λy g4 tk4 hy t2 e4=>wpAny_pure ?_)
   have p4:cY g4 TO x b c:=e4.extBut _ _ D.TOi2 p3
   refine wpAny_bind (wpAny_seqItems p4 rfl ?_); refine wpAny_bind (l4 p4 λg5 p5 e5=>?_)
   refine wpAny_bind (wpAny_letGo (wpAny_pure ?_)); refine wpAny_bind (wpAny_bind (wpAny_onRaise ?_))
   show wpAny _ _ (Builtin.SmallTypes.nextOf (.ref i3) >>= _) _ _ _
   refine wpAny_bind (D3.done _ _ _ (D3.frame _ _ _ h3 λb hb o q=>e5.extBut _ _ (D.f3 b hb).2.1 (e4.extBut _ _ (D.f3 b hb).2.2.2 (e3.extBut _ _ (D.f3 b hb).2.1 (e2.extBut _ _ (D.f3 b hb).2.2.1 (e1.extBut _ _ (D.f3 b hb).1 q))))) λg6 e e6 he=>?_)
   obtain ⟨oe,hoe,hce⟩:=he
   have z6:IsZip g6 z TI TO .ellipsis:=e6 _ _ D.i3z.symm (e5.extBut _ _ D.TOz.symm (e4.extBut _ _ D.i2z.symm z3))
   have ne:e≠z:=λq=>by subst q; rw [z6] at hoe; cases hoe; simp at hce
   exact wpAny_setField_rec z6 (by simp) λg7 _ e7=>hE g7 e _ (λc o c1 c2 c3 c4 c5 q=>e7.extBut _ _ c1 (e6 _ _ c5 (e5.extBut _ _ c2 (e4.extBut _ _ c4 (e3.extBut _ _ c2 (e2.extBut _ _ c3 (e1.extBut _ _ c1 q))))))) ⟨oe,e7.extBut _ _ ne hoe,hce⟩
theorem ZhO {Q:Option Value->Shared->Prop} (D:ZT z TI TO i1 i2 i3 f1 f2 f3) (D1:Draws prog w A.in1 i1 f1 n1 P1 S1) (D2:Draws prog w A.in1 i2 f2 n2 P2 S2) (D3:Draws prog w A.in1 i3 f3 n3 P3 S3)
  (hz:IsZip s.heap z TI TO .none) (hTI:cY s.heap TI (.ref i1) (.ref i2) (.ref i3)) (hTO:cY s.heap TO a b c) (h1:S1 k1 s.heap) (h2:S2 k2 s.heap) (h3:S3 k3 s.heap) (l1:k1 < n1) (l2:k2 < n2) (l3:k3 < n3)
  (hQ:∀ x y v h' tk,P1 k1 x->P2 k2 y->P3 k3 v->IsZip h' z TI TO (rawInt s.heap.objs.size)->cY h' TO x y v->S1 (k1+1) h'->S2 (k2+1) h'->S3 (k3+1) h'->cY h' s.heap.objs.size x y v ->
   (∀ c o,c≠z->c≠TO->c≠i1->c≠i2->c≠i3->s.heap.get? c=some o->h'.get? c=some o)->Q (some (.ref s.heap.objs.size)) { s with heap:=h',toks:=tk }):wpAny (model prog w) A (pyNext (.ref z)) Q E s:=by
 have hT:s.TypeIs (.ref z) "zip":=⟨_,hz,rfl⟩
 unfold pyNext
 exact wpAny_bind (wpAny_attempt (wpAny_callSpecial?_slot (name:=Str.ofString "__next__") hT F.slot_zip_next (wpAny_call_entry F.slot_zip_next hT F.entry_zip_next (Zfl D D1 D2 D3 hz hTI hTO h1 h2 h3 l1 l2 l3 λx y v h' tk p1 p2 p3 a1 a2 a3 a4 a5 a6 a7=>wpAny_pure (hQ x y v h' tk p1 p2 p3 a1 a2 a3 a4 a5 a6 a7)) (F.args_zip_next_1 _))))
theorem ZhQ {Q:Option Value->Shared->Prop} (D:ZT z TI TO i1 i2 i3 f1 f2 f3) (D1:Draws prog w A.in1 i1 f1 n1 P1 S1) (D2:Draws prog w A.in1 i2 f2 n2 P2 S2) (D3:Draws prog w A.in1 i3 f3 n3 P3 S3)
  (hz:IsZip s.heap z TI TO .none) (hTI:cY s.heap TI (.ref i1) (.ref i2) (.ref i3)) (hTO:cY s.heap TO a b c) (h1:S1 k1 s.heap) (h2:S2 k2 s.heap) (h3:S3 k3 s.heap) (hend:k1=n1\/(k1 < n1/\(k2=n2\/(k2 < n2/\k3=n3))))
  (hQ:∀ h' tk,(∀ c o,c≠z->c≠TO->c≠i1->c≠i2->c≠i3->s.heap.get? c=some o->h'.get? c=some o)->Q none { s with heap:=h',toks:=tk }):wpAny (model prog w) A (pyNext (.ref z)) Q E s:=by
 have hT:s.TypeIs (.ref z) "zip":=⟨_,hz,rfl⟩
 unfold pyNext
 refine wpAny_bind (wpAny_attempt (wpAny_callSpecial?_slot (name:=Str.ofString "__next__") hT F.slot_zip_next (wpAny_call_entry F.slot_zip_next hT F.entry_zip_next (Zfn D D1 D2 D3 hz hTI hTO h1 h2 h3 hend λh' e tk hk he=>?_) (F.args_zip_next_1 _))))
 obtain ⟨o,ho,hc⟩:=he
 exact wpAny_bind (wpAny_isInstance (T:="StopIteration") (b:=true) ⟨o,ho,hc⟩ isSubtype_stop (wpAny_pure (hQ _ _ hk)))
end
noncomputable abbrev me (b1:Bool) (h:Heap) (l1:Addr):Heap:=h.push (dD b1 l1)
noncomputable abbrev md (b1 b2:Bool) (h:Heap) (l1 l2:Addr):Heap:=(me b1 h l1).push (dD b2 l2)
noncomputable abbrev ma (b1 b2 b3:Bool) (h:Heap) (l1 l2 l3:Addr):Heap:=(md b1 b2 h l1 l2).push (dD b3 l3)
noncomputable abbrev l9 (b1 b2 b3:Bool) (h:Heap) (l1 l2 l3:Addr):Heap:=(ma b1 b2 b3 h l1 l2 l3).push { cls:=.type "tuple",data:=.seq #[.ref h.objs.size,.ref (me b1 h l1).objs.size,.ref (md b1 b2 h l1 l2).objs.size] }
noncomputable abbrev oi (b1 b2 b3:Bool) (h:Heap) (l1 l2 l3:Addr):Heap:=(l9 b1 b2 b3 h l1 l2 l3).push { cls:=.type "tuple",data:=.seq #[.none,.none,.none] }
noncomputable abbrev jD (b1 b2 b3:Bool) (h:Heap) (l1 l2 l3:Addr):Heap:=(oi b1 b2 b3 h l1 l2 l3).push { cls:=.type "zip",data:=.fields #[.none,.bool false,.bool false,.ref (ma b1 b2 b3 h l1 l2 l3).objs.size,.ref (l9 b1 b2 b3 h l1 l2 l3).objs.size] }
theorem Zjd (b1 b2 b3:Bool) (l1 l2 l3:Addr) (xs ys zs:Array Value) :
  Meets (Builtin.«zip.__new__» ⟨[.type "zip",.ref l1,.ref l2,.ref l3],[]⟩) (λ_ R s=>SqAt b1 s.heap l1 xs/\SqAt b2 s.heap l2 ys/\SqAt b3 s.heap l3 zs/\R (.ok (.ret (.ref (oi b1 b2 b3 s.heap l1 l2 l3).objs.size))) { s with heap:=jD b1 b2 b3 s.heap l1 l2 l3 }) :=
 .of_wp λprog w A R s h=>by
  obtain ⟨hp,g,d,tk,os⟩:=s
  obtain ⟨hl1,hl2,hl3,h⟩:=h
  have hsub:=sub_zip
  have q1:SqAt b1 (Shared.heap ⟨hp,g,d,tk,os⟩) l1 xs:=hl1
  have q2:SqAt b2 (Shared.heap ⟨hp.push (dD b1 l1),g,d,tk,os⟩) l2 ys:=hl2.push _
  have q3:SqAt b3 (Shared.heap ⟨(hp.push (dD b1 l1)).push (dD b2 l2),g,d,tk,os⟩) l3 zs:=(hl3.push _).push _
  wp_walk using iH q1,iH q2,iH q3
  exact ⟨_,rfl,h⟩
theorem Zon {b1 b2 b3:Bool} {l1 l2 l3:Addr} {xs ys zs:Array Value} {Q:Value->Shared->Prop} (hl1:SqAt b1 s.heap l1 xs) (hl2:SqAt b2 s.heap l2 ys) (hl3:SqAt b3 s.heap l3 zs)
  (h:∀ h',IsZip h' (s.heap.objs.size+5) (s.heap.objs.size+3) (s.heap.objs.size+4) .none->cY h' (s.heap.objs.size+3) (.ref s.heap.objs.size) (.ref (s.heap.objs.size+1)) (.ref (s.heap.objs.size+2))->cY h' (s.heap.objs.size+4) .none .none .none ->
   ItAt b1 h' s.heap.objs.size l1 0->ItAt b2 h' (s.heap.objs.size+1) l2 0->ItAt b3 h' (s.heap.objs.size+2) l3 0->(∀ c o,s.heap.get? c=some o->h'.get? c=some o)->Q (.ref (s.heap.objs.size+5)) { s with heap:=h' }) :
  wpAny (model prog w) A (call (.type "zip") [.ref l1,.ref l2,.ref l3]) Q E s:=by
 refine callType_new F.called_zip (by decide) (ZfR _ _ _) (Zi4 _ _ _) (λobj=>Zo6 obj _ _ _) F.entry_zip_new (Zjd b1 b2 b3 l1 l2 l3 xs ys zs) ⟨hl1,hl2,hl3,?_⟩
 have n1:(me b1 s.heap l1).objs.size=s.heap.objs.size+1:=Heap.size_push ..
 have n2:(md b1 b2 s.heap l1 l2).objs.size=s.heap.objs.size+2:=(Heap.size_push ..).trans (by rw [n1])
 have n3:(ma b1 b2 b3 s.heap l1 l2 l3).objs.size=s.heap.objs.size+3:=(Heap.size_push ..).trans (by rw [n2])
 have n4:(l9 b1 b2 b3 s.heap l1 l2 l3).objs.size=s.heap.objs.size+4:=(Heap.size_push ..).trans (by rw [n3])
 have n5:(oi b1 b2 b3 s.heap l1 l2 l3).objs.size=s.heap.objs.size+5:=(Heap.size_push ..).trans (by rw [n4])
 have a6:IsZip (jD b1 b2 b3 s.heap l1 l2 l3) (oi b1 b2 b3 s.heap l1 l2 l3).objs.size (ma b1 b2 b3 s.heap l1 l2 l3).objs.size (l9 b1 b2 b3 s.heap l1 l2 l3).objs.size .none:=Heap.get?_push_size _ rfl
 have a5:cY (jD b1 b2 b3 s.heap l1 l2 l3) (l9 b1 b2 b3 s.heap l1 l2 l3).objs.size .none .none .none:=Heap.get?_push_of_some _ (Heap.get?_push_size _ rfl)
 have a4:cY (jD b1 b2 b3 s.heap l1 l2 l3) (ma b1 b2 b3 s.heap l1 l2 l3).objs.size (.ref s.heap.objs.size) (.ref (me b1 s.heap l1).objs.size) (.ref (md b1 b2 s.heap l1 l2).objs.size):=Heap.get?_push_of_some _ (Heap.get?_push_of_some _ (Heap.get?_push_size _ rfl))
 have a3:(jD b1 b2 b3 s.heap l1 l2 l3).get? (md b1 b2 s.heap l1 l2).objs.size=some (dD b3 l3):=Heap.get?_push_of_some _ (Heap.get?_push_of_some _ (Heap.get?_push_of_some _ (Heap.get?_push_size _ (by cases b3 <;> rfl))))
 have a2:(jD b1 b2 b3 s.heap l1 l2 l3).get? (me b1 s.heap l1).objs.size=some (dD b2 l2):=Heap.get?_push_of_some _ (Heap.get?_push_of_some _ (Heap.get?_push_of_some _ (Heap.get?_push_of_some _ (Heap.get?_push_size _ (by cases b2 <;> rfl)))))
 have a1:(jD b1 b2 b3 s.heap l1 l2 l3).get? s.heap.objs.size=some (dD b1 l1):=Heap.get?_push_of_some _ (Heap.get?_push_of_some _ (Heap.get?_push_of_some _ (Heap.get?_push_of_some _ (Heap.get?_push_of_some _ (Heap.get?_push_size _ (by cases b1 <;> rfl))))))
 rw [n3,n4,n5] at a6
 rw [n4] at a5
 rw [n1,n2,n3] at a4
 rw [n2] at a3
 rw [n1] at a2
 show _/\_
 rw [n5]
 exact ⟨⟨_,a6,rfl⟩,h _ a6 a4 a5 (jU a1) (jU a2) (jU a3) λc o x=>Heap.get?_push_of_some _ (Heap.get?_push_of_some _ (Heap.get?_push_of_some _ (Heap.get?_push_of_some _ (Heap.get?_push_of_some _ (Heap.get?_push_of_some _ x)))))⟩
end
section
variable {X:Cx} {pins:List (Addr×Obj)} {σ:St} {H:Hp} {s:Shared} {h':Heap}
theorem Inv.trip {T:Addr} {x y z:V} {u v q:Value} (I:Inv X pins σ H s) (hT:H T=none) (ho:cY s.heap T u v q) (r1:RelV x u) (r2:RelV y v) (r3:RelV z q)
  (hL:T≠X.env.locals) (hs0:X.s₀.heap.objs.size<=T) (hc:∀ x c,X.env.cells.lookup x=some c->c≠T) (hp:∀ p∈X.pn++pins,p.1≠T):Inv X pins σ (upd H T (.tup [x,y,z])) s:=by
 have ne:∀ {b:Addr} {o:HO},H b=some o->b≠T:=λe=>c7 e hT
 refine I.step (g':=s.gens) (d':=s.drawn) (t':=s.toks) (h':=s.heap) (ch:=[T]) (λb hb=>?_) (λb o _ _ _ e _=>e) (λb o _ _ _ e _=>⟨o.slots,e⟩) (λb o hb e n=>?_) (λb o _ e=>⟨o,e⟩)
  (λb xs e=>by rw [bG (ne e)]; exact e) (λb o u e=>by rw [bG (ne e)]; exact e) (λb ps e=>⟨#[],by rw [bG (ne e),e]; simp⟩) (λm hm=>hm) (λb u e=>?_) I.bare
 ·have e:b=T:=by simpa using hb
  subst e
  exact ⟨.inr hs0,hL,hc,hp⟩
 ·have hb':b≠T:=by simpa using hb
  rw [bG hb']
  exact n
 ·by_cases hb:b=T
  ·subst hb
   rw [cA] at e
   cases e
   exact ⟨by show 3<=sizeLine; decide,[_,_,_],.cons r1 (.cons r2 (.cons r3 .nil)),⟨_,ho,rfl,_,rfl⟩⟩
  ·rw [bG hb] at e
   exact (I.hok b u e).stay (λc v _ q=>q) (λc q=>by rw [bG (ne q)]; exact q) (λc xs q=>by rw [bG (ne q)]; exact q) λc ob xs _ q _=>by rw [bG (ne q)]; exact q
end
noncomputable def jx (b1 b2 b3:Bool) (l1 l2 l3:Addr):It :=
 ⟨λi H=>∃ xs ys zs x y z,H l1=some (bR b1 xs)/\H l2=some (bR b2 ys)/\H l3=some (bR b3 zs)/\xs[i]?=some x/\ys[i]?=some y/\zs[i]?=some z,
  λi H v H'=>∃ xs ys zs x y z p,H l1=some (bR b1 xs)/\H l2=some (bR b2 ys)/\H l3=some (bR b3 zs)/\xs[i]?=some x/\ys[i]?=some y/\zs[i]?=some z/\H p=none/\v=.ref p/\H'=upd H p (.tup [x,y,z]),
  λi H=>∃ xs ys zs,H l1=some (bR b1 xs)/\H l2=some (bR b2 ys)/\H l3=some (bR b3 zs)/\(i=xs.length\/(i < xs.length/\(i=ys.length\/(i < ys.length/\i=zs.length))))⟩
noncomputable def Zps (b1 b2 b3:Bool) (z TI TO i1 i2 i3 l1 l2 l3:Addr) (i:Nat) (h:Heap):Prop :=
 IsZip h z TI TO .none/\cY h TI (.ref i1) (.ref i2) (.ref i3)/\(∃ a b c,cY h TO a b c)/\ItAt b1 h i1 l1 i/\ItAt b2 h i2 l2 i/\ItAt b3 h i3 l3 i
structure Ap3 (z TI TO i1 i2 i3:Addr):Prop where
 TIz:TI≠z
 TOz:TO≠z
 i1z:i1≠z
 i2z:i2≠z
 i3z:i3≠z
 TITO:TI≠TO
 TIi1:TI≠i1
 TIi2:TI≠i2
 TIi3:TI≠i3
 TOi1:TO≠i1
 TOi2:TO≠i2
 TOi3:TO≠i3
 i12:i1≠i2
 i13:i1≠i3
 i23:i2≠i3
theorem Ap3.zt {z TI TO i1 i2 i3 l1 l2 l3:Addr} (d:Ap3 z TI TO i1 i2 i3) (n1:∀ b∈[z,TI,TO,i1,i2,i3],l1≠b/\l2≠b/\l3≠b):ZT z TI TO i1 i2 i3 [i1,l1] [i2,l2] [i3,l3] :=
 ⟨d.TIz,d.TOz,d.i1z,d.i2z,d.i3z,d.TITO,d.TIi1,d.TIi2,d.TIi3,d.TOi1,d.TOi2,d.TOi3,
  λb hb=>by
  rcases List.mem_cons.mp hb with rfl | hb
  ·exact ⟨d.i1z,d.TOi1.symm,d.i12,d.i13⟩
  ·rw [List.mem_singleton] at hb
   subst hb
   exact ⟨(n1 z (by simp)).1,(n1 TO (by simp)).1,(n1 i2 (by simp)).1,(n1 i3 (by simp)).1⟩,
  λb hb=>by
  rcases List.mem_cons.mp hb with rfl | hb
  ·exact ⟨d.i2z,d.TOi2.symm,d.i12.symm,d.i23⟩
  ·rw [List.mem_singleton] at hb
   subst hb
   exact ⟨(n1 z (by simp)).2.1,(n1 TO (by simp)).2.1,(n1 i1 (by simp)).2.1,(n1 i3 (by simp)).2.1⟩,
  λb hb=>by
  rcases List.mem_cons.mp hb with rfl | hb
  ·exact ⟨d.i3z,d.TOi3.symm,d.i13.symm,d.i23.symm⟩
  ·rw [List.mem_singleton] at hb
   subst hb
   exact ⟨(n1 z (by simp)).2.2,(n1 TO (by simp)).2.2,(n1 i1 (by simp)).2.2,(n1 i2 (by simp)).2.2⟩⟩
theorem ZfS {P:Program} {w:World} {K:PySem.W.Frag} {elts:List Expr} {x1:Nat} {pos:Pos} {b1 b2 b3:Bool} {l1 l2 l3:Addr} (z TI TO i1 i2 i3:Addr) (d:Ap3 z TI TO i1 i2 i3) :
  Turn P w K (.Tuple elts x1 pos) (jx b1 b2 b3 l1 l2 l3) [z,TI,TO,i1,i2,i3] z (Zps b1 b2 b3 z TI TO i1 i2 i3 l1 l2 l3) where
 mem:=by simp
 obj:=λi h st b hb=>by
  obtain ⟨hz,hTI,⟨a,c,e,hTO⟩,h1,h2,h3⟩:=st
  simp at hb
  rcases hb with rfl | rfl | rfl | rfl | rfl | rfl
  ·exact ⟨_,hz,λv q=>by cases q⟩
  ·exact ⟨_,hTI,λv q=>by cases q⟩
  ·exact ⟨_,hTO,λv q=>by cases q⟩
  ·exact h1.there
  ·exact h2.there
  ·exact h3.there
 keep:=λi h h' st k=>by
  obtain ⟨hz,hTI,⟨a,c,e,hTO⟩,h1,h2,h3⟩:=st
  exact ⟨k _ (by simp) _ hz,k _ (by simp) _ hTI,⟨a,c,e,k _ (by simp) _ hTO⟩,h1.at λo e=>k _ (by simp) o e,h2.at λo e=>k _ (by simp) o e,h3.at λo e=>k _ (by simp) o e⟩
 item:=by
  intro X hP hw hK hc i pins s σ H E I hf st hg
  subst hP hw hK
  obtain ⟨xs,ys,zs,x,y,v,e1,e2,e3,hx,hy,hv⟩:=hg
  obtain ⟨hz,hTI,⟨a,c,e,hTO⟩,h1,h2,h3⟩:=st
  obtain ⟨us,r1,q1⟩:=dZ I.hok e1
  obtain ⟨vs,r2,q2⟩:=dZ I.hok e2
  obtain ⟨ws,r3,q3⟩:=dZ I.hok e3
  obtain ⟨u1,hu1,ru1⟩:=r1.get hx
  obtain ⟨u2,hu2,ru2⟩:=r2.get hy
  obtain ⟨u3,hu3,ru3⟩:=r3.get hv
  have n1:∀ b∈[z,TI,TO,i1,i2,i3],l1≠b/\l2≠b/\l3≠b:=λb hb=>⟨c7 e1 (hf b hb).1,c7 e2 (hf b hb).1,c7 e3 (hf b hb).1⟩
  have hn:=I.ok.hd hc
  have lt1:i < us.toArray.size:=by simpa using (List.getElem?_eq_some_iff.mp hu1).1
  have lt2:i < vs.toArray.size:=by simpa using (List.getElem?_eq_some_iff.mp hu2).1
  have lt3:i < ws.toArray.size:=by simpa using (List.getElem?_eq_some_iff.mp hu3).1
  refine ZhO (d.zt n1) (js (A:=X.A.in1) hn b1 i1 l1 (n1 i1 (by simp)).1 us.toArray) (js (A:=X.A.in1) hn b2 i2 l2 (n1 i2 (by simp)).2.1 vs.toArray) (js (A:=X.A.in1) hn b3 i3 l3 (n1 i3 (by simp)).2.2 ws.toArray)
   (k1:=i) (k2:=i) (k3:=i) hz hTI hTO ⟨h1,q1⟩ ⟨h2,q2⟩ ⟨h3,q3⟩ lt1 lt2 lt3 λx' y' v' h' tk p1 p2 p3 z' p' t1 t2 t3 pr kk=>?_
  have ex:x'=u1:=by rw [List.getElem?_toArray,hu1] at p1; exact (Option.some.inj p1).symm
  have ey:y'=u2:=by rw [List.getElem?_toArray,hu2] at p2; exact (Option.some.inj p2).symm
  have ev:v'=u3:=by rw [List.getElem?_toArray,hu3] at p3; exact (Option.some.inj p3).symm
  subst ex ey ev
  refine ⟨_,rfl,wpAny_letOwnedTupleGo_zip z' λh2' z2 sb=>?_⟩
  have lt:∀ {b:Addr} {o:Obj},s.heap.get? b=some o->s.heap.objs.size≠b:=λq=>Nat.ne_of_gt (Heap.lt_size q)
  have zlt:=lt hz
  have I1:Inv X pins σ H { s with heap:=h2',toks:=tk }:=I.turns (ch:=[z,TI,TO,i1,i2,i3]) (t':=tk) (λb o hb e=>by
   simp at hb
   exact sb.extBut _ _ hb.1 (kk b o hb.1 hb.2.2.1 hb.2.2.2.1 hb.2.2.2.2.1 hb.2.2.2.2.2 e)) hf
  have hTn:H s.heap.objs.size=none:=I.hok.fresh (Nat.le_refl _)
  have I2:=I1.trip (T:=s.heap.objs.size) (x:=x) (y:=y) (z:=v) hTn (sb.extBut _ _ zlt pr) ru1 ru2 ru3 (Nat.ne_of_gt I.lt) I.sz
   (λq cc e hq=>by obtain ⟨vv,zz⟩:=I.cell q cc e; exact absurd zz.lt (by rw [hq]; exact Nat.lt_irrefl _)) (λp hp hq=>absurd (Heap.lt_size (I.pin p hp).1) (by rw [hq]; exact Nat.lt_irrefl _))
  refine ⟨.ref s.heap.objs.size,_,I2,rfl,⟨xs,ys,zs,x,y,v,_,e1,e2,e3,hx,hy,hv,hTn,rfl,rfl⟩,⟨z2,sb.extBut _ _ d.TIz (kk _ _ d.TIz d.TITO d.TIi1 d.TIi2 d.TIi3 hTI),⟨_,_,_,sb.extBut _ _ d.TOz p'⟩,t1.1.at λo e=>sb.extBut _ _ d.i1z e,t2.1.at λo e=>sb.extBut _ _ d.i2z e,t3.1.at λo e=>sb.extBut _ _ d.i3z e⟩,λb hb=>?_⟩
  have hbn:b≠s.heap.objs.size:=by
   simp at hb
   obtain ⟨o1,g1,_⟩:=h1.there
   obtain ⟨o2,g2,_⟩:=h2.there
   obtain ⟨o3,g3,_⟩:=h3.there
   rcases hb with rfl | rfl | rfl | rfl | rfl | rfl
   ·exact (lt hz).symm
   ·exact (lt hTI).symm
   ·exact (lt hTO).symm
   ·exact (lt g1).symm
   ·exact (lt g2).symm
   ·exact (lt g3).symm
  rw [bG hbn]
  exact (hf b hb).1
 done:=by
  intro X hP hw hK hc i pins s σ H E I hf st hg
  subst hP hw hK
  obtain ⟨xs,ys,zs,e1,e2,e3,hend⟩:=hg
  obtain ⟨hz,hTI,⟨a,c,e,hTO⟩,h1,h2,h3⟩:=st
  obtain ⟨us,r1,q1⟩:=dZ I.hok e1
  obtain ⟨vs,r2,q2⟩:=dZ I.hok e2
  obtain ⟨ws,r3,q3⟩:=dZ I.hok e3
  have n1:∀ b∈[z,TI,TO,i1,i2,i3],l1≠b/\l2≠b/\l3≠b:=λb hb=>⟨c7 e1 (hf b hb).1,c7 e2 (hf b hb).1,c7 e3 (hf b hb).1⟩
  have hn:=I.ok.hd hc
  have hl1:xs.length=us.toArray.size:=by rw [List.size_toArray]; exact r1.length
  have hl2:ys.length=vs.toArray.size:=by rw [List.size_toArray]; exact r2.length
  have hl3:zs.length=ws.toArray.size:=by rw [List.size_toArray]; exact r3.length
  rw [hl1,hl2,hl3] at hend
  refine ZhQ (d.zt n1) (js (A:=X.A.in1) hn b1 i1 l1 (n1 i1 (by simp)).1 us.toArray) (js (A:=X.A.in1) hn b2 i2 l2 (n1 i2 (by simp)).2.1 vs.toArray) (js (A:=X.A.in1) hn b3 i3 l3 (n1 i3 (by simp)).2.2 ws.toArray)
   (k1:=i) (k2:=i) (k3:=i) hz hTI hTO ⟨h1,q1⟩ ⟨h2,q2⟩ ⟨h3,q3⟩ hend λh' tk kk=>⟨rfl,?_⟩
  exact I.turns (ch:=[z,TI,TO,i1,i2,i3]) (t':=tk) (λb o hb e=>by
   simp at hb
   exact kk b o hb.1 hb.2.2.1 hb.2.2.2.1 hb.2.2.2.2.1 hb.2.2.2.2.2 e) hf
 self:=λ_ _ _ _ _ st h=>wpAny_pyIter_zip st.1 h
theorem ZfO {x y z:V} {us:List Value} (r:Vals [x,y,z] us):∃ u w' q,us=[u,w',q]/\RelV x u/\RelV y w'/\RelV z q:=by
 cases r with
 | cons r1 r=>obtain ⟨u,w',rfl,r2,r3⟩:=n8 r; exact ⟨_,_,_,rfl,r1,r2,r3⟩
section
variable {X:Cx} {tg:Expr} {PK:Pk} {a b c:Expr} {i j k:List Sl->Tr PyData} {p pos:Pos}
noncomputable def Zds (ta tb tc:TE):TI:=λσ H R=>ta σ H λx H1=>tb σ H1 λy H2=>tc σ H2 λz H3=>∃ b1 b2 b3 l1 l2 l3 xs ys zs,x=.ref l1/\y=.ref l2/\z=.ref l3/\H3 l1=some (bR b1 xs)/\H3 l2=some (bR b2 ys)/\H3 l3=some (bR b3 zs)/\R (jx b1 b2 b3 l1 l2 l3) H3
theorem Zcx {elts:List Expr} {x1:Nat} {tpos:Pos} {ta tb tc:TE} (hc:X.calm=true) (hg:Gl X "zip") (hm:X.mg "zip"=none) (ha:PE X a ta) (hb:PE X b tb) (hcc:PE X c tc)
  (hs:starEach [a,b,c] X.env=[(false,eval a X.env),(false,eval b X.env),(false,eval c X.env)]:=by rfl) (hs2:starEach [b,c] X.env=[(false,eval b X.env),(false,eval c X.env)]:=by rfl) (hs3:starEach [c] X.env=[(false,eval c X.env)]:=by rfl) :
  PI X (.Tuple elts x1 tpos) (.Call (.Name "zip" p) [a,b,c] [] pos) (Zds ta tb tc):=by
 intro pins s σ H R I h
 have hab:PA X [a,b,c] (fg ta (fg tb (fg tc cw))):=cD ha (cD hb (cD hcc cU (by rw [hs3]; rfl)) (by rw [hs2,hs3])) (by rw [hs,hs2])
 refine Call_ (iP I hg hm boot_zip (PyProof.Rows.callWith_type1 (thn (hab pos pins s σ H (λvs H2=>∃ b1 b2 b3 l1 l2 l3 xs ys zs,vs=[.ref l1,.ref l2,.ref l3]/\H2 l1=some (bR b1 xs)/\H2 l2=some (bR b2 ys)/\H2 l3=some (bR b3 zs)/\R (jx b1 b2 b3 l1 l2 l3) H2) I ?_) λus s1 ⟨vs,H1,I1,r1,q1⟩=>?_) (by rw [hs,hs2]) (by rw [hs2]; rfl)))
 ·have h':ta σ H λx H1=>tb σ H1 λy H2=>tc σ H2 λz H3=>∃ b1 b2 b3 l1 l2 l3 xs ys zs,x=.ref l1/\y=.ref l2/\z=.ref l3/\H3 l1=some (bR b1 xs)/\H3 l2=some (bR b2 ys)/\H3 l3=some (bR b3 zs)/\R (jx b1 b2 b3 l1 l2 l3) H3:=h
  have e:(λ(x:V) (H1:Hp)=>tb σ H1 λy H2=>tc σ H2 λz H3=>∃ b1 b2 b3 l1 l2 l3 xs ys zs,x=.ref l1/\y=.ref l2/\z=.ref l3/\H3 l1=some (bR b1 xs)/\H3 l2=some (bR b2 ys)/\H3 l3=some (bR b3 zs)/\R (jx b1 b2 b3 l1 l2 l3) H3) =
    λx H1=>fg tb (fg tc cw) σ H1 λus H2=>∃ b1 b2 b3 l1 l2 l3 xs ys zs,x::us=[.ref l1,.ref l2,.ref l3]/\H2 l1=some (bR b1 xs)/\H2 l2=some (bR b2 ys)/\H2 l3=some (bR b3 zs)/\R (jx b1 b2 b3 l1 l2 l3) H2:=by
   funext x H1
   show _=tb σ H1 _
   congr 1
   funext y H2
   show _=tc σ H2 _
   congr 1
   funext z H3
   show _=(∃ b1 b2 b3 l1 l2 l3 xs ys zs,[x,y,z]=[.ref l1,.ref l2,.ref l3]/\H3 l1=some (bR b1 xs)/\H3 l2=some (bR b2 ys)/\H3 l3=some (bR b3 zs)/\R (jx b1 b2 b3 l1 l2 l3) H3)
   apply propext
   constructor
   ·rintro ⟨b1,b2,b3,l1,l2,l3,xs,ys,zs,rfl,rfl,rfl,q⟩; exact ⟨b1,b2,b3,l1,l2,l3,xs,ys,zs,rfl,q⟩
   ·rintro ⟨b1,b2,b3,l1,l2,l3,xs,ys,zs,e,q⟩
    have e1:x=V.ref l1/\y=V.ref l2/\z=V.ref l3:=by simpa using e
    exact ⟨b1,b2,b3,l1,l2,l3,xs,ys,zs,e1.1,e1.2.1,e1.2.2,q⟩
  rw [e] at h'
  exact h'
 ·obtain ⟨b1,b2,b3,l1,l2,l3,xs,ys,zs,rfl,e1,e2,e3,q⟩:=q1
  obtain ⟨u1,u2,u3,rfl,r1,r2,r3⟩:=ZfO r1
  cases r1
  cases r2
  cases r3
  obtain ⟨us,ru,q1⟩:=dZ I1.hok e1
  obtain ⟨vs,rv,q2⟩:=dZ I1.hok e2
  obtain ⟨ws,rw',q3⟩:=dZ I1.hok e3
  refine Zon q1 q2 q3 λh' z pTI pTO t1 t2 t3 kk=>?_
  have I2:Inv X pins σ H1 { s1 with heap:=h' }:=I1.kept (t':=s1.toks) kk
  have na:∀ n k:Nat,n≠k->(s1.heap.objs.size+n:Nat)≠s1.heap.objs.size+k:=λn k h e=>h (by omega)
  refine wpAny_pyIter_zip z ⟨s1.heap.objs.size+5,[s1.heap.objs.size+5,s1.heap.objs.size+3,s1.heap.objs.size+4,s1.heap.objs.size,s1.heap.objs.size+1,s1.heap.objs.size+2],_,_,H1,rfl,I2,ZfS _ _ _ _ _ _
   ⟨na 3 5 (by decide),na 4 5 (by decide),na 0 5 (by decide),na 1 5 (by decide),na 2 5 (by decide),na 3 4 (by decide),na 3 0 (by decide),na 3 1 (by decide),na 3 2 (by decide),na 4 0 (by decide),na 4 1 (by decide),na 4 2 (by decide),na 0 1 (by decide),na 0 2 (by decide),na 1 2 (by decide)⟩,
   ⟨z,pTI,⟨_,_,_,pTO⟩,t1,t2,t3⟩,λb hb=>?_,q⟩
  have hle:s1.heap.objs.size<=b:=by
   simp at hb
   rcases hb with rfl | rfl | rfl | rfl | rfl | rfl <;> first | exact Nat.le_add_right _ _ | exact Nat.le_refl _
  exact I1.fpOk hle (I1.hok.fresh hle)
noncomputable def nU (xs ys zs:List PyData):List PyData:=(xs.zip (ys.zip zs)).map λ(x,y,z)=>.tuple [x,y,z]
theorem ZjQ {pa:Addr} {G:Hp} {b1 b2 b3:Bool} {l1 l2 l3:Addr} {us vs ws:List V} {xs ys zs:List PyData} (h1:G l1=some (bR b1 us)) (h2:G l2=some (bR b2 vs)) (h3:G l3=some (bR b3 ws)) (d1:DnAll G us xs) (d2:DnAll G vs ys) (d3:DnAll G ws zs):jw PK pa (jx b1 b2 b3 l1 l2 l3) G (nU xs ys zs):=λm G2 H2 sb w=>by
 have e1:H2 l1=some (bR b1 us):=w.sub _ _ (sb _ _ h1)
 have e2:H2 l2=some (bR b2 vs):=w.sub _ _ (sb _ _ h2)
 have e3:H2 l3=some (bR b3 ws):=w.sub _ _ (sb _ _ h3)
 refine ⟨λn d hd=>?_,us,vs,ws,e1,e2,e3,?_⟩
 ·unfold nU at hd
  rw [List.getElem?_map] at hd
  cases hz:(xs.zip (ys.zip zs))[n]? with
  | none=>rw [hz] at hd; cases hd
  | some xy =>
   obtain ⟨x0,y0,z0⟩:=xy
   rw [hz] at hd
   cases hd
   have hxy:=List.getElem?_zip_eq_some.mp hz
   have hyz:=List.getElem?_zip_eq_some.mp hxy.2
   obtain ⟨u,hu,du⟩:=d1.get n hxy.1
   obtain ⟨v,hv,dv⟩:=d2.get n hyz.1
   obtain ⟨w',hw,dw⟩:=d3.get n hyz.2
   refine ⟨⟨us,vs,ws,u,v,w',e1,e2,e3,hu,hv,hw⟩,λx H3 hz0=>?_⟩
   obtain ⟨us',vs',ws',u',v',w'',p,f1,f2,f3,hu',hv',hw',hp,ex,eH⟩:=hz0
   rw [e1] at f1
   rw [e2] at f2
   rw [e3] at f3
   have:=lu f1
   have:=lu f2
   have:=lu f3
   subst us' vs' ws'
   rw [hu] at hu'
   rw [hv] at hv'
   rw [hw] at hw'
   cases hu'
   cases hv'
   cases hw'
   subst ex eH
   obtain ⟨w3,s3⟩:=w.new (o:=.tup [u,v,w']) hp
   exact ⟨_,s3,w3,.tup cA (.cons ((du.mono sb).mono s3.gs) (.cons ((dv.mono sb).mono s3.gs) (.cons ((dw.mono sb).mono s3.gs) .nil)))⟩
 ·unfold nU
  rw [List.length_map,List.length_zip,List.length_zip,d1.length.symm,d2.length.symm,d3.length.symm]
  omega
noncomputable def lQ (i j k:List Sl->Tr PyData):List Sl->Tr (List PyData):=λρ=>(i ρ).bind λx=>(j ρ).bind λy=>(k ρ).bind λz=>(Tr.of (fN x)).bind λxs=>(Tr.of (fN y)).bind λys=>(Tr.of (fN z)).bind λzs=>.ret (nU xs ys zs)
theorem Ze3 {iter:Expr} (h:PI X tg iter (Zds (TAe PK i) (TAe PK j) (TAe PK k))):PI X tg iter (gD PK (lQ i j k)):=h.imp λσ H R0 hz0=>by
 obtain ⟨pa,G₀,H₀,m,ρ,G,R,z⟩:=hz0
 refine TAe.then R z λm1 x v G1 H1 s1 w1 R1 d1 q1=>?_
 refine TAe.then R1 q1 λm2 y u G2 H2 s2 w2 R2 d2 q2=>?_
 refine TAe.then R2 q2 λm3 z0 t G3 H3 s3 w3 R3 d3 q3=>?_
 rw [Tr.ok_bind] at q3
 obtain ⟨xs,hx,q3⟩:=Tr.ok_of q3
 rw [Tr.ok_bind] at q3
 obtain ⟨ys,hy,q3⟩:=Tr.ok_of q3
 rw [Tr.ok_bind] at q3
 obtain ⟨zs,hz,q3⟩:=Tr.ok_of q3
 obtain ⟨b1,l1,us,rfl,e1,f1⟩:=jW ((d1.mono s2.gs).mono s3.gs) hx
 obtain ⟨b2,l2,vs,rfl,e2,f2⟩:=jW (d2.mono s3.gs) hy
 obtain ⟨b3,l3,ws,rfl,e3,f3⟩:=jW d3 hz
 exact ⟨b1,b2,b3,l1,l2,l3,us,vs,ws,rfl,rfl,rfl,w3.sub _ _ e1,w3.sub _ _ e2,w3.sub _ _ e3,q3 _ G3 H3 ((s1.trans s2 w1.some).trans s3 w2.some) w3 (ZjQ e1 e2 e3 f1 f2 f3)⟩
end
end L2
namespace L2
open PySem PySem.Spec PySem.Calls PyProof.Rows
section
variable {M:Model} {A:Around} {E:Value->Shared->Prop}
variable {nm q:Str} {C N:Addr} {bs bm:List Value} {hdct:Bool} {sn:List Str} {sub:List Value} {ab:Bool} {col:Option Bool} {dd:Option Addr} {k0 k1 k2 k3 k5:Option Value} {newId:String}
theorem ZkF {h:Heap} {g:Array GenState} {d:Drawn} {t:Nat} {os:OsState} {e:Addr} {oe:Obj} {Q:Bool->Shared->Prop}
  (hC:h.get? C=some (excClassObj nm q C N bs bm hdct sn sub ab col dd k0 k1 k2 k3 k5 newId)) (he:h.get? e=some oe) (hcls:oe.cls=.ref C)
  (hbase:bm.contains (.type "BaseException")=true)
  (hq:Q true ⟨h,g,d,t,os⟩):wpAny M A (excMatches (.ref e) (.ref C)) Q E ⟨h,g,d,t,os⟩:=by
 have hcB:(Value.ref C::bm).contains (.type "BaseException")=true:=by rw [List.contains_cons,hbase,Bool.or_true]
 have hcC:(Value.ref C::bm).contains (.ref C)=true:=by rw [List.contains_cons,beq_self_eq_true,Bool.true_or]
 have f:=tc_notTuple
 unfold excMatches
 repeat (first | (with_reducible refine wpAny_loadPart_at he ?_; rw [hcls]) | with_reducible refine wpAny_loadPart_at hC ?_ | (with_reducible refine wpAny_isSubtype_exc hC ?_; rw [hcB]) | (with_reducible refine wpAny_isSubtype_exc hC ?_; rw [hcC]) | wp_step)
 exact hq
end
section
variable {prog:Program} {w:World} {A:Around} {E:Value->Shared->Prop} {s:Shared} {env:Env}
theorem Zke {e C:Addr} {t:Expr} {b₀:Stmt} {suite:List Stmt} {pos:Pos} {rest:List ExceptHandler} {Q:Flow->Shared->Prop}
  {nm q:Str} {N:Addr} {bs bm:List Value} {hdct:Bool} {sn:List Str} {sub:List Value} {ab:Bool} {col:Option Bool} {dd:Option Addr} {k0 k1 k2 k3 k5:Option Value} {newId:String}
  (hbase:bm.contains (.type "BaseException")=true)
  (h:wpAny (model prog w) (A.mark (some (.ref e))) (eval t env) (λc s₁=>c=.ref C/\s₁.heap.get? C=some (excClassObj nm q C N bs bm hdct sn sub ab col dd k0 k1 k2 k3 k5 newId)/\(∃ oe,s₁.heap.get? e=some oe/\oe.cls=.ref C) /\
   wpAny (model prog w) (A.mark (some (.ref e))) (setFlight (.ref e) none) (λ_ s₂ =>
     wpAny (model prog w) (A.mark (some (.ref e))) (execs (b₀::suite) env) Q (notedBy (model prog w) (A.mark (some (.ref e))) env (cameBackBy (model prog w) A env E)) s₂) (notedBy (model prog w) (A.mark (some (.ref e))) env (cameBackBy (model prog w) A env E)) s₁) (notedBy (model prog w) (A.mark (some (.ref e))) env (cameBackBy (model prog w) A env E)) s) :
  wpAny (model prog w) A (handleBy (.ref e) env (.ExceptHandler (some t) none (b₀::suite) pos::rest)) Q E s:=by
 refine wpAny_handleBy_cons (codeAny_handlers_test (wpAny_mono h (λc s₁ h₁=>?_) λ_ _ y=>y)) (by intro q; cases q)
 obtain ⟨rfl,hC,⟨oe,he,hcls⟩,hk⟩:=h₁
 obtain ⟨hh,g,d,tk,os⟩:=s₁
 exact ZkF hC he hcls hbase (codeAny_handlers_suite hk)
end
section
variable {X:Cx}
noncomputable def Zf6 (C0:Addr) (m:Str) (sp:Sp) (ta:TE) (C:Addr) (tb:TS):TS:=λD σ H=>ta σ H λx H1=>∃ a dx fs,x=.ref a/\H1 a=some (.ins C0 dx fs)/\fs.lookup m=none /\
 sp [x] H1 (λ_ H'=>D.nx σ H') λcls _ H'=>cls=.ref C/\∀ ea,H' ea=none->tb D σ (upd H' ea (.ext (ku ea (.ref C))))
theorem ZhZ {k:Nat} {m c:Str} {C C0 f L:Addr} {outer:List Env} {fd:FuncData} {ps:List Str} {sp:Sp} {o:Expr} {ta:TE} {tb:TS} {apos cpos epos cp hpos pos:Pos} {b₀:Stmt} {suite:List Stmt} {pl:Sem Bool}
  (hstk:X.stack=X.env::outer) (hL:X.env.frame=some L) (ho:PE X.nox o ta) (cl:Cls X.K C0) (hm:Meth X.K C0 m f) (F:FnOk X.prog X.w X.K X.mg X.base (gR X.prog X.w) k f fd ps sp) (hr:Room k X.A) (hb:Binds X.K fd ps [])
  (xc:Xcl X.K C nC "ValueError.__new__") (hgc:Gl X c) (hmc:X.mg c=some (.ref C)) (hsu:∀ ea,PSs (X.marked ea) (b₀::suite) tb)
  (hdc:(c == ("__debug__":Str))=false:=by decide) (hs:swapsWith (.Call (.Attribute o m apos) [] [] cpos) none epos.line X.env=pure false:=by rfl)
  (ht:eval (.Call (.Attribute o m apos) [] [] cpos) X.env=(do
   let ov <- eval o X.env
   standAt apos.atName
   let (f,first) <- holding [ov] (getMethod ov m pl)
   callWith cpos f first (backTo cpos (starEach [] X.env)) (backToKw cpos (keywordEach [] X.env))):=by rfl) :
  PS X (.Try [.Expr (.Call (.Attribute o m apos) [] [] cpos) epos] [.ExceptHandler (some (.Name c cp)) none (b₀::suite) hpos] [] [] pos) (Zf6 C0 m sp ta C tb):=by
 intro pins s σ H D I h
 refine wpAny_Try_except (wpAny_execs_cons (wpAny_Expr_any ?_ I.quiet hs))
 refine PySem.W.methodCall_KW (pl:=pl) (wpAny_mono (ho pins s σ H _ (I.wish _) h) (λu s1 hz0=>?_) λ_ _ z=>z.elim) ht
 obtain ⟨x,H1,I1',rx,a,dx,fs,ex,ea,l,q⟩:=hz0
 have I1:Inv X pins σ H1 s1:=I1'.unwish
 subst ex
 obtain rfl:u=Value.ref a:=rx
 refine ua I1 ea cl hm l ?_
 refine PySem.W.callWith_K0 (first:=[.ref a]) I1.kIn hm.kp ?_
 have r:Vals [V.ref a] [Value.ref a]:=.cons rfl .nil
 have hlen:[Value.ref a].length=ps.length:=F.len _ _ _ _ q
 have hbb:=hb s1 [.ref a] I1.kIn (by rw [List.append_nil]; exact hlen)
 rw [List.append_nil] at hbb
 refine wpAny_call (codeAny_mono (F.run X.A X.stack s1 H1 ⟨[.ref a],[]⟩ [.ref a] [.ref a] _ _ hr I1.env0 hbb r q) λrr s' hq=>?_)
 cases rr with
 | ok fl =>
  cases fl with
  | ret u =>
   obtain ⟨v,H',I',r',q'⟩:=I1.after hq
   exact wpAny_execs_nil (wpAny_execs_nil ⟨σ,H',I',q'⟩)
  | next=>exact False.elim hq
  | brk=>exact False.elim hq
  | cont=>exact False.elim hq
 | error ex =>
  have hq':gR X.prog X.w X.stack H1 s1 (λcls _ H'=>cls=.ref C/\∀ ea,H' ea=none->tb D σ (upd H' ea (.ext (ku ea (.ref C))))) ex s':=hq
  refine Zoj I1 hstk hL hq' λea cls H' h' eq I5 hea hcl fly un hE=>?_
  subst eq
  obtain ⟨hcls,hE⟩:=hE
  subst hcls
  obtain ⟨b'',tt,fl,hf,hbt⟩:=fly
  obtain ⟨nm,q0,N0,bs,bm,hdct,sn,sub,ab,col,dd,k0,k1,k2,k3,k5,mN,lkC,_,_,hbase⟩:=xc.ex
  have KX:=I5.kIn
  refine Zke hbase (Zjz I5 hgc hmc ⟨rfl,KX _ _ lkC,hcl,?_⟩ hdc)
  refine ZjH I1 I5 un hea fl hf hbt (I5.os.trans I1.os.symm) λh6 I6=>?_
  refine wpAny_mono (hsu ea pins _ _ _ _ (I6.marked ea) (hE ea hea)) (λfl8 s8 h8=>?_) λ_ _ z=>z.elim
  cases fl8 with
  | next =>
   obtain ⟨σ8,H8,I8,q8⟩:=h8
   exact ⟨_,_,I8.unmarked I5.ok,q8⟩
  | ret u =>
   obtain ⟨v,σ8,H8,I8,r8,q8⟩:=h8
   exact ⟨v,_,_,I8.unmarked I5.ok,r8,q8⟩
  | brk =>
   obtain ⟨σ8,H8,I8,q8⟩:=h8
   exact ⟨_,_,I8.unmarked I5.ok,q8⟩
  | cont =>
   obtain ⟨σ8,H8,I8,q8⟩:=h8
   exact ⟨_,_,I8.unmarked I5.ok,q8⟩
end
section
variable {PK:Pk} {X:Cx} {i:List Sl->Tr PyData} {s:List Sl->Tr Ou}
noncomputable def n9 (s:List Sl->Tr Ou) (ρ:List Sl):Option PyData->Tr Ou
 | none=>s ρ
 | some _=>.ret (.next ρ)
noncomputable def qt (C0:Addr) (m:Str) (fx:List Sl->Tr (Option Re)) (i:List Sl->Tr PyData) (s:List Sl->Tr Ou):List Sl->Tr Ou:=λρ=>(nW C0 m fx i bF ρ).bind (n9 s ρ)
theorem Zo1 {k:Nat} {m c:Str} {C C0 L:Addr} {outer:List Env} {ps:List Str} {fx:List Sl->Tr (Option Re)} {o:Expr} {apos cpos epos cp hpos pos:Pos} {b₀:Stmt} {suite:List Stmt} {pl:Sem Bool}
  (hstk:X.stack=X.env::outer) (hL:X.env.frame=some L) (cl:Cls X.K C0) (Ml:XMal PK X.prog X.w X.K X.mg X.base C0 m k ps C fx) (hr:Room k X.A) (ho:PE X.nox o (TAe PK i))
  (xc:Xcl X.K C nC "ValueError.__new__") (hgc:Gl X c) (hmc:X.mg c=some (.ref C)) (hsu:∀ ea,PSs (X.marked ea) (b₀::suite) (cr PK s))
  (hdc:(c == ("__debug__":Str))=false:=by decide) (hs:swapsWith (.Call (.Attribute o m apos) [] [] cpos) none epos.line X.env=pure false:=by rfl)
  (ht:eval (.Call (.Attribute o m apos) [] [] cpos) X.env=(do
   let ov <- eval o X.env
   standAt apos.atName
   let (f,first) <- holding [ov] (getMethod ov m pl)
   callWith cpos f first (backTo cpos (starEach [] X.env)) (backToKw cpos (keywordEach [] X.env))):=by rfl) :
  PS X (.Try [.Expr (.Call (.Attribute o m apos) [] [] cpos) epos] [.ExceptHandler (some (.Name c cp)) none (b₀::suite) hpos] [] [] pos) (cr PK (qt C0 m fx i s)):=by
 obtain ⟨fa,fd,F,hm,hb⟩:=Ml.ex
 refine (ZhZ (pl:=pl) hstk hL ho cl hm F hr hb xc hgc hmc hsu hdc hs ht).imp λD σ H hz0=>?_
 obtain ⟨pa,G₀,H₀,ms,ρ,G,R,z⟩:=hz0
 unfold qt nW at z
 rw [Tr.bind_assoc] at z
 refine TAe.then R z λm1 x v G1 H1 s1 w1 R1 d1 q1=>?_
 rw [Tr.bind_assoc] at q1
 obtain ⟨a,s',y,ha,hg,q2⟩:=gK (Tr.ok_bind.mp q1)
 obtain ⟨rfl,rfl⟩:=iA d1 ha
 obtain ⟨rfl,fs,e1,e2⟩:=ZcZ hg
 obtain ⟨dx,vs,e3,e4⟩:=w1.sto.cel a _ e1
 refine ⟨a,dx,vs,rfl,e3,e4.nolook e2,?_⟩
 have q2:(((fx [.d (ah a)]).bind λo=>.ret (o.map Re.val)).bind (n9 s ρ)).ok m1 _:=q2
 rw [Tr.bind_assoc] at q2
 have q3:=Tr.ok_bind.mp q2
 refine ⟨by rw [<- Ml.len _ _ _ q3]; rfl,pa,m1,G1,_,w1,.cons (.d (.hdl a)) .nil,Tr.ok_mono q3 λm3 r k=>?_⟩
 cases r with
 | none =>
  intro G2 H2 s2 w2
  refine ⟨rfl,λea hea=>?_⟩
  obtain ⟨w3,s3⟩:=w2.own (o:=.ext (ku ea (.ref C))) hea
  exact ⟨pa,G₀,H₀,m3,ρ,G2,(R1.step s2 w2).step s3 w3,Tr.ok_mono (show (s ρ).ok m3 _ from k) λ_ _ k'=>Ko.later k' (s1.gs.trans s2.gs)⟩
 | some r =>
  refine Kr.of (λv G2 H2 s2 w2 d2=>?_) w1.some
  exact (show Ko PK pa G₀ H₀ G D m3 (.next ρ) from k) σ G2 H2 (s1.gs.trans s2.gs) (R1.step s2 w2)
end
end L2
namespace L2
open PySem PySem.Spec PyProof.Rows
noncomputable def rn {α:Type}:Tr α->Sto->Option (Sto×α)
 | .ret a,st=>some (st,a)
 | .op g k,st=>(g st).bind λp=>rn (k p.2) p.1
 | .draw _ _,_=>none
 | .fail,_=>none
 | .new _ _,_=>none
noncomputable def rb {α β:Type} (o:Option (Sto×α)) (f:α->Tr β):Option (Sto×β):=o.bind λp=>rn (f p.2) p.1
noncomputable def sV (g:Sto->Option (Sto×PyData)):Tr PyData:=.op g .ret
section
variable {α β:Type} {t:Tr α} {f:α->Tr β} {st s:Sto} {a:α}
theorem dR:rn (.ret a) st=some (st,a):=rfl
theorem dq:rb (some (s,a)) f=rn (f a) s:=rfl
theorem di:∀ {t:Tr α} {st:Sto},rn (t.bind f) st=rb (rn t st) f
 | .ret a,st=>rfl
 | .op g k,st=>by
  show (g st).bind (λp=>rn ((k p.2).bind f) p.1)=((g st).bind λp=>rn (k p.2) p.1).bind λp=>rn (f p.2) p.1
  cases e:g st with
  | none=>rfl
  | some p =>
   show rn ((k p.2).bind f) p.1=(rn (k p.2) p.1).bind λp=>rn (f p.2) p.1
   exact di
 | .draw _ _,_=>rfl
 | .fail,_=>rfl
 | .new _ _,_=>rfl
theorem eD {g:Sto->Option (Sto×PyData)}:rn (sV g) st=g st:=by
 show (g st).bind (λp=>some (p.1,p.2))=g st
 cases g st <;> rfl
theorem gG {g:Sto->Option (Sto×PyData)} {h:PyData->Tr β} {x:PyData} {n:Nat} {P:Sto->β->Prop} (e:g st=some (s,x)) (k:As (h x) s n P):As ((sV g).bind h) st n P:=Za3 e k
theorem mv:∀ {t:Tr α} {st s:Sto} {a:α} {n:Nat} {P:Sto->α->Prop},rn t st=some (s,a)->P s a->As t st n P
 | .ret b,st,s,a,n,P,h,hp=>by
  cases h
  exact fh hp
 | .op g k,st,s,a,n,P,h,hp=>by
  have h:(g st).bind (λp=>rn (k p.2) p.1)=some (s,a):=h
  cases e:g st with
  | none=>rw [e] at h; cases h
  | some p =>
   rw [e] at h
   exact Za3 (s:=p.1) (x:=p.2) e (mv (show rn (k p.2) p.1=some (s,a) from h) hp)
 | .draw _ _,_,_,_,_,_,h,_=>by cases h
 | .fail,_,_,_,_,_,h,_=>by cases h
 | .new _ _,_,_,_,_,_,h,_=>by cases h
end
section
variable {ρ:List Sl} {s t:List Sl->Tr Ou} {i j l:List Sl->Tr PyData} {is:List Sl->Tr (List PyData)} {as:List Sl->Tr (List Sl)} {f:List Sl->Tr Re} {fx:List Sl->Tr (Option Re)} {k n:Nat} {x y v:PyData} {xs ys:List PyData} {sl:Sl} {C a:Addr} {w:Str} {st:Sto}
noncomputable def eG (g:Addr->Sto->Option (Sto×PyData)) (x:PyData):Tr PyData:=fM x g
theorem aK {g:Addr->Sto->Option (Sto×PyData)}:eG g (ah a)=sV (g a):=rfl
theorem ba:cM C w i ρ=(i ρ).bind (eG (iG C w)):=rfl
noncomputable def sX (ρ:List Sl) (_:PyData):Tr Ou:=.ret (.next ρ)
theorem aM:sX ρ x=.ret (.next ρ):=rfl
noncomputable def mo (C:Addr) (w:Str) (ρ:List Sl) (y x:PyData):Tr Ou:=(eG (i5 C w y) x).bind (sX ρ)
noncomputable def Za0 (C:Addr) (w:Str) (i:List Sl->Tr PyData) (ρ:List Sl) (y:PyData):Tr Ou:=(i ρ).bind (mo C w ρ y)
theorem aI:fP C w i j ρ=(j ρ).bind (Za0 C w i ρ):=rfl
theorem aH:Za0 C w i ρ y=(i ρ).bind (mo C w ρ y):=rfl
theorem aG:mo C w ρ y x=(eG (i5 C w y) x).bind (sX ρ):=rfl
noncomputable def uG (C:Addr) (w:Str) (ρ:List Sl) (x z:PyData):Tr Ou:=mo C w ρ z x
noncomputable def uH (C:Addr) (w:Str) (g:Int->Int->Int) (ρ:List Sl) (x v y:PyData):Tr Ou:=(lj g v y).bind (uG C w ρ x)
noncomputable def uI (C:Addr) (w:Str) (g:Int->Int->Int) (j:List Sl->Tr PyData) (ρ:List Sl) (x v:PyData):Tr Ou:=(j ρ).bind (uH C w g ρ x v)
noncomputable def ZeO (C:Addr) (w:Str) (g:Int->Int->Int) (j:List Sl->Tr PyData) (ρ:List Sl) (x:PyData):Tr Ou:=(eG (iG C w) x).bind (uI C w g j ρ x)
theorem bu {g:Int->Int->Int}:ju C w g i j ρ=(i ρ).bind (ZeO C w g j ρ):=rfl
theorem br {g:Int->Int->Int}:ZeO C w g j ρ x=(eG (iG C w) x).bind (uI C w g j ρ x):=rfl
theorem bq {g:Int->Int->Int}:uI C w g j ρ x v=(j ρ).bind (uH C w g ρ x v):=rfl
theorem bp {g:Int->Int->Int}:uH C w g ρ x v y=(lj g v y).bind (uG C w ρ x):=rfl
theorem bn:uG C w ρ x y=mo C w ρ y x:=rfl
theorem a9 {g:Int->Int->Int} (m n:Int):lj g (.int m) (.int n)=.ret (.int (g m n)):=rfl
noncomputable def tp (f:List Sl->Tr Re) (x:PyData) (ys:List Sl):Tr Re:=f (.d x::ys)
noncomputable def tq (f:List Sl->Tr Re) (as:List Sl->Tr (List Sl)) (ρ:List Sl) (x _:PyData):Tr Re:=(as ρ).bind (tp f x)
noncomputable def ZcY (C:Addr) (w:Str) (f:List Sl->Tr Re) (as:List Sl->Tr (List Sl)) (ρ:List Sl) (x:PyData):Tr Re:=(eG (hI C w) x).bind (tq f as ρ x)
theorem aS:fk C w f i as ρ=(i ρ).bind (ZcY C w f as ρ):=rfl
theorem aR:ZcY C w f as ρ x=(eG (hI C w) x).bind (tq f as ρ x):=rfl
theorem aQ:tq f as ρ x y=(as ρ).bind (tp f x):=rfl
theorem aP {zs:List Sl}:tp f x zs=f (.d x::zs):=rfl
noncomputable def tE (o:Option Re):Tr (Option PyData):=.ret (o.map Re.val)
noncomputable def qW (f:List Sl->Tr (Option Re)) (x:PyData) (ys:List Sl):Tr (Option PyData):=(f (.d x::ys)).bind tE
noncomputable def qX (f:List Sl->Tr (Option Re)) (as:List Sl->Tr (List Sl)) (ρ:List Sl) (x _:PyData):Tr (Option PyData):=(as ρ).bind (qW f x)
noncomputable def Zae (C:Addr) (w:Str) (f:List Sl->Tr (Option Re)) (as:List Sl->Tr (List Sl)) (ρ:List Sl) (x:PyData):Tr (Option PyData):=(eG (hI C w) x).bind (qX f as ρ x)
theorem aw:nW C w fx i as ρ=(i ρ).bind (Zae C w fx as ρ):=rfl
theorem au:Zae C w fx as ρ x=(eG (hI C w) x).bind (qX fx as ρ x):=rfl
theorem aq:qX fx as ρ x y=(as ρ).bind (qW fx x):=rfl
theorem ao {zs:List Sl}:qW fx x zs=(fx (.d x::zs)).bind tE:=rfl
theorem aT {o:Option Re}:tE o=.ret (o.map Re.val):=rfl
noncomputable def uQ (x y:PyData):Tr PyData:=eG (j7 y) x
noncomputable def uR (j:List Sl->Tr PyData) (ρ:List Sl) (x _:PyData):Tr PyData:=(j ρ).bind (uQ x)
noncomputable def Ze0 (j:List Sl->Tr PyData) (ρ:List Sl) (x:PyData):Tr PyData:=(eG f9 x).bind (uR j ρ x)
theorem bz:lV i j ρ=(i ρ).bind (Ze0 j ρ):=rfl
theorem bx:Ze0 j ρ x=(eG f9 x).bind (uR j ρ x):=rfl
theorem bw:uR j ρ x y=(j ρ).bind (uQ x):=rfl
theorem bv:uQ x y=eG (j7 y) x:=rfl
theorem aJ:nL i ρ=(i ρ).bind (eG kL):=rfl
noncomputable def Zat (x:PyData):Tr Bool:=(eG f9 x).bind kQ
theorem aF:qu i ρ=(i ρ).bind Zat:=rfl
theorem aE:Zat x=(eG f9 x).bind kQ:=rfl
theorem aL (n:Int):kQ (.int n)=.ret (n != 0):=rfl
noncomputable def uk (neg:Bool) (x:PyData):PyData->Tr PyData
 | .list []=>(eG f9 x).bind (jY neg)
 | _=>.fail
noncomputable def ZdX (neg:Bool) (j:List Sl->Tr PyData) (ρ:List Sl) (x:PyData):Tr PyData:=(j ρ).bind (uk neg x)
theorem bf {neg:Bool}:qD neg i j ρ=(i ρ).bind (ZdX neg j ρ):=rfl
theorem be {neg:Bool}:ZdX neg j ρ x=(j ρ).bind (uk neg x):=rfl
theorem bd {neg:Bool}:uk neg x (.list [])=(eG f9 x).bind (jY neg):=rfl
theorem bg {neg:Bool} (n:Int):jY neg (.int n)=.ret (.bool (if neg then n != 0 else !(n != 0))):=rfl
noncomputable def Zdm (x:PyData):Tr (List PyData):=(eG jI x).bind pP
theorem aZ:va i ρ=(i ρ).bind Zdm:=rfl
theorem aY:Zdm x=(eG jI x).bind pP:=rfl
theorem aX:pP (.list xs)=.ret xs:=rfl
noncomputable def m7 (g:PyData->List Sl->Option (List Sl)) (el:List Sl->Tr PyData) (τ:List Sl) (x:PyData):Tr PyData:=stil ((Tr.of (g x τ)).bind el)
noncomputable def tM (n:Nat) (ix:List Nat) (g:PyData->List Sl->Option (List Sl)) (el:List Sl->Tr PyData) (ρ:List Sl) (xs:List PyData):Tr (List PyData):=if small xs.length=true then c8 (m7 g el (blk n ix ρ)) xs else .fail
theorem aW {ix:List Nat} {g:PyData->List Sl->Option (List Sl)}:qB is n ix g i ρ=(is ρ).bind (tM n ix g i ρ):=rfl
theorem aV {ix:List Nat} {g:PyData->List Sl->Option (List Sl)} (h:small xs.length=true):tM n ix g i ρ xs=c8 (m7 g i (blk n ix ρ)) xs:=by unfold tM; rw [if_pos h]
theorem ai {τ:List Sl} {g:PyData->List Sl->Option (List Sl)}:m7 g i τ x=stil (jp g i τ x):=rfl
noncomputable def tj (c:Cel):Tr PyData:=.new c λa=>.ret (ah a)
noncomputable def ZcU (xs:List PyData):Tr PyData:=if small xs.length=true then tj (.lst xs) else .fail
theorem aO:nM is ρ=(is ρ).bind ZcU:=rfl
theorem aN:ZcU []=tj (.lst []):=rfl
noncomputable def mS (C:Addr) (f:List Sl->Tr Re) (ys:List Sl):Tr PyData:=.new (.ins C []) λa=>(f (.d (ah a)::ys)).bind (oa a)
theorem aU:qz C f as ρ=(as ρ).bind (mS C f):=rfl
noncomputable def Zqc (o:Option (List PyData)):Option Sl->Option (List PyData)
 | some (.d x)=>o.map (x::·)
 | _=>none
end
section
variable {C C' a b:Addr} {w:Str} {st s:Sto} {x y:PyData} {xs:List PyData} {fs:List (Str×PyData)} {c:Cel}
noncomputable def oE (st:Sto) (o:Option PyData):Option (Sto×PyData):=o.map λx=>(st,x)
noncomputable def sB (C:Addr) (w:Str) (st:Sto):Option Cel->Option (Sto×PyData)
 | some (.ins C' fs)=>if C'=C then oE st (fs.lookup w) else none
 | _=>none
theorem eB:iG C w a st=sB C w st (st.get a):=by
 unfold iG sB oE
 cases st.get a with
 | none=>rfl
 | some c=>cases c <;> rfl
theorem eA:sB C w st (some (.ins C fs))=oE st (fs.lookup w):=if_pos rfl
theorem eC:oE st (some x)=some (st,x):=rfl
noncomputable def i6 (C:Addr) (w:Str) (y:PyData) (a:Addr) (st:Sto):Option Cel->Option (Sto×PyData)
 | some (.ins C' fs)=>if C'=C/\fs.length < 1000 then some (st.put a (.ins C (gJ w y fs)),.none) else none
 | _=>none
theorem dc:i5 C w y a st=i6 C w y a st (st.get a):=by
 unfold i5 i6
 cases st.get a with
 | none=>rfl
 | some c=>cases c <;> rfl
theorem db (h:fs.length < 1000):i6 C w y a st (some (.ins C fs))=some (st.put a (.ins C (gJ w y fs)),.none):=if_pos ⟨rfl,h⟩
noncomputable def tz (C:Addr) (w:Str) (st:Sto):Option Cel->Option (Sto×PyData)
 | some (.ins C' fs)=>if C'=C/\fs.lookup w=none then some (st,.none) else none
 | _=>none
theorem dN:hI C w a st=tz C w st (st.get a):=by
 unfold hI tz
 cases st.get a with
 | none=>rfl
 | some c=>cases c <;> rfl
theorem dM (h:fs.lookup w=none):tz C w st (some (.ins C fs))=some (st,.none):=if_pos ⟨rfl,h⟩
noncomputable def mD (st:Sto):Option Cel->Option (Sto×PyData)
 | some (.lst xs)=>some (st,.list xs)
 | _=>none
theorem eu:jI a st=mD st (st.get a):=by
 unfold jI mD
 cases st.get a with
 | none=>rfl
 | some c=>cases c <;> rfl
theorem em:mD st (some (.lst xs))=some (st,.list xs):=rfl
noncomputable def tJ (st:Sto):Option Cel->Option (Sto×PyData)
 | some (.lst xs)=>some (st,.int xs.length)
 | _=>none
theorem dL:f9 a st=tJ st (st.get a):=by
 unfold f9 tJ
 cases st.get a with
 | none=>rfl
 | some c=>cases c <;> rfl
theorem eh:tJ st (some (.lst xs))=some (st,.int xs.length):=rfl
noncomputable def uS (y:PyData) (a:Addr) (st:Sto):Option Cel->Option (Sto×PyData)
 | some (.lst xs)=>if small (xs.length+1)=true then some (st.put a (.lst (xs++[y])),.none) else none
 | _=>none
theorem dP:j7 y a st=uS y a st (st.get a):=by
 unfold j7 uS
 cases st.get a with
 | none=>rfl
 | some c=>cases c <;> rfl
theorem dO (h:small (xs.length+1)=true):uS y a st (some (.lst xs))=some (st.put a (.lst (xs++[y])),.none):=if_pos h
noncomputable def sO (a:Addr) (st:Sto):Option Cel->Option (Sto×PyData)
 | some (.lst xs)=>(xs[xs.length - 1]?).map λy=>(st.put a (.lst xs.dropLast),y)
 | _=>none
theorem ec:kL a st=sO a st (st.get a):=by
 unfold kL sO
 cases st.get a with
 | none=>rfl
 | some c=>cases c <;> rfl
theorem dB:sO a st (some (.lst (xs++[x])))=some (st.put a (.lst xs),x):=by
 show ((xs++[x])[(xs++[x]).length - 1]?).map (λy=>(st.put a (.lst (xs++[x]).dropLast),y))=_
 rw [List.dropLast_concat,List.length_append,List.length_singleton,Nat.add_sub_cancel]
 simp
theorem cx:(st.put a c).get a=some c:=Sto.put_same
theorem bQ (h:b≠a):(st.put a c).get b=st.get b:=Sto.put_ne h
end
noncomputable def c9 (s m c p e:PyData):List (Str×PyData):=[("shop",s),("morning",m),("chosen",c),("spent",p),("ended",e)]
section
variable {s m c p e t g d y:PyData}
theorem eM:List.lookup ("shop":Str) (c9 s m c p e)=some s:=rfl
theorem eN:List.lookup ("morning":Str) (c9 s m c p e)=some m:=rfl
theorem eW:List.lookup ("chosen":Str) (c9 s m c p e)=some c:=rfl
theorem eL:List.lookup ("spent":Str) (c9 s m c p e)=some p:=rfl
theorem eV:List.lookup ("ended":Str) (c9 s m c p e)=some e:=rfl
theorem dF:List.lookup ("stock":Str) (c9 s m c p e)=none:=rfl
theorem eR:List.lookup ("paid":Str) (c9 s m c p e)=none:=rfl
theorem eQ:List.lookup ("days":Str) (c9 s m c p e)=none:=rfl
theorem dE:List.lookup ("choose":Str) (c9 s m c p e)=none:=rfl
theorem dW:List.lookup ("fall":Str) (c9 s m c p e)=none:=rfl
theorem eO:List.lookup ("back":Str) (c9 s m c p e)=none:=rfl
theorem eU:(c9 s m c p e).length < 1000:=by show 5 < 1000; decide
theorem eJ:gJ "morning" y (c9 s m c p e)=c9 s y c p e:=rfl
theorem eK:gJ "chosen" y (c9 s m c p e)=c9 s m y p e:=rfl
theorem eI:gJ "spent" y (c9 s m c p e)=c9 s m c y e:=rfl
end
section
variable {s m c p e y:PyData} {C a:Addr} {st:Sto}
theorem ZfC:i6 C "shop" y a st (some (.ins C []))=some (st.put a (.ins C [("shop",y)]),.none):=db (by decide)
theorem ZfB:i6 C "morning" y a st (some (.ins C [("shop",s)]))=some (st.put a (.ins C [("shop",s),("morning",y)]),.none):=db (by show 1 < 1000; decide)
theorem ZfA:i6 C "chosen" y a st (some (.ins C [("shop",s),("morning",m)]))=some (st.put a (.ins C [("shop",s),("morning",m),("chosen",y)]),.none):=db (by show 2 < 1000; decide)
theorem Zfz:i6 C "spent" y a st (some (.ins C [("shop",s),("morning",m),("chosen",c)]))=some (st.put a (.ins C [("shop",s),("morning",m),("chosen",c),("spent",y)]),.none):=db (by show 3 < 1000; decide)
theorem Zfy:i6 C "ended" y a st (some (.ins C [("shop",s),("morning",m),("chosen",c),("spent",p)]))=some (st.put a (.ins C (c9 s m c p y)),.none):=db (by show 4 < 1000; decide)
end
section
variable {α β:Type} {st:Sto} {n n' N:Nat}
theorem rY {c:Cel} {h:PyData->Tr β} {P:Sto->β->Prop} (k:∀ a,st.get a=none->As (h (ah a)) (st.put a c) n P):As ((tj c).bind h) st n P:=Za4 k
theorem Zg9 {C:Addr} {f:List Sl->Tr Re} {ys:List Sl} {P:Sto->PyData->Prop} (k:∀ a,st.get a=none->As (f (.d (ah a)::ys)) (st.put a (.ins C [])) n λst' r=>r=.d .none/\P st' (ah a)):As (mS C f ys) st n P:=Za4 λa ha=>dh (n':=0) (k a ha) (by omega) λst' r z=>by
 obtain ⟨rfl,z⟩:=z
 exact fh z
theorem rZ {g:PyData->List Sl->Option (List Sl)} {s:List Sl->Tr Ou} {xs:List PyData} {ρ:List Sl} {Q:Sto->Ou->Prop} (I:List PyData->Sto->List Sl->Prop) (h0:I [] st ρ) (hN:xs.length * n<=N)
  (ht:∀ pre x post st ρ,xs=pre++x::post->I pre st ρ->∃ ρ1,g x ρ=some ρ1/\As (s ρ1) st n λst' o=>∃ ρ2,o=.next ρ2/\I (pre++[x]) st' ρ2) (hq:∀ st ρ,I xs st ρ->Q st (.next ρ)):As (dU g s xs ρ) st N Q:=by
 have key:∀ (ys pre:List PyData) (st:Sto) (ρ:List Sl),xs=pre++ys->I pre st ρ->As (dU g s ys ρ) st (ys.length * n) Q:=by
  intro ys
  induction ys with
  | nil =>
   intro pre st ρ e h
   rw [lw]
   rw [List.append_nil] at e
   subst e
   exact fh (hq st ρ h)
  | cons x ys ih =>
   intro pre st ρ e h
   obtain ⟨ρ1,eg,ha⟩:=ht pre x ys st ρ e h
   rw [ft,eg,Tr.of_some,Tr.ret_bind]
   unfold nj
   refine dh (n:=n) (n':=ys.length * n) ha (by rw [List.length_cons,Nat.succ_mul]; omega) λst' o ⟨ρ2,eo,h2⟩=>?_
   subst eo
   rw [nu]
   exact ih (pre++[x]) st' ρ2 (by rw [e,List.append_assoc]; rfl) h2
 exact Za5 (key xs [] st ρ rfl h0) hN λ_ _ h=>h
end
theorem dQ {p:List Sl->Tr Bool} {s:List Sl->Tr Ou} {ρ:List Sl} {Q:Sto->Prop} (I:Nat->Sto->Prop)
  (ht:∀ m st,I m st->(∃ st',rn (p ρ) st=some (st',false)/\Q st')\/∃ st1 st' m',rn (p ρ) st=some (st1,true)/\rn (s ρ) st1=some (st',.next ρ)/\m' < m/\I m' st') :
  ∀ (m k:Nat) (st:Sto),I m st->m < k->∃ st',rn (fm p s k ρ) st=some (st',.next ρ)/\Q st':=by
 intro m
 induction m using Nat.strongRecOn with
 | _ m ih =>
  intro k st h hk
  cases k with
  | zero=>omega
  | succ k =>
   rw [fm,di]
   rcases ht m st h with ⟨st',e,q⟩ | ⟨st1,st',m',e1,e2,hm,h2⟩
   ·rw [e,dq,if_neg Bool.false_ne_true,dR]
    exact ⟨st',rfl,q⟩
   ·rw [e1,dq,if_pos rfl,di,e2,dq]
    exact ih m' hm k st' h2 (by omega)
section
variable {PK:Pk} {X:Cx} {C:Addr} {E:XK} {a b:Expr} {i j:List Sl->Tr (Option PyData)} {k:Nat} {pos:Pos}
end
section
variable {X:Cx} {PK:Pk} {a b:Expr} {ta tb:TE} {i j:List Sl->Tr PyData} {sep:Str} {k:Nat} {p1 p2 p3 pos:Pos}
end
section
variable {PK:Pk} {X:Cx} {e:Expr} {es:List Expr} {as:List Sl->Tr (List Sl)} {pos:Pos}
end
section
variable {X:Cx}
end
end L2
namespace L2
open PySem PySem.Spec PyProof.Rows PySem.NumText PySem.W.KIN
end L2
namespace L2
open PySem PySem.Spec PyProof.Rows
variable {ρ:List Sl} {s t:List Sl->Tr Ou} {i j l:List Sl->Tr PyData} {is:List Sl->Tr (List PyData)} {as:List Sl->Tr (List Sl)} {k n:Nat} {x y d:PyData} {xs ys:List PyData} {sl:Sl} {a b:Str}
variable {X Y:Type} {u v:List Sl->Tr (Option Ou)} {xe:List Sl->Tr (Option PyData)} {xo:List Sl->Tr (Option (List PyData))} {fx:List Sl->Tr (Option Re)}
noncomputable def Zad (o:Ou):Tr (Option Ou):=.ret (some o)
theorem az:kv s ρ=(s ρ).bind Zad:=rfl
theorem am {o:Ou}:Zad o=.ret (some o):=rfl
noncomputable def Zaf (u v:List Sl->Tr (Option Ou)) (ρ:List Sl) (b:Bool):Tr (Option Ou):=if b=true then u ρ else v ρ
theorem aD {p:List Sl->Tr Bool}:q9 p u v ρ=(p ρ).bind (Zaf u v ρ):=rfl
theorem ay:Zaf u v ρ true=u ρ:=rfl
theorem aB:qZ ρ=.ret none:=rfl
noncomputable def qV (v:List Sl->Tr (Option Ou)):Option Ou->Tr (Option Ou)
 | some (.next ρ')=>v ρ'
 | o=>.ret o
theorem aA:ky u v ρ=(u ρ).bind (qV v):=by
 unfold ky
 refine congrArg (Tr.bind (u ρ)) (funext λo=>?_)
 cases o with
 | none=>rfl
 | some o=>cases o <;> rfl
theorem aj:qV v (some (.next ρ))=v ρ:=rfl
theorem ak:qV v none=.ret none:=rfl
theorem bj {sls:List Sl} (h:sls.length=n):kh n k u sls=(u (sls++List.replicate k .un)).bind uf:=by
 unfold kh
 rw [if_pos (decide_eq_true h)]
theorem bc:uf none=.ret none:=rfl
noncomputable def Zeb (ρ:List Sl) (x:PyData):Tr Ou:=.ret (.next ρ)
theorem bi:gB i ρ=(i ρ).bind (Zeb ρ):=rfl
theorem bh:Zeb ρ x=.ret (.next ρ):=rfl
end L2
namespace Tw
open PySem L2
theorem rf {f g:Int->Int}:∀ {l:List Int} {k:Nat},ws (λx=>f x+g x) k l=ws f k l+ws g k l
 | [],k=>rfl
 | w::l,k=>by
  unfold ws
  rw [rf (l:=l),Int.mul_add]
  omega
noncomputable def cO:Nat->List Int->List (Int×Int)
 | _,[]=>[]
 | k,w::l=>if w > 0 then ((k:Int),w)::cO (k+1) l else cO (k+1) l
theorem rO:∀ (l:List Int) (k:Nat),(cO k l).length<=l.length
 | [],k=>Nat.le_refl _
 | w::l,k=>by
  have:=rO l (k+1)
  unfold cO
  rw [List.length_cons]
  split
  ·rw [List.length_cons]; omega
  ·omega
theorem rN:∀ {l:List Int} {k:Nat} {q:Int×Int},q∈cO k l->(k:Int)<=q.1/\q.1 < k+l.length/\q.2∈l
 | [],k,q,h=>by cases h
 | w::l,k,q,h=>by
  unfold cO at h
  rw [List.length_cons]
  split at h
  ·rcases List.mem_cons.mp h with rfl | h
   ·refine ⟨?_,?_,by simp⟩
    ·show (k:Int)<=(k:Int); omega
    ·show (k:Int) < _; omega
   ·obtain ⟨a,b,c⟩:=rN h
    exact ⟨by omega,by omega,List.mem_cons_of_mem _ c⟩
  ·obtain ⟨a,b,c⟩:=rN h
   exact ⟨by omega,by omega,List.mem_cons_of_mem _ c⟩
theorem ZaM {c:Int->Int}:∀ (l:List Int) (k:Nat),(∀ w∈l,0<=w)->((cO k l).map λq=>q.2 * c q.1).sum=ws c k l
 | [],k,_=>rfl
 | w::l,k,h=>by
  have ih:=ZaM (c:=c) l (k+1) λv hv=>h v (List.mem_cons_of_mem _ hv)
  unfold cO ws
  by_cases hw:w > 0
  ·rw [if_pos hw,List.map_cons,List.sum_cons,ih]
  ·have h0:=h w (by simp)
   have e:w=0:=by omega
   rw [if_neg hw,ih,e,Int.zero_mul,Int.zero_add]
noncomputable abbrev Rw:=List Int×Int
noncomputable def cW (X:List Rw) (d:List Int):List Rw:=X.flatMap λp=>(cO 0 d).map λq=>(p.1++[q.1],p.2 * q.2)
noncomputable def tot (X:List Rw) (c:List Int->Int):Int:=(X.map λp=>p.2 * c p.1).sum
theorem rK:∀ a b:List Int,(a++b).sum=a.sum+b.sum
 | [],b=>by simp
 | x::a,b=>by rw [List.cons_append,List.sum_cons,List.sum_cons,rK a b]; omega
theorem Zax (X Y:List Rw) (c:List Int->Int):tot (X++Y) c=tot X c+tot Y c:=by
 unfold tot
 rw [List.map_append,rK]
theorem Zav {r:List Int} {w:Int} {c:List Int->Int}:∀ l:List (Int×Int),tot (l.map λq=>(r++[q.1],w * q.2)) c=w * (l.map λq=>q.2 * c (r++[q.1])).sum
 | []=>by simp [tot]
 | q::l=>by
  have ih:=Zav (r:=r) (w:=w) (c:=c) l
  unfold tot at ih ⊢
  rw [List.map_cons,List.map_cons,List.sum_cons,ih,List.map_cons,List.sum_cons,Int.mul_add,Int.mul_assoc]
theorem Zay {d:List Int} (hd:∀ w∈d,0<=w) {c:List Int->Int}:∀ X:List Rw,tot (cW X d) c=tot X λr=>ws (λf=>c (r++[f])) 0 d
 | []=>rfl
 | p::X=>by
  have ih:=Zay hd (c:=c) X
  have e:cW (p::X) d=((cO 0 d).map λq=>(p.1++[q.1],p.2 * q.2))++cW X d:=by unfold cW; rw [List.flatMap_cons]
  rw [e,Zax,ih,Zav,ZaM d 0 hd (c:=λf=>c (p.1++[f]))]
  unfold tot
  rw [List.map_cons,List.sum_cons]
noncomputable def av:List (List Int)->(List Int->Int)->Int
 | [],c=>c []
 | d::fs,c=>ws (λf=>av fs λr=>c (f::r)) 0 d
theorem Zaw:∀ {fs:List (List Int)} {X:List Rw} {c:List Int->Int},(∀ l∈fs,∀ w∈l,0<=w)->tot (fs.foldl cW X) c=tot X λr=>av fs λr'=>c (r++r')
 | [],X,c,_=>by
  unfold av
  simp
 | d::fs,X,c,h=>by
  rw [List.foldl_cons,Zaw λl hl=>h l (List.mem_cons_of_mem _ hl),Zay (h d (by simp))]
  simp only [av,List.append_assoc,List.cons_append,List.nil_append]
theorem Zf1 {fs:List (List Int)} {c:List Int->Int} (h:∀ l∈fs,∀ w∈l,0<=w):tot (fs.foldl cW [([],1)]) c=av fs c:=by
 rw [Zaw h]
 unfold tot
 simp
noncomputable def prd:List (List Int)->Int
 | []=>1
 | d::fs=>prd fs * d.sum
theorem sN (s:Shp):∀ fs:List (List Int),prd fs=(s.bk fs).2
 | []=>rfl
 | d::fs=>by
  show prd fs * d.sum=(s.bk fs).2 * d.sum
  rw [sN s fs]
theorem re {a:Int}:∀ (l:List Int) (k:Nat),ws (λ_=>a) k l=a * l.sum
 | [],k=>by simp [ws]
 | w::l,k=>by
  unfold ws
  rw [re l,List.sum_cons,Int.mul_add,Int.mul_comm]
theorem ZeN {a:Int}:∀ {fs:List (List Int)} {c:List Int->Int},av fs (λr=>a+c r)=a * prd fs+av fs c
 | [],c=>by
  show a+c []=a * 1+c []
  omega
 | d::fs,c=>by
  show ws (λf=>av fs λr=>a+c (f::r)) 0 d=a * (prd fs * d.sum)+ws (λf=>av fs λr=>c (f::r)) 0 d
  have e:(λf=>av fs λr=>a+c (f::r))=λf=>a * prd fs+av fs λr=>c (f::r):=funext λf=>ZeN
  rw [e,rf,re]
  grind
noncomputable def Shp.rc (s:Shp):List (Int->Int)->List Int->Int->Int
 | g::rl,f::row,x=>s.ord x (g x)+s.day (g x) f+s.rc rl row (s.nx (g x) f)
 | _,_,x=>s.fin x
noncomputable def Shp.RlOk (s:Shp) (g:Int->Int):Prop:=∀ x,-s.depth<=x->x<=s.top->x<=g x/\g x<=s.top
theorem ZoY {s:Shp} {g:Int->Int} {rl:List (Int->Int)} {d:List Int} {fs:List (List Int)} {x:Int}:av (d::fs) (λr=>s.rc (g::rl) r x)=s.ord x (g x) * (prd fs * d.sum)+ws (λf=>prd fs * s.day (g x) f+av fs λr=>s.rc rl r (s.nx (g x) f)) 0 d:=by
 show ws (λf=>av fs λr=>s.rc (g::rl) (f::r) x) 0 d=_
 have e:(λf=>av fs λr=>s.rc (g::rl) (f::r) x)=λf=>s.ord x (g x) * prd fs+(prd fs * s.day (g x) f+av fs λr=>s.rc rl r (s.nx (g x) f)):=funext λf=>by
  have e2:(λr=>s.rc (g::rl) (f::r) x)=λr=>(s.ord x (g x)+s.day (g x) f)+s.rc rl r (s.nx (g x) f):=rfl
  rw [e2,ZeN,Int.add_mul,Int.mul_comm (s.day (g x) f)]
  omega
 rw [e,rf (f:=λ_=>s.ord x (g x) * prd fs),re,Int.mul_assoc]
theorem ZcH {s:Shp} (h:s.Ok) {x y:Int} (hx:nb 20 x) (hy:nb 20 y):nb 100 (s.ord x y):=by
 unfold Shp.ord
 exact gZ (show (0:Int).natAbs < 2 ^ 100 from Nat.pos_of_ne_zero (by simp)) (ce (fA h.start (eZ h.piece (fq hy hx))) (by decide))
theorem gT {s:Shp} (h:s.Ok) {x:Int} (x1:-s.depth<=x) (x2:x<=s.top):nb 20 x:=by
 have:=h.t0
 have:=h.d0
 have:=h.td
 exact de (by show -1048576 < _; omega) (by show _ < 1048576; omega)
theorem sC {s:Shp} (h:s.Ok):∀ {row:List Int} {rl:List (Int->Int)},(∀ g∈rl,s.RlOk g)->(∀ f∈row,0<=f/\f < 16)->∀ x,-s.depth<=x->x<=s.top->nb (102+row.length) (s.rc rl row x)
 | [],rl,_,_,x,x1,x2=>by
  have e:s.rc rl [] x=s.fin x:=by cases rl <;> rfl
  rw [e]
  exact ce (ZdJ h x x1 x2) (by decide)
 | f::row,[],_,_,x,x1,x2=>ce (ZdJ h x x1 x2) (by omega)
 | f::row,g::rl,hr,hf,x,x1,x2=>by
  obtain ⟨g1,g2⟩:=hr g (by simp) x x1 x2
  obtain ⟨f0,f1⟩:=hf f (by simp)
  have ih:=sC h (row:=row) (rl:=rl) (λg hg=>hr g (List.mem_cons_of_mem _ hg)) (λv hv=>hf v (List.mem_cons_of_mem _ hv)) (s.nx (g x) f) (kS s _ f) (kR h g2 f0)
  have hy:=gT h (show -s.depth<=g x by omega) g2
  rw [List.length_cons]
  unfold Shp.rc
  exact ce (fA (fA (ZcH h (gT h x1 x2) hy) (uu h hy (de (k:=40) (by show -1099511627776 < _; omega) (by show _ < 1099511627776; omega)))) ih) (by omega)
theorem Zag {f:Int->Int} {a b:Nat}:∀ {l:List Int} {k:Nat},(∀ w∈l,nb a w)->(∀ x:Int,(k:Int)<=x->x < k+l.length->nb b (f x))->nb (a+b+l.length) (ws f k l)
 | [],k,_,_=>by unfold ws nb; exact Nat.pos_of_ne_zero (by simp)
 | w::l,k,hw,hf=>by
  rw [List.length_cons] at hf ⊢
  have h1:=eZ (hw w (by simp)) (hf k (by omega) (by omega))
  have h2:=Zag (f:=f) (a:=a) (b:=b) (l:=l) (k:=k+1) (λv hv=>hw v (List.mem_cons_of_mem _ hv)) λx x1 x2=>hf x (by omega) (by omega)
  unfold ws
  exact ce (fA h1 h2) (by omega)
theorem ZeL {b:Nat}:∀ {fs:List (List Int)} {c:List Int->Int},(∀ l∈fs,DayB l)->(∀ r:List Int,(∀ f∈r,0<=f/\f < 16)->r.length=fs.length->nb b (c r))->nb (b+46 * fs.length) (av fs c)
 | [],c,_,hc=>hc [] (λf h=>by cases h) rfl
 | d::fs,c,hf,hc=>by
  have hd:=hf d (by simp)
  have hlen:=hd.len
  rw [List.length_cons]
  unfold av
  refine ce (Zag (a:=30) (b:=b+46 * fs.length) hd.nb λx x1 x2=>?_) (by omega)
  refine ZeL (λl hl=>hf l (List.mem_cons_of_mem _ hl)) λr hr hl=>hc (x::r) (λf hf=>?_) (by rw [List.length_cons,List.length_cons,hl])
  rcases List.mem_cons.mp hf with rfl | hf
  ·exact ⟨by omega,by omega⟩
  ·exact hr f hf
noncomputable def eY (p:Rw):PyData:=.tuple [tI p.1,.int p.2]
noncomputable def rD (s:Shp) (rl:List (Int->Int)):PyData:=.tuple (rl.map λg=>tI (s.row g))
end Tw
namespace L2
open PySem PySem.Spec PyProof.Rows
section
variable {K:PySem.W.Frag} {C f:Addr} {m qual:Str} {st:Stmt} {ps:List Str} {oc:Value} {od an:Option Addr} {osl:Array (Option Value)} {kV doc pm cdv ct:Value}
theorem kX (a:PySem.W.findIn K (.ref C) m=some (some (.ref f))) (i:PySem.W.isFn K (.ref f)=true) (l:K.lookup f=some ⟨oc,od,.func (PySem.W.fnOf m qual (iw st) (fF st) (bM st) .none kV doc pm an cdv ct),osl⟩) (c:PySem.W.codeIn K cdv qual=true) (k:PySem.W.keepIn K (.ref f)=true)
  (hb:∀ (kV doc pm:Value) (an:Option Addr) (cdv ct:Value) (us:List Value),us.length=ps.length->bindArgs (PySem.W.fnOf m qual (iw st) (fF st) (bM st) .none kV doc pm an cdv ct) ⟨us,[]⟩=pure (ps.zip us)):MDef K C m qual st ps:=by
 have F:=uc (st:=st) l c k
 exact ⟨f,_,F,⟨a,i,k⟩,F.binds hb⟩
theorem ZjO (mk:PySem.W.makesIn K C=true) (a:PySem.W.findIn K (.ref C) "__init__"=some (some (.ref f))) (i:PySem.W.isFn K (.ref f)=true) (kc:PySem.W.keepIn K (.ref C)=true) (l:K.lookup f=some ⟨oc,od,.func (PySem.W.fnOf "__init__" qual (iw st) (fF st) (bM st) .none kV doc pm an cdv ct),osl⟩) (c:PySem.W.codeIn K cdv qual=true) (k:PySem.W.keepIn K (.ref f)=true)
  (hb:∀ (kV doc pm:Value) (an:Option Addr) (cdv ct:Value) (us:List Value),us.length=ps.length->bindArgs (PySem.W.fnOf "__init__" qual (iw st) (fF st) (bM st) .none kV doc pm an cdv ct) ⟨us,[]⟩=pure (ps.zip us)):KDef K C qual st ps:=by
 have F:=uc (st:=st) l c k
 exact ⟨f,_,F,⟨mk,a,i,kc⟩,F.binds hb⟩
theorem mL (h:PySem.W.findIn K (.ref C) m=some none):NoAttr K C m:=h
end
section
variable {K:PySem.W.Frag} {mg:Str->Option Value}
end
theorem ZfF {l:PySem.W.OpenLaw} {k:Nat} {q:Program} {loose:List Str} {XP:(Str->Option Value)->Heap->Prop} {YP:World->Heap->Prop} {d:DefRec} {K:Params->PySem.W.Frag} {x:Str}
  (hn:l.most=some 63) (hdf:d.params.defaults=[]) (hr:Room k callerA) (hY:∀ (w:World) (h:Heap),YP w h->(K w.params).In h)
  (F:∀ (w:World) (mg:Str->Option Value) (fa:Addr) (h:Heap),(K w.params).In h->h.Ns mainGlobals mg->mg d.name=some (.ref fa) ->
   ∃ fd:FuncData,(∀ (s:Shared) (u:Value),BindsTo s fd ⟨[u],[]⟩ [(x,u)]) /\
    ∀ base:Heap,(K w.params).In base->base.Ns mainGlobals mg->BltK base mg->FnOk l.prog w (K w.params) mg base fZ k fa fd [x] (rM [] (K w.params))) :
  PySem.W.WalkO q loose XP YP l.row.toRowW d [] (λf vs=>PySem.call f vs):=by
 refine Att.attach_call hn hdf λw s₀ s₁ mg mb fa o pm cd doc a vs ns G Y ho hd hcd hmg hobj hints hlen hg=>?_
 have KX:=hY w _ Y
 obtain ⟨fd,hb,hF⟩:=F w mg fa _ KX G.T.g hmg
 exact ZjF (ts:=[]) KX G.T.g G.T.b G.T.builtins G.T.nolimit G.T.nodigits hg hobj hints (Nat.le_trans hlen (by decide)) hlen hr (λt ht=>absurd ht List.not_mem_nil) (λt ht=>absurd ht List.not_mem_nil) (λt ht=>absurd ht List.not_mem_nil) ⟨G.T.bmain⟩ hF hb
end L2
namespace My
open PySem PySem.Spec PyProof.Rows L2
noncomputable def top (i:Nat):Stmt:=PySem.Challenge.pw_twomarks_k63_whole_days_kept.main.body.getD i (.Pass ⟨0,0,0,0⟩)
noncomputable abbrev Zbh:Stmt:=top 7
noncomputable abbrev ZpG:List Str:=["thing"]
theorem ZgX:FnScope ZpG ["thing"] (bM Zbh):=⟨rfl,rfl,rfl,by decide +kernel,rfl,by decide +kernel,by decide +kernel⟩
noncomputable abbrev Zbg:Stmt:=top 8
noncomputable abbrev ZpF:List Str:=["thing","lowest","highest"]
theorem ZgW:FnScope ZpF ["thing","lowest","highest"] (bM Zbg):=⟨rfl,rfl,rfl,by decide +kernel,rfl,by decide +kernel,by decide +kernel⟩
noncomputable abbrev Za9:Stmt:=top 19
noncomputable abbrev Zpz:List Str:=["shop"]
theorem ZgT:FnScope Zpz ["shop"] (bM Za9):=⟨rfl,rfl,rfl,by decide +kernel,rfl,by decide +kernel,by decide +kernel⟩
noncomputable abbrev Zbi:Stmt:=top 20
noncomputable abbrev ZpH:List Str:=["shop","stock","thing"]
theorem ZgY:FnScope ZpH ["shop","stock","thing"] (bM Zbi):=⟨rfl,rfl,rfl,by decide +kernel,rfl,by decide +kernel,by decide +kernel⟩
noncomputable abbrev Zbe:Stmt:=top 21
noncomputable abbrev ZpC:List Str:=["shop","stock","level"]
theorem ZgU:FnScope ZpC ["shop","stock","level"] (bM Zbe):=⟨rfl,rfl,rfl,by decide +kernel,rfl,by decide +kernel,by decide +kernel⟩
noncomputable abbrev Zbf:Stmt:=top 22
noncomputable abbrev ZpD:List Str:=["shop","level","fall"]
theorem ZgV:FnScope ZpD ["shop","level","fall"] (bM Zbf):=⟨rfl,rfl,rfl,by decide +kernel,rfl,by decide +kernel,by decide +kernel⟩
noncomputable abbrev Zbk:Stmt:=top 23
noncomputable abbrev ZpJ:List Str:=["shop","level","fall","stock","sold_never","held"]
theorem oq:FnScope ZpJ ["shop","level","fall"] (bM Zbk):=⟨rfl,rfl,rfl,by decide +kernel,rfl,by decide +kernel,by decide +kernel⟩
noncomputable abbrev Zbj:Stmt:=top 24
noncomputable abbrev ZpI:List Str:=["shop","stock"]
theorem Zg0:FnScope ZpI ["shop","stock"] (bM Zbj):=⟨rfl,rfl,rfl,by decide +kernel,rfl,by decide +kernel,by decide +kernel⟩
noncomputable abbrev Zbn:Stmt:=top 28
noncomputable abbrev ZpM:List Str:=["one","other"]
theorem rV:FnScope ZpM ["one","other"] (bM Zbn):=⟨rfl,rfl,rfl,by decide +kernel,rfl,by decide +kernel,by decide +kernel⟩
noncomputable abbrev Zba:Stmt:=top 29
noncomputable abbrev ZpA:List Str:=["top","bottom","divisor"]
theorem rT:FnScope ZpA ["top","bottom"] (bM Zba):=⟨rfl,rfl,rfl,by decide +kernel,rfl,by decide +kernel,by decide +kernel⟩
noncomputable abbrev si:Stmt:=top 31
noncomputable abbrev qL:List Str:=["shop"]
theorem ZgZ:FnScope qL ["shop"] (bM si):=⟨rfl,rfl,rfl,by decide +kernel,rfl,by decide +kernel,by decide +kernel⟩
noncomputable abbrev Za7:Stmt:=top 32
noncomputable abbrev Zpy:List Str:=["shop","day","level","ahead","scale","total","fall","weight","following"]
theorem kC:FnScope Zpy ["shop","day","level","ahead","scale"] (bM Za7):=⟨rfl,rfl,rfl,by decide +kernel,rfl,by decide +kernel,by decide +kernel⟩
noncomputable abbrev Zbl:Stmt:=top 33
noncomputable abbrev ZpK:List Str:=["shop","day","levels","ahead","scale","own_scale","costs","stock","level"]
theorem mq:FnScope ZpK ["shop","day","levels","ahead","scale"] (bM Zbl):=⟨rfl,rfl,rfl,by decide +kernel,rfl,by decide +kernel,by decide +kernel⟩
noncomputable abbrev Zbm:Stmt:=top 34
noncomputable abbrev ZpL:List Str:=["shop","falls","rule","stock","ahead","scale","t"]
theorem kD:FnScope ZpL ["shop","falls","rule","stock"] (bM Zbm):=⟨rfl,rfl,rfl,by decide +kernel,rfl,by decide +kernel,by decide +kernel⟩
noncomputable abbrev Zbb:Stmt:=top 36
noncomputable abbrev ZpB:List Str:=["shop","rule","stock","row","told","levels","fall","level","cost"]
theorem jE:FnScope ZpB ["shop","rule","stock","row"] (bM Zbb):=⟨rfl,rfl,rfl,by decide +kernel,rfl,by decide +kernel,by decide +kernel⟩
noncomputable abbrev Zbu:Stmt:=top 38
noncomputable abbrev ZpS:List Str:=["_law_script"]
theorem Zg2:FnScope ZpS ["_law_script"] (bM Zbu):=⟨rfl,rfl,rfl,by decide +kernel,rfl,by decide +kernel,by decide +kernel⟩
noncomputable abbrev Zbw:Stmt:=top 39
noncomputable abbrev ZpU:List Str:=["_law_pen_here","_law_many","_law_digit","_law_at","_law_cell","_law_number"]
theorem jF:FnScope ZpU ["_law_pen_here","_law_many"] (bM Zbw):=⟨rfl,rfl,rfl,by decide +kernel,rfl,by decide +kernel,by decide +kernel⟩
noncomputable abbrev Zbt:Stmt:=top 40
noncomputable abbrev ZpR:List Str:=["_law_pen_here","_law_way","_law_small"]
theorem rW:FnScope ZpR ["_law_pen_here"] (bM Zbt):=⟨rfl,rfl,rfl,by decide +kernel,rfl,by decide +kernel,by decide +kernel⟩
noncomputable abbrev sj:Stmt:=top 41
noncomputable abbrev qM:List Str:=["_law_pen_here","_law_great","_law_top","_law_depth"]
theorem ot:FnScope qM ["_law_pen_here"] (bM sj):=⟨rfl,rfl,rfl,by decide +kernel,rfl,by decide +kernel,by decide +kernel⟩
noncomputable abbrev Zbx:Stmt:=top 42
noncomputable abbrev ZpV:List Str:=["_law_pen_here","_law_seen_here","_law_size","_law_weights","_law_k"]
theorem ou:FnScope ZpV ["_law_pen_here","_law_seen_here"] (bM Zbx):=⟨rfl,rfl,rfl,by decide +kernel,rfl,by decide +kernel,by decide +kernel⟩
noncomputable abbrev sv:Stmt:=top 43
noncomputable abbrev qO:List Str:=["_law_pen_here","_law_most","_law_days"]
theorem Za1:FnScope qO ["_law_pen_here","_law_most"] (bM sv):=⟨rfl,rfl,rfl,by decide +kernel,rfl,by decide +kernel,by decide +kernel⟩
noncomputable abbrev Zbs:Stmt:=top 44
noncomputable abbrev ZpQ:List Str:=["_law_pen_here","_law_shop_here","_law_days","_law_top","_law_depth","_law_rule_here","_law_day_here","_law_way","_law_mark","_law_levels","_law_stock","_law_level"]
theorem gW:FnScope ZpQ ["_law_pen_here","_law_shop_here","_law_days"] (bM Zbs):=⟨rfl,rfl,rfl,by decide +kernel,rfl,by decide +kernel,by decide +kernel⟩
noncomputable abbrev sk:Stmt:=top 45
noncomputable abbrev nQ:List Str:=["_law_falls_here","_law_rows_here","_law_bottom","_law_one","_law_longer","_law_row","_law_weight"]
theorem iF:FnScope nQ ["_law_falls_here"] (bM sk):=⟨rfl,rfl,rfl,by decide +kernel,rfl,by decide +kernel,by decide +kernel⟩
noncomputable abbrev su:Stmt:=top 46
noncomputable abbrev qN:List Str:=["_law_found","_law_top","_law_bottom","_law_one","_law_other"]
theorem rX:FnScope qN ["_law_found","_law_top","_law_bottom"] (bM su):=⟨rfl,rfl,rfl,by decide +kernel,rfl,by decide +kernel,by decide +kernel⟩
noncomputable abbrev Zby:Stmt:=top 47
noncomputable abbrev ZpW:List Str:=["_law_pen_here","_law_shop_here","_law_rule_here","_law_day_here","_law_book","_law_level"]
theorem Za2:FnScope ZpW ["_law_pen_here","_law_shop_here","_law_rule_here","_law_day_here","_law_book"] (bM Zby):=⟨rfl,rfl,rfl,by decide +kernel,rfl,by decide +kernel,by decide +kernel⟩
noncomputable abbrev sr:Stmt:=top 48
noncomputable abbrev km:List Str:=["_law_pen_here","_law_shop_here","_law_rule_here","_law_stock","_law_row","_law_book","_law_day_here","_law_fall","_law_days"]
theorem mr:FnScope km ["_law_pen_here","_law_shop_here","_law_rule_here","_law_stock","_law_row"] (bM sr):=⟨rfl,rfl,rfl,by decide +kernel,rfl,by decide +kernel,by decide +kernel⟩
noncomputable abbrev Zbp:Stmt:=top 49
noncomputable abbrev ZpN:List Str:=["_law_pen_here","_law_shop_here","_law_falls_here","_law_rule_here","_law_stock","_law_rows_here","_law_bottom","_law_total","_law_row","_law_weight","_law_paid"]
theorem jb:FnScope ZpN ["_law_pen_here","_law_shop_here","_law_falls_here","_law_rule_here","_law_stock"] (bM Zbp):=⟨rfl,rfl,rfl,by decide +kernel,rfl,by decide +kernel,by decide +kernel⟩
noncomputable abbrev Zbr:Stmt:=top 50
noncomputable abbrev ZpP:List Str:=["_law_book"]
theorem Zg1:FnScope ZpP ["_law_book"] (bM Zbr):=⟨rfl,rfl,rfl,by decide +kernel,rfl,by decide +kernel,by decide +kernel⟩
noncomputable abbrev Zbq:Stmt:=top 51
noncomputable abbrev ZpO:List Str:=["_law_pen_here","_law_shop_here","_law_rule_here","_law_books","_law_rows_here","_law_seen_here","_law_day_here","_law_book","_law_row","_law_kept","_law_ahead"]
theorem kE:FnScope ZpO ["_law_pen_here","_law_shop_here","_law_rule_here","_law_books","_law_rows_here","_law_seen_here"] (bM Zbq):=⟨rfl,rfl,rfl,by decide +kernel,rfl,by decide +kernel,by decide +kernel⟩
noncomputable abbrev ox:Stmt:=top 52
noncomputable abbrev kj:List Str:=["_law_pen_here","_law_shop_here","_law_rule_here","_law_stocks_two","_law_rows_here","_law_k","_law_books","_law_again","_law_seen_here","_law_book","_law_stock","_law_row","_law_at","_law_other"]
theorem gU:FnScope kj ["_law_pen_here","_law_shop_here","_law_rule_here","_law_stocks_two"] (bM ox):=⟨rfl,rfl,rfl,by decide +kernel,rfl,by decide +kernel,by decide +kernel⟩
noncomputable abbrev Zbv:Stmt:=top 53
noncomputable abbrev ZpT:List Str:=["_law_book"]
theorem Zg3:FnScope ZpT ["_law_book"] (bM Zbv):=⟨rfl,rfl,rfl,by decide +kernel,rfl,by decide +kernel,by decide +kernel⟩
noncomputable abbrev sg:Stmt:=top 54
noncomputable abbrev ZpE:List Str:=["_law_script","_law_pen_here","_law_shop_here","_law_many","_law_falls_here","_law_rule_here","_law_two","_law_stock"]
theorem ja:FnScope ZpE ["_law_script"] (bM sg):=⟨rfl,rfl,rfl,by decide +kernel,rfl,by decide +kernel,by decide +kernel⟩
noncomputable abbrev ZbE:Stmt:=jV (top 26) 0
noncomputable abbrev Zp2:List Str:=["self","shop","stock"]
theorem Zg8:FnScope Zp2 ["self","shop","stock"] (bM ZbE):=⟨rfl,rfl,rfl,by decide +kernel,rfl,by decide +kernel,by decide +kernel⟩
noncomputable abbrev ZbC:Stmt:=jV (top 26) 1
noncomputable abbrev Zp0:List Str:=["self","level"]
theorem Zg7:FnScope Zp0 ["self","level"] (bM ZbC):=⟨rfl,rfl,rfl,by decide +kernel,rfl,by decide +kernel,by decide +kernel⟩
noncomputable abbrev ZbB:Stmt:=jV (top 26) 2
noncomputable abbrev ZpZ:List Str:=["self","many","level","cost","told"]
theorem ow:FnScope ZpZ ["self","many"] (bM ZbB):=⟨rfl,rfl,rfl,by decide +kernel,rfl,by decide +kernel,by decide +kernel⟩
noncomputable abbrev ZbD:Stmt:=jV (top 26) 3
noncomputable abbrev Zp1:List Str:=["self","stock","level","many","cost","chosen"]
theorem gF:FnScope Zp1 ["self"] (bM ZbD):=⟨rfl,rfl,rfl,by decide +kernel,rfl,by decide +kernel,by decide +kernel⟩
noncomputable abbrev Zbz:Stmt:=jV (top 26) 4
noncomputable abbrev ZpX:List Str:=["self"]
theorem Zg4:FnScope ZpX ["self"] (bM Zbz):=⟨rfl,rfl,rfl,by decide +kernel,rfl,by decide +kernel,by decide +kernel⟩
noncomputable abbrev ZbA:Stmt:=jV (top 26) 5
noncomputable abbrev ZpY:List Str:=["self"]
theorem Zg5:FnScope ZpY ["self"] (bM ZbA):=⟨rfl,rfl,rfl,by decide +kernel,rfl,by decide +kernel,by decide +kernel⟩
noncomputable abbrev sw:Stmt:=jV (top 26) 6
noncomputable abbrev nR:List Str:=["self"]
theorem Zg6:FnScope nR ["self"] (bM sw):=⟨rfl,rfl,rfl,by decide +kernel,rfl,by decide +kernel,by decide +kernel⟩
structure OK_Book (K:PySem.W.Frag) (mg:Str->Option Value) (C:Addr):Prop where
 nm:mg "Book"=some (.ref C)
 cl:Cls K C
 n_shop:NoAttr K C "shop"
 n_morning:NoAttr K C "morning"
 n_chosen:NoAttr K C "chosen"
 n_spent:NoAttr K C "spent"
 n_ended:NoAttr K C "ended"
 k_init:KDef K C "Book.__init__" ZbE ["self","shop","stock"]
 d_choose:MDef K C "choose" "Book.choose" ZbC ["self","level"]
 d_fall:MDef K C "fall" "Book.fall" ZbB ["self","many"]
 d_back:MDef K C "back" "Book.back" ZbD ["self"]
 d_stock:MDef K C "stock" "Book.stock" Zbz ["self"]
 d_paid:MDef K C "paid" "Book.paid" ZbA ["self"]
 d_days:MDef K C "days" "Book.days" sw ["self"]
structure Txt (K:PySem.W.Frag) (mg:Str->Option Value):Prop where
 kT:mg "len"=none
 kU:mg "abs"=none
 ZcW:mg "max"=none
 mP:mg "repr"=none
 mR:mg "int"=none
 Zi6:mg "list"=none
 jj:mg "tuple"=none
 ZcX:mg "bool"=none
 io:mg "range"=none
 mQ:mg "isinstance"=none
 oX:mg "zip"=none
 oY:mg "sum"=none
 tm:mg "enumerate"=none
 Zp9:mg "ValueError"=none
 Zi5:mg "reversed"=none
 ZdB:∃ t,mg "TOP"=some (.int 0 t)
 ni:∃ t,mg "DEPTH"=some (.int 1 t)
 Zkp:∃ t,mg "START"=some (.int 2 t)
 Zkq:∃ t,mg "PIECE"=some (.int 3 t)
 Zku:∃ t,mg "KEEP"=some (.int 4 t)
 Zkt:∃ t,mg "LACK"=some (.int 5 t)
 Zkr:∃ t,mg "LOST"=some (.int 6 t)
 Zkv:∃ t,mg "BACK"=some (.int 7 t)
 Zks:∃ t,mg "LATE"=some (.int 8 t)
 ZnK:Def K mg "is_whole" Zbh ["thing"]
 ZnJ:Def K mg "is_whole_within" Zbg ["thing","lowest","highest"]
 ZnD:Def K mg "stocks" Za9 ["shop"]
 ZnL:Def K mg "is_level" Zbi ["shop","stock","thing"]
 ZnG:Def K mg "order_cost" Zbe ["shop","stock","level"]
 ZnH:Def K mg "next_stock" Zbf ["shop","level","fall"]
 ZnO:Def K mg "day_cost" Zbk ["shop","level","fall"]
 ZnN:Def K mg "end_cost" Zbj ["shop","stock"]
 ZnR:Def K mg "common_divisor" Zbn ["one","other"]
 ZnE:Def K mg "share" Zba ["top","bottom"]
 ZnM:Def K mg "end_costs" si ["shop"]
 ZnC:Def K mg "weighed" Za7 ["shop","day","level","ahead","scale"]
 ZnP:Def K mg "costs_by" Zbl ["shop","day","levels","ahead","scale"]
 ZnQ:Def K mg "cost_of" Zbm ["shop","falls","rule","stock"]
 ZnF:Def K mg "run" Zbb ["shop","rule","stock","row"]
 Zn1:Def K mg "_law_pen" Zbu ["_law_script"]
 Zn5:Def K mg "_law_draw" Zbw ["_law_pen_here","_law_many"]
 Zn0:Def K mg "_law_price" Zbt ["_law_pen_here"]
 ZnV:Def K mg "_law_shop" sj ["_law_pen_here"]
 Zn6:Def K mg "_law_day" Zbx ["_law_pen_here","_law_seen_here"]
 Zn4:Def K mg "_law_falls" sv ["_law_pen_here","_law_most"]
 ZnX:Def K mg "_law_rule" Zbs ["_law_pen_here","_law_shop_here","_law_days"]
 ZnY:Def K mg "_law_rows" sk ["_law_falls_here"]
 Zn3:Def K mg "_law_is_share" su ["_law_found","_law_top","_law_bottom"]
 Zn7:Def K mg "_law_by_rule" Zby ["_law_pen_here","_law_shop_here","_law_rule_here","_law_day_here","_law_book"]
 ZnZ:Def K mg "_law_row_paid" sr ["_law_pen_here","_law_shop_here","_law_rule_here","_law_stock","_law_row"]
 ZnS:Def K mg "_law_weighed_right" Zbp ["_law_pen_here","_law_shop_here","_law_falls_here","_law_rule_here","_law_stock"]
 ZnW:Def K mg "_law_seen" Zbr ["_law_book"]
 ZnT:Def K mg "_law_two_told" Zbq ["_law_pen_here","_law_shop_here","_law_rule_here","_law_books","_law_rows_here","_law_seen_here"]
 ZnU:Def K mg "_law_two_right" ox ["_law_pen_here","_law_shop_here","_law_rule_here","_law_stocks_two"]
 Zn2:Def K mg "_law_nothing_left" Zbv ["_law_book"]
 ZnI:Def K mg "law" sg ["_law_script"]
 Zp6:∃ C:Addr,OK_Book K mg C
 Znw:∃ C:Addr,mg "NoBack"=some (.ref C)/\Xcl K C nC "ValueError.__new__"
theorem Zog (ns:List Int) (a:Nat) (h:ns≠[]):∃ z:Int,cR (ns.map V.int) ((a:Int) % ((ns.map V.int).length:Nat))=some (.int z):=by
 have hl:0 < ns.length:=List.length_pos_iff.mpr h
 have hl':(ns.map V.int).length=ns.length:=List.length_map ..
 have e:(a:Int) % ((ns.map V.int).length:Nat)=((a % ns.length:Nat):Int):=by rw [hl']; omega
 have hlt:a % ns.length < ns.length:=Nat.mod_lt _ hl
 rw [e]
 exact ⟨ns[a % ns.length],gx (by rw [List.getElem?_map,List.getElem?_eq_getElem hlt]; rfl)⟩
section
variable {P:Program} {w:World} {K:PySem.W.Frag} {mg:Str->Option Value} {base:Heap}
theorem ZiR (T:Txt K mg):Callee P w K mg base "_law_pen" 1 ["_law_script"] (Zgx K):=by
 refine T.Zn1.ok Zg2 (λvs H Q E h=>?_) (λf cdv A outer s H vs Q E hr h=>?_)
 ·obtain ⟨a,ns,rfl,_⟩:=h
  rfl
 ·obtain ⟨a,ns,rfl,hS,hlen,k⟩:=h
  have hu:=t9 hr
  refine ⟨_,(jJ (jc (oN (cD (gk (Zou) rfl T.Zi6 boot_list (cD (ZcA ZaS (pv 0) Zcv (Zcu cP)) cU)) (cD cP (cD cP cU)))))),?_⟩
  refine ⟨_,rfl,63,rfl,a,_,rfl,hS,λq hq=>⟨q,_,rfl,Or.inl (SqL.of cA),λc hc=>⟨by show 3<=sizeLine; decide,λp hp=>?_⟩⟩⟩
  have hcut:gN (ns.map V.int) none (some 63)=ns.map V.int:=by
   unfold gN
   have e:HT.bX (ns.map V.int).length (ns.map V.int).length (some 63)=(ns.map V.int).length:=by
    have q:=HT.Zhn (ns.map V.int).length (ns.map V.int).length 63
    rw [List.length_map] at q ⊢
    exact q.trans (Nat.min_eq_right hlen)
   rw [e]
   show ((ns.map V.int).drop 0).take ((ns.map V.int).length - 0)=_
   rw [List.drop_zero,Nat.sub_zero,List.take_length]
  have s1:Same H (upd H q (.lst (gN (ns.map V.int) none (some 63)))):=(Same.refl _).new hq
  have s2:=s1.new (o:=.lst (gN (ns.map V.int) none (some 63))) hc
  have s3:=s2.new (o:=.lst [.ref c,.int 0,.int 0]) hp
  have npc:c≠p:=λz=>by
   rw [<- z,cA] at hp
   cases hp
  refine k p c _ (s2.free hp) ⟨⟨0,0,cA,Nat.le_refl _,Int.le_refl _⟩,?_,hlen,npc⟩ s3
  rw [bG npc,cA,hcut]
theorem ZoU {z a:Int} (h3:0<=a) (h4:a<=500000):(z % 2147483629+40009 * a+17).natAbs < 2 ^ 64:=by
 have:=Int.emod_nonneg z (by decide:(2147483629:Int)≠0)
 have:=Int.emod_lt_of_pos z (by decide:(0:Int) < 2147483629)
 omega
theorem ZoT {M a:Int} (h0:0<=M) (h1:M < 2147483647) (h3:0<=a) (h4:a<=500000):(M * (2 * a+3)+69621).natAbs < 2 ^ 64:=by
 have p0:0<=M * (2 * a+3):=Int.mul_nonneg (by omega) (by omega)
 have p1:M * (2 * a+3)<=2147483647 * 1000003:=Int.mul_le_mul (by omega) (by omega) (by omega) (by omega)
 omega
theorem ZiT (T:Txt K mg):Callee P w K mg base "_law_draw" 1 ["_law_pen_here","_law_many"] ZaK:=by
 refine T.Zn5.ok jF (λvs H Q E h=>?_) (λf cdv A outer s H vs Q E hr h=>?_)
 ·obtain ⟨p,c,ns,m,most,rfl,_⟩:=h
  rfl
 ·obtain ⟨p,c,ns,m,most,rfl,hP,hm,h0,h1,k⟩:=h
  have hu:=t9 hr
  refine ⟨_,(f7 (mG (kK mJ (im ip (pv 0) cP (λ_ _=>rfl)) cP (nomark _)) (f7 (bY (i:=2) jF.nd rfl (Or.inl rfl) (dk jN (im ip (pv 0) cP (λ_ _=>rfl)) (pv 1)))
 (f7 (jd (dk sU (im ip (pv 0) cP (λ_ _=>rfl)) (pv 1)) (oM (pv 0) cP on))
 (jJ (jc (pv 2))))) oH)
 (f7 (bY (i:=3) jF.nd rfl (Or.inl rfl) (im ip (pv 0) cP (λ_ _=>rfl)))
 (f7 (jd (dk jO (pv 3) cP) (oM (pv 0) cP on))
 (f7 (bY (i:=4) jF.nd rfl (Or.inl rfl) (dk jO (dk oR cP (pv 3)) cP))
 (f7 (PS.join (mG (kK (ZcK hr) (im ip (pv 0) cP (λ_ _=>rfl)) (oN cU) (nomark _)) (jJ (bY (i:=4) jF.nd rfl (Or.inl rfl) (im ip (im ip (pv 0) cP (λ_ _=>rfl)) (dk jN (pv 3) (c6 (lF) rfl T.kT boot_len (cD (im ip (pv 0) cP (λ_ _=>rfl)) cU))) (λ_ _=>rfl)))) oH))
 (f7 (mG (PT.join (PW.pt (Zcq (kK oS (pv 3) (c6 (lF) rfl T.kT boot_len (cD (im ip (pv 0) cP (λ_ _=>rfl)) cU)) (nomark _)) (Zcp (kK ZiJ (c6 (lG) rfl T.kU boot_abs (cD (pv 4) cU)) (dk oQ cP cP) (nomark _)))))) (f7 (jd (dk sU (c6 (lG) rfl T.kU boot_abs (cD (pv 4) cU)) (pv 1)) (oM (pv 0) cP on))
 (jJ (jc (dk jN (c6 (lG) rfl T.kU boot_abs (cD (pv 4) cU)) (pv 1))))) oH)
 (f7 (bY (i:=5) jF.nd rfl (Or.inl rfl) (dk jN (dk oQ (dk jO (dk jO (dk jN (pv 4) cP) (dk oR cP (pv 3))) cP) cP) cP))
 (f7 (bY (i:=5) jF.nd rfl (Or.inl rfl) (dk jN (dk oQ (dk jO (dk oR (pv 5) (dk jO (dk oR cP (pv 3)) cP)) cP) cP) cP))
 (jJ (jc (dk jN (dk sU (pv 5) cP) (pv 1)))))))))))),?_⟩
  obtain ⟨⟨a,l,hd,ha,hl⟩,hc,hn,npc⟩:=hP
  have hd':H p=some (.lst [.ref c,.int a,.int l]):=hd
  have x2:cR [V.ref c,.int (a:Int),.int l] 2=some (.int l):=qb
  have x1:cR [V.ref c,.int (a:Int),.int l] 1=some (.int (a:Int)):=qc
  refine ⟨_,rfl,p,_,_,_,rfl,rfl,SqL.of hd',x2,_,_,rfl,rfl,_,rfl,?_⟩
  refine pO (λhz=>?_) (λhz=>?_)
  ·refine ⟨_,rfl,p,_,_,_,rfl,rfl,SqL.of hd',x2,_,rfl,_,_,rfl,rfl,h0,?_⟩
   refine ⟨_,rfl,p,_,_,_,rfl,rfl,SqL.of hd',x2,_,rfl,_,_,rfl,rfl,⟨h0,h1⟩,_,rfl,p,_,2,2,rfl,rfl,hd',rfl,?_⟩
   refine ⟨_,rfl,k _ _ (Int.emod_nonneg _ (by omega)) (Int.emod_lt_of_pos _ h0) ⟨⟨a,l / most,cA,by omega,Int.ediv_nonneg hl (by omega)⟩,by rw [bG npc]; exact hc,hn,npc⟩ Kept.refl.pen⟩
  ·refine ⟨_,rfl,p,_,_,_,rfl,rfl,SqL.of hd',x1,?_⟩
   refine ⟨_,rfl,_,_,rfl,rfl,_,rfl,p,_,1,1,rfl,rfl,hd',rfl,?_⟩
   have hd1:(upd H p (.lst ([V.ref c,.int (a:Int),.int l].set 1 (.int ((a:Int)+1))))) p=some (.lst [.ref c,.int ((a:Int)+1),.int l]):=cA
   have hc1:(upd H p (.lst ([V.ref c,.int (a:Int),.int l].set 1 (.int ((a:Int)+1))))) c=some (.lst (ns.map V.int)):=by
    rw [bG npc]
    exact hc
   have k1:Kept p H (upd H p (.lst ([V.ref c,.int (a:Int),.int l].set 1 (.int ((a:Int)+1))))):=Kept.refl.pen
   generalize upd H p (.lst ([V.ref c,.int (a:Int),.int l].set 1 (.int ((a:Int)+1))))=H1 at hd1 hc1 k1
   have y0:cR [V.ref c,.int ((a:Int)+1),.int l] 0=some (.ref c):=qd
   refine ⟨_,rfl,_,_,rfl,rfl,.inl ⟨by decide,by decide⟩,_,_,rfl,rfl,?_⟩
   refine ⟨λσ' H'=>∃ (z:Int),σ'=[some (.ref p),some (.int most),none,some (.int a),some (.int z),none]/\H' p=some (.lst [.ref c,.int ((a:Int)+1),.int l])/\H' c=some (.lst (ns.map V.int))/\Kept p H H',?_,?_⟩
   ·refine ⟨_,rfl,p,_,_,_,rfl,rfl,SqL.of hd1,y0,Nat.zero_le _,λq hq=>?_⟩
    have nq:∀ {b:Addr} {o:HO},H1 b=some o->(upd H1 q (.lst [])) b=some o:=λe=>by
     rw [bG (c7 e hq)]
     exact e
    refine ⟨_,_,.lst (nq hc1) (DnAll.ints ns),.lst cA .nil,ZaX ns,ZaX [],_,rfl,?_⟩
    rw [Zm9]
    refine pO (λhne=>?_) (λ_=>?_)
    ·have hne':ns≠[]:=by
      rintro rfl
      cases hne
     obtain ⟨z,hz2⟩:=Zog ns a hne'
     have hpos:0 < (((ns.map V.int).length:Nat):Int):=by
      rw [List.length_map]
      have:=List.length_pos_iff.mpr hne'
      omega
     refine ⟨_,rfl,p,_,_,_,rfl,rfl,SqL.of (nq hd1),y0,_,rfl,_,rfl,p,_,_,_,rfl,rfl,SqL.of (nq hd1),y0,c,_,rfl,.inl (SqL.of (nq hc1)),_,_,rfl,rfl,hpos,c,_,_,_,rfl,rfl,SqL.of (nq hc1),hz2,?_⟩
     exact ⟨z,rfl,nq hd1,nq hc1,k1.new hq⟩
    ·exact ⟨_,rfl,nq hd1,nq hc1,k1.new hq⟩
   ·rintro σ2 H2 ⟨z,rfl,hd2,hc2,k2⟩
    refine ⟨λ_ H'=>H'=H2,?_,?_⟩
    ·refine ⟨_,rfl,_,rfl,p,_,_,_,rfl,rfl,SqL.of hd2,y0,c,_,rfl,.inl (SqL.of hc2),_,_,rfl,rfl,_,rfl,?_⟩
     refine pO (λ_=>?_) (λ_=>rfl)
     exact ⟨_,rfl,z,rfl,_,_,rfl,rfl,⟨by decide,by decide,by decide⟩,_,_,rfl,rfl,_,rfl,rfl⟩
    ·rintro b H3 rfl
     have ab:0<=(if z < 0 then -z else z):=by split <;> omega
     refine pO (λ_=>?_) (λ_=>?_)
     ·refine ⟨_,rfl,z,rfl,_,rfl,_,_,rfl,rfl,⟨h0,h1⟩,_,rfl,p,_,2,2,rfl,rfl,hd2,rfl,?_⟩
      refine ⟨_,rfl,z,rfl,_,rfl,_,_,rfl,rfl,h0,?_⟩
      refine k _ _ (Int.emod_nonneg _ (by omega)) (Int.emod_lt_of_pos _ h0) ⟨⟨a+1,_,cA,by omega,Int.ediv_nonneg ab (by omega)⟩,by rw [bG npc]; exact hc2,hn,npc⟩ k2.pen
     ·refine ⟨_,rfl,_,_,rfl,rfl,(by show (0:Int) < 2147483629; decide),_,rfl,_,_,rfl,rfl,.inl ⟨by decide,by decide⟩,_,_,rfl,rfl,_,_,rfl,rfl,_,_,rfl,rfl,⟨by decide,by decide,ZoU (by omega) (by omega)⟩,_,_,rfl,rfl,(by show (0:Int) < 2147483647; decide),?_⟩
      have m0:0<=((z % 2147483629+40009 * (a:Int)+17) ^ (5:Int).toNat) % 2147483647:=Int.emod_nonneg _ (by decide)
      have m1:((z % 2147483629+40009 * (a:Int)+17) ^ (5:Int).toNat) % 2147483647 < 2147483647:=Int.emod_lt_of_pos _ (by decide)
      refine ⟨_,rfl,_,rfl,_,_,rfl,rfl,.inl ⟨by decide,by decide⟩,_,_,rfl,rfl,_,_,rfl,rfl,.inl ⟨Int.lt_of_lt_of_le (by decide) m0,Int.lt_trans m1 (by decide)⟩,_,_,rfl,rfl,_,_,rfl,rfl,⟨by decide,by decide,ZoT m0 m1 (by omega) (by omega)⟩,_,_,rfl,rfl,(by show (0:Int) < 2147483587; decide),?_⟩
      refine ⟨_,rfl,_,_,rfl,rfl,⟨by decide,by decide⟩,_,rfl,_,_,rfl,rfl,h0,?_⟩
      exact k _ _ (Int.emod_nonneg _ (by omega)) (Int.emod_lt_of_pos _ h0) ⟨⟨a+1,l,hd2,by omega,hl⟩,hc2,hn,npc⟩ k2
end
section
variable {cn:Addr×List Int} {P:Program} {w:World} {K:PySem.W.Frag} {mg:Str->Option Value} {base:Heap}
noncomputable def mY:List Sl->Tr Re:=cg 1 0
 (cF (lW (kg "int" (aa 0)) (qy (kg "bool" (aa 0)))))
theorem Zey (T:Txt K mg):ACal (cu [] (cC cn)) P w K mg base "is_whole" 1 ["thing"] mY:=cZ T.ZnK ZgX rfl λf cdv A outer sh H E hr=>by
 exact (bK (cK (qq (nJ (T:="int") (Or.inl rfl) rfl (c6 ny rfl T.mQ boot_isinstance (cD (ac (pv 0)) (cD (mI (v:=.ty "int") rfl T.mR boot_int rfl) cU)))) (qm (Ze5 (nJ (T:="bool") (Or.inr (Or.inl rfl)) rfl (c6 ny rfl T.mQ boot_isinstance (cD (ac (pv 0)) (cD (mI (v:=.ty "bool") rfl T.ZcX boot_bool rfl) cU)))))))))
noncomputable def mU:List Sl->Tr Re:=cg 1 0
 (cF (u5 (bC (iY (ag bT (aa 0) (aC (.int 1)))) (bC (ag cN (ag bT (aa 0) (aC (.int 0))) (aC (.int 1))) bP))))
theorem Zev (T:Txt K mg):ACal (cu [] (cC cn)) P w K mg base "stocks" 1 ["shop"] mU:=cZ T.ZnD ZgT rfl λf cdv A outer sh H E hr=>by
 exact (bK (cK (Zpi (gk (Zop hr.hd) rfl T.jj boot_tuple (cD (gk Zos rfl T.io boot_range (bH (lO (cq cj ci (ac (pv 0)) (ge rfl T.ni) (λ_ _=>rfl))) (bH (b9 dm dg (cq cj ci (ac (pv 0)) (ge rfl T.ZdB) (λ_ _=>rfl)) bO) bU))) cU)))))
noncomputable def gr:List Sl->Tr Re:=cg 3 0
 (bA (dH (cH (ag (gw λi j=>decide (i<=j)) (aa 2) (aa 1)))
  (cF (aC (.int 0)))
  dt)
 (cF (ag cN (ag bT (aa 0) (aC (.int 2))) (ag fi (ag bT (aa 0) (aC (.int 3))) (ag fL (aa 2) (aa 1))))))
theorem lH (T:Txt K mg):ACal (cu [] (cC cn)) P w K mg base "order_cost" 1 ["shop","stock","level"] gr:=cZ T.ZnG ZgU rfl λf cdv A outer sh H E hr=>by
 exact (bB (eX (dr sT ie (ac (pv 2)) (ac (pv 1)) (nomark _))
 (bK (cK bO))
 dX)
 (bK (cK (b9 dm dg (cq cj ci (ac (pv 0)) (ge rfl T.Zkp) (λ_ _=>rfl)) (b9 fS fQ (cq cj ci (ac (pv 0)) (ge rfl T.Zkq) (λ_ _=>rfl)) (b9 gm gh (ac (pv 2)) (ac (pv 1))))))))
noncomputable def iL:List Sl->Tr Re:=cg 3 0
 (cF (cV mT (bC (ag fL (aa 1) (aa 2)) (bC (iY (ag bT (aa 0) (aC (.int 1)))) bP))))
theorem p9 (T:Txt K mg):ACal (cu [] (cC cn)) P w K mg base "next_stock" 1 ["shop","level","fall"] iL:=cZ T.ZnH ZgV rfl λf cdv A outer sh H E hr=>by
 exact (bK (cK (da (t:=cw) (c6 (Zeu rfl) rfl T.ZcW boot_max (bH (b9 gm gh (ac (pv 1)) (ac (pv 2))) (bH (lO (cq cj ci (ac (pv 0)) (ge rfl T.ni) (λ_ _=>rfl))) bU))) Zao)))
noncomputable def kZ:List Sl->Tr Re:=cg 2 0
 (bA (dH (cH (ag (gw λi j=>decide (i > j)) (aa 1) (aC (.int 0))))
  (cF (ag fi (iY (ag bT (aa 0) (aC (.int 7)))) (aa 1)))
  dt)
 (cF (ag fi (ag bT (aa 0) (aC (.int 8))) (iY (aa 1)))))
theorem Zez (T:Txt K mg):ACal (cu [] (cC cn)) P w K mg base "end_cost" 1 ["shop","stock"] kZ:=cZ T.ZnN Zg0 rfl λf cdv A outer sh H E hr=>by
 exact (bB (eX (dr mJ ie (ac (pv 1)) bO (nomark _))
 (bK (cK (b9 fS fQ (lO (cq cj ci (ac (pv 0)) (ge rfl T.Zkv) (λ_ _=>rfl))) (ac (pv 1)))))
 dX)
 (bK (cK (b9 fS fQ (cq cj ci (ac (pv 0)) (ge rfl T.Zks) (λ_ _=>rfl)) (lO (ac (pv 1)))))))
noncomputable def jm (C_Book:Addr):List Sl->Tr Re:=cg 3 0
 (bA (fP C_Book "shop" (aa 0) (aa 1))
 (bA (fP C_Book "morning" (aa 0) (aa 2))
 (bA (fP C_Book "chosen" (aa 0) (aC .none))
 (bA (fP C_Book "spent" (aa 0) (aC (.int 0)))
 (fP C_Book "ended" (aa 0) (nM bP))))))
theorem ZeB (T:Txt K mg) {C_Book:Addr} (B_Book:OK_Book K mg C_Book):KCal (cu [] (cC cn)) P w K mg base C_Book 1 ["self","shop","stock"] (jm C_Book):=ZjP B_Book.k_init Zg8 rfl λf cdv A outer sh H E hr=>by
 exact (bB (gb B_Book.cl B_Book.n_shop (ac (pv 0)) (ac (pv 1)))
 (bB (gb B_Book.cl B_Book.n_morning (ac (pv 0)) (ac (pv 2)))
 (bB (gb B_Book.cl B_Book.n_chosen (ac (pv 0)) iz)
 (bB (gb B_Book.cl B_Book.n_spent (ac (pv 0)) bO)
 (bK (gb B_Book.cl B_Book.n_ended (ac (pv 0)) (uY bU)))))))
noncomputable def jQ (C_Book:Addr):List Sl->Tr Re:=cg 1 0
 (cF (cM C_Book "morning" (aa 0)))
theorem qa (T:Txt K mg) {C_Book:Addr} (B_Book:OK_Book K mg C_Book):MCal (cu [] (cC cn)) P w K mg base C_Book "stock" 1 ["self"] (jQ C_Book):=kY B_Book.d_stock Zg4 rfl λf cdv A outer sh H E hr=>by
 exact (bK (cK (cS B_Book.cl B_Book.n_morning (ac (pv 0)))))
noncomputable def k8 (C_Book:Addr):List Sl->Tr Re:=cg 1 0
 (cF (cM C_Book "spent" (aa 0)))
theorem uB (T:Txt K mg) {C_Book:Addr} (B_Book:OK_Book K mg C_Book):MCal (cu [] (cC cn)) P w K mg base C_Book "paid" 1 ["self"] (k8 C_Book):=kY B_Book.d_paid Zg5 rfl λf cdv A outer sh H E hr=>by
 exact (bK (cK (cS B_Book.cl B_Book.n_spent (ac (pv 0)))))
noncomputable def oG (C_Book:Addr):List Sl->Tr PyData :=
 (aa 0)
noncomputable def k9 (C_Book:Addr):List Sl->Tr Re:=cg 1 0
 (qw (qB (va (cM C_Book "ended" (aa 0))) 2 [] (cI (bJ (bE 0) (bJ (bE 1) cG))) (oG C_Book)))
theorem uC (T:Txt K mg) {C_Book:Addr} (B_Book:OK_Book K mg C_Book):MCal (cu [] (cC cn)) P w K mg base C_Book "days" 1 ["self"] (k9 C_Book):=kY B_Book.d_days Zg6 rfl λf cdv A outer sh H E hr=>by
 exact (bK (ZeW (Zpc (jM nR ["told","chosen"] [] rfl (Zph (cS B_Book.cl B_Book.n_ended (ac (pv 0)))) (λb=>(fJ rfl (cz (cb (ca (i:=0) (show ((bN nR ["told","chosen"] [])).Nodup by decide +kernel) rfl (Or.inl rfl))) (cz (cb (ca (i:=1) (show ((bN nR ["told","chosen"] [])).Nodup by decide +kernel) rfl (Or.inl rfl))) fI)) (cy (cy fB)))) (λb=>(ac (pv 0))) rfl (show BlkOk nR (bM sw) _ [] from ⟨rfl,by decide +kernel,by decide +kernel,by decide +kernel,by decide +kernel⟩)) (sL (je (f8 (by decide)) (je (f8 (by decide)) sM))))))
noncomputable def rh:List Sl->Tr Bool :=
 (iU (aa 1))
noncomputable def tX:List Sl->Tr Ou :=
 (ka 0 1 (bC (aa 1) (bC (ag kW (aa 0) (aa 1)) bP)))
noncomputable def pG:List Sl->Tr Re:=cg 2 0
 (bA (ka 0 1 (bC (cV lP (bC (aa 0) bP)) (bC (cV lP (bC (aa 1) bP)) bP)))
 (bA (fm rh tX 100000)
 (iB 0)))
theorem ZoP (T:Txt K mg):ACal (cu [] (cC cn)) P w K mg base "common_divisor" 1 ["one","other"] pG:=cZ T.ZnR rV rfl λf cdv A outer sh H E hr=>by
 exact (bB (qh (oI (i:=0) (j:=1) rfl rV.nd rfl rfl (by decide) rfl rfl (bH (da (t:=cw) (c6 lG rfl T.kU boot_abs (bH (ac (pv 0)) bU)) rm) (bH (da (t:=cw) (c6 lG rfl T.kU boot_abs (bH (ac (pv 1)) bU)) rm) bU)) rfl))
 (bB (uO 100000 PassesOwn.never (jZ (ac (pv 1)))
  (bK (qh (oI (i:=0) (j:=1) rfl rV.nd rfl rfl (by decide) rfl rfl (bH (ac (pv 1)) (bH (b9 ZcL Zal (ac (pv 0)) (ac (pv 1))) bU)) rfl))))
 (bK (qf (pv 0)))))
noncomputable abbrev dS:=pD
theorem fc (T:Txt K mg):ACal (cu [] (cC cn)) P w K mg base "_law_draw" 1 ["_law_pen_here","_law_many"] dS:=ACal.cods (Zny rfl (ZiT T))
noncomputable def kJ:List Sl->Tr PyData :=
 (fO (bC (ag j9 (aa 2) (fO (bC (aa 0) bP))) (bC (ag fi (aa 3) (aa 1)) bP)))
noncomputable def kN:List Sl->Tr Bool :=
 (cH (ag (gw λi j=>decide (i > j)) (aa 1) (aC (.int 0))))
noncomputable def tT:List Sl->Tr Ou :=
 (nN 4 (dG (qA (nO (aa 3)) 2 [5,6] (cI (bJ (bE 0) (bJ (bE 1) cG))) kN kJ)))
noncomputable def tS:List Sl->Tr Ou :=
 (bA (iV 4 (ff bP))
 (bA (dA (gf (aa 1)) (cI (bJ (bE 5) (bJ (bE 6) cG))) tT)
 (bA (iC 4 (cf 1 (aa 4)))
 (cf 2 (ag fi (aa 2) (cV ij (bC (aa 3) bP)))))))
noncomputable def pf:List Sl->Tr Re:=cg 1 6
 (bA (cf 1 (dG (ff (bC (fO (bC (fO bP) (bC (aC (.int 1)) bP))) bP))))
 (bA (cf 2 (aC (.int 1)))
 (bA (dA (gf (aa 0)) (bE 3) tS)
 (cF (fO (bC (aa 1) (bC (aa 2) bP)))))))
theorem ZoD (T:Txt K mg):ACal (cu [] (cC cn)) P w K mg base "_law_rows" 1 ["_law_falls_here"] pf:=cZ T.ZnY iF rfl λf cdv A outer sh H E hr=>by
 exact (bB (cm (bY (i:=1) iF.nd rfl (Or.inl rfl) (by refine fw ?_; refine fv ?_; refine fK ?_ ?_; exact (gO (bH (gO bU) (bH bO bU))); exact bU)))
 (bB (cm (bY (i:=2) iF.nd rfl (Or.inl rfl) bO))
 (bB (fu PassesOwn.never rfl (iy (ac (pv 0))) (cb (ca (i:=3) iF.nd rfl (Or.inl rfl)))
  (bB (j6 (bY (i:=4) iF.nd rfl (Or.inl rfl) (fv bU)))
 (bB (fu PassesOwn.never rfl (iy (ac (pv 1))) (fJ rfl (cz (cb (ca (i:=5) iF.nd rfl (Or.inr rfl))) (cz (cb (ca (i:=6) iF.nd rfl (Or.inr rfl))) fI)) (cy (cy fB)))
  (bK (Zo4 (jK (iI PySem.F.plainAttrs_list PySem.F.slot_list_extend PySem.F.type_list_extend Zi9 (pv 4) (cD (fw (Zpb (Zir nQ ["_law_fall","_law_here"] [5,6] rfl (uW (sQ rfl rfl T.tm (ac (pv 3)))) (λb=>(fJ rfl (cz (cb (ca (i:=0) (show ((bN nQ ["_law_fall","_law_here"] [5,6])).Nodup by decide +kernel) rfl (Or.inl rfl))) (cz (cb (ca (i:=1) (show ((bN nQ ["_law_fall","_law_here"] [5,6])).Nodup by decide +kernel) rfl (Or.inl rfl))) fI)) (cy (cy fB)))) (λb=>(dr mJ ie (ac (pv 1)) bO (nomark _))) (λb=>(gO (bH (b9 ZiP ZfL (ac (pv 2)) (gO (bH (ac (pv 0)) bU))) (bH (b9 fS fQ (ac (pv 3)) (ac (pv 1))) bU)))) rfl (show BlkOk nQ (bM sk) _ [5,6] from ⟨rfl,by decide +kernel,by decide +kernel,by decide +kernel,by decide +kernel⟩)) (sL (je (f8 (by decide)) (je (f8 (by decide)) sM))))) cU))))))
 (bB (lK (k:=4) (cm (bY (i:=1) iF.nd rfl (Or.inl rfl) (ac (pv 4)))))
 (bK (cm (bY (i:=2) iF.nd rfl (Or.inl rfl) (b9 fS fQ (ac (pv 2)) (da (t:=cw) (c6 (pZ rfl) rfl T.oY boot_sum (bH (ac (pv 3)) bU)) nY)))))))))
 (bK (cK (gO (bH (ac (pv 1)) (bH (ac (pv 2)) bU))))))))
noncomputable def Zcm:List Sl->Tr PyData :=
 (lW (kg "int" (aa 0)) (qy (kg "bool" (aa 0))))
noncomputable def rg:List Sl->Tr Bool :=
 (cH (ag (gw λi j=>decide (i > j)) (aa 3) (aC (.int 0))))
noncomputable def tU:List Sl->Tr Ou :=
 (ka 3 4 (bC (ag kW (aa 4) (aa 3)) (bC (aa 3) bP)))
noncomputable def pw:List Sl->Tr Re:=cg 3 2
 (bA (dH (kd (iX (iU (kg "tuple" (aa 0)))) (cH (ag gY (cV iO (bC (aa 0) bP)) (aC (.int 2)))))
  (cF (aC (.bool false)))
  dt)
 (bA (dH (kd (cH (ag (lp false) (aC (.bool false)) (dG (hZ (gf (aa 0)) 1 [] (bE 0) Zcm)))) (cH (ag (gw λi j=>decide (i < j)) (ag bT (aa 0) (aC (.int 1))) (aC (.int 1)))))
  (cF (aC (.bool false)))
  dt)
 (bA (ka 3 4 (bC (cV lP (bC (ag bT (aa 0) (aC (.int 0))) bP)) (bC (ag bT (aa 0) (aC (.int 1))) bP)))
 (bA (fm rg tU 100000)
 (cF (lW (ag hV (aa 4) (aC (.int 1))) (ag hV (ag fi (ag bT (aa 0) (aC (.int 0))) (aa 2)) (ag fi (aa 1) (ag bT (aa 0) (aC (.int 1)))))))))))
theorem ZoH (T:Txt K mg):ACal (cu [] (cC cn)) P w K mg base "_law_is_share" 1 ["_law_found","_law_top","_law_bottom"] pw:=cZ T.Zn3 rX rfl λf cdv A outer sh H E hr=>by
 exact (bB (eX (lJ (nF (j4 (jZ (nJ (T:="tuple") (Or.inr (Or.inr (Or.inr (Or.inr (Or.inl rfl))))) rfl (c6 ny rfl T.mQ boot_isinstance (cD (ac (pv 0)) (cD (mI (v:=.ty "tuple") rfl T.jj boot_tuple rfl) cU)))))) (nE (dr (kP hr) kz (da (t:=cw) (c6 lF rfl T.kT boot_len (bH (ac (pv 0)) bU)) nZ) bO (nomark _)))))
 (bK (cK gz))
 dX)
 (bB (eX (lJ (nF (dr ZiI ZfI gz (fw (lM (jM qN ["_law_one"] [] rfl (iy (ac (pv 0))) (λb=>(cb (ca (i:=0) (show ((bN qN ["_law_one"] [])).Nodup by decide +kernel) rfl (Or.inl rfl)))) (λb=>(qq (nJ (T:="int") (Or.inl rfl) rfl (c6 ny rfl T.mQ boot_isinstance (cD (ac (pv 0)) (cD (mI (v:=.ty "int") rfl T.mR boot_int rfl) cU)))) (qm (Ze5 (nJ (T:="bool") (Or.inr (Or.inl rfl)) rfl (c6 ny rfl T.mQ boot_isinstance (cD (ac (pv 0)) (cD (mI (v:=.ty "bool") rfl T.ZcX boot_bool rfl) cU)))))))) rfl (show BlkOk qN (bM su) _ [] from ⟨rfl,by decide +kernel,by decide +kernel,by decide +kernel,by decide +kernel⟩)) (f8 (by decide)))) (by with_unfolding_all rfl)) (nE (dr oS ie (cq cj ci (ac (pv 0)) bO (λ_ _=>rfl)) bO (nomark _)))))
  (bK (cK gz))
  dX)
 (bB (qh (oI (i:=3) (j:=4) rfl rX.nd rfl rfl (by decide) rfl rfl (bH (da (t:=cw) (c6 lG rfl T.kU boot_abs (bH (cq cj ci (ac (pv 0)) bO (λ_ _=>rfl)) bU)) rm) (bH (cq cj ci (ac (pv 0)) bO (λ_ _=>rfl)) bU)) rfl))
 (bB (uO 100000 PassesOwn.never (dr mJ ie (ac (pv 3)) bO (nomark _))
  (bK (qh (oI (i:=3) (j:=4) rfl rX.nd rfl rfl (by decide) rfl rfl (bH (b9 ZcL Zal (ac (pv 4)) (ac (pv 3))) (bH (ac (pv 3)) bU)) rfl))))
 (bK (cK (qq (qo (jf hr) i7 (ac (pv 4)) bO (nomark _)) (qm (qo (jf hr) i7 (b9 fS fQ (cq cj ci (ac (pv 0)) bO (λ_ _=>rfl)) (ac (pv 2))) (b9 fS fQ (ac (pv 1)) (cq cj ci (ac (pv 0)) bO (λ_ _=>rfl))) (nomark _))))))))))
noncomputable def tF:List Sl->Tr Re:=cg 3 0
 (cF (lW (bI (bV mY (ae (aa 0) bF))) (qE (gw λi j=>decide (i<=j)) (gw λi j=>decide (i<=j)) (aa 1) (aa 0) (aa 2))))
theorem ZoK (T:Txt K mg):ACal (cu [] (cC cn)) P w K mg base "is_whole_within" 2 ["thing","lowest","highest"] tF:=cZ T.ZnJ ZgW rfl λf cdv A outer sh H E hr=>by
 exact (bK (cK (qq (bL (bW (Zey T) (hr.mono (by decide)) rfl (af (ac (pv 0)) bS))) (qm (Zpk sT ie sT ie (ac (pv 1)) (ac (pv 0)) (ac (pv 2)))))))
noncomputable def fV:List Sl->Tr Re:=cg 3 3
 (bA (cf 3 (bI (bV iL (ae (aa 0) (ae (aa 1) (ae (aa 2) bF))))))
 (bA (cf 4 (ag fL (aa 3) (ag fL (aa 1) (aa 2))))
 (bA (cf 5 (qC (cH (ag (gw λi j=>decide (i > j)) (aa 3) (aC (.int 0)))) (ag fi (ag bT (aa 0) (aC (.int 4))) (aa 3)) (ag fi (ag bT (aa 0) (aC (.int 5))) (iY (aa 3)))))
 (cF (ag cN (aa 5) (ag fi (ag bT (aa 0) (aC (.int 6))) (aa 4)))))))
theorem nA (T:Txt K mg):ACal (cu [] (cC cn)) P w K mg base "day_cost" 2 ["shop","level","fall"] fV:=cZ T.ZnO oq rfl λf cdv A outer sh H E hr=>by
 exact (bB (cm (bY (i:=3) oq.nd rfl (Or.inl rfl) (bL (bW (p9 T) (hr.mono (by decide)) rfl (af (ac (pv 0)) (af (ac (pv 1)) (af (ac (pv 2)) bS)))))))
 (bB (cm (bY (i:=4) oq.nd rfl (Or.inl rfl) (b9 gm gh (ac (pv 3)) (b9 gm gh (ac (pv 1)) (ac (pv 2))))))
 (bB (cm (bY (i:=5) oq.nd rfl (Or.inl rfl) (Ze7 (dr mJ ie (ac (pv 3)) bO (nomark _)) (b9 fS fQ (cq cj ci (ac (pv 0)) (ge rfl T.Zku) (λ_ _=>rfl)) (ac (pv 3))) (b9 fS fQ (cq cj ci (ac (pv 0)) (ge rfl T.Zkt) (λ_ _=>rfl)) (lO (ac (pv 3)))))))
 (bK (cK (b9 dm dg (ac (pv 5)) (b9 fS fQ (cq cj ci (ac (pv 0)) (ge rfl T.Zkr) (λ_ _=>rfl)) (ac (pv 4)))))))))
noncomputable def mV:List Sl->Tr Re:=cg 2 1
 (bA (dH (cH (ag hV (aa 1) (aC (.int 0))))
  lT
  dt)
 (bA (cf 2 (bI (bV pG (ae (aa 0) (ae (aa 1) bF)))))
 (bA (dH (cH (ag (gw λi j=>decide (i < j)) (aa 1) (aC (.int 0))))
  (cf 2 (iY (aa 2)))
  dt)
 (cF (fO (bC (ag ly (aa 0) (aa 2)) (bC (ag ly (aa 1) (aa 2)) bP)))))))
theorem Zox (T:Txt K mg):ACal (cu [] (cC cn)) P w K mg base "share" 2 ["top","bottom"] mV:=cZ T.ZnE rT rfl λf cdv A outer sh H E hr=>by
 exact (bB (eX (dr (jf hr) i7 (ac (pv 1)) bO (nomark _))
 (bK nG)
 dX)
 (bB (cm (bY (i:=2) rT.nd rfl (Or.inl rfl) (bL (bW (ZoP T) (hr.mono (by decide)) rfl (af (ac (pv 0)) (af (ac (pv 1)) bS))))))
 (bB (eX (dr oS ie (ac (pv 1)) bO (nomark _))
  (bK (cm (bY (i:=2) rT.nd rfl (Or.inl rfl) (lO (ac (pv 2))))))
  dX)
 (bK (cK (gO (bH (b9 ZcN Zan (ac (pv 0)) (ac (pv 2))) (bH (b9 ZcN Zan (ac (pv 1)) (ac (pv 2))) bU))))))))
noncomputable def sI:List Sl->Tr PyData :=
 (bI (bV kZ (ae (aa 1) (ae (aa 0) bF))))
noncomputable def pC:List Sl->Tr Re:=cg 1 0
 (qw (hZ (gf (bI (bV mU (ae (aa 0) bF)))) 1 [0] (bE 0) sI))
theorem ZoM (T:Txt K mg):ACal (cu [] (cC cn)) P w K mg base "end_costs" 2 ["shop"] pC:=cZ T.ZnM ZgZ rfl λf cdv A outer sh H E hr=>by
 exact (bK (ZeW (lM (jM qL ["stock"] [0] rfl (iy (bL (bW (Zev T) (hr.mono (by decide)) rfl (af (ac (pv 0)) bS)))) (λb=>(cb (ca (i:=0) (show ((bN qL ["stock"] [0])).Nodup by decide +kernel) rfl (Or.inl rfl)))) (λb=>(bL (bW (Zez T) (hr.mono (by decide)) rfl (af (ac (pv 1)) (af (ac (pv 0)) bS))))) rfl (show BlkOk qL (bM si) _ [0] from ⟨rfl,by decide +kernel,by decide +kernel,by decide +kernel,by decide +kernel⟩)) (f8 (by decide)))))
noncomputable def pj:List Sl->Tr Re:=cg 1 2
 (bA (cf 1 (bI (bV dS (cL 0 (ae (aC (.int 6)) bF)))))
 (bA (cf 2 (bI (bV dS (cL 0 (ae (aC (.int 12)) bF)))))
 (cF (ag bT (dG (ff (bC (aC (.int 0)) (bC (aa 2) (bC (aa 2) (bC (aa 2) (bC (ag fL (aC (.int 1000000)) (aa 2)) (bC (bI (bV dS (cL 0 (ae (aC (.int 1000001)) bF)))) bP)))))))) (aa 1)))))
theorem ZoF (T:Txt K mg):ACal (cu [] (cC cn)) P w K mg base "_law_price" 2 ["_law_pen_here"] pj:=cZ T.Zn0 rW rfl λf cdv A outer sh H E hr=>by
 exact (bB (cm (bY (i:=1) rW.nd rfl (Or.inl rfl) (bL (bW (fc T) (hr.mono (by decide)) rfl (cT (pv 0) (af bO bS))))))
 (bB (cm (bY (i:=2) rW.nd rfl (Or.inl rfl) (bL (bW (fc T) (hr.mono (by decide)) rfl (cT (pv 0) (af bO bS))))))
 (bK (cK (cq cj ci (by refine fw ?_; refine fv ?_; refine fK ?_ ?_; exact bO; refine fK ?_ ?_; exact (ac (pv 2)); refine fK ?_ ?_; exact (ac (pv 2)); refine fK ?_ ?_; exact (ac (pv 2)); refine fK ?_ ?_; exact (b9 gm gh bO (ac (pv 2))); refine fK ?_ ?_; exact (bL (bW (fc T) (hr.mono (by decide)) rfl (cT (pv 0) (af bO bS)))); exact bU) (ac (pv 1)) (λ_ _=>rfl))))))
noncomputable def tV:List Sl->Tr Ou :=
 (qv 3 (bI (bV dS (cL 0 (ae (aa 2) bF)))) (ag cN (aC (.int 1)) (bI (bV dS (cL 0 (ae (ag bT (dG (ff (bC (aC (.int 9)) (bC (aC (.int 1000)) bP)))) (bI (bV dS (cL 0 (ae (aC (.int 2)) bF))))) bF))))))
noncomputable def pA:List Sl->Tr Re:=cg 2 3
 (bA (cf 2 (ag cN (aC (.int 1)) (bI (bV dS (cL 0 (ae (aC (.int 8)) bF))))))
 (bA (iV 3 (qG kI (dG (ff (bC (aC (.int 0)) bP))) (aa 2)))
 (bA (dA (iW (bC (ag cN (aC (.int 1)) (bI (bV dS (cL 0 (ae (aa 1) bF))))) bP)) (bE 4) tV)
 (iC 3 (cF (cV iE (bC (aa 3) bP)))))))
theorem ZoJ (T:Txt K mg):ACal (cu [] (cC cn)) P w K mg base "_law_day" 2 ["_law_pen_here","_law_seen_here"] pA:=cZ T.Zn6 ou rfl λf cdv A outer sh H E hr=>by
 exact (bB (cm (bY (i:=2) ou.nd rfl (Or.inl rfl) (b9 dm dg bO (bL (bW (fc T) (hr.mono (by decide)) rfl (cT (pv 0) (af bO bS)))))))
 (bB (j6 (bY (i:=3) ou.nd rfl (Or.inl rfl) (Zpa ZcJ ZfG (fw (fv (bH bO bU))) (ac (pv 2)))))
 (bB (fu PassesOwn.never rfl (j8 (jL rfl T.io (bH (b9 dm dg bO (bL (bW (fc T) (hr.mono (by decide)) rfl (cT (pv 0) (af (ac (pv 1)) bS))))) bU))) (cb (ca (i:=4) ou.nd rfl (Or.inl rfl)))
  (bK (Zo3 (jd (b9 dm dg bO (bL (bW (fc T) (hr.mono (by decide)) rfl (cT (pv 0) (af (cq cj ci (fw (fv (bH bO (bH bO bU)))) (bL (bW (fc T) (hr.mono (by decide)) rfl (cT (pv 0) (af bO bS)))) (λ_ _=>rfl)) bS))))) (oM (pv 3) (bL (bW (fc T) (hr.mono (by decide)) rfl (cT (pv 0) (af (ac (pv 2)) bS)))) on)))))
 (bK (lK (k:=3) (cK (da (t:=cw) (gk lE rfl T.jj boot_tuple (bH (ac (pv 3)) bU)) kA)))))))
noncomputable def pM:List Sl->Tr Ou :=
 (bA (cf 11 (ag bT (dG (ff (bC (aa 10) (bC (aa 3) (bC (cV mT (bC (aa 10) (bC (aa 8) bP))) (bC (aa 10) bP)))))) (aa 7)))
 (bA (dH (cH (ag hV (aa 7) (aC (.int 3))))
  (cf 11 (ag cN (aa 10) (bI (bV dS (cL 0 (ae (ag cN (ag fL (aa 3) (aa 10)) (aC (.int 1))) bF))))))
  dt)
 (jv 9 (aa 11))))
noncomputable def tR:List Sl->Tr Ou :=
 (bA (cf 7 (bI (bV dS (cL 0 (ae (aC (.int 4)) bF)))))
 (bA (cf 8 (bI (bV dS (cL 0 (ae (ag cN (aa 3) (aC (.int 1))) bF)))))
 (bA (iV 9 (ff bP))
 (bA (dA (u7 (bC (ag fL (aC (.int 0)) (aa 4)) (bC (ag cN (aa 3) (aC (.int 1))) bP))) (bE 10) pM)
 (iC 9 (jv 5 (cV iE (bC (aa 9) bP))))))))
noncomputable def pe:List Sl->Tr Re:=cg 3 9
 (bA (lU (cI (bJ (bE 3) (bJ (bE 4) cG))) (u6 (aa 1) u9 (qx (aC (.int 2)))))
 (bA (iV 5 (ff bP))
 (bA (dA (iW (bC (aa 2) bP)) (bE 6) tR)
 (iC 5 (cF (cV iE (bC (aa 5) bP)))))))
theorem ZoC (T:Txt K mg):ACal (cu [] (cC cn)) P w K mg base "_law_rule" 2 ["_law_pen_here","_law_shop_here","_law_days"] pe:=cZ T.ZnX gW rfl λf cdv A outer sh H E hr=>by
 exact (bB (qi (jd (Zpj (ac (pv 1)) Zo8 (Zo7 bO)) (fJ rfl (cz (cb (ca (i:=3) gW.nd rfl (Or.inl rfl))) (cz (cb (ca (i:=4) gW.nd rfl (Or.inl rfl))) fI)) (cy (cy fB)))))
 (bB (j6 (bY (i:=5) gW.nd rfl (Or.inl rfl) (fv bU)))
 (bB (fu PassesOwn.never rfl (j8 (jL rfl T.io (bH (ac (pv 2)) bU))) (cb (ca (i:=6) gW.nd rfl (Or.inl rfl)))
  (bB (cm (bY (i:=7) gW.nd rfl (Or.inl rfl) (bL (bW (fc T) (hr.mono (by decide)) rfl (cT (pv 0) (af bO bS))))))
 (bB (cm (bY (i:=8) gW.nd rfl (Or.inl rfl) (bL (bW (fc T) (hr.mono (by decide)) rfl (cT (pv 0) (af (b9 dm dg (ac (pv 3)) bO) bS))))))
 (bB (j6 (bY (i:=9) gW.nd rfl (Or.inl rfl) (fv bU)))
 (bB (fu PassesOwn.never rfl (Zpf (Zic rfl T.io (bH (b9 gm gh bO (ac (pv 4))) (bH (b9 dm dg (ac (pv 3)) bO) bU)))) (cb (ca (i:=10) gW.nd rfl (Or.inl rfl)))
  (bB (cm (bY (i:=11) gW.nd rfl (Or.inl rfl) (cq cj ci (by refine fw ?_; refine fv ?_; refine fK ?_ ?_; exact (ac (pv 10)); refine fK ?_ ?_; exact (ac (pv 3)); refine fK ?_ ?_; exact (da (t:=cw) (c6 (Zeu rfl) rfl T.ZcW boot_max (bH (ac (pv 10)) (bH (ac (pv 8)) bU))) Zao); refine fK ?_ ?_; exact (ac (pv 10)); exact bU) (ac (pv 7)) (λ_ _=>rfl))))
 (bB (eX (dr (jf hr) i7 (ac (pv 7)) bO (nomark _))
  (bK (cm (bY (i:=11) gW.nd rfl (Or.inl rfl) (b9 dm dg (ac (pv 10)) (bL (bW (fc T) (hr.mono (by decide)) rfl (cT (pv 0) (af (b9 dm dg (b9 gm gh (ac (pv 3)) (ac (pv 10))) bO) bS))))))))
  dX)
 (bK (nI (jK (iI PySem.F.plainAttrs_list PySem.F.slot_list_append PySem.F.type_list_append jk (pv 9) (cD (ac (pv 11)) cU))))))))
 (bK (lK (k:=9) (nI (jK (iI PySem.F.plainAttrs_list PySem.F.slot_list_append PySem.F.type_list_append jk (pv 5) (cD (da (t:=cw) (gk lE rfl T.jj boot_tuple (bH (ac (pv 9)) bU)) kA) cU)))))))))))
 (bK (lK (k:=5) (cK (da (t:=cw) (gk lE rfl T.jj boot_tuple (bH (ac (pv 5)) bU)) kA)))))))
noncomputable def iM (C_Book:Addr):List Sl->Tr Re:=cg 1 0
 (cF (cV gI (bC (fO (bC (bI (fk C_Book "stock" (jQ C_Book) (aa 0) bF)) (bC (bI (fk C_Book "paid" (k8 C_Book) (aa 0) bF)) (bC (bI (fk C_Book "days" (k9 C_Book) (aa 0) bF)) bP)))) bP)))
theorem nz (T:Txt K mg) {C_Book:Addr} (B_Book:OK_Book K mg C_Book):ACal (cu [] (cC cn)) P w K mg base "_law_seen" 2 ["_law_book"] (iM C_Book):=cZ T.ZnW Zg1 rfl λf cdv A outer sh H E hr=>by
 exact (bK (cK (da (t:=cw) (c6 (nw hr) rfl T.mP boot_repr (bH (gO (bH (bL (hW B_Book.cl (qa T B_Book) (hr.mono (by decide)) (ac (pv 0)))) (bH (bL (hW B_Book.cl (uB T B_Book) (hr.mono (by decide)) (ac (pv 0)))) (bH (bL (hW B_Book.cl (uC T B_Book) (hr.mono (by decide)) (ac (pv 0)))) bU)))) bU)) l6)))
noncomputable def pB:List Sl->Tr Re:=cg 3 0
 (lS (bV tF (ae (aa 2) (ae (aa 1) (ae (ag bT (aa 0) (aC (.int 0))) bF)))))
theorem ZoL (T:Txt K mg):ACal (cu [] (cC cn)) P w K mg base "is_level" 3 ["shop","stock","thing"] pB:=cZ T.ZnL ZgY rfl λf cdv A outer sh H E hr=>by
 exact (bK (qg (bW (ZoK T) (hr.mono (by decide)) rfl (af (ac (pv 2)) (af (ac (pv 1)) (af (cq cj ci (ac (pv 0)) (ge rfl T.ZdB) (λ_ _=>rfl)) bS))))))
noncomputable def jR (C_Book:Addr):List Sl->Tr Re:=cg 2 3
 (bA (dH (kd (iX (iU (bI (bV mY (ae (aa 1) bF))))) (cH (ag (gw λi j=>decide (i < j)) (aa 1) (aC (.int 0)))))
  lT
  dt)
 (bA (cf 2 (qC (cH (ag nc (cM C_Book "chosen" (aa 0)) (aC .none))) (cM C_Book "morning" (aa 0)) (cM C_Book "chosen" (aa 0))))
 (bA (cf 3 (bI (bV fV (ae (cM C_Book "shop" (aa 0)) (ae (aa 2) (ae (aa 1) bF))))))
 (bA (cf 4 (fO (bC (cM C_Book "morning" (aa 0)) (bC (aa 2) (bC (aa 1) (bC (ag cN (bI (bV gr (ae (cM C_Book "shop" (aa 0)) (ae (cM C_Book "morning" (aa 0)) (ae (aa 2) bF))))) (aa 3)) bP))))))
 (bA (gB (lV (cM C_Book "ended" (aa 0)) (fO (bC (aa 4) (bC (cM C_Book "chosen" (aa 0)) bP)))))
 (bA (ju C_Book "spent" (λi j=>i+j) (aa 0) (aa 3))
 (bA (fP C_Book "morning" (aa 0) (bI (bV iL (ae (cM C_Book "shop" (aa 0)) (ae (aa 2) (ae (aa 1) bF))))))
 (fP C_Book "chosen" (aa 0) (aC .none)))))))))
theorem ZeA (T:Txt K mg) {C_Book:Addr} (B_Book:OK_Book K mg C_Book):MCal (cu [] (cC cn)) P w K mg base C_Book "fall" 3 ["self","many"] (jR C_Book):=kY B_Book.d_fall ow rfl λf cdv A outer sh H E hr=>by
 exact (bB (eX (lJ (nF (j4 (jZ (bL (bW (Zey T) (hr.mono (by decide)) rfl (af (ac (pv 1)) bS))))) (nE (dr oS ie (ac (pv 1)) bO (nomark _)))))
 (bK nG)
 dX)
 (bB (cm (bY (i:=2) ow.nd rfl (Or.inl rfl) (Ze7 (dr ZcM Zam (cS B_Book.cl B_Book.n_chosen (ac (pv 0))) iz (nomark _)) (cS B_Book.cl B_Book.n_morning (ac (pv 0))) (cS B_Book.cl B_Book.n_chosen (ac (pv 0))))))
 (bB (cm (bY (i:=3) ow.nd rfl (Or.inl rfl) (bL (bW (nA T) (hr.mono (by decide)) rfl (af (cS B_Book.cl B_Book.n_shop (ac (pv 0))) (af (ac (pv 2)) (af (ac (pv 1)) bS)))))))
 (bB (cm (bY (i:=4) ow.nd rfl (Or.inl rfl) (gO (bH (cS B_Book.cl B_Book.n_morning (ac (pv 0))) (bH (ac (pv 2)) (bH (ac (pv 1)) (bH (b9 dm dg (bL (bW (lH T) (hr.mono (by decide)) rfl (af (cS B_Book.cl B_Book.n_shop (ac (pv 0))) (af (cS B_Book.cl B_Book.n_morning (ac (pv 0))) (af (ac (pv 2)) bS))))) (ac (pv 3))) bU)))))))
 (bB (iT (u4 (iI PySem.F.plainAttrs_list PySem.F.slot_list_append PySem.F.type_list_append (MtR.cv jk) (cS B_Book.cl B_Book.n_ended (ac (pv 0))) (cD (gO (bH (ac (pv 4)) (bH (cS B_Book.cl B_Book.n_chosen (ac (pv 0))) bU))) cU))))
 (bB (lL Zdr Zdy B_Book.cl B_Book.n_spent (ac (pv 0)) (ac (pv 3)))
 (bB (gb B_Book.cl B_Book.n_morning (ac (pv 0)) (bL (bW (p9 T) (hr.mono (by decide)) rfl (af (cS B_Book.cl B_Book.n_shop (ac (pv 0))) (af (ac (pv 2)) (af (ac (pv 1)) bS))))))
 (bK (gb B_Book.cl B_Book.n_chosen (ac (pv 0)) iz)))))))))
noncomputable def mZ (C_Book:Addr):List Sl->Tr Re:=cg 1 5
 (bA (dH (cH (ag li (cM C_Book "chosen" (aa 0)) (aC .none)))
  (bA (ju C_Book "spent" (λi j=>i - j) (aa 0) (bI (bV gr (ae (cM C_Book "shop" (aa 0)) (ae (cM C_Book "morning" (aa 0)) (ae (cM C_Book "chosen" (aa 0)) bF))))))
 (bA (fP C_Book "chosen" (aa 0) (aC .none))
 (cF (aC .none))))
  dt)
 (bA (dH (iX (qu (cM C_Book "ended" (aa 0))))
  lT
  dt)
 (bA (lU (cI (bJ (cI (bJ (bE 1) (bJ (bE 2) (bJ (bE 3) (bJ (bE 4) cG))))) (bJ (bE 5) cG))) (nL (cM C_Book "ended" (aa 0))))
 (bA (ju C_Book "spent" (λi j=>i - j) (aa 0) (bI (bV fV (ae (cM C_Book "shop" (aa 0)) (ae (aa 2) (ae (aa 3) bF))))))
 (bA (fP C_Book "morning" (aa 0) (aa 1))
 (fP C_Book "chosen" (aa 0) (aa 5)))))))
theorem ZoR (T:Txt K mg) {C_Book:Addr} (B_Book:OK_Book K mg C_Book):MCal (cu [] (cC cn)) P w K mg base C_Book "back" 3 ["self"] (mZ C_Book):=kY B_Book.d_back gF rfl λf cdv A outer sh H E hr=>by
 exact (bB (eX (dr sS rj (cS B_Book.cl B_Book.n_chosen (ac (pv 0))) iz (nomark _))
 (bB (lL pT pV B_Book.cl B_Book.n_spent (ac (pv 0)) (bL (bW (lH T) (hr.mono (by decide)) rfl (af (cS B_Book.cl B_Book.n_shop (ac (pv 0))) (af (cS B_Book.cl B_Book.n_morning (ac (pv 0))) (af (cS B_Book.cl B_Book.n_chosen (ac (pv 0))) bS))))))
 (bB (gb B_Book.cl B_Book.n_chosen (ac (pv 0)) iz)
 (bK ZeX)))
  dX)
 (bB (eX (j4 (ZeQ (cS B_Book.cl B_Book.n_ended (ac (pv 0)))))
  (bK nG)
  dX)
 (bB (qi (jd (uX (sR PySem.F.plainAttrs_list PySem.F.slot_list_pop PySem.F.type_list_pop (MtR.cv tu) (cS B_Book.cl B_Book.n_ended (ac (pv 0))))) (fJ rfl (cz (fJ rfl (cz (cb (ca (i:=1) gF.nd rfl (Or.inl rfl))) (cz (cb (ca (i:=2) gF.nd rfl (Or.inl rfl))) (cz (cb (ca (i:=3) gF.nd rfl (Or.inl rfl))) (cz (cb (ca (i:=4) gF.nd rfl (Or.inl rfl))) fI)))) (cy (cy (cy (cy fB))))) (cz (cb (ca (i:=5) gF.nd rfl (Or.inl rfl))) fI)) (cy (cy fB)))))
 (bB (lL pT pV B_Book.cl B_Book.n_spent (ac (pv 0)) (bL (bW (nA T) (hr.mono (by decide)) rfl (af (cS B_Book.cl B_Book.n_shop (ac (pv 0))) (af (ac (pv 2)) (af (ac (pv 3)) bS))))))
 (bB (gb B_Book.cl B_Book.n_morning (ac (pv 0)) (ac (pv 1)))
 (bK (gb B_Book.cl B_Book.n_chosen (ac (pv 0)) (ac (pv 5)))))))))
noncomputable def nV (C_Book:Addr):List Sl->Tr (Option Re):=kh 1 5
 (ky (kv (dH (cH (ag li (cM C_Book "chosen" (aa 0)) (aC .none)))
  (bA (ju C_Book "spent" (λi j=>i - j) (aa 0) (bI (bV gr (ae (cM C_Book "shop" (aa 0)) (ae (cM C_Book "morning" (aa 0)) (ae (cM C_Book "chosen" (aa 0)) bF))))))
 (bA (fP C_Book "chosen" (aa 0) (aC .none))
 (cF (aC .none))))
  dt))
 (ky (q9 (iX (qu (cM C_Book "ended" (aa 0)))) qZ (kv dt))
 (kv (bA (lU (cI (bJ (cI (bJ (bE 1) (bJ (bE 2) (bJ (bE 3) (bJ (bE 4) cG))))) (bJ (bE 5) cG))) (nL (cM C_Book "ended" (aa 0))))
 (bA (ju C_Book "spent" (λi j=>i - j) (aa 0) (bI (bV fV (ae (cM C_Book "shop" (aa 0)) (ae (aa 2) (ae (aa 3) bF))))))
 (bA (fP C_Book "morning" (aa 0) (aa 1))
 (fP C_Book "chosen" (aa 0) (aa 5))))))))
theorem Zn8 (T:Txt K mg) {C_Book:Addr} (B_Book:OK_Book K mg C_Book) {C:Addr} (hC:mg "NoBack"=some (.ref C)) (xc:Xcl K C nC "ValueError.__new__"):XMal (cu [] (cC cn)) P w K mg base C_Book "back" 3 ["self"] C (nV C_Book):=Zft B_Book.d_back gF rfl λf cdv A outer sh H E hr=>by
 exact (Zac (Zfr (eX (dr sS rj (cS B_Book.cl B_Book.n_chosen (ac (pv 0))) iz (nomark _))
 (bB (lL pT pV B_Book.cl B_Book.n_spent (ac (pv 0)) (bL (bW (lH T) (hr.mono (by decide)) rfl (af (cS B_Book.cl B_Book.n_shop (ac (pv 0))) (af (cS B_Book.cl B_Book.n_morning (ac (pv 0))) (af (cS B_Book.cl B_Book.n_chosen (ac (pv 0))) bS))))))
 (bB (gb B_Book.cl B_Book.n_chosen (ac (pv 0)) iz)
 (bK ZeX)))
  dX))
 (Zac (Zfs (j4 (ZeQ (cS B_Book.cl B_Book.n_ended (ac (pv 0))))) (Zfp (Zfq (Zh2 F.excBase_ValueError xc rfl hC))) (Zab dX))
 (Zab (bB (qi (jd (uX (sR PySem.F.plainAttrs_list PySem.F.slot_list_pop PySem.F.type_list_pop (MtR.cv tu) (cS B_Book.cl B_Book.n_ended (ac (pv 0))))) (fJ rfl (cz (fJ rfl (cz (cb (ca (i:=1) gF.nd rfl (Or.inl rfl))) (cz (cb (ca (i:=2) gF.nd rfl (Or.inl rfl))) (cz (cb (ca (i:=3) gF.nd rfl (Or.inl rfl))) (cz (cb (ca (i:=4) gF.nd rfl (Or.inl rfl))) fI)))) (cy (cy (cy (cy fB))))) (cz (cb (ca (i:=5) gF.nd rfl (Or.inl rfl))) fI)) (cy (cy fB)))))
 (bB (lL pT pV B_Book.cl B_Book.n_spent (ac (pv 0)) (bL (bW (nA T) (hr.mono (by decide)) rfl (af (cS B_Book.cl B_Book.n_shop (ac (pv 0))) (af (ac (pv 2)) (af (ac (pv 3)) bS))))))
 (bB (gb B_Book.cl B_Book.n_morning (ac (pv 0)) (ac (pv 1)))
 (bK (gb B_Book.cl B_Book.n_chosen (ac (pv 0)) (ac (pv 5))))))))))
noncomputable def Zde:List Sl->Tr Ou :=
 (bA (cf 8 (ag bT (aa 3) (ag cN (bI (bV iL (ae (aa 0) (ae (aa 2) (ae (aa 6) bF))))) (ag bT (aa 0) (aC (.int 1))))))
 (nP pU 5 (ag fi (aa 7) (ag cN (ag fi (aa 4) (bI (bV fV (ae (aa 0) (ae (aa 2) (ae (aa 6) bF)))))) (aa 8)))))
noncomputable def o7:List Sl->Tr Re:=cg 5 4
 (bA (cf 5 (aC (.int 0)))
 (bA (dA (nO (aa 1)) (cI (bJ (bE 6) (bJ (bE 7) cG))) Zde)
 (iB 5)))
theorem Zow (T:Txt K mg):ACal (cu [] (cC cn)) P w K mg base "weighed" 3 ["shop","day","level","ahead","scale"] o7:=cZ T.ZnC kC rfl λf cdv A outer sh H E hr=>by
 exact (bB (cm (bY (i:=5) kC.nd rfl (Or.inl rfl) bO))
 (bB (fu PassesOwn.never rfl (uW (sQ rfl rfl T.tm (ac (pv 1)))) (fJ rfl (cz (cb (ca (i:=6) kC.nd rfl (Or.inl rfl))) (cz (cb (ca (i:=7) kC.nd rfl (Or.inl rfl))) fI)) (cy (cy fB)))
  (bB (cm (bY (i:=8) kC.nd rfl (Or.inl rfl) (cq cj ci (ac (pv 3)) (b9 dm dg (bL (bW (p9 T) (hr.mono (by decide)) rfl (af (ac (pv 0)) (af (ac (pv 2)) (af (ac (pv 6)) bS))))) (cq cj ci (ac (pv 0)) (ge rfl T.ni) (λ_ _=>rfl))) (λ_ _=>rfl))))
 (bK (ZeY ZfK (Zcs (i:=5) kC.nd rfl (Or.inl rfl) (b9 fS fQ (ac (pv 7)) (b9 dm dg (b9 fS fQ (ac (pv 4)) (bL (bW (nA T) (hr.mono (by decide)) rfl (af (ac (pv 0)) (af (ac (pv 2)) (af (ac (pv 6)) bS)))))) (ac (pv 8)))) (pip Zj5))))))
 (bK (qf (pv 5)))))
noncomputable def jT:List Sl->Tr Ou :=
 (bA (cf 7 (ag bT (aa 5) (ag cN (aa 2) (ag bT (aa 0) (aC (.int 1))))))
 (bA (cf 8 (ag cN (bI (bV gr (ae (aa 0) (ae (aa 2) (ae (aa 7) bF))))) (bI (bV fV (ae (aa 0) (ae (aa 7) (ae (aa 6) bF)))))))
 (bA (jv 4 (fO (bC (aa 2) (bC (aa 7) (bC (aa 6) (bC (aa 8) bP))))))
 (cf 2 (bI (bV iL (ae (aa 0) (ae (aa 7) (ae (aa 6) bF)))))))))
noncomputable def jP:List Sl->Tr Re:=cg 4 5
 (bA (iV 4 (ff bP))
 (bA (dA (qs (aa 1) (aa 3)) (cI (bJ (bE 5) (bJ (bE 6) cG))) jT)
 (iB 4)))
theorem Zew (T:Txt K mg):ACal (cu [] (cC cn)) P w K mg base "run" 3 ["shop","rule","stock","row"] jP:=cZ T.ZnF jE rfl λf cdv A outer sh H E hr=>by
 exact (bB (j6 (bY (i:=4) jE.nd rfl (Or.inl rfl) (fv bU)))
 (bB (fu PassesOwn.never rfl (Ze4 (Zcy rfl rfl T.oX (ac (pv 1)) (ac (pv 3)))) (fJ rfl (cz (cb (ca (i:=5) jE.nd rfl (Or.inl rfl))) (cz (cb (ca (i:=6) jE.nd rfl (Or.inl rfl))) fI)) (cy (cy fB)))
  (bB (cm (bY (i:=7) jE.nd rfl (Or.inl rfl) (cq cj ci (ac (pv 5)) (b9 dm dg (ac (pv 2)) (cq cj ci (ac (pv 0)) (ge rfl T.ni) (λ_ _=>rfl))) (λ_ _=>rfl))))
 (bB (cm (bY (i:=8) jE.nd rfl (Or.inl rfl) (b9 dm dg (bL (bW (lH T) (hr.mono (by decide)) rfl (af (ac (pv 0)) (af (ac (pv 2)) (af (ac (pv 7)) bS))))) (bL (bW (nA T) (hr.mono (by decide)) rfl (af (ac (pv 0)) (af (ac (pv 7)) (af (ac (pv 6)) bS))))))))
 (bB (nI (jK (iI PySem.F.plainAttrs_list PySem.F.slot_list_append PySem.F.type_list_append jk (pv 4) (cD (gO (bH (ac (pv 2)) (bH (ac (pv 7)) (bH (ac (pv 6)) (bH (ac (pv 8)) bU))))) cU))))
 (bK (cm (bY (i:=2) jE.nd rfl (Or.inl rfl) (bL (bW (p9 T) (hr.mono (by decide)) rfl (af (ac (pv 0)) (af (ac (pv 7)) (af (ac (pv 6)) bS))))))))))))
 (bK (qf (pv 4)))))
noncomputable def sH:List Sl->Tr PyData :=
 (bI (bV pj (cL 1 bF)))
noncomputable def pc:List Sl->Tr Re:=cg 1 3
 (bA (cf 1 (ag hV (bI (bV dS (cL 0 (ae (aC (.int 8)) bF)))) (aC (.int 7))))
 (bA (cf 2 (bI (bV dS (cL 0 (ae (ag bT (dG (ff (bC (aC (.int 6)) (bC (aC (.int 40)) bP)))) (cV jq (bC (aa 1) bP))) bF)))))
 (bA (cf 3 (ag bT (dG (ff (bC (bI (bV dS (cL 0 (ae (aC (.int 5)) bF)))) (bC (ag fL (aC (.int 39)) (aa 2)) bP)))) (cV jq (bC (aa 1) bP))))
 (cF (ag cN (fO (bC (aa 2) (bC (aa 3) bP))) (cV iE (bC (dG (hZ (iW (bC (aC (.int 7)) bP)) 1 [0] (bE 0) sH)) bP)))))))
theorem ZoB (T:Txt K mg):ACal (cu [] (cC cn)) P w K mg base "_law_shop" 3 ["_law_pen_here"] pc:=cZ T.ZnV ot rfl λf cdv A outer sh H E hr=>by
 exact (bB (cm (bY (i:=1) ot.nd rfl (Or.inl rfl) (qo (jf hr) i7 (bL (bW (fc T) (hr.mono (by decide)) rfl (cT (pv 0) (af bO bS)))) bO (nomark _))))
 (bB (cm (bY (i:=2) ot.nd rfl (Or.inl rfl) (bL (bW (fc T) (hr.mono (by decide)) rfl (cT (pv 0) (af (cq cj ci (fw (fv (bH bO (bH bO bU)))) (da (t:=cw) (gk uA rfl T.mR boot_int (bH (ac (pv 1)) bU)) rk) (λ_ _=>rfl)) bS))))))
 (bB (cm (bY (i:=3) ot.nd rfl (Or.inl rfl) (cq cj ci (fw (fv (bH (bL (bW (fc T) (hr.mono (by decide)) rfl (cT (pv 0) (af bO bS)))) (bH (b9 gm gh bO (ac (pv 2))) bU)))) (da (t:=cw) (gk uA rfl T.mR boot_int (bH (ac (pv 1)) bU)) rk) (λ_ _=>rfl))))
 (bK (cK (b9 dm dg (gO (bH (ac (pv 2)) (bH (ac (pv 3)) bU))) (da (t:=cw) (gk lE rfl T.jj boot_tuple (bH (fw (lM (jM qM ["_law_k"] [0] rfl (j8 (jL rfl T.io (bH bO bU))) (λb=>(cb (ca (i:=0) (show ((bN qM ["_law_k"] [0])).Nodup by decide +kernel) rfl (Or.inl rfl)))) (λb=>(bL (bW (ZoF T) (hr.mono (by decide)) rfl (cT (pv 1) bS)))) rfl (show BlkOk qM (bM sj) _ [0] from ⟨rfl,by decide +kernel,by decide +kernel,by decide +kernel,by decide +kernel⟩)) (f8 (by decide)))) bU)) kA)))))))
noncomputable def Zcn:List Sl->Tr PyData :=
 (bI (bV pA (cL 1 (ae (ag bT (dG (ff (bC (aC (.int 8)) (bC (aC (.int 8)) (bC (aC (.int 6)) (bC (aC (.int 4)) (bC (aC (.int 3)) (bC (aC (.int 2)) bP)))))))) (ag fL (aa 2) (aC (.int 1)))) bF))))
noncomputable def pz:List Sl->Tr Re:=cg 2 1
 (bA (cf 2 (ag cN (aC (.int 1)) (bI (bV dS (cL 0 (ae (aa 1) bF))))))
 (cF (cV iE (bC (dG (hZ (iW (bC (aa 2) bP)) 1 [0,2] (bE 0) Zcn)) bP))))
theorem ZoI (T:Txt K mg):ACal (cu [] (cC cn)) P w K mg base "_law_falls" 3 ["_law_pen_here","_law_most"] pz:=cZ T.Zn4 Za1 rfl λf cdv A outer sh H E hr=>by
 exact (bB (cm (bY (i:=2) Za1.nd rfl (Or.inr rfl) (b9 dm dg bO (bL (bW (fc T) (hr.mono (by decide)) rfl (cT (pv 0) (af (ac (pv 1)) bS)))))))
 (bK (cK (da (t:=cw) (gk lE rfl T.jj boot_tuple (bH (fw (lM (jM qO ["_law_day_here"] [0,2] rfl (j8 (jL rfl T.io (bH (ac (pv 2)) bU))) (λb=>(cb (ca (i:=0) (show ((bN qO ["_law_day_here"] [0,2])).Nodup by decide +kernel) rfl (Or.inl rfl)))) (λb=>(bL (bW (ZoJ T) (hr.mono (by decide)) rfl (cT (pv 1) (af (cq cj ci (by refine fw ?_; refine fv ?_; refine fK ?_ ?_; exact bO; refine fK ?_ ?_; exact bO; refine fK ?_ ?_; exact bO; refine fK ?_ ?_; exact bO; refine fK ?_ ?_; exact bO; refine fK ?_ ?_; exact bO; exact bU) (b9 gm gh (ac (pv 2)) bO) (λ_ _=>rfl)) bS))))) rfl (show BlkOk qO (bM sv) _ [0,2] from ⟨rfl,by decide +kernel,by decide +kernel,by decide +kernel,by decide +kernel⟩)) (f8 (by decide)))) bU)) kA))))
noncomputable def pH (C_Book:Addr):List Sl->Tr Re:=cg 2 0
 (bA (dH (cH (ag li (cM C_Book "chosen" (aa 0)) (aC .none)))
  lT
  dt)
 (bA (dH (iX (iU (bI (bV pB (ae (cM C_Book "shop" (aa 0)) (ae (cM C_Book "morning" (aa 0)) (ae (aa 1) bF)))))))
  lT
  dt)
 (bA (fP C_Book "chosen" (aa 0) (aa 1))
 (ju C_Book "spent" (λi j=>i+j) (aa 0) (bI (bV gr (ae (cM C_Book "shop" (aa 0)) (ae (cM C_Book "morning" (aa 0)) (ae (aa 1) bF)))))))))
theorem ZoQ (T:Txt K mg) {C_Book:Addr} (B_Book:OK_Book K mg C_Book):MCal (cu [] (cC cn)) P w K mg base C_Book "choose" 4 ["self","level"] (pH C_Book):=kY B_Book.d_choose Zg7 rfl λf cdv A outer sh H E hr=>by
 exact (bB (eX (dr sS rj (cS B_Book.cl B_Book.n_chosen (ac (pv 0))) iz (nomark _))
 (bK nG)
 dX)
 (bB (eX (j4 (jZ (bL (bW (ZoL T) (hr.mono (by decide)) rfl (af (cS B_Book.cl B_Book.n_shop (ac (pv 0))) (af (cS B_Book.cl B_Book.n_morning (ac (pv 0))) (af (ac (pv 1)) bS)))))))
  (bK nG)
  dX)
 (bB (gb B_Book.cl B_Book.n_chosen (ac (pv 0)) (ac (pv 1)))
 (bK (lL Zdr Zdy B_Book.cl B_Book.n_spent (ac (pv 0)) (bL (bW (lH T) (hr.mono (by decide)) rfl (af (cS B_Book.cl B_Book.n_shop (ac (pv 0))) (af (cS B_Book.cl B_Book.n_morning (ac (pv 0))) (af (ac (pv 1)) bS))))))))))
noncomputable def tW:List Sl->Tr Ou :=
 (jv 6 (ag cN (ag fi (aa 5) (bI (bV gr (ae (aa 0) (ae (aa 7) (ae (aa 8) bF)))))) (bI (bV o7 (ae (aa 0) (ae (aa 1) (ae (aa 8) (ae (aa 3) (ae (aa 4) bF)))))))))
noncomputable def pE:List Sl->Tr Re:=cg 5 4
 (bA (cf 5 (ag fi (aa 4) (cV ij (bC (aa 1) bP))))
 (bA (iV 6 (ff bP))
 (bA (dA (qs (bI (bV mU (ae (aa 0) bF))) (aa 2)) (cI (bJ (bE 7) (bJ (bE 8) cG))) tW)
 (iB 6))))
theorem ZoN (T:Txt K mg):ACal (cu [] (cC cn)) P w K mg base "costs_by" 4 ["shop","day","levels","ahead","scale"] pE:=cZ T.ZnP mq rfl λf cdv A outer sh H E hr=>by
 exact (bB (cm (bY (i:=5) mq.nd rfl (Or.inl rfl) (b9 fS fQ (ac (pv 4)) (da (t:=cw) (c6 (pZ rfl) rfl T.oY boot_sum (bH (ac (pv 1)) bU)) nY))))
 (bB (j6 (bY (i:=6) mq.nd rfl (Or.inl rfl) (fv bU)))
 (bB (fu PassesOwn.never rfl (Ze4 (Zcy rfl rfl T.oX (bL (bW (Zev T) (hr.mono (by decide)) rfl (af (ac (pv 0)) bS))) (ac (pv 2)))) (fJ rfl (cz (cb (ca (i:=7) mq.nd rfl (Or.inl rfl))) (cz (cb (ca (i:=8) mq.nd rfl (Or.inl rfl))) fI)) (cy (cy fB)))
  (bK (nI (jK (iI PySem.F.plainAttrs_list PySem.F.slot_list_append PySem.F.type_list_append jk (pv 6) (cD (b9 dm dg (b9 fS fQ (ac (pv 5)) (bL (bW (lH T) (hr.mono (by decide)) rfl (af (ac (pv 0)) (af (ac (pv 7)) (af (ac (pv 8)) bS)))))) (bL (bW (Zow T) (hr.mono (by decide)) rfl (af (ac (pv 0)) (af (ac (pv 1)) (af (ac (pv 8)) (af (ac (pv 3)) (af (ac (pv 4)) bS)))))))) cU))))))
 (bK (qf (pv 6))))))
noncomputable def pq (C_Book:Addr):List Sl->Tr Re:=cg 1 0
 (bA (qt C_Book "back" (nV C_Book) (aa 0) (cF (aC (.bool true))))
 (cF (aC (.bool false))))
theorem ZoG (T:Txt K mg) {C_Book:Addr} (B_Book:OK_Book K mg C_Book):ACal (cu [] (cC cn)) P w K mg base "_law_nothing_left" 4 ["_law_book"] (pq C_Book):=cZ T.Zn2 Zg3 rfl λf cdv A outer sh H E hr=>by
 obtain ⟨C_NoBack,e_NoBack,x_NoBack⟩:=T.Znw
 exact (bB (Zo1 rfl rfl B_Book.cl (Zn8 T B_Book e_NoBack x_NoBack) (hr.mono (by decide)) (ac (pv 0)) x_NoBack rfl e_NoBack (λea=>(bK (cK gz))))
 (bK (cK gz)))
noncomputable def Zdi:List Sl->Tr Ou :=
 (bA (cf 4 (bI (bV pE (ae (aa 0) (ae (ag bT (aa 1) (aa 6)) (ae (ag bT (aa 2) (aa 6)) (ae (aa 4) (ae (aa 5) bF))))))))
 (nP ng 5 (cV ij (bC (ag bT (aa 1) (aa 6)) bP))))
noncomputable def pF:List Sl->Tr Re:=cg 4 3
 (bA (cf 4 (bI (bV pC (ae (aa 0) bF))))
 (bA (cf 5 (aC (.int 1)))
 (bA (dA (u8 (bC (cV iO (bC (aa 1) bP)) bP)) (bE 6) Zdi)
 (lS (bV mV (ae (ag bT (aa 4) (ag cN (aa 3) (ag bT (aa 0) (aC (.int 1))))) (ae (aa 5) bF)))))))
theorem ZoO (T:Txt K mg):ACal (cu [] (cC cn)) P w K mg base "cost_of" 5 ["shop","falls","rule","stock"] pF:=cZ T.ZnQ kD rfl λf cdv A outer sh H E hr=>by
 exact (bB (cm (bY (i:=4) kD.nd rfl (Or.inl rfl) (bL (bW (ZoM T) (hr.mono (by decide)) rfl (af (ac (pv 0)) bS)))))
 (bB (cm (bY (i:=5) kD.nd rfl (Or.inl rfl) bO))
 (bB (fu PassesOwn.never rfl (Zpg (Zib rfl T.Zi5 (gk Zot rfl T.io boot_range (bH (da (t:=cw) (c6 lF rfl T.kT boot_len (bH (ac (pv 1)) bU)) nZ) bU)))) (cb (ca (i:=6) kD.nd rfl (Or.inl rfl)))
  (bB (cm (bY (i:=4) kD.nd rfl (Or.inl rfl) (bL (bW (ZoN T) (hr.mono (by decide)) rfl (af (ac (pv 0)) (af (cq cj ci (ac (pv 1)) (ac (pv 6)) (λ_ _=>rfl)) (af (cq cj ci (ac (pv 2)) (ac (pv 6)) (λ_ _=>rfl)) (af (ac (pv 4)) (af (ac (pv 5)) bS)))))))))
 (bK (ZeY ZfJ (Zcs (i:=5) kD.nd rfl (Or.inl rfl) (da (t:=cw) (c6 (pZ rfl) rfl T.oY boot_sum (bH (cq cj ci (ac (pv 1)) (ac (pv 6)) (λ_ _=>rfl)) bU)) nY) (pip Zj4))))))
 (bK (qg (bW (Zox T) (hr.mono (by decide)) rfl (af (cq cj ci (ac (pv 4)) (b9 dm dg (ac (pv 3)) (cq cj ci (ac (pv 0)) (ge rfl T.ni) (λ_ _=>rfl))) (λ_ _=>rfl)) (af (ac (pv 5)) bS))))))))
noncomputable def mW (C_Book:Addr):List Sl->Tr Re:=cg 5 1
 (bA (cf 5 (ag bT (ag bT (aa 2) (aa 3)) (ag cN (bI (fk C_Book "stock" (jQ C_Book) (aa 4) bF)) (ag bT (aa 1) (aC (.int 1))))))
 (bA (dH (vb (cH (ag hV (aa 5) (bI (fk C_Book "stock" (jQ C_Book) (aa 4) bF)))) (cH (ag hV (bI (bV dS (cL 0 (ae (aC (.int 2)) bF)))) (aC (.int 0)))))
  (cF (aC (.bool false)))
  dt)
 (bA (gB (bI (fk C_Book "choose" (pH C_Book) (aa 4) (ae (aa 5) bF))))
 (cF (aC (.bool true))))))
theorem Zex (T:Txt K mg) {C_Book:Addr} (B_Book:OK_Book K mg C_Book):ACal (cu [] (cC cn)) P w K mg base "_law_by_rule" 5 ["_law_pen_here","_law_shop_here","_law_rule_here","_law_day_here","_law_book"] (mW C_Book):=cZ T.Zn7 Za2 rfl λf cdv A outer sh H E hr=>by
 exact (bB (cm (bY (i:=5) Za2.nd rfl (Or.inl rfl) (cq cj ci (cq cj ci (ac (pv 2)) (ac (pv 3)) (λ_ _=>rfl)) (b9 dm dg (bL (hW B_Book.cl (qa T B_Book) (hr.mono (by decide)) (ac (pv 4)))) (cq cj ci (ac (pv 1)) bO (λ_ _=>rfl))) (λ_ _=>rfl))))
 (bB (eX (lJ (ZoX (dr (jf hr) i7 (ac (pv 5)) (bL (hW B_Book.cl (qa T B_Book) (hr.mono (by decide)) (ac (pv 4)))) (nomark _)) (ZoW (dr (jf hr) i7 (bL (bW (fc T) (hr.mono (by decide)) rfl (cT (pv 0) (af bO bS)))) bO (nomark _)))))
  (bK (cK gz))
  dX)
 (bB (iT (bL (uP B_Book.cl (ZoQ T B_Book) (hr.mono (by decide)) (ac (pv 4)) (af (ac (pv 5)) bS))))
 (bK (cK gz)))))
noncomputable def Zdh (C_Book:Addr):List Sl->Tr Ou :=
 (bA (gB (bI (bV (mW C_Book) (cL 0 (ae (aa 1) (ae (aa 2) (ae (aa 6) (ae (aa 5) bF))))))))
 (gB (bI (fk C_Book "fall" (jR C_Book) (aa 5) (ae (aa 7) bF)))))
noncomputable def oF (C_Book:Addr):List Sl->Tr PyData :=
 (aa 3)
noncomputable def ph (C_Book:Addr):List Sl->Tr Re:=cg 5 4
 (bA (cf 5 (qz C_Book (jm C_Book) (ae (aa 1) (ae (aa 3) bF))))
 (bA (dA (nO (aa 4)) (cI (bJ (bE 6) (bJ (bE 7) cG))) (Zdh C_Book))
 (bA (cf 8 (bI (bV jP (ae (aa 1) (ae (aa 2) (ae (aa 3) (ae (aa 4) bF)))))))
 (bA (dH (kd (cH (ag gY (cV gI (bC (bI (fk C_Book "days" (k9 C_Book) (aa 5) bF)) bP)) (cV gI (bC (aa 8) bP)))) (cH (ag gY (bI (fk C_Book "paid" (k8 C_Book) (aa 5) bF)) (cV ij (bC (dG (hZ (gf (aa 8)) 4 [] (cI (bJ (bE 0) (bJ (bE 1) (bJ (bE 2) (bJ (bE 3) cG))))) (oF C_Book))) bP)))))
  (cF (aC .none))
  dt)
 (cF (ag cN (bI (fk C_Book "paid" (k8 C_Book) (aa 5) bF)) (bI (bV kZ (ae (aa 1) (ae (bI (fk C_Book "stock" (jQ C_Book) (aa 5) bF)) bF))))))))))
theorem ZoE (T:Txt K mg) {C_Book:Addr} (B_Book:OK_Book K mg C_Book):ACal (cu [] (cC cn)) P w K mg base "_law_row_paid" 6 ["_law_pen_here","_law_shop_here","_law_rule_here","_law_stock","_law_row"] (ph C_Book):=cZ T.ZnZ mr rfl λf cdv A outer sh H E hr=>by
 exact (bB (cm (bY (i:=5) mr.nd rfl (Or.inl rfl) (Ze6 (ZeB T B_Book) (hr.mono (by decide)) rfl B_Book.nm (af (ac (pv 1)) (af (ac (pv 3)) bS)))))
 (bB (fu PassesOwn.never rfl (uW (sQ rfl rfl T.tm (ac (pv 4)))) (fJ rfl (cz (cb (ca (i:=6) mr.nd rfl (Or.inl rfl))) (cz (cb (ca (i:=7) mr.nd rfl (Or.inl rfl))) fI)) (cy (cy fB)))
  (bB (iT (bL (bW (Zex T B_Book) (hr.mono (by decide)) rfl (cT (pv 0) (af (ac (pv 1)) (af (ac (pv 2)) (af (ac (pv 6)) (af (ac (pv 5)) bS))))))))
 (bK (iT (bL (uP B_Book.cl (ZeA T B_Book) (hr.mono (by decide)) (ac (pv 5)) (af (ac (pv 7)) bS)))))))
 (bB (cm (bY (i:=8) mr.nd rfl (Or.inl rfl) (bL (bW (Zew T) (hr.mono (by decide)) rfl (af (ac (pv 1)) (af (ac (pv 2)) (af (ac (pv 3)) (af (ac (pv 4)) bS))))))))
 (bB (eX (lJ (nF (dr (kP hr) kz (da (t:=cw) (c6 (nw hr) rfl T.mP boot_repr (bH (bL (hW B_Book.cl (uC T B_Book) (hr.mono (by decide)) (ac (pv 5)))) bU)) l6) (da (t:=cw) (c6 (nw hr) rfl T.mP boot_repr (bH (ac (pv 8)) bU)) l6) (nomark _)) (nE (dr (kP hr) kz (bL (hW B_Book.cl (uB T B_Book) (hr.mono (by decide)) (ac (pv 5)))) (da (t:=cw) (c6 (pZ rfl) rfl T.oY boot_sum (bH (fw (lM (jM km ["_law_here","_law_level","_law_fall","_law_cost"] [] rfl (iy (ac (pv 8))) (λb=>(fJ rfl (cz (cb (ca (i:=0) (show ((bN km ["_law_here","_law_level","_law_fall","_law_cost"] [])).Nodup by decide +kernel) rfl (Or.inl rfl))) (cz (cb (ca (i:=1) (show ((bN km ["_law_here","_law_level","_law_fall","_law_cost"] [])).Nodup by decide +kernel) rfl (Or.inl rfl))) (cz (cb (ca (i:=2) (show ((bN km ["_law_here","_law_level","_law_fall","_law_cost"] [])).Nodup by decide +kernel) rfl (Or.inl rfl))) (cz (cb (ca (i:=3) (show ((bN km ["_law_here","_law_level","_law_fall","_law_cost"] [])).Nodup by decide +kernel) rfl (Or.inl rfl))) fI)))) (cy (cy (cy (cy fB)))))) (λb=>(ac (pv 3))) rfl (show BlkOk km (bM sr) _ [] from ⟨rfl,by decide +kernel,by decide +kernel,by decide +kernel,by decide +kernel⟩)) (sL (je (f8 (by decide)) (je (f8 (by decide)) (je (f8 (by decide)) (je (f8 (by decide)) sM))))))) bU)) nY) (nomark _)))))
  (bK (cK iz))
  dX)
 (bK (cK (b9 dm dg (bL (hW B_Book.cl (uB T B_Book) (hr.mono (by decide)) (ac (pv 5)))) (bL (bW (Zez T) (hr.mono (by decide)) rfl (af (ac (pv 1)) (af (bL (hW B_Book.cl (qa T B_Book) (hr.mono (by decide)) (ac (pv 5)))) bS)))))))))))
noncomputable def tO (C_Book:Addr):List Sl->Tr Ou :=
 (bA (cf 10 (bI (bV (iM C_Book) (ae (aa 7) bF))))
 (bA (dH (iU (bI (bV (mW C_Book) (cL 0 (ae (aa 1) (ae (aa 2) (ae (aa 6) (ae (aa 7) bF))))))))
  (gB (lV (aa 9) (aa 10)))
  dt)
 (bA (gB (lV (aa 9) (bI (bV (iM C_Book) (ae (aa 7) bF)))))
 (gB (bI (fk C_Book "fall" (jR C_Book) (aa 7) (ae (ag bT (aa 8) (aa 6)) bF)))))))
noncomputable def Zdg (C_Book:Addr):List Sl->Tr Ou :=
 (dA (lQ (aa 3) (aa 4) (aa 5)) (cI (bJ (bE 7) (bJ (bE 8) (bJ (bE 9) cG)))) (tO C_Book))
noncomputable def o9 (C_Book:Addr):List Sl->Tr Re:=cg 6 5
 (dA (iW (bC (cV iO (bC (aa 2) bP)) bP)) (bE 6) (Zdg C_Book))
theorem Zoz (T:Txt K mg) {C_Book:Addr} (B_Book:OK_Book K mg C_Book):ACal (cu [] (cC cn)) P w K mg base "_law_two_told" 6 ["_law_pen_here","_law_shop_here","_law_rule_here","_law_books","_law_rows_here","_law_seen_here"] (o9 C_Book):=cZ T.ZnT kE rfl λf cdv A outer sh H E hr=>by
 exact (bK (fu PassesOwn.never rfl (j8 (jL rfl T.io (bH (da (t:=cw) (c6 lF rfl T.kT boot_len (bH (ac (pv 2)) bU)) nZ) bU))) (cb (ca (i:=6) kE.nd rfl (Or.inl rfl)))
 (bK (fu PassesOwn.never rfl (Ze3 (Zcx rfl rfl T.oX (ac (pv 3)) (ac (pv 4)) (ac (pv 5)))) (fJ rfl (cz (cb (ca (i:=7) kE.nd rfl (Or.inl rfl))) (cz (cb (ca (i:=8) kE.nd rfl (Or.inl rfl))) (cz (cb (ca (i:=9) kE.nd rfl (Or.inl rfl))) fI))) (cy (cy (cy fB))))
 (bB (cm (bY (i:=10) kE.nd rfl (Or.inl rfl) (bL (bW (nz T B_Book) (hr.mono (by decide)) rfl (af (ac (pv 7)) bS)))))
 (bB (eX (jZ (bL (bW (Zex T B_Book) (hr.mono (by decide)) rfl (cT (pv 0) (af (ac (pv 1)) (af (ac (pv 2)) (af (ac (pv 6)) (af (ac (pv 7)) bS))))))))
  (bK (iT (u4 (iI PySem.F.plainAttrs_list PySem.F.slot_list_append PySem.F.type_list_append (MtR.cv jk) (ac (pv 9)) (cD (ac (pv 10)) cU)))))
  dX)
 (bB (iT (u4 (iI PySem.F.plainAttrs_list PySem.F.slot_list_append PySem.F.type_list_append (MtR.cv jk) (ac (pv 9)) (cD (bL (bW (nz T B_Book) (hr.mono (by decide)) rfl (af (ac (pv 7)) bS))) cU))))
 (bK (iT (bL (uP B_Book.cl (ZeA T B_Book) (hr.mono (by decide)) (ac (pv 7)) (af (cq cj ci (ac (pv 8)) (ac (pv 6)) (λ_ _=>rfl)) bS))))))))))))
noncomputable def Zdf (C_Book:Addr):List Sl->Tr Ou :=
 (bA (cf 10 (bI (bV (ph C_Book) (cL 0 (ae (aa 1) (ae (aa 3) (ae (aa 4) (ae (aa 8) bF))))))))
 (bA (dH (cH (ag nc (aa 10) (aC .none)))
  (cF (aC (.bool false)))
  dt)
 (cf 7 (ag cN (aa 7) (ag fi (aa 9) (aa 10))))))
noncomputable def o8 (C_Book:Addr):List Sl->Tr Re:=cg 5 6
 (bA (lU (cI (bJ (bE 5) (bJ (bE 6) cG))) (bI (bV pf (ae (aa 2) bF))))
 (bA (cf 7 (aC (.int 0)))
 (bA (dA (gf (aa 5)) (cI (bJ (bE 8) (bJ (bE 9) cG))) (Zdf C_Book))
 (lS (bV pw (ae (bI (bV pF (ae (aa 1) (ae (aa 2) (ae (aa 3) (ae (aa 4) bF)))))) (ae (aa 7) (ae (aa 6) bF))))))))
theorem Zoy (T:Txt K mg) {C_Book:Addr} (B_Book:OK_Book K mg C_Book):ACal (cu [] (cC cn)) P w K mg base "_law_weighed_right" 7 ["_law_pen_here","_law_shop_here","_law_falls_here","_law_rule_here","_law_stock"] (o8 C_Book):=cZ T.ZnS jb rfl λf cdv A outer sh H E hr=>by
 exact (bB (qi (jd (bL (bW (ZoD T) (hr.mono (by decide)) rfl (af (ac (pv 2)) bS))) (fJ rfl (cz (cb (ca (i:=5) jb.nd rfl (Or.inl rfl))) (cz (cb (ca (i:=6) jb.nd rfl (Or.inl rfl))) fI)) (cy (cy fB)))))
 (bB (cm (bY (i:=7) jb.nd rfl (Or.inl rfl) bO))
 (bB (fu PassesOwn.never rfl (iy (ac (pv 5))) (fJ rfl (cz (cb (ca (i:=8) jb.nd rfl (Or.inl rfl))) (cz (cb (ca (i:=9) jb.nd rfl (Or.inl rfl))) fI)) (cy (cy fB)))
  (bB (cm (bY (i:=10) jb.nd rfl (Or.inl rfl) (bL (bW (ZoE T B_Book) (hr.mono (by decide)) rfl (cT (pv 0) (af (ac (pv 1)) (af (ac (pv 3)) (af (ac (pv 4)) (af (ac (pv 8)) bS)))))))))
 (bB (eX (dr ZcM Zam (ac (pv 10)) iz (nomark _))
  (bK (cK gz))
  dX)
 (bK (cm (bY (i:=7) jb.nd rfl (Or.inl rfl) (b9 dm dg (ac (pv 7)) (b9 fS fQ (ac (pv 9)) (ac (pv 10))))))))))
 (bK (qg (bW (ZoH T) (hr.mono (by decide)) rfl (af (bL (bW (ZoO T) (hr.mono (by decide)) rfl (af (ac (pv 1)) (af (ac (pv 2)) (af (ac (pv 3)) (af (ac (pv 4)) bS)))))) (af (ac (pv 7)) (af (ac (pv 6)) bS)))))))))
noncomputable def Zcl (C_Book:Addr):List Sl->Tr PyData :=
 (ag bT (dG (ff (bC (bI (bV dS (cL 1 (ae (aC (.int 9)) bF)))) (bC (ag oJ (aC (.int 10)) (aC (.int 28))) bP)))) (cV jq (bC (ag hV (bI (bV dS (cL 1 (ae (aC (.int 6)) bF)))) (aC (.int 0))) bP)))
noncomputable def tQ (C_Book:Addr):List Sl->Tr Ou :=
 (jv 4 (cV iE (bC (dG (hZ (gf (aa 2)) 1 [0] (bE 0) (Zcl C_Book))) bP)))
noncomputable def mF (C_Book:Addr):List Sl->Tr PyData :=
 (qz C_Book (jm C_Book) (ae (aa 1) (ae (aa 0) bF)))
noncomputable def lh (C_Book:Addr):List Sl->Tr Ou :=
 (dH (cH (ag gY (cV gI (bC (bI (fk C_Book "days" (k9 C_Book) (aa 9) bF)) bP)) (cV gI (bC (bI (bV jP (ae (aa 1) (ae (aa 2) (ae (aa 10) (ae (aa 11) bF)))))) bP))))
  (cF (aC (.bool false)))
  dt)
noncomputable def l5 (C_Book:Addr):List Sl->Tr Bool :=
 (cH (qD true (ag bT (aa 8) (aa 12)) (dG (ff bP))))
noncomputable def pL (C_Book:Addr):List Sl->Tr Ou :=
 (bA (gB (bI (fk C_Book "back" (mZ C_Book) (ag bT (aa 6) (aa 12)) bF)))
 (dH (kd (cH (ag gY (bI (bV (iM C_Book) (ae (ag bT (aa 6) (aa 12)) bF))) (nL (ag bT (aa 8) (aa 12))))) (cH (ag gY (bI (bV (iM C_Book) (ae (ag bT (aa 6) (ag fL (aC (.int 1)) (aa 12))) bF))) (aa 13))))
  (cF (aC (.bool false)))
  dt))
noncomputable def lg (C_Book:Addr):List Sl->Tr Ou :=
 (bA (cf 13 (bI (bV (iM C_Book) (ae (ag bT (aa 6) (ag fL (aC (.int 1)) (aa 12))) bF))))
 (bA (fm (l5 C_Book) (pL C_Book) 100000)
 (dH (iX (iU (bI (bV (pq C_Book) (ae (ag bT (aa 6) (aa 12)) bF)))))
  (cF (aC (.bool false)))
  dt)))
noncomputable def tP (C_Book:Addr):List Sl->Tr Ou :=
 (bA (cf 8 (dG (ff (bC (nM bP) (bC (nM bP) bP)))))
 (bA (iC 4 (gB (bI (bV (o9 C_Book) (cL 0 (ae (aa 1) (ae (aa 2) (ae (aa 6) (ae (aa 4) (ae (aa 8) bF))))))))))
 (bA (iC 4 (dA (lQ (aa 6) (aa 3) (aa 4)) (cI (bJ (bE 9) (bJ (bE 10) (bJ (bE 11) cG)))) (lh C_Book)))
 (dA (gf (fO (bC (aC (.int 1)) (bC (aC (.int 0)) bP)))) (bE 12) (lg C_Book)))))
noncomputable def pb (C_Book:Addr):List Sl->Tr Re:=cg 4 10
 (bA (iV 4 (ff bP))
 (bA (dA (iW (bC (aC (.int 2)) bP)) (bE 5) (tQ C_Book))
 (bA (cf 6 (dG (hZ (gf (aa 3)) 1 [1] (bE 0) (mF C_Book))))
 (bA (dA (iW (bC (aC (.int 2)) bP)) (bE 7) (tP C_Book))
 (cF (aC (.bool true)))))))
theorem ZoA (T:Txt K mg) {C_Book:Addr} (B_Book:OK_Book K mg C_Book):ACal (cu [] (cC cn)) P w K mg base "_law_two_right" 7 ["_law_pen_here","_law_shop_here","_law_rule_here","_law_stocks_two"] (pb C_Book):=cZ T.ZnU gU rfl λf cdv A outer sh H E hr=>by
 exact (bB (j6 (bY (i:=4) gU.nd rfl (Or.inl rfl) (fv bU)))
 (bB (fu PassesOwn.never rfl (j8 (jL rfl T.io (bH bO bU))) (cb (ca (i:=5) gU.nd rfl (Or.inl rfl)))
  (bK (nI (jK (iI PySem.F.plainAttrs_list PySem.F.slot_list_append PySem.F.type_list_append jk (pv 4) (cD (da (t:=cw) (gk lE rfl T.jj boot_tuple (bH (fw (lM (jM kj ["_law_day_here"] [0] rfl (iy (ac (pv 2))) (λb=>(cb (ca (i:=0) (show ((bN kj ["_law_day_here"] [0])).Nodup by decide +kernel) rfl (Or.inl rfl)))) (λb=>(cq cj ci (fw (fv (bH (bL (bW (fc T) (hr.mono (by decide)) rfl (cT (pv 1) (af bO bS)))) (bH (b9 oQ ZfH bO bO) bU)))) (da (t:=cw) (gk uA rfl T.mR boot_int (bH (qo (jf hr) i7 (bL (bW (fc T) (hr.mono (by decide)) rfl (cT (pv 1) (af bO bS)))) bO (nomark _)) bU)) rk) (λ_ _=>rfl))) rfl (show BlkOk kj (bM ox) _ [0] from ⟨rfl,by decide +kernel,by decide +kernel,by decide +kernel,by decide +kernel⟩)) (f8 (by decide)))) bU)) kA) cU))))))
 (bB (Zo2 (Zh0 (i:=6) kj ["_law_stock"] [1] rfl gU.nd rfl rfl (iy (ac (pv 3))) (λb=>(cb (ca (i:=0) (show ((bN kj ["_law_stock"] [1])).Nodup by decide +kernel) rfl (Or.inl rfl)))) (λb=>(Ze6 (ZeB T B_Book) (hr.mono (by decide)) rfl B_Book.nm (af (ac (pv 1)) (af (ac (pv 0)) bS)))) rfl (show BlkOk kj (bM ox) _ [1] from ⟨rfl,by decide +kernel,by decide +kernel,by decide +kernel,by decide +kernel⟩) rfl) (f8 (by decide)))
 (bB (fu PassesOwn.never rfl (j8 (jL rfl T.io (bH bO bU))) (cb (ca (i:=7) gU.nd rfl (Or.inl rfl)))
  (bB (cm (bY (i:=8) gU.nd rfl (Or.inl rfl) (fw (fv (bH (uY bU) (bH (uY bU) bU))))))
 (bB (lK (k:=4) (iT (bL (bW (Zoz T B_Book) (hr.mono (by decide)) rfl (cT (pv 0) (af (ac (pv 1)) (af (ac (pv 2)) (af (ac (pv 6)) (af (ac (pv 4)) (af (ac (pv 8)) bS))))))))))
 (bB (lK (k:=4) (fu PassesOwn.never rfl (Ze3 (Zcx rfl rfl T.oX (ac (pv 6)) (ac (pv 3)) (ac (pv 4)))) (fJ rfl (cz (cb (ca (i:=9) gU.nd rfl (Or.inl rfl))) (cz (cb (ca (i:=10) gU.nd rfl (Or.inl rfl))) (cz (cb (ca (i:=11) gU.nd rfl (Or.inl rfl))) fI))) (cy (cy (cy fB))))
  (bK (eX (dr (kP hr) kz (da (t:=cw) (c6 (nw hr) rfl T.mP boot_repr (bH (bL (hW B_Book.cl (uC T B_Book) (hr.mono (by decide)) (ac (pv 9)))) bU)) l6) (da (t:=cw) (c6 (nw hr) rfl T.mP boot_repr (bH (bL (bW (Zew T) (hr.mono (by decide)) rfl (af (ac (pv 1)) (af (ac (pv 2)) (af (ac (pv 10)) (af (ac (pv 11)) bS)))))) bU)) l6) (nomark _))
  (bK (cK gz))
  dX))))
 (bK (fu PassesOwn.never rfl (iy (gO (bH bO (bH bO bU)))) (cb (ca (i:=12) gU.nd rfl (Or.inl rfl)))
  (bB (cm (bY (i:=13) gU.nd rfl (Or.inl rfl) (bL (bW (nz T B_Book) (hr.mono (by decide)) rfl (af (cq cj ci (ac (pv 6)) (b9 gm gh bO (ac (pv 12))) (λ_ _=>rfl)) bS)))))
 (bB (uO 100000 PassesOwn.never (Zo0 (ZiF hr) (cq cj ci (ac (pv 8)) (ac (pv 12)) (λ_ _=>rfl)) (fw (fv bU)) (nomark _))
  (bB (iT (bL (hW B_Book.cl (ZoR T B_Book) (hr.mono (by decide)) (cq cj ci (ac (pv 6)) (ac (pv 12)) (λ_ _=>rfl)))))
 (bK (eX (lJ (nF (dr (kP hr) kz (bL (bW (nz T B_Book) (hr.mono (by decide)) rfl (af (cq cj ci (ac (pv 6)) (ac (pv 12)) (λ_ _=>rfl)) bS))) (uX (sR PySem.F.plainAttrs_list PySem.F.slot_list_pop PySem.F.type_list_pop (MtR.cv tu) (cq cj ci (ac (pv 8)) (ac (pv 12)) (λ_ _=>rfl)))) (nomark _)) (nE (dr (kP hr) kz (bL (bW (nz T B_Book) (hr.mono (by decide)) rfl (af (cq cj ci (ac (pv 6)) (b9 gm gh bO (ac (pv 12))) (λ_ _=>rfl)) bS))) (ac (pv 13)) (nomark _)))))
  (bK (cK gz))
  dX))))
 (bK (eX (j4 (jZ (bL (bW (ZoG T B_Book) (hr.mono (by decide)) rfl (af (cq cj ci (ac (pv 6)) (ac (pv 12)) (λ_ _=>rfl)) bS)))))
  (bK (cK gz))
  dX))))))))))
 (bK (cK gz))))))
noncomputable def pN (C_Book:Addr):List Sl->Tr Ou :=
 (dH (iX (iU (bI (bV (o8 C_Book) (cL 1 (ae (aa 2) (ae (aa 4) (ae (aa 5) (ae (aa 7) bF)))))))))
  (cF (aC (.bool false)))
  dt)
noncomputable def mX (C_Book:Addr):List Sl->Tr Ou :=
 (bA (cf 2 (bI (bV pc (cL 1 bF))))
 (bA (cf 3 (ag cN (ag cN (ag bT (aa 2) (aC (.int 0))) (ag bT (aa 2) (aC (.int 1)))) (aC (.int 1))))
 (bA (cf 4 (bI (bV pz (cL 1 (ae (aC (.int 3)) bF)))))
 (bA (cf 5 (bI (bV pe (cL 1 (ae (aa 2) (ae (cV iO (bC (aa 4) bP)) bF))))))
 (bA (cf 6 (dG (ff (bC (ag fL (bI (bV dS (cL 1 (ae (aa 3) bF)))) (ag bT (aa 2) (aC (.int 1)))) (bC (ag fL (bI (bV dS (cL 1 (ae (aa 3) bF)))) (ag bT (aa 2) (aC (.int 1)))) bP)))))
 (bA (dA (gf (aa 6)) (bE 7) (pN C_Book))
 (lS (bV (pb C_Book) (cL 1 (ae (aa 2) (ae (aa 5) (ae (aa 6) bF))))))))))))
noncomputable abbrev pK:List Sl:=.un::.pen::List.replicate 6 .un
theorem ZiS (T:Txt K mg) {C_Book:Addr} (B_Book:OK_Book K mg C_Book)  (BK:BltK base mg) {f:Addr} {fd:FuncData} (Fl:Fun K "law" "law" sg f fd) (hl:(mX C_Book pK).ok 0 λ_ o=>o=.ret (.d (.bool true))):FnOk P w K mg base fZ 8 f fd ["_law_script"] (rM [] K):=by
 refine Fl.ok ja (λvs H Q E h=>?_) (λcdv A outer s H vs Q E hr h=>?_)
 ·obtain ⟨a,ns,rfl,_⟩:=h
  rfl
 ·obtain ⟨a,ns,rfl,hS,hlen,hT,k⟩:=h
  have hu:=t9 hr
  refine ⟨_,(f7 (bY (i:=1) ja.nd rfl (Or.inl rfl) (ZcB (ZiR T) (hr.mono (by decide)) rfl (cD (pv 0) cU)))
 (ZhX (t:=λcn=>cr (cu [] (cC cn)) (mX C_Book)) λcn=>by
   exact (bB (cm (bY (i:=2) ja.nd rfl (Or.inl rfl) (bL (bW (ZoB T) (hr.mono (by decide)) rfl (cT (pv 1) bS)))))
 (bB (cm (bY (i:=3) ja.nd rfl (Or.inl rfl) (b9 dm dg (b9 dm dg (cq cj ci (ac (pv 2)) bO (λ_ _=>rfl)) (cq cj ci (ac (pv 2)) bO (λ_ _=>rfl))) bO)))
 (bB (cm (bY (i:=4) ja.nd rfl (Or.inl rfl) (bL (bW (ZoI T) (hr.mono (by decide)) rfl (cT (pv 1) (af bO bS))))))
 (bB (cm (bY (i:=5) ja.nd rfl (Or.inl rfl) (bL (bW (ZoC T) (hr.mono (by decide)) rfl (cT (pv 1) (af (ac (pv 2)) (af (da (t:=cw) (c6 lF rfl T.kT boot_len (bH (ac (pv 4)) bU)) nZ) bS)))))))
 (bB (cm (bY (i:=6) ja.nd rfl (Or.inl rfl) (fw (fv (bH (b9 gm gh (bL (bW (fc T) (hr.mono (by decide)) rfl (cT (pv 1) (af (ac (pv 3)) bS)))) (cq cj ci (ac (pv 2)) bO (λ_ _=>rfl))) (bH (b9 gm gh (bL (bW (fc T) (hr.mono (by decide)) rfl (cT (pv 1) (af (ac (pv 3)) bS)))) (cq cj ci (ac (pv 2)) bO (λ_ _=>rfl))) bU))))))
 (bB (fu PassesOwn.never rfl (iy (ac (pv 6))) (cb (ca (i:=7) ja.nd rfl (Or.inl rfl)))
  (bK (eX (j4 (jZ (bL (bW (Zoy T B_Book) (hr.mono (by decide)) rfl (cT (pv 1) (af (ac (pv 2)) (af (ac (pv 4)) (af (ac (pv 5)) (af (ac (pv 7)) bS)))))))))
  (bK (cK gz))
  dX)))
 (bK (qg (bW (ZoA T B_Book) (hr.mono (by decide)) rfl (cT (pv 1) (af (ac (pv 2)) (af (ac (pv 5)) (af (ac (pv 6)) bS))))))))))))))),?_⟩
  refine ⟨_,rfl,a,ns,rfl,hS,hlen,λp c H' hp hP hs=>?_⟩
  exact ZjE (n:=6) hP (λt ht=>hs _ _ (hT t ht)) rfl rfl (λH' q=>k H' q) hl
end
end My
namespace My
open PySem PySem.Spec PyProof.Rows L2 Tw
theorem pR:iq .none=true:=rfl
theorem tZ (n:Int):iq (.int n)=false:=rfl
noncomputable def oD:Option Int->PyData
 | none=>.none
 | some n=>.int n
structure Dy where
 st:Int
 lv:Int
 fl:Int
 co:Int
 gl:Option Int
noncomputable def Dy.t (y:Dy):PyData:=.tuple [.int y.st,.int y.lv,.int y.fl,.int y.co]
noncomputable def Dy.e (y:Dy):PyData:=.tuple [y.t,oD y.gl]
structure Qs where
 st:Int
 gl:Option Int
 ds:List Dy
noncomputable def Qs.lv (q:Qs):Int:=q.gl.getD q.st
noncomputable def kO (s:Shp) (x:Int):Option Int->Int
 | none=>0
 | some g=>s.ord x g
noncomputable def Qs.pd (s:Shp) (q:Qs):Int:=(q.ds.map (·.co)).sum+kO s q.st q.gl
noncomputable def Qs.fall (s:Shp) (q:Qs) (f:Int):Qs:=⟨s.nx q.lv f,none,q.ds++[⟨q.st,q.lv,f,s.ord q.st q.lv+s.day q.lv f,q.gl⟩]⟩
structure BkOk (C:Addr) (st:Sto) (b l:Addr) (s:Shp) (q:Qs):Prop where
 at_:st.get b=some (.ins C (c9 s.d (.int q.st) (oD q.gl) (.int (q.pd s)) (ah l)))
 ls:st.get l=some (.lst (q.ds.map Dy.e))
structure DyOk (s:Shp) (y:Dy):Prop where
 s0:-s.depth<=y.st
 s1:y.st<=y.lv
 s2:y.lv<=s.top
 g:y.gl=none/\y.lv=y.st\/y.gl=some y.lv
 f0:0<=y.fl
 f1:y.fl < 20000000000000000000000000000
 co:y.co=s.ord y.st y.lv+s.day y.lv y.fl
structure QOk (s:Shp) (q:Qs) (n:Nat):Prop where
 s0:-s.depth<=q.st
 s1:q.st<=s.top
 g:∀ g,q.gl=some g->q.st<=g/\g<=s.top
 ds:∀ y∈q.ds,DyOk s y
 len:q.ds.length<=n
theorem ZcG (s:Shp) (x:Int):s.ord x x=0:=by unfold Shp.ord; rw [if_pos (Int.le_refl _)]
section
variable {s:Shp} {q:Qs} {n:Nat}
theorem QOk.lv0 (w:QOk s q n):q.st<=q.lv/\q.lv<=s.top:=by
 have h0:=w.s1
 unfold Qs.lv
 cases e:q.gl with
 | none=>exact ⟨Int.le_refl _,h0⟩
 | some g=>exact w.g g e
theorem QOk.nbs (h:s.Ok) (w:QOk s q n):nb 20 q.st/\nb 20 q.lv:=by
 have:=w.s0
 have:=w.s1
 have:=w.lv0
 have:=h.t0
 have:=h.d0
 have:=h.td
 exact ⟨de (by show -1048576 < _; omega) (by show _ < 1048576; omega),de (by show -1048576 < _; omega) (by show _ < 1048576; omega)⟩
theorem mO {f:Int} (f0:0<=f) (f1:f < 20000000000000000000000000000):nb 100 f:=de (by show -1267650600228229401496703205376 < _; omega) (by show _ < 1267650600228229401496703205376; omega)
theorem QOk.fall (h:s.Ok) (w:QOk s q n) {f:Int} (f0:0<=f) (f1:f < 20000000000000000000000000000):QOk s (q.fall s f) (n+1):=by
 have hl:=w.lv0
 refine ⟨kS _ _ _,kR h hl.2 f0,λg e=>(by cases e),λy hy=>?_,?_⟩
 ·rcases List.mem_append.mp hy with hy | hy
  ·exact w.ds y hy
  ·rw [List.mem_singleton] at hy
   subst hy
   refine ⟨w.s0,hl.1,hl.2,?_,f0,f1,rfl⟩
   unfold Qs.lv
   cases e:q.gl with
   | none=>exact .inl ⟨rfl,rfl⟩
   | some g=>exact .inr rfl
 ·show (q.ds++[_]).length<=n+1
  rw [List.length_append,List.length_singleton]
  exact Nat.succ_le_succ w.len
theorem QOk.goal (w:QOk s q n) {y:Int} (h1:q.st<=y) (h2:y<=s.top):QOk s ⟨q.st,some y,q.ds⟩ n:=⟨w.s0,w.s1,λg e=>(by cases e; exact ⟨h1,h2⟩),w.ds,w.len⟩
theorem QOk.mono {m:Nat} (w:QOk s q n) (h:n<=m):QOk s q m:=⟨w.s0,w.s1,w.g,w.ds,Nat.le_trans w.len h⟩
theorem QOk.nogoal (w:QOk s q n):QOk s ⟨q.st,none,q.ds⟩ n:=⟨w.s0,w.s1,λg e=>(by cases e),w.ds,w.len⟩
theorem QOk.back {x:Int} {y:Dy} {ds:List Dy} (w:QOk s ⟨x,none,ds++[y]⟩ n):QOk s ⟨y.st,y.gl,ds⟩ (n - 1):=by
 have hy:=w.ds y (by simp)
 have:=hy.s0
 have:=hy.s1
 have:=hy.s2
 refine ⟨hy.s0,by show y.st<=s.top; omega,λg e=>?_,λz hz=>w.ds z (by simp [hz]),?_⟩
 ·rcases hy.g with ⟨e1,_⟩ | e1
  ·rw [e1] at e; cases e
  ·rw [e1] at e
   cases e
   exact ⟨hy.s1,hy.s2⟩
 ·have:=w.len
  show ds.length<=n - 1
  simp at this
  omega
theorem ZcC (s:Shp) (x:Int) (ds:List Dy) (y:Int):(Qs.mk x none ds).pd s+s.ord x y=(Qs.mk x (some y) ds).pd s:=by
 unfold Qs.pd kO
 simp
theorem ZiC (s:Shp) (q:Qs) (f:Int):q.pd s+s.day q.lv f=(q.fall s f).pd s:=by
 unfold Qs.pd Qs.fall kO Qs.lv
 cases q.gl with
 | none=>simp [ZcG]
 | some g=>simp; omega
theorem ZiD (s:Shp) {x:Int} {ds:List Dy} {y:Dy} (h:DyOk s y):(Qs.mk x none (ds++[y])).pd s - s.day y.lv y.fl=(Qs.mk y.st y.gl ds).pd s:=by
 unfold Qs.pd kO
 have hc:=h.co
 rcases h.g with ⟨e1,e2⟩ | e1
 ·rw [e1]
  rw [e2,ZcG] at hc
  simp [hc,e2]
 ·rw [e1]
  simp [hc]
  omega
end
theorem ZbO {s:Shp} (h:s.Ok) {y:Dy} (w:DyOk s y):Rp y.t 1 8000:=by
 have t0:=h.t0
 have d0:=h.d0
 have td:=h.td
 have s0:=w.s0
 have s1:=w.s1
 have s2:=w.s2
 have n1:nb 20 y.st:=de (by show -1048576 < _; omega) (by show _ < 1048576; omega)
 have n2:nb 20 y.lv:=de (by show -1048576 < _; omega) (by show _ < 1048576; omega)
 have n3:=mO w.f0 w.f1
 have n5:nb 8 (s.nx y.lv y.fl):=ZcO h (by omega) w.s2 w.f0
 have n6:nb 200 (s.day y.lv y.fl):=by
  unfold Shp.day
  refine ce (fA (gZ (ce (eZ h.keep n5) (by decide:45+8<=60)) (ce (eZ h.lack (gq n5)) (by decide))) (eZ h.lost (fq n5 (fq n2 n3)))) (by decide)
 have n7:nb 100 (s.ord y.st y.lv):=by
  unfold Shp.ord
  refine gZ (de (by decide) (by decide)) (ce (fA h.start (eZ h.piece (fq n2 n1))) (by decide))
 have n4:nb 300 y.co:=by rw [w.co]; exact ce (fA n7 n6) (by decide)
 refine mx (ZbK (k:=0) (n:=1901) (xs:=[.int y.st,.int y.lv,.int y.fl,.int y.co]) λx hx=>?_) (Nat.le_refl _) (by show 4 * 1901+2 * 4+10<=8000; decide)
 simp only [List.mem_cons,List.not_mem_nil,or_false] at hx
 rcases hx with rfl | rfl | rfl | rfl
 ·exact kG (ce n1 (by decide))
 ·exact kG (ce n2 (by decide))
 ·exact kG (ce n3 (by decide))
 ·exact kG (ce n4 (by decide))
theorem ZbN {s:Shp} (h:s.Ok) {ds:List Dy} (w:∀ y∈ds,DyOk s y) (hl:ds.length<=1000):jH (.list (ds.map Dy.t))=true:=by
 refine ZbL (k:=2) (n:=9000000) (mx (ZbM (k:=1) (n:=8000) λx hx=>?_) (Nat.le_refl _) ?_) (by decide) (by decide)
 ·obtain ⟨y,hy,rfl⟩:=List.mem_map.mp hx
  exact ZbO h (w y hy)
 ·rw [List.length_map]
  omega
end My
local macro_rules | `(tactic| simp_arith only [$ls,*] $[$loc]?) => do let b : Lean.TSyntaxArray ``Lean.Parser.Tactic.simpLemma ← (("L2.ZkM L2.ZkL L2.Zm7 L2.ZmK L2.ZmJ L2.ZmZ L2.ZmY L2.ZkY L2.Zmz L2.Zmr L2.ZlM L2.ZdO L2.Zl6 L2.Zl3 L2.ZlZ L2.fE L2.qd L2.qc L2.qb L2.uM L2.uL L2.uK L2.ZeU L2.ZeT L2.ZeS L2.ZlL L2.ZlK L2.ZkX L2.ZkR L2.ZkW L2.ZkV L2.ZkU L2.ZmX L2.ZlD L2.ZlI L2.ZmV L2.ZmW L2.ZlC L2.ZlH L2.ZmU L2.ZlG L2.ZmT L2.ZlF L2.Zmj L2.Zmh L2.Zmi L2.ZmA L2.ZmE L2.ZmD L2.ZmC L2.ZmB L2.ZlJ L2.Zmy L2.Zmx L2.Zmw L2.ZkQ L2.ZkP L2.ZlQ L2.ZlP L2.ZlS L2.ZlR L2.dJ L2.ZmF L2.ZdQ L2.Zm0 L2.ZlO L2.Zl7 L2.ZkO L2.ZdN L2.ZdM L2.Zl5 L2.Zl4 L2.Zk1 L2.Zk0 L2.ZkZ L2.Zlz L2.Zly L2.Zlx L2.ZkN L2.ZdL L2.Zm3 L2.Zm4 L2.Zm6 L2.Zm5 L2.Zlu L2.Zlt L2.Zm2 L2.Zm1 L2.ZmG L2.Zls L2.Zlr L2.Zmv L2.Zmo L2.Zmn L2.lz L2.nr L2.Zlb L2.Zk2 L2.Zmc L2.Zma L2.Zmb L2.Zlq L2.Zlp L2.Zlo L2.Zln L2.Zlm L2.Zll L2.Zlk L2.Zlj L2.Zli L2.Zla L2.Zk9 L2.Zk8 L2.Zk7 L2.Zjo L2.Zjn L2.ZmN L2.ZmM L2.ZmL L2.Zmk L2.ZlB L2.ZlA L2.ZmS L2.ZmR L2.ZmQ L2.Zml L2.Zkz L2.ZkA L2.ZkB L2.ZmP L2.ZmO L2.ZlE L2.Zkm L2.Zkk L2.Zkn L2.Zko L2.Zkl L2.Zlw L2.Zlv L2.Zl2 L2.Zl1 L2.Zl0 L2.Zlf L2.Zle L2.ZkK L2.ZkJ L2.ZkI L2.ZkH L2.ZkG L2.Zms L2.Zmu L2.Zmt L2.ZdR L2.Zmm L2.lw L2.ui L2.nu L2.ZlY L2.ZlX L2.ZlW L2.Zi8 L2.Zja L2.Zjc L2.Zjb L2.Zl8 L2.ZlT L2.ZlV L2.ZlU L2.Zmd L2.Zmf L2.Zmg L2.Zme L2.Zk6 L2.Zk5 L2.Zk4 L2.ZdV L2.ZdU L2.Zld L2.Zlh L2.Zlc L2.Zmq L2.Zmp Tw.ZgO Tw.ZgN Tw.ZgM Tw.ZgL Tw.ZgK Tw.ZgJ Tw.ZgI Tw.ZgH Tw.ZgG L2.ZdT L2.ZlN L2.Zl9 L2.rb2 L2.Tr.of_some List.cons_append List.nil_append List.replicate_succ List.replicate_zero List.length_cons List.length_nil L2.Re.val_d L2.Re.val_own L2.blk L2.uD List.map_cons List.map_nil List.getElem?_cons_zero List.getElem?_cons_succ Option.getD_some Nat.reduceAdd Nat.reduceLeDiff List.isEmpty_cons".splitOn " ").toArray.map fun s => Lean.mkIdent s.toName).mapM fun i => `(Lean.Parser.Tactic.simpLemma| $i:ident); `(tactic| simp -implicitDefEqProofs only [$b,*, $ls,*] $[$loc]?)
namespace My
open PySem PySem.Spec PyProof.Rows L2 Tw
theorem Zd5 {s:Shp} (h:s.Ok):mU [.d s.d]=.ret (.d (.tuple (cB (-s.depth) (s.top+1)))):=by
 have:=h.t0
 have:=h.d0
 have:=h.td
 have hr:mB (-s.depth) (s.top+1)=true:=by
  unfold mB
  rw [ir (by omega) (by omega),ir (by omega) (by omega)]
  simp
  omega
 simp_arith only [mU,Tr.bind_assoc,Tr.draw_bind,ZdL hr]
theorem lC (s:Shp) (y f:Int):iL [.d s.d,.d (.int y),.d (.int f)]=.ret (.d (.int (s.nx y f))):=by
 simp_arith only [iL,Tr.bind_assoc,Tr.draw_bind,Shp.nx]
theorem Zd9 {s:Shp} (h:s.Ok) {x:Int} (hx:nb 20 x):kZ [.d s.d,.d (.int x)]=.ret (.d (.int (s.fin x))):=by
 have f1:=cE (gq h.back) (by decide)
 have f2:=cE h.late (by decide)
 have f3:=cE hx (by decide)
 have f4:=cE (gq hx) (by decide)
 by_cases hp:x > 0
 ·simp_arith only [kZ,Tr.bind_assoc,Tr.draw_bind,decide_eq_true hp,f1,f3,Shp.fin,if_pos hp]
 ·simp_arith only [kZ,Tr.bind_assoc,Tr.draw_bind,decide_eq_false hp,f2,f4,Shp.fin,if_neg hp]
theorem lB {s:Shp} (h:s.Ok) {x y:Int} (hx:nb 20 x) (hy:nb 20 y):gr [.d s.d,.d (.int x),.d (.int y)]=.ret (.d (.int (s.ord x y))):=by
 have f1:=cE h.piece (by decide)
 have f2:=cE (fq hy hx) (by decide)
 by_cases hp:y<=x
 ·simp_arith only [gr,Tr.bind_assoc,Tr.draw_bind,decide_eq_true hp,Shp.ord,if_pos hp]
 ·simp_arith only [gr,Tr.bind_assoc,Tr.draw_bind,decide_eq_false hp,f1,f2,Shp.ord,if_neg hp]
theorem Zea {s:Shp} (h:s.Ok) {y f:Int} (hy:nb 20 y) (hf:nb 40 f):fV [.d s.d,.d (.int y),.d (.int f)]=.ret (.d (.int (s.day y f))):=by
 have hd:nb 7 s.depth:=by have:=h.t0; have:=h.d0; have:=h.td; exact de (by show -128 < _; omega) (by show _ < 128; omega)
 have hn:nb 50 (s.nx y f):=by
  unfold Shp.nx gL
  exact gZ (ce (gq hd) (by decide)) (ce (fq hy hf) (by decide))
 have f1:=cE h.keep (by decide)
 have f2:=cE hn (by decide)
 have f3:=cE (gq hn) (by decide)
 have f4:=cE h.lack (by decide)
 have f5:=cE h.lost (by decide)
 have f6:=cE (fq hn (fq hy hf)) (by decide)
 have e:=lC s y f
 by_cases hp:s.nx y f > 0
 ·simp_arith only [fV,Tr.bind_assoc,Tr.draw_bind,e,decide_eq_true hp,f1,f2,f5,f6,Shp.day,if_pos hp]
 ·simp_arith only [fV,Tr.bind_assoc,Tr.draw_bind,e,decide_eq_false hp,f3,f4,f5,f6,Shp.day,if_neg hp]
theorem Znr {s:Shp} (h:s.Ok):pC [.d s.d]=.ret (.own ((s.row s.fin).map PyData.int)):=by
 have:=h.t0
 have:=h.d0
 have:=h.td
 have hs:small (cB (-s.depth) (s.top+1)).length=true:=dJ (by rw [dC]; omega)
 have e:c8 (jp (bE 0) sI (blk 1 [0] [.d s.d])) (cB (-s.depth) (s.top+1))=.ret ((s.row s.fin).map PyData.int):=by
  refine Eq.trans (Zji (f:=λx=>.int (s.fin x)) λz h1 h2=>?_) ?_
  ·have e1:=Zd9 h (x:=z) (de (by show -1048576 < _; omega) (by show _ < 1048576; omega))
   simp_arith only [sI,Tr.bind_assoc,Tr.draw_bind,e1]
  ·unfold Shp.row Shp.n
   rw [List.map_map]
   rfl
 simp_arith only [pC,Tr.bind_assoc,Tr.draw_bind,Zd5 h,hs] at e ⊢
 simp_arith only [e,Tr.bind_assoc,Tr.draw_bind]
theorem Zjx (l:List Int):(l.map PyData.int).length=l.length:=List.length_map ..
theorem Zng {s:Shp} (h:s.Ok) {day:List Int} (hd:DayB day) {y:Int} (y1:-s.depth<=y) (y2:y<=s.top) {A:Int->Int} {b:Nat} (hA:Bd s b A) {sc:Int} (hs:nb b sc) (hb:b<=5000) :
  o7 [.d s.d,.d (tI day),.d (.int y),.d (lI (s.row A)),.d (.int sc)]=.ret (.d (.int (s.wg day y A sc))):=by
 have:=h.t0
 have:=h.d0
 have:=h.td
 have hy:nb 20 y:=de (by show -1048576 < _; omega) (by show _ < 1048576; omega)
 apply ql
 simp_arith only [o7,tI,lI,Tr.bind_assoc,Tr.draw_bind]
 refine gy (n:=0) (n':=0) (P:=λo=>∃ J1 J2 J3:Sl,o=.next [.d s.d,.d (.tuple (day.map PyData.int)),.d (.int y),.d (.list ((s.row A).map PyData.int)),.d (.int sc),.d (.int (s.wg day y A sc)),J1,J2,J3]) ?_ (by decide) ?_
 ·refine jt (n:=0) (λpre ρ=>∃ J1 J2 J3:Sl,ρ=[.d s.d,.d (.tuple (day.map PyData.int)),.d (.int y),.d (.list ((s.row A).map PyData.int)),.d (.int sc),.d (.int (s.wg day y A sc - ws (λf=>sc * s.day y f+A (s.nx y f)) pre.length (day.drop pre.length))),J1,J2,J3]) ⟨.un,.un,.un,?_⟩ (by simp) ?_ ?_
  ·have:s.wg day y A sc - ws (λf=>sc * s.day y f+A (s.nx y f)) 0 day=0:=by unfold Shp.wg; omega
   simp only [List.length_nil,List.drop_zero,this]
  ·rintro pre x post ρ e ⟨J1,J2,J3,rfl⟩
   obtain ⟨w,hw,rfl⟩:=ZdY e
   rw [List.getElem?_map] at hw
   obtain ⟨v,hv,rfl⟩:=Option.map_eq_some_iff.mp hw
   refine ⟨_,rfl,?_⟩
   have hl:pre.length < day.length:=(List.getElem?_eq_some_iff.mp hv).1
   have hlen:=hd.len
   have hf:nb 40 (pre.length:Int):=de (by show -1099511627776 < _; omega) (by show _ < 1099511627776; omega)
   have e1:=lC s y pre.length
   have e2:=Zea h hy hf
   have n1:=kS s y pre.length
   have n2:=kR h y2 (show (0:Int)<=pre.length by omega)
   have e3:=my (f:=A) n1 n2
   have v1:nb 30 v:=hd.nb v (List.mem_of_getElem? hv)
   have b1:=eZ hs (uu h hy hf)
   have f1:=cE hs (by omega)
   have f2:=cE (uu h hy hf) (by decide)
   have f3:=cE v1 (by decide)
   have f4:=cE (fA b1 (hA _ n1 n2)) (by omega)
   simp_arith only [Zde,Tr.bind_assoc,Tr.draw_bind,e1,e2,e3,f1,f2,f3,f4]
   have ed:day.drop pre.length=v::day.drop (pre.length+1):=by
    rw [List.drop_eq_getElem_cons hl]
    congr 1
    exact (List.getElem?_eq_some_iff.mp hv).2
   have el:(pre++[PyData.tuple [PyData.int pre.length,PyData.int v]]).length=pre.length+1:=by simp
   have ee:s.wg day y A sc - ws (λf=>sc * s.day y f+A (s.nx y f)) pre.length (day.drop pre.length)+v * (sc * s.day y pre.length+A (s.nx y pre.length)) =
     s.wg day y A sc - ws (λf=>sc * s.day y f+A (s.nx y f)) (pre++[PyData.tuple [PyData.int pre.length,PyData.int v]]).length (day.drop (pre++[PyData.tuple [PyData.int pre.length,PyData.int v]]).length):=by
    rw [el,ed,ws]
    omega
   rw [ee]
   exact fe ⟨_,rfl,_,_,_,rfl⟩
  ·rintro ρ ⟨J1,J2,J3,rfl⟩
   refine ⟨J1,J2,J3,?_⟩
   rw [ul,Zjx,List.drop_length,ws,Int.sub_zero]
 ·rintro _ ⟨J1,J2,J3,rfl⟩
  simp_arith only [Tr.bind_assoc,Tr.draw_bind]
  exact fe rfl
theorem Zfk {xs ys pre post:List PyData} {x:PyData} (h:dY xs ys=pre++x::post):∃ a b,xs[pre.length]?=some a/\ys[pre.length]?=some b/\x=.tuple [a,b]:=by
 have h1:(dY xs ys)[pre.length]?=some x:=by rw [h]; simp
 unfold dY at h1
 rw [List.getElem?_map] at h1
 obtain ⟨⟨a,b⟩,hz,rfl⟩:=Option.map_eq_some_iff.mp h1
 obtain ⟨z1,z2⟩:=List.getElem?_zip_eq_some.mp hz
 exact ⟨a,b,z1,z2,rfl⟩
theorem ZbQ {lo hi:Int} {k:Nat} {y:PyData} (h:(cB lo hi)[k]?=some y):y=.int (lo+k)/\(k:Int) < hi - lo:=by
 have hk:=(List.getElem?_eq_some_iff.mp h).1
 rw [dC] at hk
 unfold cB eE at h
 rw [List.map_map,List.getElem?_map,List.getElem?_range hk] at h
 cases h
 exact ⟨rfl,by omega⟩
noncomputable def cby (s:Shp) (day:List Int) (A:Int->Int) (sc:Int) (g:Int->Int) (x:Int):Int:=sc * day.sum * s.ord x (g x)+s.wg day (g x) A sc
theorem Zoi {s:Shp} (h:s.Ok) {day:List Int} (hd:DayB day) {A:Int->Int} {b:Nat} (hA:Bd s b A) {sc:Int} (hs:nb b sc) (hb:b<=5000) {x y:Int} (x1:-s.depth<=x) (xy:x<=y) (y2:y<=s.top) {L:List PyData} (hL:L.length<=900) (LV:Sl) :
  tW [.d s.d,.d (tI day),LV,.d (lI (s.row A)),.d (.int sc),.d (.int (sc * day.sum)),.own L,.d (.int x),.d (.int y)]=.ret (.next [.d s.d,.d (tI day),LV,.d (lI (s.row A)),.d (.int sc),.d (.int (sc * day.sum)),.own (L++[.int (sc * day.sum * s.ord x y+s.wg day y A sc)]),.d (.int x),.d (.int y)]):=by
 have hx:=gT h x1 (show x<=s.top by omega)
 have hy:=gT h (show -s.depth<=y by omega) y2
 have e1:=lB h hx hy
 have e2:=Zng h hd (show -s.depth<=y by omega) y2 hA hs hb
 have hsm:small (L.length+1)=true:=dJ (by omega)
 have g1:=cE (eZ hs (mf hd)) (by omega)
 have g2:=cE (ZcH h hx hy) (by decide)
 simp_arith only [tW,Tr.bind_assoc,Tr.draw_bind,e1,e2,hsm,g1,g2]
theorem Zns {s:Shp} (h:s.Ok) {day:List Int} (hd:DayB day) {A:Int->Int} {b:Nat} (hA:Bd s b A) {sc:Int} (hs:nb b sc) (hb:b<=5000) {g:Int->Int} (hg:s.RlOk g) {LV:PyData} (hLV:fW LV=.ret ((s.row g).map PyData.int)) :
  pE [.d s.d,.d (tI day),.d LV,.d (lI (s.row A)),.d (.int sc)]=.ret (.own ((s.row (cby s day A sc g)).map PyData.int)):=by
 have:=h.t0
 have:=h.d0
 have:=h.td
 have hn:=h.n_eq
 have g1:=cE hs (by omega)
 have g2:=cE (mf hd) (by decide)
 apply ql
 simp_arith only [pE,Tr.bind_assoc,Tr.draw_bind,rJ,g1,g2,Zd5 h,hLV]
 refine gy (n:=0) (n':=0) (P:=λo=>∃ J7 J8:Sl,o=.next [.d s.d,.d (tI day),.d LV,.d (lI (s.row A)),.d (.int sc),.d (.int (sc * day.sum)),.own ((s.row (cby s day A sc g)).map PyData.int),J7,J8]) ?_ (by decide) ?_
 ·refine jt (n:=0) (λpre ρ=>∃ J7 J8:Sl,ρ=[.d s.d,.d (tI day),.d LV,.d (lI (s.row A)),.d (.int sc),.d (.int (sc * day.sum)),.own (((s.row (cby s day A sc g)).map PyData.int).take pre.length),J7,J8]) ⟨_,_,rfl⟩ (by simp) ?_ ?_
  ·rintro pre x post ρ e ⟨J7,J8,rfl⟩
   obtain ⟨a,c,ha,hc,rfl⟩:=Zfk e
   obtain ⟨rfl,hpre⟩:=ZbQ ha
   have x1:-s.depth<=-s.depth+(pre.length:Int):=by omega
   have x2:-s.depth+(pre.length:Int)<=s.top:=by omega
   have ek:(-s.depth+(pre.length:Int)+s.depth).toNat=pre.length:=by omega
   have hr:=oz (f:=g) x1 x2
   have hr3:=oz (f:=cby s day A sc g) x1 x2
   rw [ek] at hr hr3
   rw [List.getElem?_map,hr] at hc
   cases hc
   have hr2:((s.row (cby s day A sc g)).map PyData.int)[pre.length]?=some (.int (cby s day A sc g (-s.depth+(pre.length:Int)))):=by rw [List.getElem?_map,hr3]; rfl
   have el:∀ z:PyData,(pre++[z]).length=pre.length+1:=λz=>by simp
   rw [el,List.take_add_one,hr2]
   obtain ⟨q1,q2⟩:=hg _ x1 x2
   exact ⟨_,rfl,qk (Zoi h hd hA hs hb x1 q1 q2 (by rw [List.length_take,List.length_map,oy]; omega) _) ⟨_,rfl,_,_,rfl⟩⟩
  ·rintro ρ ⟨J7,J8,rfl⟩
   refine ⟨J7,J8,?_⟩
   have el:(dY (cB (-s.depth) (s.top+1)) ((s.row g).map PyData.int)).length=s.n:=by
    unfold dY
    rw [List.length_map,List.length_zip,dC,List.length_map,oy]
    unfold Shp.n
    omega
   rw [el,List.take_of_length_le (by rw [List.length_map,oy]; exact Nat.le_refl _)]
 ·rintro _ ⟨J7,J8,rfl⟩
  simp_arith only [Tr.bind_assoc,Tr.draw_bind]
  exact fe rfl
theorem Znq {a b:Int} (hb:nb 8000 b):pG [.d (.int a),.d (.int b)]=.ret (.d (.int (Nat.gcd a.natAbs b.natAbs:Nat))):=by
 have key:=euclid (p:=rh) (s:=tX) (E:=λa b=>[.d (.int a),.d (.int b)]) (λa b=>by
  simp_arith only [rh,Tr.bind_assoc,Tr.draw_bind]
  by_cases h:b=0
  ·subst h; rfl
  ·rw [decide_eq_true h]
   congr 1
   simp [h]) (λa b h=>by
  have h':(b:Int)≠0:=by omega
  simp_arith only [tX,Tr.bind_assoc,Tr.draw_bind,ZdP h',ZdI]) 8000 83999 a.natAbs b.natAbs hb
 have e:2 * 8000+1+83999=100000:=rfl
 rw [e] at key
 simp_arith only [pG,Tr.bind_assoc,Tr.draw_bind,Ze8,key]
theorem Zni {t b:Int} (h0:b≠0) (hb:nb 7000 b):mV [.d (.int t),.d (.int b)]=.ret (.d (mn t b)):=by
 have e:=Znq (a:=t) (b:=b) (ce hb (by decide))
 have e0:(b == 0)=false:=beq_eq_false_iff_ne.mpr h0
 have hd:=Gc.Zeh (t:=t) h0
 have hf:=cE (Znz (t:=t) hb h0) (by decide)
 unfold mn Gc.jn Gc.iN
 by_cases hn:b < 0
 ·have ed:Gc.den t b=-((Nat.gcd t.natAbs b.natAbs:Nat):Int):=by unfold Gc.den Gc.jX; rw [if_pos hn]
  rw [ed] at hd hf ⊢
  simp_arith only [mV,Tr.bind_assoc,Tr.draw_bind,e0,e,decide_eq_true hn,ZdS hd hf]
 ·have ed:Gc.den t b=((Nat.gcd t.natAbs b.natAbs:Nat):Int):=by unfold Gc.den Gc.jX; rw [if_neg hn]
  rw [ed] at hd hf ⊢
  simp_arith only [mV,Tr.bind_assoc,Tr.draw_bind,e0,e,decide_eq_false hn,ZdS hd hf]
theorem bD (n:Int):dS [.pen,.d (.int n)]=.draw n λr=>.ret (.d (.int r)):=rfl
theorem Zhh:Al (pj [.pen]) 3 λr=>∃ p:Int,r=.d (.int p)/\0<=p/\p<=1000000:=by
 simp_arith only [pj,bj,bi,bh,az,am,aD,ay,aB,aA,aj,ak,bc,aK,ba,aM,aI,aH,aG,bu,br,bq,bp,bn,a9,aS,aR,aQ,aP,aw,au,aq,ao,aT,bz,bx,bw,bv,aJ,aF,aE,aL,bf,be,bd,bg,aZ,aY,aX,aW,aV,ai,aO,aN,aU,Tr.bind_assoc,Tr.draw_bind,bD]
 refine fj (n:=2) (by decide) (by decide) (by decide) λa a0 a1=>?_
 try simp_arith only [bj,bi,bh,az,am,aD,ay,aB,aA,aj,ak,bc,aK,ba,aM,aI,aH,aG,bu,br,bq,bp,bn,a9,aS,aR,aQ,aP,aw,au,aq,ao,aT,bz,bx,bw,bv,aJ,aF,aE,aL,bf,be,bd,bg,aZ,aY,aX,aW,aV,ai,aO,aN,aU,Tr.bind_assoc,Tr.draw_bind,bD]
 refine fj (n:=1) (by decide) (by decide) (by decide) λb b0 b1=>?_
 try simp_arith only [bj,bi,bh,az,am,aD,ay,aB,aA,aj,ak,bc,aK,ba,aM,aI,aH,aG,bu,br,bq,bp,bn,a9,aS,aR,aQ,aP,aw,au,aq,ao,aT,bz,bx,bw,bv,aJ,aF,aE,aL,bf,be,bd,bg,aZ,aY,aX,aW,aV,ai,aO,aN,aU,Tr.bind_assoc,Tr.draw_bind,bD]
 refine fj (n:=0) (by decide) (by decide) (by decide) λc c0 c1=>?_
 obtain ⟨z,hz,z0,z1⟩:=sP (xs:=[PyData.int 0,.int b,.int b,.int b,.int (1000000 - b),.int c]) (lo:=0) (hi:=1000000) (by simp [lm]; omega) a0 a1
 simp_arith only [bj,bi,bh,az,am,aD,ay,aB,aA,aj,ak,bc,aK,ba,aM,aI,aH,aG,bu,br,bq,bp,bn,a9,aS,aR,aQ,aP,aw,au,aq,ao,aT,bz,bx,bw,bv,aJ,aF,aE,aL,bf,be,bd,bg,aZ,aY,aX,aW,aV,ai,aO,aN,aU,Tr.bind_assoc,Tr.draw_bind,bD,hz]
 exact fe ⟨z,rfl,z0,z1⟩
theorem ZaW {t d:Int} (h1:0<=t) (h2:0<=d) (h3:t+d<=39) {f:List PyData->Tr Re} (hf:∀ ps:List Int,ps.length=7->(∀ p∈ps,0<=p/\p<=1000000)->Al (f (ps.map PyData.int)) 0 λr=>∃ s:Shp,r=.d s.d/\s.Dr) :
  Al ((c8 (jp (bE 0) sH [.un,.pen]) (cB 0 7)).bind f) 21 λr=>∃ s:Shp,r=.d s.d/\s.Dr:=by
 refine gy (n:=21) (n':=0) (uV (n:=3) (P:=lm 0 1000000) (Q:=λys=>∃ ps:List Int,ys=ps.map PyData.int/\ps.length=7/\∀ p∈ps,0<=p/\p<=1000000) (by rw [dC]; decide) (λx hx=>?_) λys hl hys=>?_) (by decide) ?_
 ·simp_arith only [sH,bj,bi,bh,az,am,aD,ay,aB,aA,aj,ak,bc,aK,ba,aM,aI,aH,aG,bu,br,bq,bp,bn,a9,aS,aR,aQ,aP,aw,au,aq,ao,aT,bz,bx,bw,bv,aJ,aF,aE,aL,bf,be,bd,bg,aZ,aY,aX,aW,aV,ai,aO,aN,aU,Tr.bind_assoc,Tr.draw_bind,bD]
  refine gy (n':=0) Zhh (by decide) ?_
  rintro _ ⟨p,rfl,p0,p1⟩
  simp_arith only [bj,bi,bh,az,am,aD,ay,aB,aA,aj,ak,bc,aK,ba,aM,aI,aH,aG,bu,br,bq,bp,bn,a9,aS,aR,aQ,aP,aw,au,aq,ao,aT,bz,bx,bw,bv,aJ,aF,aE,aL,bf,be,bd,bg,aZ,aY,aX,aW,aV,ai,aO,aN,aU,Tr.bind_assoc,Tr.draw_bind,bD]
  exact fe ⟨p,rfl,p0,p1⟩
 ·obtain ⟨ns,e,hn⟩:=Zdp hys
  refine ⟨ns,e,?_,hn⟩
  rw [e,List.length_map,dC] at hl
  exact hl
 ·rintro _ ⟨ps,rfl,h4,h5⟩
  exact hf ps h4 h5
theorem Zhe:Al (pc [.pen]) 30 λr=>∃ s:Shp,r=.d s.d/\s.Dr:=by
 have hs:small (cB 0 7).length=true:=dJ (by rw [dC]; decide)
 have r7:gH [.int 7]=.ret (cB 0 7):=lA (ir (by decide) (by decide))
 have fin:∀ {t d:Int},0<=t->0<=d->t+d<=39->∀ (ps:List Int),ps.length=7->(∀ p∈ps,0<=p/\p<=1000000)->Al (((bZ cN (.tuple [.int t,.int d]) (.tuple (ps.map PyData.int))).bind λa=>Tr.ret (Re.d a))) 0 λr=>∃ s:Shp,r=.d s.d/\s.Dr:=λ{t d} t0 d0 td ps hl hp=>by
  obtain ⟨p2,p3,p4,p5,p6,p7,p8,rfl⟩:=Zjs hl
  simp_arith only [bj,bi,bh,az,am,aD,ay,aB,aA,aj,ak,bc,aK,ba,aM,aI,aH,aG,bu,br,bq,bp,bn,a9,aS,aR,aQ,aP,aw,au,aq,ao,aT,bz,bx,bw,bv,aJ,aF,aE,aL,bf,be,bd,bg,aZ,aY,aX,aW,aV,ai,aO,aN,aU,Tr.bind_assoc,Tr.draw_bind,bD]
  exact fe ⟨⟨t,d,p2,p3,p4,p5,p6,p7,p8⟩,by rw [<- ZgF],⟨t0,d0,td,hp⟩⟩
 have it:fb jq [.bool true]=.ret (.int 1):=rfl
 have if':fb jq [.bool false]=.ret (.int 0):=rfl
 simp_arith only [pc,bj,bi,bh,az,am,aD,ay,aB,aA,aj,ak,bc,aK,ba,aM,aI,aH,aG,bu,br,bq,bp,bn,a9,aS,aR,aQ,aP,aw,au,aq,ao,aT,bz,bx,bw,bv,aJ,aF,aE,aL,bf,be,bd,bg,aZ,aY,aX,aW,aV,ai,aO,aN,aU,Tr.bind_assoc,Tr.draw_bind,bD]
 refine fj (n:=29) (by decide) (by decide) (by decide) λg g0 g1=>?_
 try simp_arith only [bj,bi,bh,az,am,aD,ay,aB,aA,aj,ak,bc,aK,ba,aM,aI,aH,aG,bu,br,bq,bp,bn,a9,aS,aR,aQ,aP,aw,au,aq,ao,aT,bz,bx,bw,bv,aJ,aF,aE,aL,bf,be,bd,bg,aZ,aY,aX,aW,aV,ai,aO,aN,aU,Tr.bind_assoc,Tr.draw_bind,bD]
 generalize (g == 7)=b
 cases b
 ·simp_arith only [it,if',bj,bi,bh,az,am,aD,ay,aB,aA,aj,ak,bc,aK,ba,aM,aI,aH,aG,bu,br,bq,bp,bn,a9,aS,aR,aQ,aP,aw,au,aq,ao,aT,bz,bx,bw,bv,aJ,aF,aE,aL,bf,be,bd,bg,aZ,aY,aX,aW,aV,ai,aO,aN,aU,Tr.bind_assoc,Tr.draw_bind,bD,Bool.false_eq_true,↓reduceIte]
  refine fj (n:=28) (by decide) (by decide) (by decide) λt t0 t1=>?_
  try simp_arith only [bj,bi,bh,az,am,aD,ay,aB,aA,aj,ak,bc,aK,ba,aM,aI,aH,aG,bu,br,bq,bp,bn,a9,aS,aR,aQ,aP,aw,au,aq,ao,aT,bz,bx,bw,bv,aJ,aF,aE,aL,bf,be,bd,bg,aZ,aY,aX,aW,aV,ai,aO,aN,aU,Tr.bind_assoc,Tr.draw_bind,bD]
  refine fj (n:=27) (by decide) (by decide) (by decide) λd d0 d1=>?_
  simp_arith only [it,if',bj,bi,bh,az,am,aD,ay,aB,aA,aj,ak,bc,aK,ba,aM,aI,aH,aG,bu,br,bq,bp,bn,a9,aS,aR,aQ,aP,aw,au,aq,ao,aT,bz,bx,bw,bv,aJ,aF,aE,aL,bf,be,bd,bg,aZ,aY,aX,aW,aV,ai,aO,aN,aU,Tr.bind_assoc,Tr.draw_bind,bD,Bool.false_eq_true,↓reduceIte,r7,hs]
  exact lN (ZaW (t:=t) (d:=d) t0 d0 (by omega) λps hl hp=>fin t0 d0 (by omega) ps hl hp) (by decide) λr h=>h
 ·simp_arith only [it,if',bj,bi,bh,az,am,aD,ay,aB,aA,aj,ak,bc,aK,ba,aM,aI,aH,aG,bu,br,bq,bp,bn,a9,aS,aR,aQ,aP,aw,au,aq,ao,aT,bz,bx,bw,bv,aJ,aF,aE,aL,bf,be,bd,bg,aZ,aY,aX,aW,aV,ai,aO,aN,aU,Tr.bind_assoc,Tr.draw_bind,bD,↓reduceIte]
  refine fj (n:=28) (by decide) (by decide) (by decide) λt t0 t1=>?_
  try simp_arith only [bj,bi,bh,az,am,aD,ay,aB,aA,aj,ak,bc,aK,ba,aM,aI,aH,aG,bu,br,bq,bp,bn,a9,aS,aR,aQ,aP,aw,au,aq,ao,aT,bz,bx,bw,bv,aJ,aF,aE,aL,bf,be,bd,bg,aZ,aY,aX,aW,aV,ai,aO,aN,aU,Tr.bind_assoc,Tr.draw_bind,bD]
  refine fj (n:=27) (by decide) (by decide) (by decide) λd d0 d1=>?_
  simp_arith only [it,if',bj,bi,bh,az,am,aD,ay,aB,aA,aj,ak,bc,aK,ba,aM,aI,aH,aG,bu,br,bq,bp,bn,a9,aS,aR,aQ,aP,aw,au,aq,ao,aT,bz,bx,bw,bv,aJ,aF,aE,aL,bf,be,bd,bg,aZ,aY,aX,aW,aV,ai,aO,aN,aU,Tr.bind_assoc,Tr.draw_bind,bD,↓reduceIte,r7,hs]
  exact lN (ZaW (t:=t) (d:=39 - t) t0 (by omega) (by omega) λps hl hp=>fin t0 (by omega) (by omega) ps hl hp) (by decide) λr h=>h
theorem ZaN (v:Int):∀ (l:List Int) (i k:Nat),(cO k (l.set i v)).length<=(cO k l).length+1
 | [],i,k=>by simp [cO]
 | w::l,0,k=>by
  rw [List.set_cons_zero,cO,cO]
  split <;> split <;> (try simp only [List.length_cons]) <;> omega
 | w::l,i+1,k=>by
  rw [List.set_cons_succ,cO,cO]
  have ih:=ZaN v l i (k+1)
  split <;> (try simp only [List.length_cons]) <;> omega
theorem ZaL:∀ (n k:Nat),cO k (List.replicate n 0)=[]
 | 0,k=>rfl
 | n+1,k=>by
  rw [List.replicate_succ,cO,if_neg (by decide),ZaL n]
structure DayS (c:Nat) (d:List Int):Prop where
 len:d.length<=8
 w:∀ n∈d,0<=n/\n<=1000
 pos:∃ n∈d,n > 0
 seen:(cO 0 d).length<=c
theorem DayS.B {c:Nat} {d:List Int} (h:DayS c d):DayB d:=by
 obtain ⟨n,hn,n0⟩:=h.pos
 have h0:=h.len
 refine ⟨by omega,λv hv=>?_,λv hv=>(h.w v hv).1,?_⟩
 ·have:=h.w v hv
  exact de (by show -1073741824 < _; omega) (by show _ < 1073741824; omega)
 ·have:=Zgt (λv hv=>(h.w v hv).1) n hn
  omega
theorem da1 {size:Int} {c:Nat} {ns:List Int} (hl:(ns.length:Int)=size) (s1:size<=8) (hn:∀ n∈ns,0<=n/\n<=1000) (hc:(cO 0 ns).length<=c) (A B:Sl) (h1:1<=size) :
  Al (tV [.pen,A,.d (.int size),.own (ns.map PyData.int),B]) 3 λo=>∃ ns':List Int,o=.next [.pen,A,.d (.int size),.own (ns'.map PyData.int),B]/\(ns'.length:Int)=size/\(∀ n∈ns',0<=n/\n<=1000)/\(cO 0 ns').length<=c+1/\∃ n∈ns',n > 0:=by
 simp_arith only [tV,bj,bi,bh,az,am,aD,ay,aB,aA,aj,ak,bc,aK,ba,aM,aI,aH,aG,bu,br,bq,bp,bn,a9,aS,aR,aQ,aP,aw,au,aq,ao,aT,bz,bx,bw,bv,aJ,aF,aE,aL,bf,be,bd,bg,aZ,aY,aX,aW,aV,ai,aO,aN,aU,Tr.bind_assoc,Tr.draw_bind,bD]
 refine fj (n:=2) (by decide) (by decide) (by decide) λu u0 u1=>?_
 obtain ⟨z,hz,z0,z1⟩:=sP (xs:=[PyData.int 9,.int 1000]) (lo:=9) (hi:=1000) (by simp [lm]) u0 u1
 simp_arith only [bj,bi,bh,az,am,aD,ay,aB,aA,aj,ak,bc,aK,ba,aM,aI,aH,aG,bu,br,bq,bp,bn,a9,aS,aR,aQ,aP,aw,au,aq,ao,aT,bz,bx,bw,bv,aJ,aF,aE,aL,bf,be,bd,bg,aZ,aY,aX,aW,aV,ai,aO,aN,aU,Tr.bind_assoc,Tr.draw_bind,bD,hz]
 refine fj (n:=1) (by omega) (by omega) (by decide) λv v0 v1=>?_
 try simp_arith only [bj,bi,bh,az,am,aD,ay,aB,aA,aj,ak,bc,aK,ba,aM,aI,aH,aG,bu,br,bq,bp,bn,a9,aS,aR,aQ,aP,aw,au,aq,ao,aT,bz,bx,bw,bv,aJ,aF,aE,aL,bf,be,bd,bg,aZ,aY,aX,aW,aV,ai,aO,aN,aU,Tr.bind_assoc,Tr.draw_bind,bD]
 refine fj (n:=0) (by omega) (by omega) (by decide) λr r0 r1=>?_
 have hi:gu (ns.map PyData.int).length r=some r.toNat:=by
  rw [List.length_map]
  unfold gu
  rw [if_pos r0,if_pos (by omega)]
 have es:(ns.map PyData.int).set r.toNat (.int (1+v))=(ns.set r.toNat (1+v)).map PyData.int:=List.map_set.symm
 simp_arith only [bj,bi,bh,az,am,aD,ay,aB,aA,aj,ak,bc,aK,ba,aM,aI,aH,aG,bu,br,bq,bp,bn,a9,aS,aR,aQ,aP,aw,au,aq,ao,aT,bz,bx,bw,bv,aJ,aF,aE,aL,bf,be,bd,bg,aZ,aY,aX,aW,aV,ai,aO,aN,aU,Tr.bind_assoc,Tr.draw_bind,bD,Zk3 hi,es]
 refine fe ⟨ns.set r.toNat (1+v),rfl,by rw [List.length_set]; exact hl,λn hm=>?_,?_,1+v,List.mem_set (by omega) _,by omega⟩
 ·rcases List.mem_or_eq_of_mem_set hm with q | q
  ·exact hn n q
  ·subst q; omega
 ·have:=ZaN (1+v) ns r.toNat 0
  omega
theorem Zhk {seen:Int} (h0:1<=seen) (h1:seen<=8):Al (pA [.pen,.d (.int seen)]) 26 λr=>∃ d:List Int,r=.d (tI d)/\DayS seen.toNat d:=by
 simp_arith only [pA,bj,bi,bh,az,am,aD,ay,aB,aA,aj,ak,bc,aK,ba,aM,aI,aH,aG,bu,br,bq,bp,bn,a9,aS,aR,aQ,aP,aw,au,aq,ao,aT,bz,bx,bw,bv,aJ,aF,aE,aL,bf,be,bd,bg,aZ,aY,aX,aW,aV,ai,aO,aN,aU,Tr.bind_assoc,Tr.draw_bind,bD]
 refine fj (n:=25) (by decide) (by decide) (by decide) λu u0 u1=>?_
 have hr:nD kI (.list [.int 0]) (.int (1+u))=.ret ((List.replicate (1+u).toNat (0:Int)).map PyData.int):=by
  rw [ZhD (by simp; omega)]
  congr 1
  generalize (1+u).toNat=k
  induction k with
  | zero=>rfl
  | succ k ih=>rw [List.replicate_succ,List.flatten_cons,ih,List.replicate_succ]; rfl
 simp_arith only [bj,bi,bh,az,am,aD,ay,aB,aA,aj,ak,bc,aK,ba,aM,aI,aH,aG,bu,br,bq,bp,bn,a9,aS,aR,aQ,aP,aw,au,aq,ao,aT,bz,bx,bw,bv,aJ,aF,aE,aL,bf,be,bd,bg,aZ,aY,aX,aW,aV,ai,aO,aN,aU,Tr.bind_assoc,Tr.draw_bind,bD,ZmI,ZmH,hr]
 refine fj (n:=24) (by omega) (by omega) (by decide) λv v0 v1=>?_
 have r1:gH [.int (1+v)]=.ret (cB 0 (1+v)):=lA (ir (by omega) (by omega))
 simp_arith only [bj,bi,bh,az,am,aD,ay,aB,aA,aj,ak,bc,aK,ba,aM,aI,aH,aG,bu,br,bq,bp,bn,a9,aS,aR,aQ,aP,aw,au,aq,ao,aT,bz,bx,bw,bv,aJ,aF,aE,aL,bf,be,bd,bg,aZ,aY,aX,aW,aV,ai,aO,aN,aU,Tr.bind_assoc,Tr.draw_bind,bD,r1]
 refine gy (n:=24) (n':=0) (P:=λo=>∃ (ns:List Int) (B:Sl),o=.next [.pen,.d (.int seen),.d (.int (1+u)),.own (ns.map PyData.int),B]/\(ns.length:Int)=1+u/\(∀ n∈ns,0<=n/\n<=1000)/\(cO 0 ns).length<=(1+v).toNat/\∃ n∈ns,n > 0) ?_ (by decide) ?_
 ·refine jt (n:=3) (λpre ρ=>∃ (ns:List Int) (B:Sl),ρ=[.pen,.d (.int seen),.d (.int (1+u)),.own (ns.map PyData.int),B]/\(ns.length:Int)=1+u/\(∀ n∈ns,0<=n/\n<=1000)/\(cO 0 ns).length<=pre.length/\(pre≠[]->∃ n∈ns,n > 0)) ⟨List.replicate (1+u).toNat 0,.un,rfl,by rw [List.length_replicate]; omega,λn hn=>?_,by rw [ZaL]; exact Nat.le_refl _,λz=>absurd rfl z⟩ (by rw [dC]; omega) ?_ ?_
  ·have:=List.eq_of_mem_replicate hn
   omega
  ·rintro pre x post ρ e ⟨ns,B,rfl,a1,a2,a3,a4⟩
   refine ⟨_,rfl,?_⟩
   refine lN (da1 a1 (by omega) a2 a3 _ _ (by omega)) (Nat.le_refl _) ?_
   rintro _ ⟨ns',rfl,b1,b2,b3,b4⟩
   exact ⟨_,rfl,ns',_,rfl,b1,b2,by rw [List.length_append]; exact b3,λ_=>b4⟩
  ·rintro ρ ⟨ns,B,rfl,a1,a2,a3,a4⟩
   rw [dC] at a3
   refine ⟨ns,B,rfl,a1,a2,by omega,a4 λz=>?_⟩
   have:=congrArg List.length z
   rw [dC] at this
   simp at this
   omega
 ·rintro _ ⟨ns,B,rfl,a1,a2,a3,a4⟩
  simp_arith only [bj,bi,bh,az,am,aD,ay,aB,aA,aj,ak,bc,aK,ba,aM,aI,aH,aG,bu,br,bq,bp,bn,a9,aS,aR,aQ,aP,aw,au,aq,ao,aT,bz,bx,bw,bv,aJ,aF,aE,aL,bf,be,bd,bg,aZ,aY,aX,aW,aV,ai,aO,aN,aU,Tr.bind_assoc,Tr.draw_bind,bD]
  exact fe ⟨ns,rfl,by omega,a2,a4,by omega⟩
structure FalS (fs:List (List Int)):Prop where
 ex:∃ c:Nat,(∀ d∈fs,DayS c d)/\c ^ fs.length<=256/\1<=c
 l0:1<=fs.length
 l1:fs.length<=6
theorem FalS.B {fs:List (List Int)} (h:FalS fs):∀ l∈fs,DayB l:=λl hl=>by
 obtain ⟨c,hc,_⟩:=h.ex
 exact (hc l hl).B
theorem ZgR {u:Int} (u0:0<=u) (u1:u < 6):∃ m:Int,cR [PyData.int 8,.int 8,.int 6,.int 4,.int 3,.int 2] (1+u - 1)=some (.int m)/\1<=m/\m<=8/\m.toNat ^ (1+u).toNat<=256:=by
 have:u=0\/u=1\/u=2\/u=3\/u=4\/u=5:=by omega
 rcases this with rfl | rfl | rfl | rfl | rfl | rfl
 ·exact ⟨8,qd,by decide,by decide,by decide⟩
 ·exact ⟨8,qc,by decide,by decide,by decide⟩
 ·exact ⟨6,qb,by decide,by decide,by decide⟩
 ·exact ⟨4,uM,by decide,by decide,by decide⟩
 ·exact ⟨3,uL,by decide,by decide,by decide⟩
 ·exact ⟨2,uK,by decide,by decide,by decide⟩
theorem Zel {c:Nat}:∀ {ys:List PyData},(∀ y∈ys,∃ ls,y=tI ls/\DayS c ls)->∃ fs:List (List Int),ys=fs.map tI/\∀ ls∈fs,DayS c ls
 | [],_=>⟨[],rfl,λ_ h=>by cases h⟩
 | y::ys,h=>by
  obtain ⟨ls,rfl,hq⟩:=h y (by simp)
  obtain ⟨fs,rfl,hf⟩:=Zel λz hz=>h z (List.mem_cons_of_mem _ hz)
  refine ⟨ls::fs,rfl,λl hl=>?_⟩
  rcases List.mem_cons.mp hl with rfl | hl
  ·exact hq
  ·exact hf l hl
theorem Zhj {most:Int} (m0:1<=most) (m1:most<=6):Al (pz [.pen,.d (.int most)]) 160 λr=>∃ fs,r=.d (fD fs)/\FalS fs:=by
 simp_arith only [pz,bj,bi,bh,az,am,aD,ay,aB,aA,aj,ak,bc,aK,ba,aM,aI,aH,aG,bu,br,bq,bp,bn,a9,aS,aR,aQ,aP,aw,au,aq,ao,aT,bz,bx,bw,bv,aJ,aF,aE,aL,bf,be,bd,bg,aZ,aY,aX,aW,aV,ai,aO,aN,aU,Tr.bind_assoc,Tr.draw_bind,bD]
 refine fj (n:=159) (by omega) (by omega) (by decide) λu u0 u1=>?_
 obtain ⟨m,hm,h0,h1,h2⟩:=ZgR u0 (by omega)
 have r1:gH [.int (1+u)]=.ret (cB 0 (1+u)):=lA (ir (by omega) (by omega))
 have hs1:small (cB 0 (1+u)).length=true:=dJ (by rw [dC]; omega)
 simp_arith only [bj,bi,bh,az,am,aD,ay,aB,aA,aj,ak,bc,aK,ba,aM,aI,aH,aG,bu,br,bq,bp,bn,a9,aS,aR,aQ,aP,aw,au,aq,ao,aT,bz,bx,bw,bv,aJ,aF,aE,aL,bf,be,bd,bg,aZ,aY,aX,aW,aV,ai,aO,aN,aU,Tr.bind_assoc,Tr.draw_bind,bD,r1,hs1]
 refine gy (n:=156) (n':=0) (uV (n:=26) (P:=λy=>∃ ls,y=tI ls/\DayS m.toNat ls) (Q:=λys=>∃ fs:List (List Int),ys=fs.map tI/\(∀ ls∈fs,DayS m.toNat ls)/\fs.length=(1+u).toNat) (by rw [dC]; omega) (λx hx=>?_) λys hl hys=>?_) (by decide) ?_
 ·simp_arith only [Zcn,bj,bi,bh,az,am,aD,ay,aB,aA,aj,ak,bc,aK,ba,aM,aI,aH,aG,bu,br,bq,bp,bn,a9,aS,aR,aQ,aP,aw,au,aq,ao,aT,bz,bx,bw,bv,aJ,aF,aE,aL,bf,be,bd,bg,aZ,aY,aX,aW,aV,ai,aO,aN,aU,Tr.bind_assoc,Tr.draw_bind,bD,hm]
  refine gy (n':=0) (Zhk h0 h1) (by decide) ?_
  rintro _ ⟨d,rfl,hd⟩
  simp_arith only [bj,bi,bh,az,am,aD,ay,aB,aA,aj,ak,bc,aK,ba,aM,aI,aH,aG,bu,br,bq,bp,bn,a9,aS,aR,aQ,aP,aw,au,aq,ao,aT,bz,bx,bw,bv,aJ,aF,aE,aL,bf,be,bd,bg,aZ,aY,aX,aW,aV,ai,aO,aN,aU,Tr.bind_assoc,Tr.draw_bind,bD]
  exact fe ⟨d,rfl,hd⟩
 ·obtain ⟨fs,rfl,hf⟩:=Zel hys
  refine ⟨fs,rfl,hf,?_⟩
  rw [List.length_map,dC] at hl
  omega
 ·rintro _ ⟨fs,rfl,hf,hl⟩
  try simp_arith only [bj,bi,bh,az,am,aD,ay,aB,aA,aj,ak,bc,aK,ba,aM,aI,aH,aG,bu,br,bq,bp,bn,a9,aS,aR,aQ,aP,aw,au,aq,ao,aT,bz,bx,bw,bv,aJ,aF,aE,aL,bf,be,bd,bg,aZ,aY,aX,aW,aV,ai,aO,aN,aU,Tr.bind_assoc,Tr.draw_bind,bD]
  exact fe ⟨fs,rfl,⟨m.toNat,hf,by rw [hl]; exact h2,by omega⟩,by omega,by omega⟩
theorem ZkC {s:Shp} {ns:List Int} (hl:ns.length=s.n) (hb:∀ (i:Nat) (v:Int),ns[i]?=some v->-s.depth+i<=v/\v<=s.top):∃ g:Int->Int,ns=s.row g/\s.RlOk g:=by
 refine ⟨λx=>(ns[(x+s.depth).toNat]?).getD 0,?_,λx x1 x2=>?_⟩
 ·refine List.ext_getElem? λi=>?_
  by_cases hi:i < s.n
  ·have hn:s.n=(s.top+1 - -s.depth).toNat:=rfl
   have:=oz (s:=s) (f:=λx=>(ns[(x+s.depth).toNat]?).getD 0) (x:=-s.depth+i) (by omega) (by omega)
   have e:(-s.depth+(i:Int)+s.depth).toNat=i:=by omega
   rw [e] at this
   rw [this,List.getElem?_eq_getElem (by omega)]
   rfl
  ·rw [List.getElem?_eq_none (by omega),List.getElem?_eq_none (by rw [oy]; omega)]
 ·have hn:s.n=(s.top+1 - -s.depth).toNat:=rfl
  have hi:(x+s.depth).toNat < ns.length:=by omega
  have:=hb (x+s.depth).toNat ns[(x+s.depth).toNat] (List.getElem?_eq_getElem hi)
  show x<=(ns[(x+s.depth).toNat]?).getD 0/\(ns[(x+s.depth).toNat]?).getD 0<=s.top
  rw [List.getElem?_eq_getElem hi]
  show x<=ns[(x+s.depth).toNat]/\ns[(x+s.depth).toNat]<=s.top
  omega
theorem ZgD (s:Shp):rP s.d none (some 2)=.ret (.tuple [.int s.top,.int s.depth]):=by unfold Shp.d; rfl
noncomputable abbrev jG (s:Shp) (days:Int) (RU:Sl) (J6:Sl) (way mark:Int) (LV J10 J11:Sl):List Sl:=[.pen,.d s.d,.d (.int days),.d (.int s.top),.d (.int s.depth),RU,J6,.d (.int way),.d (.int mark),LV,J10,J11]
theorem mD {s:Shp} {days way mark x:Int} (w0:0<=way) (w1:way < 4) (m1:mark<=s.top) (x2:x<=s.top) (hw:s.top - x+1 < 1000) {ns:List Int} (hl:ns.length<=100) (RU J6 J11:Sl) :
  Al (pM (jG s days RU J6 way mark (.own (ns.map PyData.int)) (.d (.int x)) J11)) 1 λo=>∃ (v:Int) (J:Sl),o=.next (jG s days RU J6 way mark (.own ((ns++[v]).map PyData.int)) (.d (.int x)) J)/\x<=v/\v<=s.top:=by
 have hs4:small 4=true:=dJ (by decide)
 have hs2:small ((ns.map PyData.int).length+1)=true:=dJ (by rw [List.length_map]; omega)
 obtain ⟨z,hz,z0,z1⟩:=sP (xs:=[PyData.int x,.int s.top,.int (gL x mark),.int x]) (lo:=x) (hi:=s.top) (by
  have:x<=gL x mark/\gL x mark<=s.top:=by unfold gL; split <;> omega
  simp [lm]; omega) w0 w1
 have ap:∀ v:Int,ns.map PyData.int++[PyData.int v]=(ns++[v]).map PyData.int:=λv=>by rw [List.map_append]; rfl
 by_cases h3:way=3
 ·have e3:(way == 3)=true:=by rw [h3]; rfl
  simp_arith only [pM,jG,bj,bi,bh,az,am,aD,ay,aB,aA,aj,ak,bc,aK,ba,aM,aI,aH,aG,bu,br,bq,bp,bn,a9,aS,aR,aQ,aP,aw,au,aq,ao,aT,bz,bx,bw,bv,aJ,aF,aE,aL,bf,be,bd,bg,aZ,aY,aX,aW,aV,ai,aO,aN,aU,Tr.bind_assoc,Tr.draw_bind,bD,hz,e3]
  refine fj (n:=0) (by omega) (by omega) (by decide) λr r0 r1=>?_
  simp_arith only [bj,bi,bh,az,am,aD,ay,aB,aA,aj,ak,bc,aK,ba,aM,aI,aH,aG,bu,br,bq,bp,bn,a9,aS,aR,aQ,aP,aw,au,aq,ao,aT,bz,bx,bw,bv,aJ,aF,aE,aL,bf,be,bd,bg,aZ,aY,aX,aW,aV,ai,aO,aN,aU,Tr.bind_assoc,Tr.draw_bind,bD,hs2,ap]
  exact fe ⟨x+r,_,rfl,by omega,by omega⟩
 ·have e3:(way == 3)=false:=beq_eq_false_iff_ne.mpr h3
  simp_arith only [pM,jG,bj,bi,bh,az,am,aD,ay,aB,aA,aj,ak,bc,aK,ba,aM,aI,aH,aG,bu,br,bq,bp,bn,a9,aS,aR,aQ,aP,aw,au,aq,ao,aT,bz,bx,bw,bv,aJ,aF,aE,aL,bf,be,bd,bg,aZ,aY,aX,aW,aV,ai,aO,aN,aU,Tr.bind_assoc,Tr.draw_bind,bD,hz,e3,hs2,ap]
  exact fe ⟨z,_,rfl,z0,z1⟩
theorem rl2 {s:Shp} (h:s.Ok) (h9:s.top+s.depth<=39) {days:Int} {rl:List (Int->Int)} (hr:∀ g∈rl,s.RlOk g) (hl:rl.length<=100) (J6 J7 J8 J9 J10 J11:Sl) :
  Al (tR [.pen,.d s.d,.d (.int days),.d (.int s.top),.d (.int s.depth),.own (rl.map λg=>tI (s.row g)),J6,J7,J8,J9,J10,J11]) 42 λo=>∃ (g:Int->Int) (J7 J8 J9 J10 J11:Sl),o=.next [.pen,.d s.d,.d (.int days),.d (.int s.top),.d (.int s.depth),.own ((rl++[g]).map λg=>tI (s.row g)),J6,J7,J8,J9,J10,J11]/\s.RlOk g:=by
 have:=h.t0
 have:=h.d0
 have hn:=h.n_eq
 have r1:oC [.int (0 - s.depth),.int (s.top+1)]=.ret (cB (0 - s.depth) (s.top+1)):=Zlg (ir (by omega) (by omega)) (ir (by omega) (by omega))
 simp_arith only [tR,bj,bi,bh,az,am,aD,ay,aB,aA,aj,ak,bc,aK,ba,aM,aI,aH,aG,bu,br,bq,bp,bn,a9,aS,aR,aQ,aP,aw,au,aq,ao,aT,bz,bx,bw,bv,aJ,aF,aE,aL,bf,be,bd,bg,aZ,aY,aX,aW,aV,ai,aO,aN,aU,Tr.bind_assoc,Tr.draw_bind,bD]
 refine fj (n:=41) (by decide) (by decide) (by decide) λway w0 w1=>?_
 try simp_arith only [bj,bi,bh,az,am,aD,ay,aB,aA,aj,ak,bc,aK,ba,aM,aI,aH,aG,bu,br,bq,bp,bn,a9,aS,aR,aQ,aP,aw,au,aq,ao,aT,bz,bx,bw,bv,aJ,aF,aE,aL,bf,be,bd,bg,aZ,aY,aX,aW,aV,ai,aO,aN,aU,Tr.bind_assoc,Tr.draw_bind,bD]
 refine fj (n:=40) (by omega) (by omega) (by decide) λmark m0 m1=>?_
 simp_arith only [bj,bi,bh,az,am,aD,ay,aB,aA,aj,ak,bc,aK,ba,aM,aI,aH,aG,bu,br,bq,bp,bn,a9,aS,aR,aQ,aP,aw,au,aq,ao,aT,bz,bx,bw,bv,aJ,aF,aE,aL,bf,be,bd,bg,aZ,aY,aX,aW,aV,ai,aO,aN,aU,Tr.bind_assoc,Tr.draw_bind,bD,r1]
 refine gy (n:=40) (n':=0) (P:=λo=>∃ (ns:List Int) (J10 J11:Sl),o=.next (jG s days (.own (rl.map λg=>tI (s.row g))) J6 way mark (.own (ns.map PyData.int)) J10 J11)/\ns.length=s.n/\∀ (i:Nat) (v:Int),ns[i]?=some v->-s.depth+i<=v/\v<=s.top) ?_ (by decide) ?_
 ·refine jt (n:=1) (λpre ρ=>∃ (ns:List Int) (J10 J11:Sl),ρ=jG s days (.own (rl.map λg=>tI (s.row g))) J6 way mark (.own (ns.map PyData.int)) J10 J11/\ns.length=pre.length/\∀ (i:Nat) (v:Int),ns[i]?=some v->-s.depth+i<=v/\v<=s.top) ⟨[],_,_,rfl,rfl,λi v h=>by simp at h⟩ (by rw [dC]; omega) ?_ ?_
  ·rintro pre x post ρ e ⟨ns,J10,J11,rfl,hl2,hb⟩
   obtain ⟨rfl,hpre⟩:=ZbP e
   refine ⟨_,rfl,?_⟩
   refine lN (mD w0 w1 (by omega) (x:=0 - s.depth+pre.length) (by omega) (by omega) (by omega) _ _ _) (Nat.le_refl _) ?_
   rintro _ ⟨v,J,rfl,v0,v1⟩
   refine ⟨_,rfl,ns++[v],_,J,rfl,by simp [hl2],λi u hu=>?_⟩
   by_cases hi:i < ns.length
   ·rw [List.getElem?_append_left hi] at hu
    exact hb i u hu
   ·have hi2:=(List.getElem?_eq_some_iff.mp hu).1
    rw [List.length_append,List.length_singleton] at hi2
    have ei:i=ns.length:=by omega
    subst ei
    rw [List.getElem?_append_right (Nat.le_refl _),Nat.sub_self] at hu
    cases hu
    omega
  ·rintro ρ ⟨ns,J10,J11,rfl,hl2,hb⟩
   rw [dC] at hl2
   exact ⟨ns,_,_,rfl,by omega,hb⟩
 ·rintro _ ⟨ns,J10,J11,rfl,hl2,hb⟩
  obtain ⟨g,rfl,hg⟩:=ZkC hl2 hb
  have hs2:small ((rl.map λg=>tI (s.row g)).length+1)=true:=dJ (by rw [List.length_map]; omega)
  have ap:(rl.map λg=>tI (s.row g))++[PyData.tuple ((s.row g).map PyData.int)]=(rl++[g]).map λg=>tI (s.row g):=by rw [List.map_append]; rfl
  simp_arith only [jG,bj,bi,bh,az,am,aD,ay,aB,aA,aj,ak,bc,aK,ba,aM,aI,aH,aG,bu,br,bq,bp,bn,a9,aS,aR,aQ,aP,aw,au,aq,ao,aT,bz,bx,bw,bv,aJ,aF,aE,aL,bf,be,bd,bg,aZ,aY,aX,aW,aV,ai,aO,aN,aU,Tr.bind_assoc,Tr.draw_bind,bD,hs2,ap]
  exact fe ⟨g,_,_,_,_,_,rfl,hg⟩
theorem Zhf {s:Shp} (h:s.Ok) (h9:s.top+s.depth<=39) {days:Int} (d0:0<=days) (d1:days<=6):Al (pe [.pen,.d s.d,.d (.int days)]) 252 λr=>∃ rl:List (Int->Int),r=.d (rD s rl)/\(rl.length:Int)=days/\∀ g∈rl,s.RlOk g:=by
 have r1:gH [.int days]=.ret (cB 0 days):=lA (ir (by omega) (by omega))
 simp_arith only [pe,bj,bi,bh,az,am,aD,ay,aB,aA,aj,ak,bc,aK,ba,aM,aI,aH,aG,bu,br,bq,bp,bn,a9,aS,aR,aQ,aP,aw,au,aq,ao,aT,bz,bx,bw,bv,aJ,aF,aE,aL,bf,be,bd,bg,aZ,aY,aX,aW,aV,ai,aO,aN,aU,Tr.bind_assoc,Tr.draw_bind,bD,ZgD,r1]
 refine gy (n:=252) (n':=0) (P:=λo=>∃ (rl:List (Int->Int)) (J6 J7 J8 J9 J10 J11:Sl),o=.next [.pen,.d s.d,.d (.int days),.d (.int s.top),.d (.int s.depth),.own (rl.map λg=>tI (s.row g)),J6,J7,J8,J9,J10,J11]/\(rl.length:Int)=days/\∀ g∈rl,s.RlOk g) ?_ (by decide) ?_
 ·refine jt (n:=42) (λpre ρ=>∃ (rl:List (Int->Int)) (J6 J7 J8 J9 J10 J11:Sl),ρ=[.pen,.d s.d,.d (.int days),.d (.int s.top),.d (.int s.depth),.own (rl.map λg=>tI (s.row g)),J6,J7,J8,J9,J10,J11]/\rl.length=pre.length/\∀ g∈rl,s.RlOk g) ⟨[],_,_,_,_,_,_,rfl,rfl,λg h=>by cases h⟩ (by rw [dC]; omega) ?_ ?_
  ·rintro pre x post ρ e ⟨rl,J6,J7,J8,J9,J10,J11,rfl,hl,hg⟩
   obtain ⟨rfl,hpre⟩:=ZbP e
   refine ⟨_,rfl,?_⟩
   refine lN (rl2 h h9 hg (by omega) _ _ _ _ _ _) (Nat.le_refl _) ?_
   rintro _ ⟨g,K7,K8,K9,K10,K11,rfl,hgo⟩
   refine ⟨_,rfl,rl++[g],_,K7,K8,K9,K10,K11,rfl,by simp [hl],λf hf=>?_⟩
   rcases List.mem_append.mp hf with z | z
   ·exact hg f z
   ·simp at z; subst z; exact hgo
  ·rintro ρ ⟨rl,J6,J7,J8,J9,J10,J11,rfl,hl,hg⟩
   rw [dC] at hl
   exact ⟨rl,_,_,_,_,_,_,rfl,by omega,hg⟩
 ·rintro _ ⟨rl,J6,J7,J8,J9,J10,J11,rfl,hl,hg⟩
  simp_arith only [bj,bi,bh,az,am,aD,ay,aB,aA,aj,ak,bc,aK,ba,aM,aI,aH,aG,bu,br,bq,bp,bn,a9,aS,aR,aQ,aP,aw,au,aq,ao,aT,bz,bx,bw,bv,aJ,aF,aE,aL,bf,be,bd,bg,aZ,aY,aX,aW,aV,ai,aO,aN,aU,Tr.bind_assoc,Tr.draw_bind,bD]
  exact fe ⟨rl,rfl,hl,hg⟩
structure RwsB (c k:Nat) (X:List Rw):Prop where
 len:X.length<=c ^ k
 row:∀ p∈X,p.1.length=k/\(∀ f∈p.1,0<=f/\f < 16)/\nb (30 * k+1) p.2
theorem ZbG (c:Nat):RwsB c 0 [([],1)]:=⟨by simp,λp hp=>by
 simp at hp
 subst hp
 exact ⟨rfl,(λf h=>by cases h),(show (1:Int).natAbs < 2 ^ (30 * 0+1) by decide)⟩⟩
theorem vh {c:Nat} (d:List Int) (hd:(cO 0 d).length<=c):∀ X:List Rw,(cW X d).length<=X.length * c
 | []=>by simp [cW]
 | p::X=>by
  have ih:=vh d hd X
  have e:cW (p::X) d=((cO 0 d).map λq=>(p.1++[q.1],p.2 * q.2))++cW X d:=by unfold cW; rw [List.flatMap_cons]
  rw [e,List.length_append,List.length_map,List.length_cons,Nat.succ_mul]
  omega
theorem Zhr {c k:Nat} {X:List Rw} (h:RwsB c k X) {d:List Int} (hd:DayS c d):RwsB c (k+1) (cW X d):=by
 refine ⟨Nat.le_trans (vh d hd.seen X) ?_,λp hp=>?_⟩
 ·rw [Nat.pow_succ]
  exact Nat.mul_le_mul_right _ h.len
 ·unfold cW at hp
  obtain ⟨q,hq,hp⟩:=List.mem_flatMap.mp hp
  obtain ⟨z,hz,rfl⟩:=List.mem_map.mp hp
  obtain ⟨a,b,c⟩:=h.row q hq
  obtain ⟨z1,z2,z3⟩:=rN hz
  have hlen:=hd.len
  refine ⟨by simp [a],λf hf=>?_,ce (eZ c (hd.B.nb _ z3)) (by omega)⟩
  rcases List.mem_append.mp hf with hf | hf
  ·exact b f hf
  ·simp at hf
   subst hf
   exact ⟨by omega,by omega⟩
theorem ZbF {c:Nat} {fs:List (List Int)} (hf:∀ l∈fs,DayS c l):∀ {k:Nat} {X:List Rw},RwsB c k X->RwsB c (k+fs.length) (fs.foldl cW X):=by
 induction fs with
 | nil=>exact λh=>h
 | cons d fs ih =>
  intro k X h
  have:=ih (λl hl=>hf l (List.mem_cons_of_mem _ hl)) (Zhr h (hf d (by simp)))
  rw [List.foldl_cons,List.length_cons]
  have e:k+(fs.length+1)=k+1+fs.length:=by omega
  rw [e]
  exact this
theorem Zpm {xs ys:List PyData} (h:small (xs.length+ys.length)=true):bZ j9 (.tuple xs) (.tuple ys)=.ret (.tuple (xs++ys)):=by
 cases xs with
 | nil=>exact ZdV
 | cons x xs=>exact ZdU h
theorem rwq {r:List Int} (hr:r.length<=10) {w:Int} (hw:fit w=true):∀ (l:List Int) (k:Nat),(∀ v∈l,fit v=true)->gM (lf (cI (bJ (bE 0) (bJ (bE 1) cG))) kN kJ [.un,.un,.d (tI r),.d (.int w)]) (enu k l)=.ret ((cO k l).map λq=>eY (r++[q.1],w * q.2))
 | [],k,_=>rfl
 | v::l,k,hv=>by
  have ih:=rwq hr hw l (k+1) λu hu=>hv u (List.mem_cons_of_mem _ hu)
  have hadd:bZ j9 (tI r) (.tuple [.int k])=.ret (tI (r++[(k:Int)])):=by
   unfold tI
   rw [Zpm (dJ (by rw [List.length_map]; show _+1<=_; omega)),List.map_append]
   rfl
  have g2:=hv v (by simp)
  by_cases h:v > 0
  ·have e:lf (cI (bJ (bE 0) (bJ (bE 1) cG))) kN kJ [.un,.un,.d (tI r),.d (.int w)] (.tuple [.int k,.int v])=.ret (some (eY (r++[(k:Int)],w * v))):=by
    simp_arith only [kN,kJ,Tr.bind_assoc,Tr.draw_bind,hadd,hw,g2,decide_eq_true h]
    rfl
   rw [enu,gM,e,Tr.ret_bind,ih,Tr.ret_bind,cO,if_pos h]
   rfl
  ·have e:lf (cI (bJ (bE 0) (bJ (bE 1) cG))) kN kJ [.un,.un,.d (tI r),.d (.int w)] (.tuple [.int k,.int v])=.ret none:=by
    simp_arith only [kN,kJ,Tr.bind_assoc,Tr.draw_bind,decide_eq_false h]
   rw [enu,gM,e,Tr.ret_bind,ih,Tr.ret_bind,cO,if_neg h]
   rfl
theorem rw1 {d:List Int} (hd:DayB d) {r:List Int} (hr:r.length<=10) {w:Int} (hw:nb 200 w) {L:List PyData} (hL:L.length<=3000) (F RW B:Sl) :
  tT [F,RW,B,.d (tI d),.own L,.d (tI r),.d (.int w)]=.ret (.next [F,RW,B,.d (tI d),.own (L++(cO 0 d).map λq=>eY (r++[q.1],w * q.2)),.d (tI r),.d (.int w)]):=by
 have hdl:=hd.len
 have e0:fX (d.map PyData.int)=enu 0 d:=Znd d
 have hs:small (enu 0 d).length=true:=dJ (by rw [ZdZ]; omega)
 have hmap:=rwq hr (cE hw (by decide)) d 0 λv hv=>cE (hd.nb v hv) (by decide)
 have hs2:small (L.length+((cO 0 d).map λq=>eY (r++[q.1],w * q.2)).length)=true:=dJ (by rw [List.length_map]; have:=rO d 0; omega)
 simp_arith only [tT,Tr.bind_assoc,Tr.draw_bind,m8,e0,hs,hmap,ZdT hs2]
theorem rw3 {c:Nat} {d:List Int} (hd:DayS c d) {k:Nat} (hk:k<=6) {X:List Rw} (hX:RwsB c k X) (hXl:X.length<=256) {b:Int} (hb:nb 400 b) (F J4 J5 J6:Sl) :
  Al (tS [F,.d (.list (X.map eY)),.d (.int b),.d (tI d),J4,J5,J6]) 0 λo=>∃ J4 J5 J6:Sl,o=.next [F,.d (.list ((cW X d).map eY)),.d (.int (b * d.sum)),.d (tI d),J4,J5,J6]:=by
 have g1:=cE hb (by decide)
 have g2:=cE (mf hd.B) (by decide)
 simp_arith only [tS,Tr.bind_assoc,Tr.draw_bind]
 refine gy (n:=0) (n':=0) (P:=λo=>∃ J5 J6:Sl,o=.next [F,.d (.list (X.map eY)),.d (.int b),.d (tI d),.own ((cW X d).map eY),J5,J6]) ?_ (by decide) ?_
 ·refine jt (n:=0) (λpre ρ=>∃ J5 J6:Sl,ρ=[F,.d (.list (X.map eY)),.d (.int b),.d (tI d),.own ((cW (X.take pre.length) d).map eY),J5,J6]) ⟨J5,J6,?_⟩ (by simp) ?_ ?_
  ·simp [cW]
  ·rintro pre x post ρ e ⟨K4,K5,rfl⟩
   have hx:(X.map eY)[pre.length]?=some x:=by rw [e]; simp
   rw [List.getElem?_map] at hx
   obtain ⟨p,hp,rfl⟩:=Option.map_eq_some_iff.mp hx
   obtain ⟨q1,q2,q3⟩:=hX.row p (List.mem_of_getElem? hp)
   have hl:=vh (c:=8) d (by have:=rO d 0; have:=hd.len; omega) (X.take pre.length)
   have hl2:(X.take pre.length).length<=256:=by rw [List.length_take]; omega
   have hl3:(cW (X.take pre.length) d).length<=2048:=Nat.le_trans hl (Nat.le_trans (Nat.mul_le_mul_right 8 hl2) (by decide))
   have el:(pre++[eY p]).length=pre.length+1:=by simp
   have eS:cW (X.take (pre.length+1)) d=cW (X.take pre.length) d++(cO 0 d).map λq=>(p.1++[q.1],p.2 * q.2):=by
    rw [List.take_add_one,hp]
    unfold cW
    simp [List.flatMap_append]
   rw [el,eS,List.map_append,List.map_map]
   exact ⟨_,rfl,qk (rw1 hd.B (r:=p.1) (w:=p.2) (by omega) (ce q3 (by omega)) (by rw [List.length_map]; omega) _ _ _) ⟨_,rfl,_,_,rfl⟩⟩
  ·rintro ρ ⟨K4,K5,rfl⟩
   exact ⟨K4,K5,by rw [List.length_map,List.take_length]⟩
 ·rintro _ ⟨K4,K5,rfl⟩
  simp_arith only [Tr.bind_assoc,Tr.draw_bind,rJ,g1,g2]
  exact fe ⟨_,_,_,rfl⟩
theorem Zct (d:List Int):∀ fs:List (List Int),prd (fs++[d])=prd fs * d.sum
 | []=>rfl
 | e::fs=>by
  rw [List.cons_append,prd,Zct d fs,prd]
  grind
theorem mH:∀ {fs:List (List Int)},(∀ l∈fs,DayB l)->nb (46 * fs.length+1) (prd fs)
 | [],_=>(show (1:Int).natAbs < 2 ^ (46 * 0+1) by decide)
 | d::fs,h=>by
  rw [prd,List.length_cons]
  exact ce (eZ (mH λl hl=>h l (List.mem_cons_of_mem _ hl)) (mf (h d (by simp)))) (by omega)
theorem Znl {fs:List (List Int)} (hF:FalS fs):pf [.d (fD fs)]=.ret (.d (.tuple [.list ((fs.foldl cW [([],1)]).map eY),.int (prd fs)]))/\∃ c,RwsB c fs.length (fs.foldl cW [([],1)])/\c ^ fs.length<=256:=by
 obtain ⟨c,hf,hc,c1⟩:=hF.ex
 have l0:=hF.l0
 have l1:=hF.l1
 have h8:∀ k,k<=fs.length->c ^ k<=256:=λk hk=>Nat.le_trans (Nat.pow_le_pow_right c1 hk) hc
 refine ⟨?_,c,by have:=ZbF hf (ZbG c); rwa [Nat.zero_add] at this,hc⟩
 apply ql
 have e0:PyData.list [.tuple [.tuple [],.int 1]]=.list (([([],1)]:List Rw).map eY):=rfl
 simp_arith only [pf,Tr.bind_assoc,Tr.draw_bind,ZjY,e0]
 refine gy (n:=0) (n':=0) (P:=λo=>∃ J3 J4 J5 J6:Sl,o=.next [.d (fD fs),.d (.list ((fs.foldl cW [([],1)]).map eY)),.d (.int (prd fs)),J3,J4,J5,J6]) ?_ (by decide) ?_
 ·refine jt (n:=0) (λpre ρ=>∃ J3 J4 J5 J6:Sl,ρ=[.d (fD fs),.d (.list (((fs.take pre.length).foldl cW [([],1)]).map eY)),.d (.int (prd (fs.take pre.length))),J3,J4,J5,J6]) ⟨_,_,_,_,rfl⟩ (by simp) ?_ ?_
  ·rintro pre x post ρ e ⟨J3,J4,J5,J6,rfl⟩
   have hx:(fs.map tI)[pre.length]?=some x:=by rw [e]; simp
   rw [List.getElem?_map] at hx
   obtain ⟨d,hd,rfl⟩:=Option.map_eq_some_iff.mp hx
   have hm:=List.mem_of_getElem? hd
   have hpl:pre.length < fs.length:=(List.getElem?_eq_some_iff.mp hd).1
   have hR:=ZbF (fs:=fs.take pre.length) (λl hl=>hf l (List.mem_of_mem_take hl)) (ZbG c)
   have ek:0+(fs.take pre.length).length=pre.length:=by rw [List.length_take]; omega
   rw [ek] at hR
   have el:(pre++[tI d]).length=pre.length+1:=by simp
   have eT:(fs.take (pre.length+1)).foldl cW [([],1)]=cW ((fs.take pre.length).foldl cW [([],1)]) d:=by
    rw [List.take_add_one,hd,List.foldl_append]
    rfl
   have eP:prd (fs.take (pre.length+1))=prd (fs.take pre.length) * d.sum:=by
    rw [List.take_add_one,hd]
    exact Zct d _
   have hb:=mH (fs:=fs.take pre.length) λl hl=>(hf l (List.mem_of_mem_take hl)).B
   have hlt:(fs.take pre.length).length<=6:=by rw [List.length_take]; omega
   rw [el,eT,eP]
   refine ⟨_,rfl,lN (rw3 (hf d hm) (by omega) hR (Nat.le_trans hR.len (h8 _ (by omega))) (ce hb (by omega)) _ _ _ _) (Nat.le_refl _) ?_⟩
   rintro _ ⟨K4,K5,K6,rfl⟩
   exact ⟨_,rfl,_,_,_,_,rfl⟩
  ·rintro ρ ⟨J3,J4,J5,J6,rfl⟩
   exact ⟨J3,J4,J5,J6,by rw [List.length_map,List.take_length]⟩
 ·rintro _ ⟨J3,J4,J5,J6,rfl⟩
  simp_arith only [Tr.bind_assoc,Tr.draw_bind]
  exact fe rfl
theorem ZeM {s:Shp} (h:s.Ok) {fs:List (List Int)} (hf:∀ l∈fs,DayB l) (hl:fs.length<=6) {rl:List (Int->Int)} (hr:∀ g∈rl,s.RlOk g):Bd s 500 λx=>av fs λr=>s.rc rl r x:=λx x1 x2 =>
 ce (ZeL (b:=108) hf λr r1 r2=>ce (sC h hr r1 x x1 x2) (by omega)) (by omega)
theorem Zoh {s:Shp} {d:List Int} {fs:List (List Int)} {g:Int->Int} {rl:List (Int->Int)} (x:Int):cby s d (λy=>av fs λr=>s.rc rl r y) (prd fs) g x=av (d::fs) λr=>s.rc (g::rl) r x:=by
 rw [ZoY]
 unfold cby Shp.wg
 rw [Int.mul_comm (prd fs * d.sum)]
theorem Znt {s:Shp} (h:s.Ok) {fs:List (List Int)} (hf:∀ l∈fs,DayB l) (hl:fs.length<=6) {rl:List (Int->Int)} (hr:∀ g∈rl,s.RlOk g) (hrl:rl.length=fs.length) {x:Int} (x1:-s.depth<=x) (x2:x<=s.top) :
  pF [.d s.d,.d (fD fs),.d (rD s rl),.d (.int x)]=.ret (.d (mn (av fs λr=>s.rc rl r x) (prd fs))):=by
 have hsub:∀ k,∀ l∈fs.drop k,DayB l:=λk l hl=>hf l (List.mem_of_mem_drop hl)
 have hrs:∀ k,∀ g∈rl.drop k,s.RlOk g:=λk g hg=>hr g (List.mem_of_mem_drop hg)
 have hA:∀ k,Bd s 500 λx=>av (fs.drop k) λr=>s.rc (rl.drop k) r x:=λk=>ZeM h (hsub k) (by rw [List.length_drop]; omega) (hrs k)
 have hP:∀ k,nb 500 (prd (fs.drop k)):=λk=>ce (mH (hsub k)) (by rw [List.length_drop]; omega)
 have r1:gH [.int (fs.length:Int)]=.ret (cB 0 fs.length):=lA (ir (by omega) (by omega))
 have ef:s.row s.fin=s.row λx=>av (fs.drop fs.length) λr=>s.rc (rl.drop fs.length) r x:=by
  rw [List.drop_length,<- hrl,List.drop_length]
  rfl
 have ep:(1:Int)=prd (fs.drop fs.length):=by rw [List.drop_length]; rfl
 apply ql
 simp_arith only [pF,Tr.bind_assoc,Tr.draw_bind,Znr h,Zc9,r1]
 rw [ef]
 refine gy (n:=0) (n':=0) (P:=λo=>∃ J6:Sl,o=.next [.d s.d,.d (fD fs),.d (rD s rl),.d (.int x),.d (lI (s.row λx=>av fs λr=>s.rc rl r x)),.d (.int (prd fs)),J6]) ?_ (by decide) ?_
 ·refine jt (n:=0) (λpre ρ=>∃ J6:Sl,ρ=[.d s.d,.d (fD fs),.d (rD s rl),.d (.int x),.d (lI (s.row λx=>av (fs.drop (fs.length - pre.length)) λr=>s.rc (rl.drop (fs.length - pre.length)) r x)),.d (.int (prd (fs.drop (fs.length - pre.length)))),J6]) ⟨.un,?_⟩ (by simp) ?_ ?_
  ·rw [List.length_nil,Nat.sub_zero,<- ep]
   rfl
  ·rintro pre z post ρ e ⟨J6,rfl⟩
   obtain ⟨rfl,hpre⟩:=Zhy e
   have hk:pre.length < fs.length:=by omega
   obtain ⟨d,hd⟩:∃ d,fs[fs.length - (pre.length+1)]?=some d:=⟨_,List.getElem?_eq_getElem (by omega)⟩
   obtain ⟨g,hg⟩:∃ g,rl[fs.length - (pre.length+1)]?=some g:=⟨_,List.getElem?_eq_getElem (by omega)⟩
   have hdd:=hf d (List.mem_of_getElem? hd)
   have hgg:=hr g (List.mem_of_getElem? hg)
   have ez:(fs.length:Int) - 1 - (pre.length:Int)=((fs.length - (pre.length+1):Nat):Int):=by omega
   have es:fs.length - (pre.length+1)+1=fs.length - pre.length:=by omega
   have ed:fs.drop (fs.length - (pre.length+1))=d::fs.drop (fs.length - pre.length):=by
    rw [<- es]; exact List.drop_eq_getElem?_toList_append .. |>.trans (by rw [hd]; rfl)
   have eg:rl.drop (fs.length - (pre.length+1))=g::rl.drop (fs.length - pre.length):=by
    rw [<- es]; exact List.drop_eq_getElem?_toList_append .. |>.trans (by rw [hg]; rfl)
   have a1:bZ bT (fD fs) (.int ((fs.length - (pre.length+1):Nat):Int))=.ret (tI d):=by
    unfold fD
    rw [fE,qe (v:=tI d) (by omega) (by rw [Int.toNat_natCast,List.getElem?_map,hd]; rfl)]
    rfl
   have a2:bZ bT (rD s rl) (.int ((fs.length - (pre.length+1):Nat):Int))=.ret (tI (s.row g)):=by
    unfold rD
    rw [fE,qe (v:=tI (s.row g)) (by omega) (by rw [Int.toNat_natCast,List.getElem?_map,hg]; rfl)]
    rfl
   have e1:=Zns h hdd (hA (fs.length - pre.length)) (hP (fs.length - pre.length)) (by decide) hgg (m8 (s.row g))
   have g1:=cE (hP (fs.length - pre.length)) (by decide)
   have g2:=cE (mf hdd) (by decide)
   have el:∀ z:PyData,(pre++[z]).length=pre.length+1:=λz=>by simp
   have er:s.row (cby s d (λy=>av (fs.drop (fs.length - pre.length)) λr=>s.rc (rl.drop (fs.length - pre.length)) r y) (prd (fs.drop (fs.length - pre.length))) g)=s.row λx=>av (d::fs.drop (fs.length - pre.length)) λr=>s.rc (g::rl.drop (fs.length - pre.length)) r x:=Zhw λx _ _=>Zoh x
   rw [er] at e1
   rw [el,ed,eg,ez]
   refine ⟨_,rfl,?_⟩
   simp_arith only [Zdi,Tr.bind_assoc,Tr.draw_bind,a1,a2,e1,rJ,g1,g2]
   exact fe ⟨_,rfl,_,rfl⟩
  ·rintro ρ ⟨J6,rfl⟩
   refine ⟨J6,?_⟩
   rw [List.length_reverse,dC,show fs.length - ((fs.length:Int) - 0).toNat=0 by omega,List.drop_zero,List.drop_zero]
 ·rintro _ ⟨J6,rfl⟩
  have a3:=my (s:=s) (f:=λx=>av fs λr=>s.rc rl r x) x1 x2
  have hpos:0 < prd fs:=by rw [sN s]; exact uE hf
  have e3:=Zni (t:=av fs λr=>s.rc rl r x) (b:=prd fs) (Int.ne_of_gt hpos) (ce (mH hf) (by omega))
  simp_arith only [lI,Tr.bind_assoc,Tr.draw_bind,a3,e3]
  exact fe rfl
noncomputable def fR (s:Shp):List (Int->Int)->List Int->Int->List PyData
 | g::rl,f::row,x=>.tuple [.int x,.int (g x),.int f,.int (s.ord x (g x)+s.day (g x) f)]::fR s rl row (s.nx (g x) f)
 | _,_,_=>[]
theorem ZkD {f:Int} (h:0<=f/\f < 16):nb 40 f:=ce (de (k:=20) (by show -1048576 < _; omega) (by show _ < 1048576; omega)) (by decide)
theorem ZbI {s:Shp} (h:s.Ok):∀ {rl:List (Int->Int)} {row:List Int} {x:Int} {acc:List PyData} {R W a5 a6 a7 a8:Sl},(∀ g∈rl,s.RlOk g)->(∀ f∈row,0<=f/\f < 16)->-s.depth<=x->x<=s.top->acc.length+rl.length<=900 ->
  ∃ (x':Int) (b5 b6 b7 b8:Sl),dU (cI (bJ (bE 5) (bJ (bE 6) cG))) jT (dY (rl.map λg=>tI (s.row g)) (row.map PyData.int)) [.d s.d,R,.d (.int x),W,.own acc,a5,a6,a7,a8]=.ret (.next [.d s.d,R,.d (.int x'),W,.own (acc++fR s rl row x),b5,b6,b7,b8])
 | [],row,x,acc,R,W,a5,a6,a7,a8,_,_,_,_,_=>⟨x,a5,a6,a7,a8,by simp [dY,fR,lw]⟩
 | g::rl,[],x,acc,R,W,a5,a6,a7,a8,_,_,_,_,_=>⟨x,a5,a6,a7,a8,by simp [dY,fR,lw]⟩
 | g::rl,f::row,x,acc,R,W,a5,a6,a7,a8,hr,hf,x1,x2,ha=>by
  obtain ⟨g1,g2⟩:=hr g (by simp) x x1 x2
  have hf1:=hf f (by simp)
  rw [List.length_cons] at ha
  obtain ⟨x',b5,b6,b7,b8,e⟩:=ZbI h (rl:=rl) (row:=row) (x:=s.nx (g x) f) (acc:=acc++[.tuple [.int x,.int (g x),.int f,.int (s.ord x (g x)+s.day (g x) f)]]) (R:=R) (W:=W) (a5:=.d (tI (s.row g))) (a6:=.d (.int f)) (a7:=.d (.int (g x))) (a8:=.d (.int (s.ord x (g x)+s.day (g x) f))) (λy hy=>hr y (List.mem_cons_of_mem _ hy)) (λy hy=>hf y (List.mem_cons_of_mem _ hy)) (kS s _ _) (kR h g2 hf1.1) (by simp; omega)
  refine ⟨x',b5,b6,b7,b8,?_⟩
  have ez:dY ((g::rl).map λg=>tI (s.row g)) ((f::row).map PyData.int)=.tuple [tI (s.row g),.int f]::dY (rl.map λg=>tI (s.row g)) (row.map PyData.int):=rfl
  have hs:small (acc.length+1)=true:=dJ (by omega)
  have e1:=lB h (gT h x1 x2) (gT h (show -s.depth<=g x by omega) g2)
  have e2:=Zea h (gT h (show -s.depth<=g x by omega) g2) (ZkD hf1)
  have a1:bZ bT (tI (s.row g)) (.int (x+s.depth))=.ret (.int (g x)):=by
   unfold tI
   rw [fE,my x1 x2]
   rfl
  have et:jT [.d s.d,R,.d (.int x),W,.own acc,.d (tI (s.row g)),.d (.int f),a7,a8]=.ret (.next [.d s.d,R,.d (.int (s.nx (g x) f)),W,.own (acc++[.tuple [.int x,.int (g x),.int f,.int (s.ord x (g x)+s.day (g x) f)]]),.d (tI (s.row g)),.d (.int f),.d (.int (g x)),.d (.int (s.ord x (g x)+s.day (g x) f))]):=by
   simp_arith only [jT,Tr.bind_assoc,Tr.draw_bind,a1,e1,e2,lC,hs]
  have eg:(cI (bJ (bE 5) (bJ (bE 6) cG))) (.tuple [tI (s.row g),.int f]) [.d s.d,R,.d (.int x),W,.own acc,a5,a6,a7,a8]=some [.d s.d,R,.d (.int x),W,.own acc,.d (tI (s.row g)),.d (.int f),a7,a8]:=rfl
  rw [ez,ft,eg,Tr.of_some,Tr.ret_bind,ui,et,Tr.ret_bind,nu,e,List.append_assoc]
  rfl
theorem Znk {s:Shp} (h:s.Ok) {rl:List (Int->Int)} (hr:∀ g∈rl,s.RlOk g) {row:List Int} (hf:∀ f∈row,0<=f/\f < 16) {x:Int} (x1:-s.depth<=x) (x2:x<=s.top) (hl:rl.length<=100) :
  jP [.d s.d,.d (rD s rl),.d (.int x),.d (tI row)]=.ret (.own (fR s rl row x)):=by
 obtain ⟨x',b5,b6,b7,b8,e⟩:=ZbI h (acc:=[]) (R:=.d (rD s rl)) (W:=.d (tI row)) (a5:=.un) (a6:=.un) (a7:=.un) (a8:=.un) hr hf x1 x2 (by simp; omega)
 have i1:fW (rD s rl)=.ret (rl.map λg=>tI (s.row g)):=rfl
 simp_arith only [jP,Tr.bind_assoc,Tr.draw_bind,i1,m8,e]
theorem Zd3 (n:Int):mY [.d (.int n)]=.ret (.d (.bool true)):=by
 simp_arith only [mY,Tr.bind_assoc,Tr.draw_bind,Zi1]
 rfl
theorem Zno (s:Shp) {x y:Int} (h1:x<=y) (h2:y<=s.top):pB [.d s.d,.d (.int x),.d (.int y)]=.ret (.d (.bool true)):=by
 simp_arith only [pB,tF,Tr.bind_assoc,Tr.draw_bind,Zd3,decide_eq_true h1,decide_eq_true h2]
theorem uq {s:Shp} (h:s.Ok) {y f:Int} (hy:nb 20 y) (hf:nb 100 f):fV [.d s.d,.d (.int y),.d (.int f)]=.ret (.d (.int (s.day y f))):=by
 have hd:nb 7 s.depth:=by have:=h.t0; have:=h.d0; have:=h.td; exact de (by show -128 < _; omega) (by show _ < 128; omega)
 have hn:nb 110 (s.nx y f):=by
  unfold Shp.nx gL
  exact gZ (ce (gq hd) (by decide)) (ce (fq hy hf) (by decide))
 have f1:=cE h.keep (by decide)
 have f2:=cE hn (by decide)
 have f3:=cE (gq hn) (by decide)
 have f4:=cE h.lack (by decide)
 have f5:=cE h.lost (by decide)
 have f6:=cE (fq hn (fq hy hf)) (by decide)
 have e:=lC s y f
 by_cases hp:s.nx y f > 0
 ·simp_arith only [fV,Tr.bind_assoc,Tr.draw_bind,e,decide_eq_true hp,f1,f2,f5,f6,Shp.day,if_pos hp]
 ·simp_arith only [fV,Tr.bind_assoc,Tr.draw_bind,e,decide_eq_false hp,f3,f4,f5,f6,Shp.day,if_neg hp]
section
variable {C b l k d:Addr} {st:Sto} {s:Shp} {q:Qs} {n:Nat}
theorem pX (B:BkOk C st b l s q):rn (jQ C [.d (ah b)]) st=some (st,.d (.int q.st)):=by
 have h1:=B.at_
 simp_arith only [jQ,bj,bi,bh,az,am,aD,ay,aB,aA,aj,ak,bc,aK,ba,aM,aI,aH,aG,bu,br,bq,bp,bn,a9,aS,aR,aQ,aP,aw,au,aq,ao,aT,bz,bx,bw,bv,aJ,aF,aE,aL,bf,be,bd,bg,aZ,aY,aX,aW,aV,ai,aO,aN,aU,dR,dq,di,eD,eB,eA,eC,dc,db,dN,dM,eu,em,dL,eh,dP,dO,ec,dB,cx,bQ,eM,eN,eW,eL,eV,dF,eR,eQ,dE,dW,eO,eU,eJ,eK,eI,dQ,ne_eq,not_false_eq_true,h1]
theorem Zd7 (B:BkOk C st b l s q):rn (k8 C [.d (ah b)]) st=some (st,.d (.int (q.pd s))):=by
 have h1:=B.at_
 simp_arith only [k8,bj,bi,bh,az,am,aD,ay,aB,aA,aj,ak,bc,aK,ba,aM,aI,aH,aG,bu,br,bq,bp,bn,a9,aS,aR,aQ,aP,aw,au,aq,ao,aT,bz,bx,bw,bv,aJ,aF,aE,aL,bf,be,bd,bg,aZ,aY,aX,aW,aV,ai,aO,aN,aU,dR,dq,di,eD,eB,eA,eC,dc,db,dN,dM,eu,em,dL,eh,dP,dO,ec,dB,cx,bQ,eM,eN,eW,eL,eV,dF,eR,eQ,dE,dW,eO,eU,eJ,eK,eI,dQ,ne_eq,not_false_eq_true,h1]
theorem uo (B:BkOk C st b l s q) (hn:q.ds.length<=1000):rn (k9 C [.d (ah b)]) st=some (st,.own (q.ds.map Dy.t)):=by
 have h1:=B.at_
 have h2:=B.ls
 have hs:small (q.ds.map Dy.e).length=true:=dJ (by rw [List.length_map]; omega)
 have e:c8 (m7 (cI (bJ (bE 0) (bJ (bE 1) cG))) (oG C) (blk 2 [] [.d (ah b)])) (q.ds.map Dy.e)=.ret (q.ds.map Dy.t):=by
  generalize q.ds=ds
  induction ds with
  | nil=>rfl
  | cons y ds ih =>
   have e1:m7 (cI (bJ (bE 0) (bJ (bE 1) cG))) (oG C) (blk 2 [] [.d (ah b)]) y.e=.ret y.t:=by
    unfold Dy.e
    simp_arith only [oG,Tr.bind_assoc,Tr.draw_bind,ai,Zgv]
   rw [List.map_cons,c8,e1,Tr.ret_bind,ih]
   rfl
 simp_arith only [k9,bj,bi,bh,az,am,aD,ay,aB,aA,aj,ak,bc,aK,ba,aM,aI,aH,aG,bu,br,bq,bp,bn,a9,aS,aR,aQ,aP,aw,au,aq,ao,aT,bz,bx,bw,bv,aJ,aF,aE,aL,bf,be,bd,bg,aZ,aY,aX,aW,aV,ai,aO,aN,aU,dR,dq,di,eD,eB,eA,eC,dc,db,dN,dM,eu,em,dL,eh,dP,dO,ec,dB,cx,bQ,eM,eN,eW,eL,eV,dF,eR,eQ,dE,dW,eO,eU,eJ,eK,eI,dQ,ne_eq,not_false_eq_true,h1,h2,hs] at e ⊢
 simp_arith only [e,bj,bi,bh,az,am,aD,ay,aB,aA,aj,ak,bc,aK,ba,aM,aI,aH,aG,bu,br,bq,bp,bn,a9,aS,aR,aQ,aP,aw,au,aq,ao,aT,bz,bx,bw,bv,aJ,aF,aE,aL,bf,be,bd,bg,aZ,aY,aX,aW,aV,ai,aO,aN,aU,dR,dq,di,eD,eB,eA,eC,dc,db,dN,dM,eu,em,dL,eh,dP,dO,ec,dB,cx,bQ,eM,eN,eW,eL,eV,dF,eR,eQ,dE,dW,eO,eU,eJ,eK,eI,dQ,ne_eq,not_false_eq_true]
theorem Znu (h:s.Ok) (B:BkOk C st b l s q) (w:QOk s q n) (hg:q.gl=none) {y:Int} (h1:q.st<=y) (h2:y<=s.top):∃ st',rn (pH C [.d (ah b),.d (.int y)]) st=some (st',.d .none)/\BkOk C st' b l s ⟨q.st,some y,q.ds⟩/\∀ a,a≠b->st'.get a=st.get a:=by
 obtain ⟨x,g,ds⟩:=q
 have hg:g=none:=hg
 subst hg
 have b1:=B.at_
 have b2:=B.ls
 have nbl:l≠b:=λe=>by rw [e,b1] at b2; cases b2
 have h1:x<=y:=h1
 have e1:=lB h (x:=x) (y:=y) (w.nbs h).1 ((w.goal h1 h2).nbs h).2
 have e2:=Zno s h1 h2
 have b1:st.get b=some (.ins C (c9 s.d (.int x) .none (.int ((Qs.mk x none ds).pd s)) (ah l))):=b1
 simp_arith only [pH,bj,bi,bh,az,am,aD,ay,aB,aA,aj,ak,bc,aK,ba,aM,aI,aH,aG,bu,br,bq,bp,bn,a9,aS,aR,aQ,aP,aw,au,aq,ao,aT,bz,bx,bw,bv,aJ,aF,aE,aL,bf,be,bd,bg,aZ,aY,aX,aW,aV,ai,aO,aN,aU,dR,dq,di,eD,eB,eA,eC,dc,db,dN,dM,eu,em,dL,eh,dP,dO,ec,dB,cx,bQ,eM,eN,eW,eL,eV,dF,eR,eQ,dE,dW,eO,eU,eJ,eK,eI,dQ,ne_eq,not_false_eq_true,b1,e1,e2,pR,Bool.not_true,Bool.not_false]
 refine ⟨_,rfl,⟨?_,?_⟩,λa ha=>?_⟩
 ·rw [cx,ZcC]
  rfl
 ·rw [bQ nbl,bQ nbl]
  exact b2
 ·rw [bQ ha,bQ ha]
end
section
variable {C b l k d:Addr} {st:Sto} {s:Shp} {q:Qs} {n:Nat}
theorem Zd8 (h:s.Ok) (B:BkOk C st b l s q) (w:QOk s q n) (hn:q.ds.length<=1000) {f:Int} (f0:0<=f) (f1:f < 20000000000000000000000000000) :
  ∃ st',rn (jR C [.d (ah b),.d (.int f)]) st=some (st',.d .none)/\BkOk C st' b l s (q.fall s f)/\∀ a,a≠b->a≠l->st'.get a=st.get a:=by
 have b1:=B.at_
 have b2:=B.ls
 have nbl:l≠b:=λe=>by rw [e,b1] at b2; cases b2
 have nlb:b≠l:=λe=>nbl e.symm
 have e0:=Zd3 f
 have hp:decide (f < 0)=false:=decide_eq_false (by omega)
 obtain ⟨k1,k2⟩:=w.nbs h
 have e1:=uq h (y:=q.lv) (f:=f) k2 (mO f0 f1)
 have hm:small ((q.ds.map Dy.e).length+1)=true:=dJ (by rw [List.length_map]; omega)
 have e2:=lB h k1 k2
 have e3:=lC s q.lv f
 have e4:=ZiC s q f
 obtain ⟨x,g,ds⟩:=q
 cases g with
 | none =>
  have b1:st.get b=some (.ins C (c9 s.d (.int x) .none (.int ((Qs.mk x none ds).pd s)) (ah l))):=b1
  have e1:fV [.d s.d,.d (.int x),.d (.int f)]=.ret (.d (.int (s.day x f))):=e1
  have e2:gr [.d s.d,.d (.int x),.d (.int x)]=.ret (.d (.int (s.ord x x))):=e2
  have e3:iL [.d s.d,.d (.int x),.d (.int f)]=.ret (.d (.int (s.nx x f))):=e3
  simp_arith only [jR,bj,bi,bh,az,am,aD,ay,aB,aA,aj,ak,bc,aK,ba,aM,aI,aH,aG,bu,br,bq,bp,bn,a9,aS,aR,aQ,aP,aw,au,aq,ao,aT,bz,bx,bw,bv,aJ,aF,aE,aL,bf,be,bd,bg,aZ,aY,aX,aW,aV,ai,aO,aN,aU,dR,dq,di,eD,eB,eA,eC,dc,db,dN,dM,eu,em,dL,eh,dP,dO,ec,dB,cx,bQ,eM,eN,eW,eL,eV,dF,eR,eQ,dE,dW,eO,eU,eJ,eK,eI,dQ,ne_eq,not_false_eq_true,b1,b2,e0,e1,e2,e3,pR,hp,hm,nbl,nlb,Bool.not_true,Bool.not_false]
  refine ⟨_,rfl,⟨?_,?_⟩,λa ha hl=>?_⟩
  ·rw [cx,<- e4]
   rfl
  ·rw [bQ nbl,bQ nbl,bQ nbl,cx]
   show some (Cel.lst _)=some (Cel.lst ((ds++[_]).map Dy.e))
   rw [List.map_append]
   rfl
  ·rw [bQ ha,bQ ha,bQ ha,bQ hl]
 | some g =>
  have b1:st.get b=some (.ins C (c9 s.d (.int x) (.int g) (.int ((Qs.mk x (some g) ds).pd s)) (ah l))):=b1
  have e1:fV [.d s.d,.d (.int g),.d (.int f)]=.ret (.d (.int (s.day g f))):=e1
  have e2:gr [.d s.d,.d (.int x),.d (.int g)]=.ret (.d (.int (s.ord x g))):=e2
  have e3:iL [.d s.d,.d (.int g),.d (.int f)]=.ret (.d (.int (s.nx g f))):=e3
  simp_arith only [jR,bj,bi,bh,az,am,aD,ay,aB,aA,aj,ak,bc,aK,ba,aM,aI,aH,aG,bu,br,bq,bp,bn,a9,aS,aR,aQ,aP,aw,au,aq,ao,aT,bz,bx,bw,bv,aJ,aF,aE,aL,bf,be,bd,bg,aZ,aY,aX,aW,aV,ai,aO,aN,aU,dR,dq,di,eD,eB,eA,eC,dc,db,dN,dM,eu,em,dL,eh,dP,dO,ec,dB,cx,bQ,eM,eN,eW,eL,eV,dF,eR,eQ,dE,dW,eO,eU,eJ,eK,eI,dQ,ne_eq,not_false_eq_true,b1,b2,e0,e1,e2,e3,tZ,hp,hm,nbl,nlb,Bool.not_true,Bool.not_false]
  refine ⟨_,rfl,⟨?_,?_⟩,λa ha hl=>?_⟩
  ·rw [cx,<- e4]
   rfl
  ·rw [bQ nbl,bQ nbl,bQ nbl,cx]
   show some (Cel.lst _)=some (Cel.lst ((ds++[_]).map Dy.e))
   rw [List.map_append]
   rfl
  ·rw [bQ ha,bQ ha,bQ ha,bQ hl]
noncomputable def Qs.bk (q:Qs) (q':Qs):Prop:=(∃ g,q.gl=some g/\q'=⟨q.st,none,q.ds⟩)\/(q.gl=none/\∃ ds y,q.ds=ds++[y]/\q'=⟨y.st,y.gl,ds⟩)
theorem Znv (h:s.Ok) (B:BkOk C st b l s q) (w:QOk s q n) (hn:q.ds.length<=1000) {q':Qs} (hq:q.bk q') :
  ∃ st',rn (mZ C [.d (ah b)]) st=some (st',.d .none)/\BkOk C st' b l s q'/\∀ a,a≠b->a≠l->st'.get a=st.get a:=by
 have b1:=B.at_
 have b2:=B.ls
 have nbl:l≠b:=λe=>by rw [e,b1] at b2; cases b2
 have nlb:b≠l:=λe=>nbl e.symm
 obtain ⟨x,g,ds⟩:=q
 rcases hq with ⟨g',hg,rfl⟩ | ⟨hg,ds',y,hd,rfl⟩
 ·have hg:g=some g':=hg
  subst hg
  obtain ⟨k1,k2⟩:=w.nbs h
  have e2:gr [.d s.d,.d (.int x),.d (.int g')]=.ret (.d (.int (s.ord x g'))):=lB h k1 k2
  have e4:(Qs.mk x (some g') ds).pd s - s.ord x g'=(Qs.mk x none ds).pd s:=by rw [<- ZcC]; omega
  have b1:st.get b=some (.ins C (c9 s.d (.int x) (.int g') (.int ((Qs.mk x (some g') ds).pd s)) (ah l))):=b1
  simp_arith only [mZ,bj,bi,bh,az,am,aD,ay,aB,aA,aj,ak,bc,aK,ba,aM,aI,aH,aG,bu,br,bq,bp,bn,a9,aS,aR,aQ,aP,aw,au,aq,ao,aT,bz,bx,bw,bv,aJ,aF,aE,aL,bf,be,bd,bg,aZ,aY,aX,aW,aV,ai,aO,aN,aU,dR,dq,di,eD,eB,eA,eC,dc,db,dN,dM,eu,em,dL,eh,dP,dO,ec,dB,cx,bQ,eM,eN,eW,eL,eV,dF,eR,eQ,dE,dW,eO,eU,eJ,eK,eI,dQ,ne_eq,not_false_eq_true,b1,b2,e2,tZ,nbl,nlb,Bool.not_true,Bool.not_false]
  refine ⟨_,rfl,⟨?_,?_⟩,λa ha hl=>?_⟩
  ·rw [cx,e4]
   rfl
  ·rw [bQ nbl,bQ nbl]
   exact b2
  ·rw [bQ ha,bQ ha]
 ·have hg:g=none:=hg
  have hd:ds=ds'++[y]:=hd
  subst hg hd
  have hy:=w.ds y (by simp)
  have e4:=ZiD s (x:=x) (ds:=ds') hy
  have b1:st.get b=some (.ins C (c9 s.d (.int x) .none (.int ((Qs.mk x none (ds'++[y])).pd s)) (ah l))):=b1
  have b2:st.get l=some (.lst (ds'.map Dy.e++[PyData.tuple [.tuple [.int y.st,.int y.lv,.int y.fl,.int y.co],oD y.gl]])):=by rw [show st.get l=_ from b2,List.map_append]; rfl
  have hz:((((ds'.map Dy.e++[PyData.tuple [.tuple [.int y.st,.int y.lv,.int y.fl,.int y.co],oD y.gl]]).length:Nat):Int) != 0)=true:=by
   rw [bne_iff_ne,List.length_append,List.length_singleton]
   omega
  have e1:fV [.d s.d,.d (.int y.lv),.d (.int y.fl)]=.ret (.d (.int (s.day y.lv y.fl))):=by
   have:=hy.s0
   have:=hy.s1
   have:=hy.s2
   have:=h.t0
   have:=h.d0
   have:=h.td
   exact uq h (de (by show -1048576 < _; omega) (by show _ < 1048576; omega)) (mO hy.f0 hy.f1)
  simp_arith only [mZ,bj,bi,bh,az,am,aD,ay,aB,aA,aj,ak,bc,aK,ba,aM,aI,aH,aG,bu,br,bq,bp,bn,a9,aS,aR,aQ,aP,aw,au,aq,ao,aT,bz,bx,bw,bv,aJ,aF,aE,aL,bf,be,bd,bg,aZ,aY,aX,aW,aV,ai,aO,aN,aU,dR,dq,di,eD,eB,eA,eC,dc,db,dN,dM,eu,em,dL,eh,dP,dO,ec,dB,cx,bQ,eM,eN,eW,eL,eV,dF,eR,eQ,dE,dW,eO,eU,eJ,eK,eI,dQ,ne_eq,not_false_eq_true,b1,b2,e1,hz,pR,nbl,nlb,Bool.not_true,Bool.not_false,dB]
  refine ⟨_,rfl,⟨?_,?_⟩,λa ha hl=>?_⟩
  ·rw [cx,<- e4]
  ·rw [bQ nbl,bQ nbl,bQ nbl,cx]
  ·rw [bQ ha,bQ ha,bQ ha,bQ hl]
theorem Zfw (B:BkOk C st b l s q) (hg:q.gl=none) (hd:q.ds=[]):rn (nV C [.d (ah b)]) st=some (st,none):=by
 have b1:=B.at_
 have b2:=B.ls
 rw [hg] at b1
 rw [hd] at b2
 have b1:st.get b=some (.ins C (c9 s.d (.int q.st) .none (.int (q.pd s)) (ah l))):=b1
 have b2:st.get l=some (.lst []):=b2
 have hz:((((0:Nat):Int)) != 0)=false:=rfl
 simp_arith only [nV,bj,bi,bh,az,am,aD,ay,aB,aA,aj,ak,bc,aK,ba,aM,aI,aH,aG,bu,br,bq,bp,bn,a9,aS,aR,aQ,aP,aw,au,aq,ao,aT,bz,bx,bw,bv,aJ,aF,aE,aL,bf,be,bd,bg,aZ,aY,aX,aW,aV,ai,aO,aN,aU,dR,dq,di,eD,eB,eA,eC,dc,db,dN,dM,eu,em,dL,eh,dP,dO,ec,dB,cx,bQ,eM,eN,eW,eL,eV,dF,eR,eQ,dE,dW,eO,eU,eJ,eK,eI,dQ,ne_eq,not_false_eq_true,b1,b2,pR,hz,Bool.not_true,Bool.not_false]
end
section
variable {C a b l k d:Addr} {st:Sto} {s:Shp} {q:Qs} {n:Nat}
theorem Zhi {x:Int} (ha:st.get a=some (.ins C [])):As (jm C [.d (ah a),.d s.d,.d (.int x)]) st 0 λst' r=>r=.d .none/\∃ l,st.get l=none/\l≠a/\BkOk C st' a l s ⟨x,none,[]⟩/\∀ c,c≠a->c≠l->st'.get c=st.get c:=by
 simp_arith only [jm,bj,bi,bh,az,am,aD,ay,aB,aA,aj,ak,bc,aK,ba,aM,aI,aH,aG,bu,br,bq,bp,bn,a9,aS,aR,aQ,aP,aw,au,aq,ao,aT,bz,bx,bw,bv,aJ,aF,aE,aL,bf,be,bd,bg,aZ,aY,aX,aW,aV,ai,aO,aN,aU,Tr.bind_assoc,Tr.draw_bind,bD]
 refine gG (by rw [dc,ha]; exact ZfC) ?_
 try simp_arith only [bj,bi,bh,az,am,aD,ay,aB,aA,aj,ak,bc,aK,ba,aM,aI,aH,aG,bu,br,bq,bp,bn,a9,aS,aR,aQ,aP,aw,au,aq,ao,aT,bz,bx,bw,bv,aJ,aF,aE,aL,bf,be,bd,bg,aZ,aY,aX,aW,aV,ai,aO,aN,aU,Tr.bind_assoc,Tr.draw_bind,bD]
 refine gG (by rw [dc,cx]; exact ZfB) ?_
 try simp_arith only [bj,bi,bh,az,am,aD,ay,aB,aA,aj,ak,bc,aK,ba,aM,aI,aH,aG,bu,br,bq,bp,bn,a9,aS,aR,aQ,aP,aw,au,aq,ao,aT,bz,bx,bw,bv,aJ,aF,aE,aL,bf,be,bd,bg,aZ,aY,aX,aW,aV,ai,aO,aN,aU,Tr.bind_assoc,Tr.draw_bind,bD]
 refine gG (by rw [dc,cx]; exact ZfA) ?_
 try simp_arith only [bj,bi,bh,az,am,aD,ay,aB,aA,aj,ak,bc,aK,ba,aM,aI,aH,aG,bu,br,bq,bp,bn,a9,aS,aR,aQ,aP,aw,au,aq,ao,aT,bz,bx,bw,bv,aJ,aF,aE,aL,bf,be,bd,bg,aZ,aY,aX,aW,aV,ai,aO,aN,aU,Tr.bind_assoc,Tr.draw_bind,bD]
 refine gG (by rw [dc,cx]; exact Zfz) ?_
 try simp_arith only [bj,bi,bh,az,am,aD,ay,aB,aA,aj,ak,bc,aK,ba,aM,aI,aH,aG,bu,br,bq,bp,bn,a9,aS,aR,aQ,aP,aw,au,aq,ao,aT,bz,bx,bw,bv,aJ,aF,aE,aL,bf,be,bd,bg,aZ,aY,aX,aW,aV,ai,aO,aN,aU,Tr.bind_assoc,Tr.draw_bind,bD]
 refine rY λl hl=>?_
 have hla:l≠a:=λe=>by rw [e,cx] at hl; cases hl
 try simp_arith only [bj,bi,bh,az,am,aD,ay,aB,aA,aj,ak,bc,aK,ba,aM,aI,aH,aG,bu,br,bq,bp,bn,a9,aS,aR,aQ,aP,aw,au,aq,ao,aT,bz,bx,bw,bv,aJ,aF,aE,aL,bf,be,bd,bg,aZ,aY,aX,aW,aV,ai,aO,aN,aU,Tr.bind_assoc,Tr.draw_bind,bD]
 refine gG (by rw [dc,bQ hla.symm,cx]; exact Zfy) ?_
 try simp_arith only [bj,bi,bh,az,am,aD,ay,aB,aA,aj,ak,bc,aK,ba,aM,aI,aH,aG,bu,br,bq,bp,bn,a9,aS,aR,aQ,aP,aw,au,aq,ao,aT,bz,bx,bw,bv,aJ,aF,aE,aL,bf,be,bd,bg,aZ,aY,aX,aW,aV,ai,aO,aN,aU,Tr.bind_assoc,Tr.draw_bind,bD]
 rw [bQ hla,bQ hla,bQ hla,bQ hla] at hl
 refine fh ⟨rfl,l,hl,hla,⟨?_,?_⟩,λc hc hcl=>?_⟩
 ·rw [cx]
  rfl
 ·rw [bQ hla,cx]
  rfl
 ·rw [bQ hc,bQ hcl,bQ hc,bQ hc,bQ hc,bQ hc]
theorem sJ {s:Shp} {x:Int} (h0:-s.depth<=x) (h1:x<=s.top):QOk s ⟨x,none,[]⟩ 0:=⟨h0,h1,λg e=>(by cases e),λy hy=>(by cases hy),Nat.le_refl _⟩
theorem sf {x:Int} (h0:-s.depth<=x) (h1:x<=s.top) {P:Sto->PyData->Prop} 
  (kk:∀ b l st1,st.get b=none->st.get l=none->l≠b->BkOk C st1 b l s ⟨x,none,[]⟩->(∀ c,c≠b->c≠l->st1.get c=st.get c)->P st1 (ah b)):As (mS C (jm C) [.d s.d,.d (.int x)]) st 0 P:=by
 refine Zg9 λb hb=>Za5 (Zhi (s:=s) (x:=x) cx) (Nat.le_refl _) ?_
 rintro st1 r ⟨rfl,l,hl,hlb,B,fr⟩
 rw [bQ hlb] at hl
 exact ⟨rfl,kk b l st1 hb hl hlb B λc hc hcl=>by rw [fr c hc hcl,bQ hc]⟩
end
theorem Zj1 (n:Int):m9 "int" (.int n)=.ret (.bool true):=rfl
theorem Zj2 (n:Int):m9 "bool" (.int n)=.ret (.bool false):=rfl
theorem Zj0 (x z:Int):m9 "tuple" (.tuple [.int x,.int z])=.ret (.bool true):=rfl
theorem Zka:lp false (.bool false) (.list [.bool true,.bool true])=some (.bool false):=rfl
theorem Znp {t b:Int} (hb:0 < b) (nt:nb 4000 t) (nB:nb 4000 b):pw [.d (mn t b),.d (.int t),.d (.int b)]=.ret (.d (.bool true)):=by
 obtain ⟨p1,p2,p3,p4⟩:=Gc.Zc4 (t:=t) (b:=b) (by omega)
 obtain ⟨n1,n2⟩:=Zjp nt nB (by omega)
 unfold mn
 generalize Gc.jn t b=x at *
 generalize Gc.iN t b=y at *
 obtain ⟨z,rfl⟩:∃ z:Nat,y=(z:Int):=⟨y.toNat,by omega⟩
 have key:=euclid (p:=rg) (s:=tU) (E:=λa b'=>[.d (.tuple [.int x,.int z]),.d (.int t),.d (.int b),.d (.int b'),.d (.int a)]) (λa b=>by
  simp_arith only [rg,Tr.bind_assoc,Tr.draw_bind]
  by_cases h:b=0
  ·subst h; rfl
  ·rw [decide_eq_true h]
   congr 1
   simp
   omega) (λa b h=>by
  have h':(b:Int)≠0:=by omega
  simp_arith only [tU,Tr.bind_assoc,Tr.draw_bind,ZdP h',ZdI]) 8000 83999 z x.natAbs (Nat.lt_of_lt_of_le (show x.natAbs < 2 ^ 4000 from n1) (Nat.pow_le_pow_right (by decide) (by decide)))
 have e:2 * 8000+1+83999=100000:=rfl
 rw [e] at key
 rw [Int.natAbs_natCast,Nat.gcd_comm] at p4
 rw [p4] at key
 have c1:¬ (z:Int) < 1:=by omega
 have g1:=cE n1 (by decide)
 have g2:=cE nB (by decide)
 have g3:=cE nt (by decide)
 have g4:=cE n2 (by decide)
 have eq:(x * b == t * (z:Int))=true:=by
  rw [beq_iff_eq]
  rw [p1,p2]
  grind
 have e2:(((2:Nat):Int) != 2)=false:=rfl
 have e2':(((2:Nat):Int) == 2)=true:=rfl
 have e3:(((1:Nat):Int) == 1)=true:=rfl
 have hs2:small 2=true:=dJ (by decide)
 simp_arith only [pw,Zcm,Tr.bind_assoc,Tr.draw_bind,Zj0,Zj1,Zj2,Bool.not_true,Bool.not_false,Zka,decide_eq_false c1,Ze8,key,eq,e2,e2',e3,g1,g2,g3,g4,hs2]
theorem Zf0 (p:Rw) (c:List Int->Int):tot [p] c=p.2 * c p.1:=by
 unfold tot
 simp
noncomputable abbrev big:Int:=20000000000000000000000000000
theorem ZbJ {s:Shp} (h:s.Ok):∀ {rl:List (Int->Int)} {row:List Int} {x:Int} {acc:List PyData} {R W a5 a6 a7 a8:Sl},(∀ g∈rl,s.RlOk g)->(∀ f∈row,0<=f/\f < big)->-s.depth<=x->x<=s.top->acc.length+rl.length<=900 ->
  ∃ (x':Int) (b5 b6 b7 b8:Sl),dU (cI (bJ (bE 5) (bJ (bE 6) cG))) jT (dY (rl.map λg=>tI (s.row g)) (row.map PyData.int)) [.d s.d,R,.d (.int x),W,.own acc,a5,a6,a7,a8]=.ret (.next [.d s.d,R,.d (.int x'),W,.own (acc++fR s rl row x),b5,b6,b7,b8])
 | [],row,x,acc,R,W,a5,a6,a7,a8,_,_,_,_,_=>⟨x,a5,a6,a7,a8,by simp [dY,fR,lw]⟩
 | g::rl,[],x,acc,R,W,a5,a6,a7,a8,_,_,_,_,_=>⟨x,a5,a6,a7,a8,by simp [dY,fR,lw]⟩
 | g::rl,f::row,x,acc,R,W,a5,a6,a7,a8,hr,hf,x1,x2,ha=>by
  obtain ⟨g1,g2⟩:=hr g (by simp) x x1 x2
  have hf1:=hf f (by simp)
  rw [List.length_cons] at ha
  obtain ⟨x',b5,b6,b7,b8,e⟩:=ZbJ h (rl:=rl) (row:=row) (x:=s.nx (g x) f) (acc:=acc++[.tuple [.int x,.int (g x),.int f,.int (s.ord x (g x)+s.day (g x) f)]]) (R:=R) (W:=W) (a5:=.d (tI (s.row g))) (a6:=.d (.int f)) (a7:=.d (.int (g x))) (a8:=.d (.int (s.ord x (g x)+s.day (g x) f))) (λy hy=>hr y (List.mem_cons_of_mem _ hy)) (λy hy=>hf y (List.mem_cons_of_mem _ hy)) (kS s _ _) (kR h g2 hf1.1) (by simp; omega)
  refine ⟨x',b5,b6,b7,b8,?_⟩
  have ez:dY ((g::rl).map λg=>tI (s.row g)) ((f::row).map PyData.int)=.tuple [tI (s.row g),.int f]::dY (rl.map λg=>tI (s.row g)) (row.map PyData.int):=rfl
  have hs:small (acc.length+1)=true:=dJ (by omega)
  have e1:=lB h (gT h x1 x2) (gT h (show -s.depth<=g x by omega) g2)
  have e2:=uq h (gT h (show -s.depth<=g x by omega) g2) (mO hf1.1 hf1.2)
  have a1:bZ bT (tI (s.row g)) (.int (x+s.depth))=.ret (.int (g x)):=by
   unfold tI
   rw [fE,my x1 x2]
   rfl
  have et:jT [.d s.d,R,.d (.int x),W,.own acc,.d (tI (s.row g)),.d (.int f),a7,a8]=.ret (.next [.d s.d,R,.d (.int (s.nx (g x) f)),W,.own (acc++[.tuple [.int x,.int (g x),.int f,.int (s.ord x (g x)+s.day (g x) f)]]),.d (tI (s.row g)),.d (.int f),.d (.int (g x)),.d (.int (s.ord x (g x)+s.day (g x) f))]):=by
   simp_arith only [jT,Tr.bind_assoc,Tr.draw_bind,a1,e1,e2,lC,hs]
  have eg:(cI (bJ (bE 5) (bJ (bE 6) cG))) (.tuple [tI (s.row g),.int f]) [.d s.d,R,.d (.int x),W,.own acc,a5,a6,a7,a8]=some [.d s.d,R,.d (.int x),W,.own acc,.d (tI (s.row g)),.d (.int f),a7,a8]:=rfl
  rw [ez,ft,eg,Tr.of_some,Tr.ret_bind,ui,et,Tr.ret_bind,nu,e,List.append_assoc]
  rfl
theorem Znj {s:Shp} (h:s.Ok) {rl:List (Int->Int)} (hr:∀ g∈rl,s.RlOk g) {row:List Int} (hf:∀ f∈row,0<=f/\f < big) {x:Int} (x1:-s.depth<=x) (x2:x<=s.top) (hl:rl.length<=100) :
  jP [.d s.d,.d (rD s rl),.d (.int x),.d (tI row)]=.ret (.own (fR s rl row x)):=by
 obtain ⟨x',b5,b6,b7,b8,e⟩:=ZbJ h (acc:=[]) (R:=.d (rD s rl)) (W:=.d (tI row)) (a5:=.un) (a6:=.un) (a7:=.un) (a8:=.un) hr hf x1 x2 (by simp; omega)
 have i1:fW (rD s rl)=.ret (rl.map λg=>tI (s.row g)):=rfl
 simp_arith only [jP,Tr.bind_assoc,Tr.draw_bind,i1,m8,e]
section
variable {α β:Type} {t:Tr α} {f:α->Tr β} {st st':Sto} {a:α} {n:Nat} {P:Sto->β->Prop}
theorem kF (e:rn t st=some (st',a)) (k:As (f a) st' n P):As (t.bind f) st n P:=dh (n:=0) (n':=n) (P:=λz b=>z=st'/\b=a) (mv e ⟨rfl,rfl⟩) (by omega) λz b ⟨e1,e2⟩=>by
 subst e1 e2
 exact k
end
section
variable {C b l:Addr} {st:Sto} {s:Shp} {q:Qs} {n:Nat}
theorem BkOk.mt (B:BkOk C st b l s q) {w:Str} (hw:∀ s m c p e:PyData,List.lookup w (c9 s m c p e)=none):hI C w b st=some (st,.none):=by
 rw [dN,B.at_]
 exact dM (hw _ _ _ _ _)
theorem ZhN (s:Shp) {rl:List (Int->Int)} {j:Nat} {g:Int->Int} (hj:rl[j]?=some g):bZ bT (rD s rl) (.int j)=.ret (tI (s.row g)):=by
 unfold rD
 rw [fE,gx (v:=tI (s.row g)) (by rw [List.getElem?_map,hj]; rfl)]
 rfl
noncomputable def Chosen (s:Shp) (q q1:Qs) (y:Int) (r:Bool):Prop:=(q1=q/\r=false/\y=q.st)\/(q1=⟨q.st,some y,q.ds⟩/\r=true)
theorem Zbo (h:s.Ok) (B:BkOk C st b l s q) (w:QOk s q n) (hg:q.gl=none) {rl:List (Int->Int)} (hr:∀ g∈rl,s.RlOk g) {j:Nat} {g:Int->Int} (hj:rl[j]?=some g) :
  As (mW C [.pen,.d s.d,.d (rD s rl),.d (.int j),.d (ah b)]) st 1 λst' r=>∃ q1 r0,r=.d (.bool r0)/\BkOk C st' b l s q1/\QOk s q1 n/\Chosen s q q1 (g q.st) r0/\∀ a,a≠b->st'.get a=st.get a:=by
 obtain ⟨y1,y2⟩:=hr g (List.mem_of_getElem? hj) q.st w.s0 w.s1
 have a0:=ZhN s hj
 have a1:bZ bT (tI (s.row g)) (.int (q.st+s.depth))=.ret (.int (g q.st)):=by
  unfold tI
  rw [fE,my w.s0 w.s1]
  rfl
 obtain ⟨st1,e1,B1,f1⟩:=Znu h B w hg y1 y2
 have fin:∀ J5:Sl,J5=.d (.int (g q.st))->True:=λ_ _=>trivial
 simp_arith only [mW,bj,bi,bh,az,am,aD,ay,aB,aA,aj,ak,bc,aK,ba,aM,aI,aH,aG,bu,br,bq,bp,bn,a9,aS,aR,aQ,aP,aw,au,aq,ao,aT,bz,bx,bw,bv,aJ,aF,aE,aL,bf,be,bd,bg,aZ,aY,aX,aW,aV,ai,aO,aN,aU,Tr.bind_assoc,Tr.draw_bind,bD,a0]
 refine gG (B.mt λ_ _ _ _ _=>dF) ?_
 try simp_arith only [bj,bi,bh,az,am,aD,ay,aB,aA,aj,ak,bc,aK,ba,aM,aI,aH,aG,bu,br,bq,bp,bn,a9,aS,aR,aQ,aP,aw,au,aq,ao,aT,bz,bx,bw,bv,aJ,aF,aE,aL,bf,be,bd,bg,aZ,aY,aX,aW,aV,ai,aO,aN,aU,Tr.bind_assoc,Tr.draw_bind,bD]
 refine kF (pX B) ?_
 simp_arith only [bj,bi,bh,az,am,aD,ay,aB,aA,aj,ak,bc,aK,ba,aM,aI,aH,aG,bu,br,bq,bp,bn,a9,aS,aR,aQ,aP,aw,au,aq,ao,aT,bz,bx,bw,bv,aJ,aF,aE,aL,bf,be,bd,bg,aZ,aY,aX,aW,aV,ai,aO,aN,aU,Tr.bind_assoc,Tr.draw_bind,bD,a1]
 refine gG (B.mt λ_ _ _ _ _=>dF) ?_
 try simp_arith only [bj,bi,bh,az,am,aD,ay,aB,aA,aj,ak,bc,aK,ba,aM,aI,aH,aG,bu,br,bq,bp,bn,a9,aS,aR,aQ,aP,aw,au,aq,ao,aT,bz,bx,bw,bv,aJ,aF,aE,aL,bf,be,bd,bg,aZ,aY,aX,aW,aV,ai,aO,aN,aU,Tr.bind_assoc,Tr.draw_bind,bD]
 refine kF (pX B) ?_
 simp_arith only [bj,bi,bh,az,am,aD,ay,aB,aA,aj,ak,bc,aK,ba,aM,aI,aH,aG,bu,br,bq,bp,bn,a9,aS,aR,aQ,aP,aw,au,aq,ao,aT,bz,bx,bw,bv,aJ,aF,aE,aL,bf,be,bd,bg,aZ,aY,aX,aW,aV,ai,aO,aN,aU,Tr.bind_assoc,Tr.draw_bind,bD]
 have ch:∀ z:Bool,Chosen s q ⟨q.st,some (g q.st),q.ds⟩ (g q.st) true:=λ_=>.inr ⟨rfl,rfl⟩
 cases hb:(g q.st == q.st)
 ·simp_arith only [bj,bi,bh,az,am,aD,ay,aB,aA,aj,ak,bc,aK,ba,aM,aI,aH,aG,bu,br,bq,bp,bn,a9,aS,aR,aQ,aP,aw,au,aq,ao,aT,bz,bx,bw,bv,aJ,aF,aE,aL,bf,be,bd,bg,aZ,aY,aX,aW,aV,ai,aO,aN,aU,Tr.bind_assoc,Tr.draw_bind,bD]
  refine gG (B.mt λ_ _ _ _ _=>dE) ?_
  try simp_arith only [bj,bi,bh,az,am,aD,ay,aB,aA,aj,ak,bc,aK,ba,aM,aI,aH,aG,bu,br,bq,bp,bn,a9,aS,aR,aQ,aP,aw,au,aq,ao,aT,bz,bx,bw,bv,aJ,aF,aE,aL,bf,be,bd,bg,aZ,aY,aX,aW,aV,ai,aO,aN,aU,Tr.bind_assoc,Tr.draw_bind,bD]
  refine kF e1 ?_
  try simp_arith only [bj,bi,bh,az,am,aD,ay,aB,aA,aj,ak,bc,aK,ba,aM,aI,aH,aG,bu,br,bq,bp,bn,a9,aS,aR,aQ,aP,aw,au,aq,ao,aT,bz,bx,bw,bv,aJ,aF,aE,aL,bf,be,bd,bg,aZ,aY,aX,aW,aV,ai,aO,aN,aU,Tr.bind_assoc,Tr.draw_bind,bD]
  exact fh ⟨_,_,rfl,B1,w.goal y1 y2,ch true,f1⟩
 ·simp_arith only [bj,bi,bh,az,am,aD,ay,aB,aA,aj,ak,bc,aK,ba,aM,aI,aH,aG,bu,br,bq,bp,bn,a9,aS,aR,aQ,aP,aw,au,aq,ao,aT,bz,bx,bw,bv,aJ,aF,aE,aL,bf,be,bd,bg,aZ,aY,aX,aW,aV,ai,aO,aN,aU,Tr.bind_assoc,Tr.draw_bind,bD]
  refine r6 (n:=0) (by decide) (by decide) (by decide) λu u0 u1=>?_
  try simp_arith only [bj,bi,bh,az,am,aD,ay,aB,aA,aj,ak,bc,aK,ba,aM,aI,aH,aG,bu,br,bq,bp,bn,a9,aS,aR,aQ,aP,aw,au,aq,ao,aT,bz,bx,bw,bv,aJ,aF,aE,aL,bf,be,bd,bg,aZ,aY,aX,aW,aV,ai,aO,aN,aU,Tr.bind_assoc,Tr.draw_bind,bD]
  cases hu:(u == 0)
  ·simp_arith only [bj,bi,bh,az,am,aD,ay,aB,aA,aj,ak,bc,aK,ba,aM,aI,aH,aG,bu,br,bq,bp,bn,a9,aS,aR,aQ,aP,aw,au,aq,ao,aT,bz,bx,bw,bv,aJ,aF,aE,aL,bf,be,bd,bg,aZ,aY,aX,aW,aV,ai,aO,aN,aU,Tr.bind_assoc,Tr.draw_bind,bD]
   refine gG (B.mt λ_ _ _ _ _=>dE) ?_
   try simp_arith only [bj,bi,bh,az,am,aD,ay,aB,aA,aj,ak,bc,aK,ba,aM,aI,aH,aG,bu,br,bq,bp,bn,a9,aS,aR,aQ,aP,aw,au,aq,ao,aT,bz,bx,bw,bv,aJ,aF,aE,aL,bf,be,bd,bg,aZ,aY,aX,aW,aV,ai,aO,aN,aU,Tr.bind_assoc,Tr.draw_bind,bD]
   refine kF e1 ?_
   try simp_arith only [bj,bi,bh,az,am,aD,ay,aB,aA,aj,ak,bc,aK,ba,aM,aI,aH,aG,bu,br,bq,bp,bn,a9,aS,aR,aQ,aP,aw,au,aq,ao,aT,bz,bx,bw,bv,aJ,aF,aE,aL,bf,be,bd,bg,aZ,aY,aX,aW,aV,ai,aO,aN,aU,Tr.bind_assoc,Tr.draw_bind,bD]
   exact fh ⟨_,_,rfl,B1,w.goal y1 y2,ch true,f1⟩
  ·simp_arith only [bj,bi,bh,az,am,aD,ay,aB,aA,aj,ak,bc,aK,ba,aM,aI,aH,aG,bu,br,bq,bp,bn,a9,aS,aR,aQ,aP,aw,au,aq,ao,aT,bz,bx,bw,bv,aJ,aF,aE,aL,bf,be,bd,bg,aZ,aY,aX,aW,aV,ai,aO,aN,aU,Tr.bind_assoc,Tr.draw_bind,bD]
   exact fh ⟨q,false,rfl,B,w,.inl ⟨rfl,rfl,by simpa using hb⟩,λ_ _=>rfl⟩
theorem Chosen.fall {q1:Qs} {y f:Int} {r:Bool} (c:Chosen s q q1 y r) (hg:q.gl=none):∃ d:Dy,q1.fall s f=⟨s.nx y f,none,q.ds++[d]⟩/\d.t=.tuple [.int q.st,.int y,.int f,.int (s.ord q.st y+s.day y f)]/\d.co=s.ord q.st y+s.day y f:=by
 obtain ⟨x,g,ds⟩:=q
 have hg:g=none:=hg
 subst hg
 rcases c with ⟨rfl,_,e⟩ | ⟨rfl,_⟩
 ·have e:y=x:=e
  subst e
  exact ⟨_,rfl,rfl,rfl⟩
 ·exact ⟨_,rfl,rfl,rfl⟩
end
theorem ur {α:Type}:∀ {xs:List α} {k:Nat} {a:α},xs[k]?=some a->xs.drop k=a::xs.drop (k+1)
 | x::xs,0,a,h=>by cases h; rfl
 | x::xs,k+1,a,h=>by
  show xs.drop k=a::xs.drop (k+1)
  exact ur h
structure Hd (s:Shp) (rl:List (Int->Int)) (row:List Int) (x:Int) (k:Nat) (q:Qs):Prop where
 g:q.gl=none
 t:q.ds.map Dy.t++fR s (rl.drop k) (row.drop k) q.st=fR s rl row x
 c:q.pd s+s.rc (rl.drop k) (row.drop k) q.st=s.rc rl row x
section
variable {C b l:Addr} {st:Sto} {s:Shp} {q q1:Qs} {n k:Nat} {rl:List (Int->Int)} {row:List Int} {x:Int}
theorem Hd.nil:Hd s rl row x 0 ⟨x,none,[]⟩:=⟨rfl,rfl,by show (0+0:Int)+s.rc rl row x=s.rc rl row x; omega⟩
theorem Hd.step (H:Hd s rl row x k q) {g:Int->Int} {f:Int} {r:Bool} (hg:rl[k]?=some g) (hf:row[k]?=some f) (c:Chosen s q q1 (g q.st) r):Hd s rl row x (k+1) (q1.fall s f):=by
 obtain ⟨d,e1,e2,e3⟩:=c.fall (f:=f) H.g
 have h2:=H.t
 have h3:=H.c
 have hp:q.pd s=(q.ds.map (·.co)).sum:=by
  unfold Qs.pd
  rw [H.g]
  show _+(0:Int)=_
  omega
 rw [ur hg,ur hf] at h2 h3
 rw [e1]
 refine ⟨rfl,?_,?_⟩
 ·show (q.ds++[d]).map Dy.t++_=_
  rw [<- h2,List.map_append,List.append_assoc,fR]
  show _++(d.t::fR s (rl.drop (k+1)) (row.drop (k+1)) (s.nx (g q.st) f))=_
  rw [e2]
 ·rw [<- h3,Shp.rc,hp]
  show ((q.ds++[d]).map (·.co)).sum+(0:Int)+s.rc (rl.drop (k+1)) (row.drop (k+1)) (s.nx (g q.st) f)=_
  rw [List.map_append,rK]
  show _+(d.co+0)+0+_=_
  rw [e3]
  omega
theorem Hd.done (H:Hd s rl row x row.length q) (hl:rl.length=row.length):q.ds.map Dy.t=fR s rl row x/\(q.ds.map (·.co)).sum+s.fin q.st=s.rc rl row x:=by
 have h2:=H.t
 have h3:=H.c
 have hp:q.pd s=(q.ds.map (·.co)).sum:=by
  unfold Qs.pd
  rw [H.g]
  show _+(0:Int)=_
  omega
 rw [List.drop_length,<- hl,List.drop_length] at h2 h3
 rw [fR,List.append_nil] at h2
 ·rw [hp,Shp.rc] at h3
  ·exact ⟨h2,h3⟩
  all_goals (intros; contradiction)
 all_goals (intros; contradiction)
theorem Zhg (h:s.Ok) (hr:∀ g∈rl,s.RlOk g) (hf:∀ f∈row,0<=f/\f < 16) (x1:-s.depth<=x) (x2:x<=s.top) (hl:rl.length=row.length) (h6:rl.length<=100) :
  As (ph C [.pen,.d s.d,.d (rD s rl),.d (.int x),.d (tI row)]) st 100 λst' r=>r=.d (.int (s.rc rl row x)):=by
 simp_arith only [ph,bj,bi,bh,az,am,aD,ay,aB,aA,aj,ak,bc,aK,ba,aM,aI,aH,aG,bu,br,bq,bp,bn,a9,aS,aR,aQ,aP,aw,au,aq,ao,aT,bz,bx,bw,bv,aJ,aF,aE,aL,bf,be,bd,bg,aZ,aY,aX,aW,aV,ai,aO,aN,aU,Tr.bind_assoc,Tr.draw_bind,bD]
 refine dh (n:=0) (n':=100) (P:=λst' r=>∃ b l,r=ah b/\BkOk C st' b l s ⟨x,none,[]⟩) (sf x1 x2 λb l st1 _ _ _ B _=>⟨b,l,rfl,B⟩) (by omega) ?_
 rintro st1 _ ⟨b,l,rfl,B⟩
 simp_arith only [bj,bi,bh,az,am,aD,ay,aB,aA,aj,ak,bc,aK,ba,aM,aI,aH,aG,bu,br,bq,bp,bn,a9,aS,aR,aQ,aP,aw,au,aq,ao,aT,bz,bx,bw,bv,aJ,aF,aE,aL,bf,be,bd,bg,aZ,aY,aX,aW,aV,ai,aO,aN,aU,Tr.bind_assoc,Tr.draw_bind,bD,m8]
 refine dh (n:=100) (n':=0) (P:=λst' o=>∃ q J6 J7,o=.next [.pen,.d s.d,.d (rD s rl),.d (.int x),.d (tI row),.d (ah b),J6,J7,.un]/\BkOk C st' b l s q/\QOk s q row.length/\Hd s rl row x row.length q)
  (rZ (n:=1) (I:=λpre st ρ=>∃ q J6 J7,ρ=[.pen,.d s.d,.d (rD s rl),.d (.int x),.d (tI row),.d (ah b),J6,J7,.un]/\BkOk C st b l s q/\QOk s q pre.length/\Hd s rl row x pre.length q) ⟨_,_,_,rfl,B,sJ x1 x2,Hd.nil⟩ (by rw [ul,List.length_map]; omega) ?_ ?_) (by omega) ?_
 ·rintro pre y post st2 ρ e ⟨q,J6,J7,rfl,B,w,H⟩
  obtain ⟨z,hz,rfl⟩:=ZdY e
  rw [List.getElem?_map] at hz
  obtain ⟨f,hf',rfl⟩:=Option.map_eq_some_iff.mp hz
  obtain ⟨f0,f1⟩:=hf f (List.mem_of_getElem? hf')
  have hk:pre.length < rl.length:=by rw [hl]; exact (List.getElem?_eq_some_iff.mp hf').1
  have hg:rl[pre.length]?=some rl[pre.length]:=List.getElem?_eq_getElem hk
  refine ⟨_,rfl,?_⟩
  simp_arith only [Zdh,bj,bi,bh,az,am,aD,ay,aB,aA,aj,ak,bc,aK,ba,aM,aI,aH,aG,bu,br,bq,bp,bn,a9,aS,aR,aQ,aP,aw,au,aq,ao,aT,bz,bx,bw,bv,aJ,aF,aE,aL,bf,be,bd,bg,aZ,aY,aX,aW,aV,ai,aO,aN,aU,Tr.bind_assoc,Tr.draw_bind,bD]
  refine dh (n:=1) (n':=0) (Zbo h B w H.g hr hg) (by decide) ?_
  rintro st3 _ ⟨q1,r0,rfl,B1,w1,c,fo⟩
  obtain ⟨st4,e4,B4,f4⟩:=Zd8 h B1 w1 (by have:=w1.len; omega) f0 (by omega)
  have wl:=w1.fall h f0 (f:=f) (by omega)
  try simp_arith only [bj,bi,bh,az,am,aD,ay,aB,aA,aj,ak,bc,aK,ba,aM,aI,aH,aG,bu,br,bq,bp,bn,a9,aS,aR,aQ,aP,aw,au,aq,ao,aT,bz,bx,bw,bv,aJ,aF,aE,aL,bf,be,bd,bg,aZ,aY,aX,aW,aV,ai,aO,aN,aU,Tr.bind_assoc,Tr.draw_bind,bD]
  refine gG (B1.mt λ_ _ _ _ _=>dW) ?_
  try simp_arith only [bj,bi,bh,az,am,aD,ay,aB,aA,aj,ak,bc,aK,ba,aM,aI,aH,aG,bu,br,bq,bp,bn,a9,aS,aR,aQ,aP,aw,au,aq,ao,aT,bz,bx,bw,bv,aJ,aF,aE,aL,bf,be,bd,bg,aZ,aY,aX,aW,aV,ai,aO,aN,aU,Tr.bind_assoc,Tr.draw_bind,bD]
  refine kF e4 ?_
  try simp_arith only [bj,bi,bh,az,am,aD,ay,aB,aA,aj,ak,bc,aK,ba,aM,aI,aH,aG,bu,br,bq,bp,bn,a9,aS,aR,aQ,aP,aw,au,aq,ao,aT,bz,bx,bw,bv,aJ,aF,aE,aL,bf,be,bd,bg,aZ,aY,aX,aW,aV,ai,aO,aN,aU,Tr.bind_assoc,Tr.draw_bind,bD]
  exact fh ⟨_,rfl,_,_,_,rfl,B4,(by rw [List.length_append]; exact wl),(by rw [List.length_append]; exact H.step hg hf' c)⟩
 ·rintro st2 ρ ⟨q,J6,J7,rfl,B,w,H⟩
  rw [ul,List.length_map] at w H
  exact ⟨q,J6,J7,rfl,B,w,H⟩
 ·rintro st2 _ ⟨q,J6,J7,rfl,B,w,H⟩
  obtain ⟨t1,t2⟩:=H.done hl
  have hn:=w.len
  have er:=Znk h hr hf x1 x2 h6
  rw [<- t1] at er
  have hb:=B.at_
  have d1:=uo B (by omega)
  have d2:=Zd7 B
  have d3:=pX B
  have r2:fb gI [.list (q.ds.map Dy.t)]=.ret (.str (PyData.list (q.ds.map Dy.t)).shown):=uh (ZbN h w.ds (by omega))
  have es:=rL (PyData.list (q.ds.map Dy.t)).shown
  have hp:q.pd s=(q.ds.map (·.co)).sum:=by
   unfold Qs.pd
   rw [H.g]
   show _+(0:Int)=_
   omega
  have hs:small (q.ds.map Dy.t).length=true:=dJ (by rw [List.length_map]; omega)
  have hm:c8 (jp (cI (bJ (bE 0) (bJ (bE 1) (bJ (bE 2) (bJ (bE 3) cG))))) (oF C) [.un,.un,.un,.un]) (q.ds.map Dy.t)=.ret ((q.ds.map (·.co)).map PyData.int):=by
   generalize q.ds=ds
   induction ds with
   | nil=>rfl
   | cons y ds ih =>
    have e1:jp (cI (bJ (bE 0) (bJ (bE 1) (bJ (bE 2) (bJ (bE 3) cG))))) (oF C) [.un,.un,.un,.un] y.t=.ret (.int y.co):=by
     unfold Dy.t
     simp_arith only [oF,Tr.bind_assoc,Tr.draw_bind]
    rw [List.map_cons,c8,e1,Tr.ret_bind,ih]
    rfl
  have se:=ZdN (q.ds.map (·.co))
  have nn:((q.ds.map (·.co)).sum != (q.ds.map (·.co)).sum)=false:=by simp
  have ee:=Zd9 h (gT h w.s0 w.s1)
  rw [hp] at d2
  refine mv (s:=st2) (a:=.d (.int (s.rc rl row x))) ?_ rfl
  generalize (PyData.list (q.ds.map Dy.t)).shown=z at r2 es
  simp_arith only [bj,bi,bh,az,am,aD,ay,aB,aA,aj,ak,bc,aK,ba,aM,aI,aH,aG,bu,br,bq,bp,bn,a9,aS,aR,aQ,aP,aw,au,aq,ao,aT,bz,bx,bw,bv,aJ,aF,aE,aL,bf,be,bd,bg,aZ,aY,aX,aW,aV,ai,aO,aN,aU,dR,dq,di,eD,eB,eA,eC,dc,db,dN,dM,eu,em,dL,eh,dP,dO,ec,dB,cx,bQ,eM,eN,eW,eL,eV,dF,eR,eQ,dE,dW,eO,eU,eJ,eK,eI,dQ,ne_eq,not_false_eq_true,hb,d1,d2,d3,er,r2,es,hs,hm,se,nn,ee,t2,beq_self_eq_true,Bool.not_true]
end
section
variable {C:Addr} {st:Sto} {s:Shp} {rl:List (Int->Int)} {x:Int}
theorem Za6 (h:s.Ok) {fs:List (List Int)} (hF:FalS fs) (hr:∀ g∈rl,s.RlOk g) (hl:rl.length=fs.length) (x1:-s.depth<=x) (x2:x<=s.top) :
  As (o8 C [.pen,.d s.d,.d (fD fs),.d (rD s rl),.d (.int x)]) st 26000 λ_ r=>r=.d (.bool true):=by
 have l1:=hF.l1
 obtain ⟨e1,c,hR,hc⟩:=Znl hF
 have e2:=Znt h hF.B hF.l1 hr hl x1 x2
 have hpos:0 < prd fs:=by rw [sN s]; exact uE hF.B
 have hav:=Zf1 (fs:=fs) (c:=λr=>s.rc rl r x) λl hl w hw=>(hF.B l hl).w0 w hw
 have e3:=Znp (t:=av fs λr=>s.rc rl r x) (b:=prd fs) hpos (ce (ZeM h hF.B hF.l1 hr x x1 x2) (by decide)) (ce (mH hF.B) (by omega))
 generalize hX:fs.foldl cW [([],1)]=X at *
 have hXl:X.length<=256:=Nat.le_trans hR.len hc
 simp_arith only [o8,bj,bi,bh,az,am,aD,ay,aB,aA,aj,ak,bc,aK,ba,aM,aI,aH,aG,bu,br,bq,bp,bn,a9,aS,aR,aQ,aP,aw,au,aq,ao,aT,bz,bx,bw,bv,aJ,aF,aE,aL,bf,be,bd,bg,aZ,aY,aX,aW,aV,ai,aO,aN,aU,Tr.bind_assoc,Tr.draw_bind,bD,e1]
 refine dh (n:=25600) (n':=0) (P:=λ_ o=>∃ J8 J9 J10:Sl,o=.next [.pen,.d s.d,.d (fD fs),.d (rD s rl),.d (.int x),.d (.list (X.map eY)),.d (.int (prd fs)),.d (.int (av fs λr=>s.rc rl r x)),J8,J9,J10])
  (rZ (n:=100) (I:=λpre _ ρ=>∃ J8 J9 J10:Sl,ρ=[.pen,.d s.d,.d (fD fs),.d (rD s rl),.d (.int x),.d (.list (X.map eY)),.d (.int (prd fs)),.d (.int (tot (X.take pre.length) λr=>s.rc rl r x)),J8,J9,J10]) ⟨_,_,_,rfl⟩ (by rw [List.length_map]; omega) ?_ ?_) (by decide) ?_
 ·rintro pre y post st1 ρ e ⟨J8,J9,J10,rfl⟩
  have hx:(X.map eY)[pre.length]?=some y:=by rw [e]; simp
  rw [List.getElem?_map] at hx
  obtain ⟨p,hp,rfl⟩:=Option.map_eq_some_iff.mp hx
  obtain ⟨q1,q2,q3⟩:=hR.row p (List.mem_of_getElem? hp)
  have g1:=cE q3 (by omega)
  have g2:=cE (sC h hr q2 x x1 x2) (by omega)
  have el:(pre++[eY p]).length=pre.length+1:=by simp
  have eT:tot (X.take (pre.length+1)) (λr=>s.rc rl r x)=tot (X.take pre.length) (λr=>s.rc rl r x)+p.2 * s.rc rl p.1 x:=by
   rw [List.take_add_one,hp,show (some p).toList=[p] from rfl,Zax,Zf0]
  refine ⟨_,rfl,?_⟩
  rw [el,eT]
  simp_arith only [Zdf,bj,bi,bh,az,am,aD,ay,aB,aA,aj,ak,bc,aK,ba,aM,aI,aH,aG,bu,br,bq,bp,bn,a9,aS,aR,aQ,aP,aw,au,aq,ao,aT,bz,bx,bw,bv,aJ,aF,aE,aL,bf,be,bd,bg,aZ,aY,aX,aW,aV,ai,aO,aN,aU,Tr.bind_assoc,Tr.draw_bind,bD]
  refine dh (n:=100) (n':=0) (Zhg h hr q2 x1 x2 (by omega) (by omega)) (by decide) ?_
  rintro st2 _ rfl
  try simp_arith only [bj,bi,bh,az,am,aD,ay,aB,aA,aj,ak,bc,aK,ba,aM,aI,aH,aG,bu,br,bq,bp,bn,a9,aS,aR,aQ,aP,aw,au,aq,ao,aT,bz,bx,bw,bv,aJ,aF,aE,aL,bf,be,bd,bg,aZ,aY,aX,aW,aV,ai,aO,aN,aU,Tr.bind_assoc,Tr.draw_bind,bD,tZ,g1,g2]
  exact fh ⟨_,rfl,_,_,_,rfl⟩
 ·rintro st1 ρ ⟨J8,J9,J10,rfl⟩
  rw [List.length_map,List.take_length,hav]
  exact ⟨J8,J9,J10,rfl⟩
 ·rintro st1 _ ⟨J8,J9,J10,rfl⟩
  simp_arith only [bj,bi,bh,az,am,aD,ay,aB,aA,aj,ak,bc,aK,ba,aM,aI,aH,aG,bu,br,bq,bp,bn,a9,aS,aR,aQ,aP,aw,au,aq,ao,aT,bz,bx,bw,bv,aJ,aF,aE,aL,bf,be,bd,bg,aZ,aY,aX,aW,aV,ai,aO,aN,aU,Tr.bind_assoc,Tr.draw_bind,bD,e2,e3]
  exact fh rfl
end
noncomputable def seD (s:Shp) (q:Qs):PyData:=.tuple [.int q.st,.int (q.pd s),.list (q.ds.map Dy.t)]
noncomputable def dI (s:Shp) (q:Qs):PyData:=.str (seD s q).shown
section
variable {C b l:Addr} {st:Sto} {s:Shp} {q:Qs} {n:Nat}
theorem Zod (h:s.Ok) {y:Dy} (w:DyOk s y):nb 300 y.co:=by
 have t0:=h.t0
 have d0:=h.d0
 have td:=h.td
 have s0:=w.s0
 have s1:=w.s1
 have s2:=w.s2
 have n1:nb 20 y.st:=de (by show -1048576 < _; omega) (by show _ < 1048576; omega)
 have n2:nb 20 y.lv:=de (by show -1048576 < _; omega) (by show _ < 1048576; omega)
 have n3:=mO w.f0 w.f1
 have n5:nb 8 (s.nx y.lv y.fl):=ZcO h (by omega) w.s2 w.f0
 have n6:nb 200 (s.day y.lv y.fl):=by
  unfold Shp.day
  refine ce (fA (gZ (ce (eZ h.keep n5) (by decide:45+8<=60)) (ce (eZ h.lack (gq n5)) (by decide))) (eZ h.lost (fq n5 (fq n2 n3)))) (by decide)
 have n7:nb 100 (s.ord y.st y.lv):=by
  unfold Shp.ord
  refine gZ (de (by decide) (by decide)) (ce (fA h.start (eZ h.piece (fq n2 n1))) (by decide))
 rw [w.co]
 exact ce (fA n7 n6) (by decide)
theorem mh:∀ {l:List Int},(∀ x∈l,nb 300 x)->nb (301+l.length) l.sum
 | [],_=>de (by show -(_:Int) < 0; decide) (by decide)
 | x::l,h=>by
  have h1:=mh λy hy=>h y (List.mem_cons_of_mem x hy)
  have h2:=h x (by simp)
  rw [List.sum_cons]
  exact ce (fA (ce h2 (by omega:300<=301+l.length)) h1) (by rw [List.length_cons]; omega)
theorem ZiB (h:s.Ok) (w:QOk s q n) (hn:q.ds.length<=100):nb 500 (q.pd s):=by
 have h1:nb (301+(q.ds.map (·.co)).length) (q.ds.map (·.co)).sum:=mh λx hx=>by
  obtain ⟨y,hy,rfl⟩:=List.mem_map.mp hx
  exact Zod h (w.ds y hy)
 have h2:nb 100 (kO s q.st q.gl):=by
  obtain ⟨n1,n2⟩:=w.nbs h
  unfold Qs.lv at n2
  unfold kO
  cases e:q.gl with
  | none =>
   show nb 100 (0:Int)
   exact de (by decide) (by decide)
  | some g =>
   rw [e] at n2
   show nb 100 (s.ord q.st g)
   unfold Shp.ord
   exact gZ (de (by decide) (by decide)) (ce (fA h.start (eZ h.piece (fq n2 n1))) (by decide))
 unfold Qs.pd
 exact ce (fA h1 (ce h2 (by omega:100<=301+(q.ds.map (·.co)).length))) (by rw [List.length_map]; omega)
theorem Zhv (h:s.Ok) (w:QOk s q n) (hn:q.ds.length<=100):jH (.tuple [.int q.st,.int (q.pd s),.list (q.ds.map Dy.t)])=true:=by
 have r1:Rp (.list (q.ds.map Dy.t)) 2 900000:=mx (ZbM (k:=1) (n:=8000) λx hx=>by
  obtain ⟨y,hy,rfl⟩:=List.mem_map.mp hx
  exact ZbO h (w.ds y hy)) (Nat.le_refl _) (by rw [List.length_map]; omega)
 have r2:Rp (.int q.st) 2 900000:=mx (kG (ce (w.nbs h).1 (by decide))) (by decide) (by decide)
 have r3:Rp (.int (q.pd s)) 2 900000:=mx (kG (ce (ZiB h w hn) (by decide))) (by decide) (by decide)
 refine ZbL (ZbK (k:=2) (n:=900000) λx hx=>?_) (by decide) (by show 3 * 900000+2 * 3+10<=_; decide)
 simp only [List.mem_cons,List.not_mem_nil,or_false] at hx
 rcases hx with rfl | rfl | rfl
 ·exact r2
 ·exact r3
 ·exact r1
theorem nv (h:s.Ok) (B:BkOk C st b l s q) (w:QOk s q n) (hn:q.ds.length<=100):rn (iM C [.d (ah b)]) st=some (st,.d (dI s q)):=by
 have hb:=B.at_
 have d1:=uo B (by omega)
 have d2:=Zd7 B
 have d3:=pX B
 have r:fb gI [.tuple [.int q.st,.int (q.pd s),.list (q.ds.map Dy.t)]]=.ret (dI s q):=uh (Zhv h w hn)
 simp_arith only [iM,bj,bi,bh,az,am,aD,ay,aB,aA,aj,ak,bc,aK,ba,aM,aI,aH,aG,bu,br,bq,bp,bn,a9,aS,aR,aQ,aP,aw,au,aq,ao,aT,bz,bx,bw,bv,aJ,aF,aE,aL,bf,be,bd,bg,aZ,aY,aX,aW,aV,ai,aO,aN,aU,dR,dq,di,eD,eB,eA,eC,dc,db,dN,dM,eu,em,dL,eh,dP,dO,ec,dB,cx,bQ,eM,eN,eW,eL,eV,dF,eR,eQ,dE,dW,eO,eU,eJ,eK,eI,dQ,ne_eq,not_false_eq_true,hb,d1,d2,d3,r]
end
inductive Ht (s:Shp) (x:Int):Qs->List PyData->Prop
 | nil:Ht s x ⟨x,none,[]⟩ []
 | step {q q1:Qs} {xs:List PyData}:Ht s x q xs->q1.bk q->Ht s x q1 (xs++[dI s q])
structure A3 where
 b:Addr
 l:Addr
 k:Addr
noncomputable def A3.has (A:A3) (c:Addr):Prop:=c=A.b\/c=A.l\/c=A.k
structure Bo (C:Addr) (st:Sto) (A:A3) (s:Shp) (x:Int) (q:Qs) (xs:List PyData) (n:Nat):Prop where
 B:BkOk C st A.b A.l s q
 K:st.get A.k=some (.lst xs)
 w:QOk s q n
 H:Ht s x q xs
 kl:A.k≠A.l
 xl:xs.length<=2 * n
section
variable {C:Addr} {st st':Sto} {A A':A3} {s:Shp} {x:Int} {q q1:Qs} {xs:List PyData} {n:Nat}
theorem Bo.kb (o:Bo C st A s x q xs n):A.k≠A.b:=λe=>by
 have h1:=o.K
 rw [e,o.B.at_] at h1
 cases h1
theorem Bo.frame (o:Bo C st A s x q xs n) (h:∀ c,A.has c->st'.get c=st.get c):Bo C st' A s x q xs n :=
 ⟨⟨by rw [h _ (.inl rfl)]; exact o.B.at_,by rw [h _ (.inr (.inl rfl))]; exact o.B.ls⟩,by rw [h _ (.inr (.inr rfl))]; exact o.K,o.w,o.H,o.kl,o.xl⟩
theorem ZoS (hg:∀ g,q.gl=some g->True) (f:Int):(q.fall s f).bk q:=by
 refine .inr ⟨rfl,q.ds,_,rfl,?_⟩
 rfl
theorem Zhd (h:s.Ok) (B:BkOk C st A.b A.l s q1) (w:QOk s q1 n) (hn:n<=90) (K:st.get A.k=some (.lst xs)) (H:Ht s x q1 xs) (kl:A.k≠A.l) (xl:xs.length<=2 * n+1) {f:Int} (f0:0<=f) (f1:f < big) {row:List Int} {j:Nat} (hf:row[j]?=some f) (X1 X2 X3 X4 X5 X10:Sl) :
  ∃ st',rn ((bA (gB (lV (aa 9) (bI (bV (iM C) (ae (aa 7) bF))))) (gB (bI (fk C "fall" (jR C) (aa 7) (ae (ag bT (aa 8) (aa 6)) bF))))) [.pen,X1,X2,X3,X4,X5,.d (.int j),.d (ah A.b),.d (tI row),.d (ah A.k),X10]) st=some (st',.next [.pen,X1,X2,X3,X4,X5,.d (.int j),.d (ah A.b),.d (tI row),.d (ah A.k),X10]) /\
   Bo C st' A s x (q1.fall s f) (xs++[dI s q1]) (n+1)/\∀ a,¬ A.has a->st'.get a=st.get a:=by
 have hkb:A.k≠A.b:=λe=>by
  have h1:=K
  rw [e,B.at_] at h1
  cases h1
 have hsm:small (xs.length+1)=true:=dJ (by omega)
 have es:=nv h B w (by have:=w.len; omega)
 obtain ⟨st2,hs2⟩:∃ st2,st.put A.k (.lst (xs++[dI s q1]))=st2:=⟨_,rfl⟩
 have B2:BkOk C st2 A.b A.l s q1:=⟨by rw [<- hs2,bQ hkb.symm]; exact B.at_,by rw [<- hs2,bQ kl.symm]; exact B.ls⟩
 obtain ⟨st3,e3,B3,f3⟩:=Zd8 h B2 w (by have:=w.len; omega) f0 f1
 have hb2:=B2.at_
 have a1:bZ bT (tI row) (.int j)=.ret (.int f):=by
  unfold tI
  rw [fE,gx (v:=.int f) (by rw [List.getElem?_map,hf]; rfl)]
  rfl
 refine ⟨st3,?_,⟨B3,?_,w.fall h f0 f1,H.step (ZoS (λ_ _=>trivial) f),kl,by rw [List.length_append,List.length_singleton]; omega⟩,λa ha=>?_⟩
 ·simp_arith only [bj,bi,bh,az,am,aD,ay,aB,aA,aj,ak,bc,aK,ba,aM,aI,aH,aG,bu,br,bq,bp,bn,a9,aS,aR,aQ,aP,aw,au,aq,ao,aT,bz,bx,bw,bv,aJ,aF,aE,aL,bf,be,bd,bg,aZ,aY,aX,aW,aV,ai,aO,aN,aU,dR,dq,di,eD,eB,eA,eC,dc,db,dN,dM,eu,em,dL,eh,dP,dO,ec,dB,cx,bQ,eM,eN,eW,eL,eV,dF,eR,eQ,dE,dW,eO,eU,eJ,eK,eI,dQ,ne_eq,not_false_eq_true,K,es,hsm,hs2,hb2,a1,e3]
 ·rw [f3 _ hkb kl,<- hs2,cx]
 ·have ha':¬ (a=A.b\/a=A.l\/a=A.k):=ha
  rw [f3 a (λe=>ha' (.inl e)) (λe=>ha' (.inr (.inl e))),<- hs2,bQ λe=>ha' (.inr (.inr e))]
theorem Za8 (h:s.Ok) (o:Bo C st A s x q xs n) (hg:q.gl=none) (hn:n<=90) {rl:List (Int->Int)} (hr:∀ g∈rl,s.RlOk g) {j:Nat} {g:Int->Int} (hj:rl[j]?=some g) {row:List Int} {f:Int} (hf:row[j]?=some f) (f0:0<=f) (f1:f < big) (X3 X4 X5 X10:Sl) :
  As (tO C [.pen,.d s.d,.d (rD s rl),X3,X4,X5,.d (.int j),.d (ah A.b),.d (tI row),.d (ah A.k),X10]) st 1 λst' o=>∃ q1 xs' r Y10,o=.next [.pen,.d s.d,.d (rD s rl),X3,X4,X5,.d (.int j),.d (ah A.b),.d (tI row),.d (ah A.k),Y10] /\
   Bo C st' A s x (q1.fall s f) xs' (n+1)/\Chosen s q q1 (g q.st) r/\∀ a,¬ A.has a->st'.get a=st.get a:=by
 have es:=nv h o.B o.w (by have:=o.w.len; omega)
 have hkb:=o.kb
 unfold tO
 rw [lz]
 refine kF (st':=st) (a:=.next [.pen,.d s.d,.d (rD s rl),X3,X4,X5,.d (.int j),.d (ah A.b),.d (tI row),.d (ah A.k),.d (dI s q)]) (by simp_arith only [bj,bi,bh,az,am,aD,ay,aB,aA,aj,ak,bc,aK,ba,aM,aI,aH,aG,bu,br,bq,bp,bn,a9,aS,aR,aQ,aP,aw,au,aq,ao,aT,bz,bx,bw,bv,aJ,aF,aE,aL,bf,be,bd,bg,aZ,aY,aX,aW,aV,ai,aO,aN,aU,dR,dq,di,eD,eB,eA,eC,dc,db,dN,dM,eu,em,dL,eh,dP,dO,ec,dB,cx,bQ,eM,eN,eW,eL,eV,dF,eR,eQ,dE,dW,eO,eU,eJ,eK,eI,dQ,ne_eq,not_false_eq_true,es]) ?_
 rw [nr,lz]
 refine dh (n:=1) (n':=0) (P:=λst1 o1=>o1=.next [.pen,.d s.d,.d (rD s rl),X3,X4,X5,.d (.int j),.d (ah A.b),.d (tI row),.d (ah A.k),.d (dI s q)]/\∃ q1 xs1 r,BkOk C st1 A.b A.l s q1/\QOk s q1 n/\st1.get A.k=some (.lst xs1)/\Ht s x q1 xs1/\xs1.length<=2 * n+1/\Chosen s q q1 (g q.st) r/\∀ a,¬ A.has a->st1.get a=st.get a) ?_ (by decide) ?_
 ·simp_arith only [bj,bi,bh,az,am,aD,ay,aB,aA,aj,ak,bc,aK,ba,aM,aI,aH,aG,bu,br,bq,bp,bn,a9,aS,aR,aQ,aP,aw,au,aq,ao,aT,bz,bx,bw,bv,aJ,aF,aE,aL,bf,be,bd,bg,aZ,aY,aX,aW,aV,ai,aO,aN,aU,Tr.bind_assoc,Tr.draw_bind,bD]
  refine dh (n:=1) (n':=0) (Zbo h o.B o.w hg hr hj) (by decide) ?_
  rintro st1 _ ⟨q1,r0,rfl,B1,w1,c,fo⟩
  have K1:st1.get A.k=some (.lst xs):=by rw [fo _ hkb]; exact o.K
  rcases c with ⟨rfl,rfl,hy⟩ | ⟨rfl,rfl⟩
  ·try simp_arith only [bj,bi,bh,az,am,aD,ay,aB,aA,aj,ak,bc,aK,ba,aM,aI,aH,aG,bu,br,bq,bp,bn,a9,aS,aR,aQ,aP,aw,au,aq,ao,aT,bz,bx,bw,bv,aJ,aF,aE,aL,bf,be,bd,bg,aZ,aY,aX,aW,aV,ai,aO,aN,aU,Tr.bind_assoc,Tr.draw_bind,bD]
   exact fh ⟨rfl,q1,xs,false,B1,w1,K1,o.H,by have:=o.xl; omega,.inl ⟨rfl,rfl,hy⟩,λa ha=>fo a λe=>ha (.inl e)⟩
  ·have hsm:small (xs.length+1)=true:=dJ (by have:=o.xl; omega)
   try simp_arith only [bj,bi,bh,az,am,aD,ay,aB,aA,aj,ak,bc,aK,ba,aM,aI,aH,aG,bu,br,bq,bp,bn,a9,aS,aR,aQ,aP,aw,au,aq,ao,aT,bz,bx,bw,bv,aJ,aF,aE,aL,bf,be,bd,bg,aZ,aY,aX,aW,aV,ai,aO,aN,aU,Tr.bind_assoc,Tr.draw_bind,bD]
   refine gG (s:=st1) (x:=.int xs.length) (by rw [dL,K1]; rfl) ?_
   try simp_arith only [bj,bi,bh,az,am,aD,ay,aB,aA,aj,ak,bc,aK,ba,aM,aI,aH,aG,bu,br,bq,bp,bn,a9,aS,aR,aQ,aP,aw,au,aq,ao,aT,bz,bx,bw,bv,aJ,aF,aE,aL,bf,be,bd,bg,aZ,aY,aX,aW,aV,ai,aO,aN,aU,Tr.bind_assoc,Tr.draw_bind,bD]
   refine gG (s:=st1.put A.k (.lst (xs++[dI s q]))) (x:=.none) (by rw [dP,K1]; exact dO hsm) ?_
   try simp_arith only [bj,bi,bh,az,am,aD,ay,aB,aA,aj,ak,bc,aK,ba,aM,aI,aH,aG,bu,br,bq,bp,bn,a9,aS,aR,aQ,aP,aw,au,aq,ao,aT,bz,bx,bw,bv,aJ,aF,aE,aL,bf,be,bd,bg,aZ,aY,aX,aW,aV,ai,aO,aN,aU,Tr.bind_assoc,Tr.draw_bind,bD]
   refine fh ⟨rfl,_,xs++[dI s q],true,⟨by rw [bQ hkb.symm]; exact B1.at_,by rw [bQ o.kl.symm]; exact B1.ls⟩,w1,cx,o.H.step ?_,by rw [List.length_append,List.length_singleton]; have:=o.xl; omega,.inr ⟨rfl,rfl⟩,λa ha=>?_⟩
   ·refine .inl ⟨_,rfl,?_⟩
    obtain ⟨y,g',ds⟩:=q
    have hg:g'=none:=hg
    subst hg
    rfl
   ·rw [bQ λe=>ha (.inr (.inr e)),fo a λe=>ha (.inl e)]
 ·rintro st1 _ ⟨rfl,q1,xs1,r,B1,w1,K1,H1,xl1,c,fo⟩
  rw [nr]
  obtain ⟨st3,e3,o3,f3⟩:=Zhd h B1 w1 hn K1 H1 o.kl xl1 f0 f1 hf (.d s.d) (.d (rD s rl)) X3 X4 X5 (.d (dI s q))
  exact mv e3 ⟨q1,_,r,_,rfl,o3,c,λa ha=>by rw [f3 a ha,fo a ha]⟩
end
theorem ZkS {C0:Addr} {m:Str} {fx:List Sl->Tr (Option Re)} {i:List Sl->Tr PyData} {s:List Sl->Tr Ou} {ρ:List Sl}:qt C0 m fx i s ρ=(nW C0 m fx i bF ρ).bind (n9 s ρ):=rfl
theorem ZkT {s:List Sl->Tr Ou} {ρ:List Sl}:n9 s ρ none=s ρ:=rfl
theorem QOk.bk {s:Shp} {q q':Qs} {n:Nat} (w:QOk s q n) (h:q.bk q'):QOk s q' n:=by
 obtain ⟨x,g,ds⟩:=q
 rcases h with ⟨g',hg,rfl⟩ | ⟨hg,ds',y,hd,rfl⟩
 ·exact w.nogoal
 ·have hg:g=none:=hg
  have hd:ds=ds'++[y]:=hd
  subst hg hd
  exact w.back.mono (by omega)
theorem Ht.inv {s:Shp} {x:Int} {q:Qs} {xs:List PyData} (H:Ht s x q xs):(q=⟨x,none,[]⟩/\xs=[])\/∃ q0 ys,Ht s x q0 ys/\q.bk q0/\xs=ys++[dI s q0]:=by
 cases H with
 | nil=>exact .inl ⟨rfl,rfl⟩
 | step h1 h2=>exact .inr ⟨_,_,h1,h2,rfl⟩
noncomputable def Dj3 (A A':A3):Prop:=∀ c,A.has c->¬ A'.has c
theorem Dj3.symm {A A':A3} (d:Dj3 A A'):Dj3 A' A:=λc h h'=>d c h' h
section
variable {C b' l':Addr} {st st':Sto} {A A':A3} {s:Shp} {x x':Int} {q q':Qs} {xs:List PyData} {n:Nat}
theorem Bo.mono {m:Nat} (o:Bo C st A s x q xs n) (h:n<=m):Bo C st A s x q xs m:=⟨o.B,o.K,o.w.mono h,o.H,o.kl,by have:=o.xl; omega⟩
theorem Znn {b l:Addr} (B:BkOk C st b l s ⟨x,none,[]⟩):rn (pq C [.d (ah b)]) st=some (st,.d (.bool true)):=by
 have hb:=B.at_
 have e:=Zfw B rfl rfl
 simp_arith only [pq,bj,bi,bh,az,am,aD,ay,aB,aA,aj,ak,bc,aK,ba,aM,aI,aH,aG,bu,br,bq,bp,bn,a9,aS,aR,aQ,aP,aw,au,aq,ao,aT,bz,bx,bw,bv,aJ,aF,aE,aL,bf,be,bd,bg,aZ,aY,aX,aW,aV,ai,aO,aN,aU,dR,dq,di,eD,eB,eA,eC,dc,db,dN,dM,eu,em,dL,eh,dP,dO,ec,dB,cx,bQ,eM,eN,eW,eL,eV,dF,eR,eQ,dE,dW,eO,eU,eJ,eK,eI,dQ,ne_eq,not_false_eq_true,ZkS,ZkT,hb,e,Option.map_none]
theorem ZaH (s:Shp) (q:Qs):bZ gY (dI s q) (dI s q)=.ret (.bool false):=by
 unfold dI
 rw [ZdO,rL]
 rfl
theorem Znh (h:s.Ok) (o:Bo C st A s x q xs n) (hn:n<=90) (B':BkOk C st b' l' s q') (w':QOk s q' n) (d1:¬ A.has b') (d2:¬ A.has l') {bs ks:PyData} {at_:Int}
  (a0:bZ bT bs (.int at_)=.ret (ah A.b)) (a1:bZ bT bs (.int (1 - at_))=.ret (ah b')) (a2:bZ bT ks (.int at_)=.ret (ah A.k)) (X1 X2 X3 X4 X5 X7 X9 X10 X11:Sl) :
  ∃ st',rn (fm (l5 C) (pL C) 100000 [.pen,X1,X2,X3,X4,X5,.d bs,X7,.d ks,X9,X10,X11,.d (.int at_),.d (dI s q')]) st=some (st',.next [.pen,X1,X2,X3,X4,X5,.d bs,X7,.d ks,X9,X10,X11,.d (.int at_),.d (dI s q')]) /\
   Bo C st' A s x ⟨x,none,[]⟩ [] n/\∀ a,¬ A.has a->st'.get a=st.get a:=by
 refine dQ (p:=l5 C) (s:=pL C) (ρ:=[.pen,X1,X2,X3,X4,X5,.d bs,X7,.d ks,X9,X10,X11,.d (.int at_),.d (dI s q')]) (Q:=λst'=>Bo C st' A s x ⟨x,none,[]⟩ [] n/\∀ a,¬ A.has a->st'.get a=st.get a)
  (λm st2=>(∃ q xs,Bo C st2 A s x q xs n/\xs.length=m)/\∀ a,¬ A.has a->st2.get a=st.get a) ?_ xs.length 100000 st ⟨⟨q,xs,o,rfl⟩,λ_ _=>rfl⟩ (by have:=o.xl; omega)
 ·rintro m st2 ⟨⟨q,xs,o,rfl⟩,fo⟩
  have K:=o.K
  rcases o.H.inv with ⟨rfl,rfl⟩ | ⟨q0,ys,H0,hb0,rfl⟩
  ·refine .inl ⟨st2,?_,o,fo⟩
   simp_arith only [l5,bj,bi,bh,az,am,aD,ay,aB,aA,aj,ak,bc,aK,ba,aM,aI,aH,aG,bu,br,bq,bp,bn,a9,aS,aR,aQ,aP,aw,au,aq,ao,aT,bz,bx,bw,bv,aJ,aF,aE,aL,bf,be,bd,bg,aZ,aY,aX,aW,aV,ai,aO,aN,aU,dR,dq,di,eD,eB,eA,eC,dc,db,dN,dM,eu,em,dL,eh,dP,dO,ec,dB,cx,bQ,eM,eN,eW,eL,eV,dF,eR,eQ,dE,dW,eO,eU,eJ,eK,eI,dQ,ne_eq,not_false_eq_true,a2,K]
   rfl
  ·have hl:=o.w.len
   have hkb:=o.kb
   have hz:((((ys++[dI s q0]).length:Nat):Int) != 0)=true:=by
    rw [bne_iff_ne,List.length_append,List.length_singleton]
    omega
   obtain ⟨st3,e3,B3,f3⟩:=Znv h o.B o.w (by omega) hb0
   have w0:=o.w.bk hb0
   have hl0:=w0.len
   have K3:st3.get A.k=some (.lst (ys++[dI s q0])):=by rw [f3 _ hkb o.kl]; exact K
   have es:=nv h B3 w0 (by omega)
   obtain ⟨st4,hs4⟩:∃ st4,st3.put A.k (.lst ys)=st4:=⟨_,rfl⟩
   have f4:∀ a,¬ A.has a->st4.get a=st.get a:=λa ha=>by
    rw [<- hs4,bQ λe=>ha (.inr (.inr e)),f3 a (λe=>ha (.inl e)) (λe=>ha (.inr (.inl e))),fo a ha]
   have B4:BkOk C st4 b' l' s q':=⟨by rw [f4 _ d1]; exact B'.at_,by rw [f4 _ d2]; exact B'.ls⟩
   have hl':=w'.len
   have es':=nv h B4 w' (by omega)
   have hb:=o.B.at_
   have n1:=ZaH s q0
   have n2:=ZaH s q'
   have xl:=o.xl
   rw [List.length_append,List.length_singleton] at xl
   refine .inr ⟨st2,st4,ys.length,?_,?_,by rw [List.length_append,List.length_singleton]; omega,⟨q0,ys,⟨⟨by rw [<- hs4,bQ hkb.symm]; exact B3.at_,by rw [<- hs4,bQ o.kl.symm]; exact B3.ls⟩,by rw [<- hs4,cx],w0,H0,o.kl,by omega⟩,rfl⟩,f4⟩
   ·simp_arith only [l5,bj,bi,bh,az,am,aD,ay,aB,aA,aj,ak,bc,aK,ba,aM,aI,aH,aG,bu,br,bq,bp,bn,a9,aS,aR,aQ,aP,aw,au,aq,ao,aT,bz,bx,bw,bv,aJ,aF,aE,aL,bf,be,bd,bg,aZ,aY,aX,aW,aV,ai,aO,aN,aU,dR,dq,di,eD,eB,eA,eC,dc,db,dN,dM,eu,em,dL,eh,dP,dO,ec,dB,cx,bQ,eM,eN,eW,eL,eV,dF,eR,eQ,dE,dW,eO,eU,eJ,eK,eI,dQ,ne_eq,not_false_eq_true,a2,K,hz,if_true]
   ·simp_arith only [pL,bj,bi,bh,az,am,aD,ay,aB,aA,aj,ak,bc,aK,ba,aM,aI,aH,aG,bu,br,bq,bp,bn,a9,aS,aR,aQ,aP,aw,au,aq,ao,aT,bz,bx,bw,bv,aJ,aF,aE,aL,bf,be,bd,bg,aZ,aY,aX,aW,aV,ai,aO,aN,aU,dR,dq,di,eD,eB,eA,eC,dc,db,dN,dM,eu,em,dL,eh,dP,dO,ec,dB,cx,bQ,eM,eN,eW,eL,eV,dF,eR,eQ,dE,dW,eO,eU,eJ,eK,eI,dQ,ne_eq,not_false_eq_true,a0,a1,a2,hb,e3,es,K3,dB,hs4,es',n1,n2]
theorem Zd4 (h:s.Ok) (o:Bo C st A s x q xs n) (hn:n<=90) (B':BkOk C st b' l' s q') (w':QOk s q' n) (d1:¬ A.has b') (d2:¬ A.has l') {bs ks:PyData} {at_:Int}
  (a0:bZ bT bs (.int at_)=.ret (ah A.b)) (a1:bZ bT bs (.int (1 - at_))=.ret (ah b')) (a2:bZ bT ks (.int at_)=.ret (ah A.k)) (X1 X2 X3 X4 X5 X7 X9 X10 X11 X13:Sl) :
  ∃ st',rn (lg C [.pen,X1,X2,X3,X4,X5,.d bs,X7,.d ks,X9,X10,X11,.d (.int at_),X13]) st=some (st',.next [.pen,X1,X2,X3,X4,X5,.d bs,X7,.d ks,X9,X10,X11,.d (.int at_),.d (dI s q')]) /\
   Bo C st' A s x ⟨x,none,[]⟩ [] n/\∀ a,¬ A.has a->st'.get a=st.get a:=by
 obtain ⟨st2,e2,o2,f2⟩:=Znh h o hn B' w' d1 d2 a0 a1 a2 X1 X2 X3 X4 X5 X7 X9 X10 X11
 have e3:=Znn o2.B
 have hl':=w'.len
 have es':=nv h B' w' (by omega)
 refine ⟨st2,?_,o2,f2⟩
 simp_arith only [lg,bj,bi,bh,az,am,aD,ay,aB,aA,aj,ak,bc,aK,ba,aM,aI,aH,aG,bu,br,bq,bp,bn,a9,aS,aR,aQ,aP,aw,au,aq,ao,aT,bz,bx,bw,bv,aJ,aF,aE,aL,bf,be,bd,bg,aZ,aY,aX,aW,aV,ai,aO,aN,aU,dR,dq,di,eD,eB,eA,eC,dc,db,dN,dM,eu,em,dL,eh,dP,dO,ec,dB,cx,bQ,eM,eN,eW,eL,eV,dF,eR,eQ,dE,dW,eO,eU,eJ,eK,eI,dQ,ne_eq,not_false_eq_true,a0,a1,es',e2,e3,Bool.not_true]
theorem ez3 {X0 X1 X2:Sl} {a b c d e f:PyData} {r:List Sl} :
  lQ (aa 3) (aa 4) (aa 5) (X0::X1::X2::.d (.list [a,b])::.d (.list [c,d])::.d (.list [e,f])::r)=.ret [.tuple [a,c,e],.tuple [b,d,f]]:=rfl
theorem Zhb (h:s.Ok) (oA:Bo C st A s x ⟨x,none,[]⟩ [] 0) (oB:Bo C st A' s x' ⟨x',none,[]⟩ [] 0) (dj:Dj3 A A') {rl:List (Int->Int)} (hr:∀ g∈rl,s.RlOk g) (hl:rl.length<=6) {ra rb:List Int}
  (la:ra.length=rl.length) (lb:rb.length=rl.length) (ha:∀ f∈ra,0<=f/\f < big) (hb:∀ f∈rb,0<=f/\f < big) :
  As (o9 C [.pen,.d s.d,.d (rD s rl),.d (.list [ah A.b,ah A'.b]),.d (.list [tI ra,tI rb]),.d (.list [ah A.k,ah A'.k])]) st 20 λst' r=>r=.d .none /\
   (∃ q xs,Bo C st' A s x q xs 6/\Hd s rl ra x rl.length q)/\∃ q xs,Bo C st' A' s x' q xs 6/\Hd s rl rb x' rl.length q:=by
 have l0:fb iO [rD s rl]=.ret (.int (rl.length:Int)):=by
  unfold rD
  rw [ZdQ,List.length_map]
 have r0:gH [.int (rl.length:Int)]=.ret (cB 0 rl.length):=lA (ir (by omega) (by omega))
 simp_arith only [o9,bj,bi,bh,az,am,aD,ay,aB,aA,aj,ak,bc,aK,ba,aM,aI,aH,aG,bu,br,bq,bp,bn,a9,aS,aR,aQ,aP,aw,au,aq,ao,aT,bz,bx,bw,bv,aJ,aF,aE,aL,bf,be,bd,bg,aZ,aY,aX,aW,aV,ai,aO,aN,aU,Tr.bind_assoc,Tr.draw_bind,bD,l0,r0]
 refine dh (n:=20) (n':=0) (P:=λst' o=>(∃ ρ,o=.next ρ)/\(∃ q xs,Bo C st' A s x q xs 6/\Hd s rl ra x rl.length q)/\∃ q xs,Bo C st' A' s x' q xs 6/\Hd s rl rb x' rl.length q)
  (rZ (n:=2) (I:=λpre st ρ=>(∃ X6 X7 X8 X9 X10,ρ=[.pen,.d s.d,.d (rD s rl),.d (.list [ah A.b,ah A'.b]),.d (.list [tI ra,tI rb]),.d (.list [ah A.k,ah A'.k]),X6,X7,X8,X9,X10])/\(∃ q xs,Bo C st A s x q xs pre.length/\Hd s rl ra x pre.length q)/\∃ q xs,Bo C st A' s x' q xs pre.length/\Hd s rl rb x' pre.length q)
   ⟨⟨_,_,_,_,_,rfl⟩,⟨_,_,oA,Hd.nil⟩,_,_,oB,Hd.nil⟩ (by rw [dC]; omega) ?_ ?_) (by decide) ?_
 ·rintro pre y post st ρ e ⟨⟨X6,X7,X8,X9,X10,rfl⟩,⟨q,xs,oA,hA⟩,q',xs',oB,hB⟩
  have hy:(cB 0 (rl.length:Int))[pre.length]?=some y:=by rw [e]; simp
  obtain ⟨rfl,hlt⟩:=ZbQ hy
  have hk:pre.length < rl.length:=by omega
  have hg:rl[pre.length]?=some rl[pre.length]:=List.getElem?_eq_getElem hk
  have hfa:ra[pre.length]?=some (ra[pre.length]'(by omega)):=List.getElem?_eq_getElem (by omega)
  have hfb:rb[pre.length]?=some (rb[pre.length]'(by omega)):=List.getElem?_eq_getElem (by omega)
  obtain ⟨a1,a2⟩:=ha _ (List.mem_of_getElem? hfa)
  obtain ⟨b1,b2⟩:=hb _ (List.mem_of_getElem? hfb)
  rw [Int.zero_add]
  refine ⟨[.pen,.d s.d,.d (rD s rl),.d (.list [ah A.b,ah A'.b]),.d (.list [tI ra,tI rb]),.d (.list [ah A.k,ah A'.k]),.d (.int pre.length),X7,X8,X9,X10],rfl,?_⟩
  unfold Zdg
  rw [ZdR,ez3,Tr.ret_bind]
  simp_arith only [bj,bi,bh,az,am,aD,ay,aB,aA,aj,ak,bc,aK,ba,aM,aI,aH,aG,bu,br,bq,bp,bn,a9,aS,aR,aQ,aP,aw,au,aq,ao,aT,bz,bx,bw,bv,aJ,aF,aE,aL,bf,be,bd,bg,aZ,aY,aX,aW,aV,ai,aO,aN,aU,Tr.bind_assoc,Tr.draw_bind,bD,ft]
  refine dh (n:=1) (n':=1) (Za8 h oA hA.g (by omega) hr hg hfa a1 a2 (.d (.list [ah A.b,ah A'.b])) (.d (.list [tI ra,tI rb])) (.d (.list [ah A.k,ah A'.k])) X10) (by decide) ?_
  rintro st1 _ ⟨q1,xs1,r1,Y10,rfl,o1,c1,f1⟩
  try simp_arith only [bj,bi,bh,az,am,aD,ay,aB,aA,aj,ak,bc,aK,ba,aM,aI,aH,aG,bu,br,bq,bp,bn,a9,aS,aR,aQ,aP,aw,au,aq,ao,aT,bz,bx,bw,bv,aJ,aF,aE,aL,bf,be,bd,bg,aZ,aY,aX,aW,aV,ai,aO,aN,aU,Tr.bind_assoc,Tr.draw_bind,bD,ft]
  refine dh (n:=1) (n':=0) (Za8 h (oB.frame λc hc=>f1 c (dj.symm c hc)) hB.g (by omega) hr hg hfb b1 b2 (.d (.list [ah A.b,ah A'.b])) (.d (.list [tI ra,tI rb])) (.d (.list [ah A.k,ah A'.k])) Y10) (by decide) ?_
  rintro st2 _ ⟨q2,xs2,r2,Z10,rfl,o2,c2,f2⟩
  try simp_arith only [bj,bi,bh,az,am,aD,ay,aB,aA,aj,ak,bc,aK,ba,aM,aI,aH,aG,bu,br,bq,bp,bn,a9,aS,aR,aQ,aP,aw,au,aq,ao,aT,bz,bx,bw,bv,aJ,aF,aE,aL,bf,be,bd,bg,aZ,aY,aX,aW,aV,ai,aO,aN,aU,Tr.bind_assoc,Tr.draw_bind,bD,ft]
  have el:(pre++[PyData.int (pre.length:Int)]).length=pre.length+1:=by rw [List.length_append,List.length_singleton]
  refine fh ⟨_,rfl,?_⟩
  rw [el]
  exact ⟨⟨_,_,_,_,_,rfl⟩,⟨_,_,o1.frame λc hc=>f2 c (dj c hc),hA.step hg hfa c1⟩,_,_,o2,hB.step hg hfb c2⟩
 ·rintro st2 ρ ⟨⟨X6,X7,X8,X9,X10,rfl⟩,⟨q,xs,oA,hA⟩,q',xs',oB,hB⟩
  have el:(cB 0 (rl.length:Int)).length=rl.length:=by rw [dC]; omega
  rw [el] at oA oB hA hB
  exact ⟨⟨_,rfl⟩,⟨_,_,oA.mono hl,hA⟩,_,_,oB.mono hl,hB⟩
 ·rintro st2 _ ⟨⟨ρ,rfl⟩,z1,z2⟩
  try simp_arith only [bj,bi,bh,az,am,aD,ay,aB,aA,aj,ak,bc,aK,ba,aM,aI,aH,aG,bu,br,bq,bp,bn,a9,aS,aR,aQ,aP,aw,au,aq,ao,aT,bz,bx,bw,bv,aJ,aF,aE,aL,bf,be,bd,bg,aZ,aY,aX,aW,aV,ai,aO,aN,aU,Tr.bind_assoc,Tr.draw_bind,bD]
  exact fh ⟨rfl,z1,z2⟩
end
theorem sK:bZ oJ (.int 10) (.int 28)=.ret (.int 10000000000000000000000000000):=by rfl
theorem Zdq:∀ {ys:List PyData},(∀ y∈ys,∃ f:Int,y=.int f/\0<=f/\f < big)->∃ row:List Int,ys=row.map PyData.int/\∀ f∈row,0<=f/\f < big
 | [],_=>⟨[],rfl,λ_ h=>by cases h⟩
 | y::ys,h=>by
  obtain ⟨f,rfl,hq⟩:=h y (by simp)
  obtain ⟨row,rfl,hf⟩:=Zdq λz hz=>h z (List.mem_cons_of_mem _ hz)
  refine ⟨f::row,rfl,λl hl=>?_⟩
  rcases List.mem_cons.mp hl with rfl | hl
  ·exact hq
  ·exact hf l hl
section
variable {C b l:Addr} {st st':Sto} {s:Shp} {x x':Int} {rl:List (Int->Int)}
theorem Zbc (hl:rl.length<=6) {acc:List PyData} (ha:acc.length<=10) (X3 X5:Sl) :
  Al (tQ C [.pen,.d s.d,.d (rD s rl),X3,.own acc,X5,.un,.un,.un,.un,.un,.un,.un,.un]) 12 λo=>∃ row:List Int,o=.next [.pen,.d s.d,.d (rD s rl),X3,.own (acc++[tI row]),X5,.un,.un,.un,.un,.un,.un,.un,.un]/\row.length=rl.length/\∀ f∈row,0<=f/\f < big:=by
 have i1:fW (rD s rl)=.ret (rl.map λg=>tI (s.row g)):=rfl
 have hs:small (rl.map λg=>tI (s.row g)).length=true:=dJ (by rw [List.length_map]; omega)
 have hm:small (acc.length+1)=true:=dJ (by omega)
 simp_arith only [tQ,bj,bi,bh,az,am,aD,ay,aB,aA,aj,ak,bc,aK,ba,aM,aI,aH,aG,bu,br,bq,bp,bn,a9,aS,aR,aQ,aP,aw,au,aq,ao,aT,bz,bx,bw,bv,aJ,aF,aE,aL,bf,be,bd,bg,aZ,aY,aX,aW,aV,ai,aO,aN,aU,Tr.bind_assoc,Tr.draw_bind,bD,i1,hs]
 refine gy (n:=12) (n':=0) (uV (n:=2) (P:=λy=>∃ f:Int,y=.int f/\0<=f/\f < big) (Q:=λys=>∃ row:List Int,ys=row.map PyData.int/\row.length=rl.length/\∀ f∈row,0<=f/\f < big) (by rw [List.length_map]; omega) (λy hy=>?_) λys hl hys=>?_) (by decide) ?_
 ·simp_arith only [Zcl,bj,bi,bh,az,am,aD,ay,aB,aA,aj,ak,bc,aK,ba,aM,aI,aH,aG,bu,br,bq,bp,bn,a9,aS,aR,aQ,aP,aw,au,aq,ao,aT,bz,bx,bw,bv,aJ,aF,aE,aL,bf,be,bd,bg,aZ,aY,aX,aW,aV,ai,aO,aN,aU,Tr.bind_assoc,Tr.draw_bind,bD,sK]
  refine fj (n:=1) (by decide) (by decide) (by decide) λr r0 r1=>?_
  try simp_arith only [bj,bi,bh,az,am,aD,ay,aB,aA,aj,ak,bc,aK,ba,aM,aI,aH,aG,bu,br,bq,bp,bn,a9,aS,aR,aQ,aP,aw,au,aq,ao,aT,bz,bx,bw,bv,aJ,aF,aE,aL,bf,be,bd,bg,aZ,aY,aX,aW,aV,ai,aO,aN,aU,Tr.bind_assoc,Tr.draw_bind,bD,sK]
  refine fj (n:=0) (by decide) (by decide) (by decide) λu u0 u1=>?_
  try simp_arith only [bj,bi,bh,az,am,aD,ay,aB,aA,aj,ak,bc,aK,ba,aM,aI,aH,aG,bu,br,bq,bp,bn,a9,aS,aR,aQ,aP,aw,au,aq,ao,aT,bz,bx,bw,bv,aJ,aF,aE,aL,bf,be,bd,bg,aZ,aY,aX,aW,aV,ai,aO,aN,aU,Tr.bind_assoc,Tr.draw_bind,bD,sK]
  cases hu:(u == 0)
  ·exact qk (show _=Tr.ret (PyData.int r) from rfl) ⟨r,rfl,r0,by show r < 20000000000000000000000000000; omega⟩
  ·exact qk (show _=Tr.ret (PyData.int 10000000000000000000000000000) from rfl) ⟨_,rfl,by decide,by decide⟩
 ·obtain ⟨row,rfl,hf⟩:=Zdq hys
  refine ⟨row,rfl,?_,hf⟩
  rw [List.length_map,List.length_map] at hl
  exact hl
 ·rintro _ ⟨row,rfl,h1,h2⟩
  try simp_arith only [bj,bi,bh,az,am,aD,ay,aB,aA,aj,ak,bc,aK,ba,aM,aI,aH,aG,bu,br,bq,bp,bn,a9,aS,aR,aQ,aP,aw,au,aq,ao,aT,bz,bx,bw,bv,aJ,aF,aE,aL,bf,be,bd,bg,aZ,aY,aX,aW,aV,ai,aO,aN,aU,Tr.bind_assoc,Tr.draw_bind,bD,hm]
  exact fe ⟨row,rfl,h1,h2⟩
structure Ini (C:Addr) (st:Sto) (b1 l1 b2 l2:Addr) (s:Shp) (x1 x2:Int):Prop where
 B1:BkOk C st b1 l1 s ⟨x1,none,[]⟩
 B2:BkOk C st b2 l2 s ⟨x2,none,[]⟩
 bb:b1≠b2
 bl:b1≠l2
 lb:l1≠b2
 ll:l1≠l2
theorem Zhm {x1:Int} (h1:-s.depth<=x1) (h2:x1<=s.top):As (mF C [.d (.int x1),.d s.d]) st 0 λst1 r=>∃ b1 l1,r=ah b1/\BkOk C st1 b1 l1 s ⟨x1,none,[]⟩:=by
 have e:mF C [.d (.int x1),.d s.d]=mS C (jm C) [.d s.d,.d (.int x1)]:=rfl
 rw [e]
 exact sf h1 h2 λb l st1 _ _ _ B _=>⟨b,l,rfl,B⟩
theorem Zhl {b1 l1:Addr} {x1 x2:Int} (B1:BkOk C st b1 l1 s ⟨x1,none,[]⟩) (h3:-s.depth<=x2) (h4:x2<=s.top):As (mF C [.d (.int x2),.d s.d]) st 0 λst2 r=>∃ b2 l2,r=ah b2/\Ini C st2 b1 l1 b2 l2 s x1 x2:=by
 have e:mF C [.d (.int x2),.d s.d]=mS C (jm C) [.d s.d,.d (.int x2)]:=rfl
 rw [e]
 refine sf h3 h4 λb l st2 hb hl _ B f=>?_
 have n1:b1≠b:=λe=>by rw [<- e,B1.at_] at hb; cases hb
 have n2:b1≠l:=λe=>by rw [<- e,B1.at_] at hl; cases hl
 have n3:l1≠b:=λe=>by rw [<- e,B1.ls] at hb; cases hb
 have n4:l1≠l:=λe=>by rw [<- e,B1.ls] at hl; cases hl
 exact ⟨b,l,rfl,⟨⟨by rw [f _ n1 n2]; exact B1.at_,by rw [f _ n3 n4]; exact B1.ls⟩,B,n1,n2,n3,n4⟩⟩
theorem Zd6 (h:s.Ok) {A:A3} {q:Qs} {xs:List PyData} {n:Nat} (o:Bo C st A s x q xs n) (hn:n<=90) (hr:∀ g∈rl,s.RlOk g) (hl:rl.length<=6) {row:List Int} (lr:row.length=rl.length) (hf:∀ f∈row,0<=f/\f < big) (H:Hd s rl row x rl.length q) (x1:-s.depth<=x) (x2:x<=s.top) (X3 X4 X5 X6 X7 X8 X12 X13:Sl) :
  rn (lh C [.pen,.d s.d,.d (rD s rl),X3,X4,X5,X6,X7,X8,.d (ah A.b),.d (.int x),.d (tI row),X12,X13]) st=some (st,.next [.pen,.d s.d,.d (rD s rl),X3,X4,X5,X6,X7,X8,.d (ah A.b),.d (.int x),.d (tI row),X12,X13]):=by
 have hw:=o.w.len
 rw [<- lr] at H
 obtain ⟨t1,_⟩:=H.done lr.symm
 have er:=Znj h hr hf x1 x2 (by omega)
 rw [<- t1] at er
 have hb:=o.B.at_
 have d1:=uo o.B (by omega)
 have r2:fb gI [.list (q.ds.map Dy.t)]=.ret (.str (PyData.list (q.ds.map Dy.t)).shown):=uh (ZbN h o.w.ds (by omega))
 have es:=rL (PyData.list (q.ds.map Dy.t)).shown
 generalize (PyData.list (q.ds.map Dy.t)).shown=z at r2 es
 simp_arith only [lh,bj,bi,bh,az,am,aD,ay,aB,aA,aj,ak,bc,aK,ba,aM,aI,aH,aG,bu,br,bq,bp,bn,a9,aS,aR,aQ,aP,aw,au,aq,ao,aT,bz,bx,bw,bv,aJ,aF,aE,aL,bf,be,bd,bg,aZ,aY,aX,aW,aV,ai,aO,aN,aU,dR,dq,di,eD,eB,eA,eC,dc,db,dN,dM,eu,em,dL,eh,dP,dO,ec,dB,cx,bQ,eM,eN,eW,eL,eV,dF,eR,eQ,dE,dW,eO,eU,eJ,eK,eI,dQ,ne_eq,not_false_eq_true,hb,d1,er,r2,es,Bool.not_true]
noncomputable abbrev Rst (C:Addr):List Sl->Tr Ou:=bA (iC 4 (dA (lQ (aa 6) (aa 3) (aa 4)) (cI (bJ (bE 9) (bJ (bE 10) (bJ (bE 11) cG)))) (lh C)))
 (dA (gf (fO (bC (aC (.int 1)) (bC (aC (.int 0)) bP)))) (bE 12) (lg C))
theorem Znm (h:s.Ok) {A A':A3} {q q':Qs} {xs xs':List PyData} (o:Bo C st A s x q xs 6) (o':Bo C st A' s x' q' xs' 6) (dj:Dj3 A A') (hr:∀ g∈rl,s.RlOk g) (hl:rl.length<=6) {ra rb:List Int}
  (la:ra.length=rl.length) (lb:rb.length=rl.length) (ha:∀ f∈ra,0<=f/\f < big) (hb:∀ f∈rb,0<=f/\f < big) (H:Hd s rl ra x rl.length q) (H':Hd s rl rb x' rl.length q') (x1:-s.depth<=x) (x2:x<=s.top) (y1:-s.depth<=x') (y2:x'<=s.top) (X5 X7 X9 X10 X11 X12 X13:Sl) :
  ∃ st' Y9 Y10 Y11 Y12 Y13,rn (Rst C [.pen,.d s.d,.d (rD s rl),.d (.list [.int x,.int x']),.d (.list [tI ra,tI rb]),X5,.d (.list [ah A.b,ah A'.b]),X7,.d (.list [ah A.k,ah A'.k]),X9,X10,X11,X12,X13]) st =
   some (st',.next [.pen,.d s.d,.d (rD s rl),.d (.list [.int x,.int x']),.d (.list [tI ra,tI rb]),X5,.d (.list [ah A.b,ah A'.b]),X7,.d (.list [ah A.k,ah A'.k]),Y9,Y10,Y11,Y12,Y13])/\Ini C st' A.b A.l A'.b A'.l s x x':=by
 have t1:=Zd6 h o (by decide) hr hl la ha H x1 x2 (.d (.list [.int x,.int x'])) (.d (.list [tI ra,tI rb])) X5 (.d (.list [ah A.b,ah A'.b])) X7 (.d (.list [ah A.k,ah A'.k])) X12 X13
 have t2:=Zd6 h o' (by decide) hr hl lb hb H' y1 y2 (.d (.list [.int x,.int x'])) (.d (.list [tI ra,tI rb])) X5 (.d (.list [ah A.b,ah A'.b])) X7 (.d (.list [ah A.k,ah A'.k])) X12 X13
 obtain ⟨st4,u1,o4,f4⟩:=Zd4 h o' (by decide) o.B o.w (dj _ (.inl rfl)) (dj _ (.inr (.inl rfl))) (bs:=.list [ah A.b,ah A'.b]) (ks:=.list [ah A.k,ah A'.k]) (at_:=1) rfl rfl rfl (.d s.d) (.d (rD s rl)) (.d (.list [.int x,.int x'])) (.d (.list [tI ra,tI rb])) X5 X7 (.d (ah A'.b)) (.d (.int x')) (.d (tI rb)) X13
 obtain ⟨st5,u2,o5,f5⟩:=Zd4 h (o.frame λc hc=>f4 c (dj c hc)) (by decide) o4.B o4.w (dj.symm _ (.inl rfl)) (dj.symm _ (.inr (.inl rfl))) (bs:=.list [ah A.b,ah A'.b]) (ks:=.list [ah A.k,ah A'.k]) (at_:=0) rfl rfl rfl (.d s.d) (.d (rD s rl)) (.d (.list [.int x,.int x'])) (.d (.list [tI ra,tI rb])) X5 X7 (.d (ah A'.b)) (.d (.int x')) (.d (tI rb)) (.d (dI s q))
 have o6:=o4.frame λc hc=>f5 c (dj.symm c hc)
 have z1:(iC 4 (dA (lQ (aa 6) (aa 3) (aa 4)) (cI (bJ (bE 9) (bJ (bE 10) (bJ (bE 11) cG)))) (lh C))) [.pen,.d s.d,.d (rD s rl),.d (.list [.int x,.int x']),.d (.list [tI ra,tI rb]),X5,.d (.list [ah A.b,ah A'.b]),X7,.d (.list [ah A.k,ah A'.k]),X9,X10,X11,X12,X13] =
   dU (cI (bJ (bE 9) (bJ (bE 10) (bJ (bE 11) cG)))) (lh C) [.tuple [ah A.b,.int x,tI ra],.tuple [ah A'.b,.int x',tI rb]] [.pen,.d s.d,.d (rD s rl),.d (.list [.int x,.int x']),.d (.list [tI ra,tI rb]),X5,.d (.list [ah A.b,ah A'.b]),X7,.d (.list [ah A.k,ah A'.k]),X9,X10,X11,X12,X13]:=rfl
 have z2:∀ ρ,(dA (gf (fO (bC (aC (.int 1)) (bC (aC (.int 0)) bP)))) (bE 12) (lg C)) ρ=dU (bE 12) (lg C) [.int 1,.int 0] ρ:=λ_=>rfl
 refine ⟨st5,.d (ah A'.b),.d (.int x'),.d (tI rb),.d (.int 0),.d (dI s ⟨x',none,[]⟩),?_,⟨o5.B,o6.B,λe=>dj _ (.inl rfl) (.inl e),λe=>dj _ (.inl rfl) (.inr (.inl e)),λe=>dj _ (.inr (.inl rfl)) (.inl e),λe=>dj _ (.inr (.inl rfl)) (.inr (.inl e))⟩⟩
 unfold Rst
 rw [lz,di,z1]
 simp_arith only [bj,bi,bh,az,am,aD,ay,aB,aA,aj,ak,bc,aK,ba,aM,aI,aH,aG,bu,br,bq,bp,bn,a9,aS,aR,aQ,aP,aw,au,aq,ao,aT,bz,bx,bw,bv,aJ,aF,aE,aL,bf,be,bd,bg,aZ,aY,aX,aW,aV,ai,aO,aN,aU,dR,dq,di,eD,eB,eA,eC,dc,db,dN,dM,eu,em,dL,eh,dP,dO,ec,dB,cx,bQ,eM,eN,eW,eL,eV,dF,eR,eQ,dE,dW,eO,eU,eJ,eK,eI,dQ,ne_eq,not_false_eq_true,ft,t1,t2,z2,u1,u2]
end
section
variable {C b1 l1 b2 l2:Addr} {st st':Sto} {s:Shp} {x x':Int} {rl:List (Int->Int)}
theorem Zbd (h:s.Ok) (I:Ini C st b1 l1 b2 l2 s x x') (hr:∀ g∈rl,s.RlOk g) (hl:rl.length<=6) {ra rb:List Int} (la:ra.length=rl.length) (lb:rb.length=rl.length) (ha:∀ f∈ra,0<=f/\f < big) (hb:∀ f∈rb,0<=f/\f < big)
  (x1:-s.depth<=x) (x2:x<=s.top) (y1:-s.depth<=x') (y2:x'<=s.top) {X4:Sl} (hX:X4=.own [tI ra,tI rb]\/X4=.d (.list [tI ra,tI rb])) (X5 X7 X8 X9 X10 X11 X12 X13:Sl) :
  As (tP C [.pen,.d s.d,.d (rD s rl),.d (.list [.int x,.int x']),X4,X5,.d (.list [ah b1,ah b2]),X7,X8,X9,X10,X11,X12,X13]) st 20 λst' o=>Ini C st' b1 l1 b2 l2 s x x' /\
   ∃ Y8 Y9 Y10 Y11 Y12 Y13,o=.next [.pen,.d s.d,.d (rD s rl),.d (.list [.int x,.int x']),.d (.list [tI ra,tI rb]),X5,.d (.list [ah b1,ah b2]),X7,Y8,Y9,Y10,Y11,Y12,Y13]:=by
 unfold tP
 rw [lz]
 refine dh (n:=0) (n':=20) (P:=λst1 o=>∃ k1 k2,o=.next [.pen,.d s.d,.d (rD s rl),.d (.list [.int x,.int x']),X4,X5,.d (.list [ah b1,ah b2]),X7,.d (.list [ah k1,ah k2]),X9,X10,X11,X12,X13] /\
  Bo C st1 ⟨b1,l1,k1⟩ s x ⟨x,none,[]⟩ [] 0/\Bo C st1 ⟨b2,l2,k2⟩ s x' ⟨x',none,[]⟩ [] 0/\Dj3 ⟨b1,l1,k1⟩ ⟨b2,l2,k2⟩) ?_ (by decide) ?_
 ·simp_arith only [bj,bi,bh,az,am,aD,ay,aB,aA,aj,ak,bc,aK,ba,aM,aI,aH,aG,bu,br,bq,bp,bn,a9,aS,aR,aQ,aP,aw,au,aq,ao,aT,bz,bx,bw,bv,aJ,aF,aE,aL,bf,be,bd,bg,aZ,aY,aX,aW,aV,ai,aO,aN,aU,Tr.bind_assoc,Tr.draw_bind,bD]
  refine rY λk1 h1=>?_
  try simp_arith only [bj,bi,bh,az,am,aD,ay,aB,aA,aj,ak,bc,aK,ba,aM,aI,aH,aG,bu,br,bq,bp,bn,a9,aS,aR,aQ,aP,aw,au,aq,ao,aT,bz,bx,bw,bv,aJ,aF,aE,aL,bf,be,bd,bg,aZ,aY,aX,aW,aV,ai,aO,aN,aU,Tr.bind_assoc,Tr.draw_bind,bD]
  refine rY λk2 h2=>?_
  try simp_arith only [bj,bi,bh,az,am,aD,ay,aB,aA,aj,ak,bc,aK,ba,aM,aI,aH,aG,bu,br,bq,bp,bn,a9,aS,aR,aQ,aP,aw,au,aq,ao,aT,bz,bx,bw,bv,aJ,aF,aE,aL,bf,be,bd,bg,aZ,aY,aX,aW,aV,ai,aO,aN,aU,Tr.bind_assoc,Tr.draw_bind,bD]
  have k12:k2≠k1:=λe=>by rw [e,cx] at h2; cases h2
  rw [bQ k12] at h2
  have v:∀ {k a:Addr} {c:Cel},st.get k=none->st.get a=some c->a≠k:=λhk ha e=>by rw [e,hk] at ha; cases ha
  have fr:∀ {a:Addr} {c:Cel},st.get a=some c->((st.put k1 (.lst [])).put k2 (.lst [])).get a=some c:=λha=>by rw [bQ (v h2 ha),bQ (v h1 ha)]; exact ha
  refine fh ⟨k1,k2,rfl,⟨⟨fr I.B1.at_,fr I.B1.ls⟩,?_,sJ x1 x2,.nil,(v h1 I.B1.ls).symm,by decide⟩,⟨⟨fr I.B2.at_,fr I.B2.ls⟩,cx,sJ y1 y2,.nil,(v h2 I.B2.ls).symm,by decide⟩,?_⟩
  ·show ((st.put k1 (.lst [])).put k2 (.lst [])).get k1=_
   rw [bQ k12.symm,cx]
  ·rintro c (rfl | rfl | rfl) (e | e | e)
   ·exact I.bb e
   ·exact I.bl e
   ·exact v h2 I.B1.at_ e
   ·exact I.lb e
   ·exact I.ll e
   ·exact v h2 I.B1.ls e
   ·exact v h1 I.B2.at_ e.symm
   ·exact v h1 I.B2.ls e.symm
   ·exact k12 e.symm
 ·rintro st1 _ ⟨k1,k2,rfl,oA,oB,dj⟩
  rw [nr,lz]
  refine dh (n:=20) (n':=0) (P:=λst2 o=>o=.next [.pen,.d s.d,.d (rD s rl),.d (.list [.int x,.int x']),.d (.list [tI ra,tI rb]),X5,.d (.list [ah b1,ah b2]),X7,.d (.list [ah k1,ah k2]),X9,X10,X11,X12,X13] /\
   (∃ q xs,Bo C st2 ⟨b1,l1,k1⟩ s x q xs 6/\Hd s rl ra x rl.length q)/\∃ q xs,Bo C st2 ⟨b2,l2,k2⟩ s x' q xs 6/\Hd s rl rb x' rl.length q) ?_ (by decide) ?_
  ·have tt:=Zhb h oA oB dj hr hl la lb ha hb
   rcases hX with rfl | rfl
   ·simp_arith only [bj,bi,bh,az,am,aD,ay,aB,aA,aj,ak,bc,aK,ba,aM,aI,aH,aG,bu,br,bq,bp,bn,a9,aS,aR,aQ,aP,aw,au,aq,ao,aT,bz,bx,bw,bv,aJ,aF,aE,aL,bf,be,bd,bg,aZ,aY,aX,aW,aV,ai,aO,aN,aU,Tr.bind_assoc,Tr.draw_bind,bD]
    refine dh (n:=20) (n':=0) tt (by decide) ?_
    rintro st2 _ ⟨rfl,z1,z2⟩
    try simp_arith only [bj,bi,bh,az,am,aD,ay,aB,aA,aj,ak,bc,aK,ba,aM,aI,aH,aG,bu,br,bq,bp,bn,a9,aS,aR,aQ,aP,aw,au,aq,ao,aT,bz,bx,bw,bv,aJ,aF,aE,aL,bf,be,bd,bg,aZ,aY,aX,aW,aV,ai,aO,aN,aU,Tr.bind_assoc,Tr.draw_bind,bD]
    exact fh ⟨rfl,z1,z2⟩
   ·simp_arith only [bj,bi,bh,az,am,aD,ay,aB,aA,aj,ak,bc,aK,ba,aM,aI,aH,aG,bu,br,bq,bp,bn,a9,aS,aR,aQ,aP,aw,au,aq,ao,aT,bz,bx,bw,bv,aJ,aF,aE,aL,bf,be,bd,bg,aZ,aY,aX,aW,aV,ai,aO,aN,aU,Tr.bind_assoc,Tr.draw_bind,bD]
    refine dh (n:=20) (n':=0) tt (by decide) ?_
    rintro st2 _ ⟨rfl,z1,z2⟩
    try simp_arith only [bj,bi,bh,az,am,aD,ay,aB,aA,aj,ak,bc,aK,ba,aM,aI,aH,aG,bu,br,bq,bp,bn,a9,aS,aR,aQ,aP,aw,au,aq,ao,aT,bz,bx,bw,bv,aJ,aF,aE,aL,bf,be,bd,bg,aZ,aY,aX,aW,aV,ai,aO,aN,aU,Tr.bind_assoc,Tr.draw_bind,bD]
    exact fh ⟨rfl,z1,z2⟩
  ·rintro st2 _ ⟨rfl,⟨q,xs,o,H⟩,q',xs',o',H'⟩
   rw [nr]
   obtain ⟨st3,Y9,Y10,Y11,Y12,Y13,e,I'⟩:=Znm h o o' dj hr hl la lb ha hb H H' x1 x2 y1 y2 X5 X7 X9 X10 X11 X12 X13
   exact mv e ⟨I',_,_,_,_,_,_,rfl⟩
theorem Zhc (h:s.Ok) (hr:∀ g∈rl,s.RlOk g) (hl:rl.length<=6) (x1:-s.depth<=x) (x2:x<=s.top) (y1:-s.depth<=x') (y2:x'<=s.top) :
  As (pb C [.pen,.d s.d,.d (rD s rl),.d (.list [.int x,.int x'])]) st 100 λ_ r=>r=.d (.bool true):=by
 have r2:gH [.int 2]=.ret [.int 0,.int 1]:=rfl
 have hs2:small [PyData.int x,PyData.int x'].length=true:=dJ (by show 2<=10000; decide)
 simp_arith only [pb,bj,bi,bh,az,am,aD,ay,aB,aA,aj,ak,bc,aK,ba,aM,aI,aH,aG,bu,br,bq,bp,bn,a9,aS,aR,aQ,aP,aw,au,aq,ao,aT,bz,bx,bw,bv,aJ,aF,aE,aL,bf,be,bd,bg,aZ,aY,aX,aW,aV,ai,aO,aN,aU,Tr.bind_assoc,Tr.draw_bind,bD,r2,ft]
 refine mw (n:=12) (n':=88) (Zbc hl (acc:=[]) (by decide) _ _) (by decide) ?_
 rintro _ ⟨ra,rfl,la,ha⟩
 try simp_arith only [bj,bi,bh,az,am,aD,ay,aB,aA,aj,ak,bc,aK,ba,aM,aI,aH,aG,bu,br,bq,bp,bn,a9,aS,aR,aQ,aP,aw,au,aq,ao,aT,bz,bx,bw,bv,aJ,aF,aE,aL,bf,be,bd,bg,aZ,aY,aX,aW,aV,ai,aO,aN,aU,Tr.bind_assoc,Tr.draw_bind,bD,r2,ft]
 refine mw (n:=12) (n':=76) (Zbc hl (acc:=[tI ra]) (by show 1<=10; decide) _ _) (by decide) ?_
 rintro _ ⟨rb,rfl,lb,hb⟩
 simp_arith only [bj,bi,bh,az,am,aD,ay,aB,aA,aj,ak,bc,aK,ba,aM,aI,aH,aG,bu,br,bq,bp,bn,a9,aS,aR,aQ,aP,aw,au,aq,ao,aT,bz,bx,bw,bv,aJ,aF,aE,aL,bf,be,bd,bg,aZ,aY,aX,aW,aV,ai,aO,aN,aU,Tr.bind_assoc,Tr.draw_bind,bD,r2,ft,hs2]
 refine dh (n:=0) (n':=76) (Zhm x1 x2) (by decide) ?_
 rintro st0 _ ⟨b1,l1,rfl,B1⟩
 try simp_arith only [bj,bi,bh,az,am,aD,ay,aB,aA,aj,ak,bc,aK,ba,aM,aI,aH,aG,bu,br,bq,bp,bn,a9,aS,aR,aQ,aP,aw,au,aq,ao,aT,bz,bx,bw,bv,aJ,aF,aE,aL,bf,be,bd,bg,aZ,aY,aX,aW,aV,ai,aO,aN,aU,Tr.bind_assoc,Tr.draw_bind,bD,r2,ft,hs2]
 refine dh (n:=0) (n':=76) (Zhl B1 y1 y2) (by decide) ?_
 rintro st1 _ ⟨b2,l2,rfl,I⟩
 try simp_arith only [bj,bi,bh,az,am,aD,ay,aB,aA,aj,ak,bc,aK,ba,aM,aI,aH,aG,bu,br,bq,bp,bn,a9,aS,aR,aQ,aP,aw,au,aq,ao,aT,bz,bx,bw,bv,aJ,aF,aE,aL,bf,be,bd,bg,aZ,aY,aX,aW,aV,ai,aO,aN,aU,Tr.bind_assoc,Tr.draw_bind,bD,r2,ft]
 refine dh (n:=20) (n':=56) (Zbd h I hr hl la lb ha hb x1 x2 y1 y2 (.inl rfl) _ _ _ _ _ _ _ _) (by decide) ?_
 rintro st2 _ ⟨I2,Y8,Y9,Y10,Y11,Y12,Y13,rfl⟩
 try simp_arith only [bj,bi,bh,az,am,aD,ay,aB,aA,aj,ak,bc,aK,ba,aM,aI,aH,aG,bu,br,bq,bp,bn,a9,aS,aR,aQ,aP,aw,au,aq,ao,aT,bz,bx,bw,bv,aJ,aF,aE,aL,bf,be,bd,bg,aZ,aY,aX,aW,aV,ai,aO,aN,aU,Tr.bind_assoc,Tr.draw_bind,bD,r2,ft]
 refine dh (n:=20) (n':=36) (Zbd h I2 hr hl la lb ha hb x1 x2 y1 y2 (.inr rfl) _ _ _ _ _ _ _ _) (by decide) ?_
 rintro st3 _ ⟨I3,Z8,Z9,Z10,Z11,Z12,Z13,rfl⟩
 try simp_arith only [bj,bi,bh,az,am,aD,ay,aB,aA,aj,ak,bc,aK,ba,aM,aI,aH,aG,bu,br,bq,bp,bn,a9,aS,aR,aQ,aP,aw,au,aq,ao,aT,bz,bx,bw,bv,aJ,aF,aE,aL,bf,be,bd,bg,aZ,aY,aX,aW,aV,ai,aO,aN,aU,Tr.bind_assoc,Tr.draw_bind,bD,r2,ft]
 exact fh rfl
theorem ZjG:As (mX C pK) ⟨[]⟩ 60000 λ_ o=>o=.ret (.d (.bool true)):=by
 simp_arith only [mX,pK,bj,bi,bh,az,am,aD,ay,aB,aA,aj,ak,bc,aK,ba,aM,aI,aH,aG,bu,br,bq,bp,bn,a9,aS,aR,aQ,aP,aw,au,aq,ao,aT,bz,bx,bw,bv,aJ,aF,aE,aL,bf,be,bd,bg,aZ,aY,aX,aW,aV,ai,aO,aN,aU,Tr.bind_assoc,Tr.draw_bind,bD]
 refine mw (n:=30) (n':=59970) Zhe (by decide) ?_
 rintro _ ⟨s,rfl,hs⟩
 have ho:=hs.ok
 have t0:=hs.t0
 have d0:=hs.d0
 have td:=hs.td
 simp_arith only [bj,bi,bh,az,am,aD,ay,aB,aA,aj,ak,bc,aK,ba,aM,aI,aH,aG,bu,br,bq,bp,bn,a9,aS,aR,aQ,aP,aw,au,aq,ao,aT,bz,bx,bw,bv,aJ,aF,aE,aL,bf,be,bd,bg,aZ,aY,aX,aW,aV,ai,aO,aN,aU,Tr.bind_assoc,Tr.draw_bind,bD]
 refine mw (n:=160) (n':=59810) (Zhj (by decide) (by decide)) (by decide) ?_
 rintro _ ⟨fs,rfl,hF⟩
 have l0:=hF.l0
 have l1:=hF.l1
 simp_arith only [bj,bi,bh,az,am,aD,ay,aB,aA,aj,ak,bc,aK,ba,aM,aI,aH,aG,bu,br,bq,bp,bn,a9,aS,aR,aQ,aP,aw,au,aq,ao,aT,bz,bx,bw,bv,aJ,aF,aE,aL,bf,be,bd,bg,aZ,aY,aX,aW,aV,ai,aO,aN,aU,Tr.bind_assoc,Tr.draw_bind,bD,Zc9]
 refine mw (n:=252) (n':=59558) (Zhf ho td (by omega) (by omega)) (by decide) ?_
 rintro _ ⟨rl,rfl,hl,hr⟩
 have hl':rl.length=fs.length:=by omega
 simp_arith only [bj,bi,bh,az,am,aD,ay,aB,aA,aj,ak,bc,aK,ba,aM,aI,aH,aG,bu,br,bq,bp,bn,a9,aS,aR,aQ,aP,aw,au,aq,ao,aT,bz,bx,bw,bv,aJ,aF,aE,aL,bf,be,bd,bg,aZ,aY,aX,aW,aV,ai,aO,aN,aU,Tr.bind_assoc,Tr.draw_bind,bD]
 refine r6 (n:=59557) (by omega) (by omega) (by decide) λu u0 u1=>?_
 try simp_arith only [bj,bi,bh,az,am,aD,ay,aB,aA,aj,ak,bc,aK,ba,aM,aI,aH,aG,bu,br,bq,bp,bn,a9,aS,aR,aQ,aP,aw,au,aq,ao,aT,bz,bx,bw,bv,aJ,aF,aE,aL,bf,be,bd,bg,aZ,aY,aX,aW,aV,ai,aO,aN,aU,Tr.bind_assoc,Tr.draw_bind,bD]
 refine r6 (n:=59556) (by omega) (by omega) (by decide) λv v0 v1=>?_
 try simp_arith only [bj,bi,bh,az,am,aD,ay,aB,aA,aj,ak,bc,aK,ba,aM,aI,aH,aG,bu,br,bq,bp,bn,a9,aS,aR,aQ,aP,aw,au,aq,ao,aT,bz,bx,bw,bv,aJ,aF,aE,aL,bf,be,bd,bg,aZ,aY,aX,aW,aV,ai,aO,aN,aU,Tr.bind_assoc,Tr.draw_bind,bD,ft,pN]
 refine dh (n:=26000) (n':=33556) (Za6 ho hF hr hl' (by omega) (by omega)) (by decide) ?_
 rintro st1 _ rfl
 try simp_arith only [bj,bi,bh,az,am,aD,ay,aB,aA,aj,ak,bc,aK,ba,aM,aI,aH,aG,bu,br,bq,bp,bn,a9,aS,aR,aQ,aP,aw,au,aq,ao,aT,bz,bx,bw,bv,aJ,aF,aE,aL,bf,be,bd,bg,aZ,aY,aX,aW,aV,ai,aO,aN,aU,Tr.bind_assoc,Tr.draw_bind,bD,ft,pN,Bool.not_true]
 refine dh (n:=26000) (n':=7556) (Za6 ho hF hr hl' (by omega) (by omega)) (by decide) ?_
 rintro st2 _ rfl
 try simp_arith only [bj,bi,bh,az,am,aD,ay,aB,aA,aj,ak,bc,aK,ba,aM,aI,aH,aG,bu,br,bq,bp,bn,a9,aS,aR,aQ,aP,aw,au,aq,ao,aT,bz,bx,bw,bv,aJ,aF,aE,aL,bf,be,bd,bg,aZ,aY,aX,aW,aV,ai,aO,aN,aU,Tr.bind_assoc,Tr.draw_bind,bD,ft,pN,Bool.not_true]
 refine dh (n:=100) (n':=7456) (Zhc ho hr (by omega) (by omega) (by omega) (by omega) (by omega)) (by decide) ?_
 rintro st3 _ rfl
 try simp_arith only [bj,bi,bh,az,am,aD,ay,aB,aA,aj,ak,bc,aK,ba,aM,aI,aH,aG,bu,br,bq,bp,bn,a9,aS,aR,aQ,aP,aw,au,aq,ao,aT,bz,bx,bw,bv,aJ,aF,aE,aL,bf,be,bd,bg,aZ,aY,aX,aW,aV,ai,aO,aN,aU,Tr.bind_assoc,Tr.draw_bind,bD]
 exact fh rfl
theorem ZjD (C:Addr):(mX C pK).ok 0 λ_ o=>o=.ret (.d (.bool true)):=Tr.ok_mono (Tr.alls_ok (m:=0) ZjG.out (by decide)) λ_ _ h=>h.2
end
end My
open PySem PySem.W PyProof.Rows L2
theorem My.g_mk {K:PySem.W.Frag} {mg:Str->Option Value} {h:Heap} (X:K.In h) (G:h.Ns mainGlobals mg) {n:Str} {v:Int} {t:Tok} (z:PySem.W.nsIn K mainGlobals n=some (some (.int v t))):∃ t,mg n=some (.int v t):=⟨_,PySem.W.mg_of X G z⟩
set_option maxRecDepth 100000 in
set_option maxHeartbeats 0 in
theorem PySem.Challenge.cw_twomarks_k63_whole_days_kept_holds : PySem.Challenge.rw_twomarks_k63_whole_days_kept.Holds := by
 refine My.hd ?_
 k_fill
 refine L2.ZfF (l:=PySem.Challenge.rw_twomarks_k63_whole_days_kept) (k:=8) (x:="_law_script") rfl rfl ⟨rfl,by decide,by decide,rfl⟩ (λw h Y=>PySem.W.kIn_of Y) ?F
 case F =>
  intro w mg fa h KX G hmg
  have x_Book:∃ C:Addr,My.OK_Book (L2.lY KX) mg C:=by
   dsimp only [L2.lY]
   refine' ⟨_,PySem.W.mg_of KX G ?nm,⟨?pg,?hd,?po,?sa⟩,L2.mL ?n_shop,L2.mL ?n_morning,L2.mL ?n_chosen,L2.mL ?n_spent,L2.mL ?n_ended,L2.ZjO ?mk ?ia ?ii ?ikc ?il ?ic ?ik ?ib,L2.kX ?choose_a ?choose_i ?choose_l ?choose_c ?choose_k ?choose_b,L2.kX ?fall_a ?fall_i ?fall_l ?fall_c ?fall_k ?fall_b,L2.kX ?back_a ?back_i ?back_l ?back_c ?back_k ?back_b,L2.kX ?stock_a ?stock_i ?stock_l ?stock_c ?stock_k ?stock_b,L2.kX ?paid_a ?paid_i ?paid_l ?paid_c ?paid_k ?paid_b,L2.kX ?days_a ?days_i ?days_l ?days_c ?days_k ?days_b⟩
   (case nm=>k_is)
   (case pg=>k_is)
   (case hd=>k_is)
   (case po=>k_is)
   (case sa=>k_is)
   (case n_shop=>k_is)
   (case n_morning=>k_is)
   (case n_chosen=>k_is)
   (case n_spent=>k_is)
   (case n_ended=>k_is)
   (case mk=>k_is)
   (case ia=>k_is)
   (case ii=>k_is)
   (case ikc=>k_is)
   (case il=>k_is)
   (case ic=>k_is)
   (case ik=>k_is)
   (case ib=>intro _ _ _ _ _ _ us hl; obtain ⟨_,_,_,rfl⟩:=L2.tK hl; rfl)
   (case choose_a=>k_is)
   (case choose_i=>k_is)
   (case choose_l=>k_is)
   (case choose_c=>k_is)
   (case choose_k=>k_is)
   (case choose_b=>intro _ _ _ _ _ _ us hl; obtain ⟨_,_,rfl⟩:=L2.pI hl; rfl)
   (case fall_a=>k_is)
   (case fall_i=>k_is)
   (case fall_l=>k_is)
   (case fall_c=>k_is)
   (case fall_k=>k_is)
   (case fall_b=>intro _ _ _ _ _ _ us hl; obtain ⟨_,_,rfl⟩:=L2.pI hl; rfl)
   (case back_a=>k_is)
   (case back_i=>k_is)
   (case back_l=>k_is)
   (case back_c=>k_is)
   (case back_k=>k_is)
   (case back_b=>intro _ _ _ _ _ _ us hl; obtain ⟨_,rfl⟩:=L2.le hl; rfl)
   (case stock_a=>k_is)
   (case stock_i=>k_is)
   (case stock_l=>k_is)
   (case stock_c=>k_is)
   (case stock_k=>k_is)
   (case stock_b=>intro _ _ _ _ _ _ us hl; obtain ⟨_,rfl⟩:=L2.le hl; rfl)
   (case paid_a=>k_is)
   (case paid_i=>k_is)
   (case paid_l=>k_is)
   (case paid_c=>k_is)
   (case paid_k=>k_is)
   (case paid_b=>intro _ _ _ _ _ _ us hl; obtain ⟨_,rfl⟩:=L2.le hl; rfl)
   (case days_a=>k_is)
   (case days_i=>k_is)
   (case days_l=>k_is)
   (case days_c=>k_is)
   (case days_k=>k_is)
   (case days_b=>intro _ _ _ _ _ _ us hl; obtain ⟨_,rfl⟩:=L2.le hl; rfl)
  have e_NoBack:∃ C:Addr,mg "NoBack"=some (.ref C)/\L2.Xcl (L2.lY KX) C L2.nC "ValueError.__new__":=by
   dsimp only [L2.lY]
   refine' ⟨_,PySem.W.mg_of KX G ?h,L2.Zfu KX ?q⟩
   (case h=>k_is); (case q=>kernel_rfl!)
  have T:My.Txt (L2.lY KX) mg:=by
   dsimp only [L2.lY] at *
   constructor
   all_goals first
    | exact x_Book
    | exact e_NoBack
    | (refine PySem.W.mg_none_of KX G ?_; k_is)
    | (refine' My.g_mk KX G ?z; (case z=>k_is))
    | (refine' L2.ZnA KX G ?a ?l ?c ?k ?b; (case a=>k_is); (case l=>k_is); (case c=>k_is); (case k=>k_is); (case b=>intro _ _ _ _ _ _ us hl; first | (obtain ⟨_,rfl⟩:=L2.le hl; rfl) | (obtain ⟨_,_,rfl⟩:=L2.pI hl; rfl) | (obtain ⟨_,_,_,rfl⟩:=L2.tK hl; rfl) | (obtain ⟨_,_,_,_,rfl⟩:=L2.Zdb hl; rfl) | (obtain ⟨_,_,_,_,_,rfl⟩:=L2.Zda hl; rfl) | (obtain ⟨_,_,_,_,_,_,rfl⟩:=L2.Zjy hl; rfl)))
  obtain ⟨C_Book,B_Book⟩:=x_Book
  obtain ⟨f,fd,Fl,hm,_⟩:=T.ZnI.ex
  have e0:=hmg.symm.trans hm
  cases e0
  have hb:∀ (s:Shared) (u:Value),BindsTo s fd ⟨[u],[]⟩ [("_law_script",u)]:=by
   obtain ⟨oc,od,kV,doc,pm,an,cdv,ct,osl,rfl,lk,hcd⟩:=Fl.ex
   exact λs u=>.of_eq rfl
  refine ⟨fd,hb,λbase _ _ BK=>My.ZiS T B_Book BK Fl (My.ZjD C_Book)⟩
