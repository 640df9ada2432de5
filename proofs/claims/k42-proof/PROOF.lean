import PyProof.Rows.All
import Wide.All
import OpenK.AllK
import Wide.FinOn
import Lean
import PyProof.EqAt
import PyProof.EqKinds
import PyProof.TupleCall
import PySem.Challenge.RW_twomarks_k42_goods_under_way_walked
set_option Elab.async false
set_option linter.all false
set_option maxRecDepth 100000
set_option maxHeartbeats 0
noncomputable abbrev My.vw : PySem.Program := PySem.W.view
 PySem.Challenge.rw_twomarks_k42_goods_under_way_walked.row.prog [1, 2, 3, 4, 5, 6, 7, 8, 9, 11, 12, 14, 15, 16, 17, 18, 19, 20, 21, 22, 23, 24, 25, 26, 28, 30, 32, 33, 34, 35, 36, 37, 38, 39, 40, 41, 42, 44, 45, 46, 47, 48, 49, 50, 51, 52, 53, 54, 55, 56, 57, 58, 59]
open PySem PySem.W in
theorem My.hd_l {p q:Program} {loose:List Str} {Xt:Shared->Bool} {α:Type} {Yf:Shared->α} {Ya:World->α} {N:Nat} (a:∀ w,(openEnds treeTable p w N).map (λs=>openSeen q loose (importedModules p.main.body) Xt true s)=some (openGood q loose)) (b:∀ w,(openEnds treeTable p w N).map Yf=some (Ya w)):LeftO p q loose Xt Yf Ya N:=λw=>by
 have h:=a w
 have g:=b w
 cases e:openEnds treeTable p w N with
 | none=>rw [e] at h;exact nomatch h
 | some s=>rw [e,Option.map_some] at h g;rw [Option.map_some,Option.some.inj h,Option.some.inj g]
theorem My.hd_b {A B C H:Prop} (f:A->B->C->H) (p:A∧B∧C):H:=f p.1 p.2.1 p.2.2
local macro_rules
 | `(tactic| o_head $H:term) => `(tactic| (
  refine My.hd_b (λa b c => PySem.W.holds_open (q := My.vw) (loose := [])
   (Xt := λs => PySem.W.xlAt My.vw [] s && PySem.W.recOk
    (PySem.W.RowW.records PySem.Challenge.rw_twomarks_k42_goods_under_way_walked.row.toRowW) s)
   (XP := PySem.W.XL My.vw []) (Yf := ($H).obs)
   (Ya := ($H).val) (YP := ($H).says) (N := 20000) (My.hd_l a b)
   ($H).of ($H).keeps (λs e => PySem.W.xl_of s
    (Bool.and_eq_true_iff.mp e).1) PySem.W.XL.keeps
   (by rfl) (by rfl) (by rfl)
   (λs e => PySem.W.recFacts_of
    (Bool.and_eq_true_iff.mp e).2)
   (by rfl) ?k1 (by decide +kernel)
   ⟨rfl, rfl, rfl, rfl, rfl, by decide +kernel⟩ ?hw c) ?hc
  (case k1 => assumption)))
open_top My.hd_0 for PySem.Challenge.rw_twomarks_k42_goods_under_way_walked
noncomputable def My.hd_1:=λb c=>My.hd_0 ⟨λw=>by kernel_rfl,b,c⟩
noncomputable def My.hd:=λc=>My.hd_1 (λw=>by kernel_rfl) c
set_option maxHeartbeats 4000000
namespace L2
open PySem PySem.Spec PyProof.Rows
noncomputable abbrev aq:=Sum Int Str
noncomputable def h9:aq->Value->Bool
 | .inl k,v=>Value.isInt k v
 | .inr x,v=>Value.isStrOf x v
noncomputable def ZiO (w:World):aq->Int
 | .inl k=>hashInt k
 | .inr x=>hashStr w x
theorem fJ:∀ {k:aq} {v:Value},h9 k v=true->(∃ i t,k=Sum.inl i/\v=Value.int i t)\/(∃ x t,k=Sum.inr x/\v=Value.str x t)
 | .inl i,v,h=>by
  obtain ⟨t,e⟩:=Value.isInt_shape (k:=i) (v:=v) h
  exact .inl ⟨i,t,rfl,e⟩
 | .inr x,v,h=>by
  obtain ⟨t,e⟩:=Value.isStrOf_shape (x:=x) (v:=v) h
  exact .inr ⟨x,t,rfl,e⟩
theorem ZiN (i:Int) (t:Tok):h9 (.inl i) (.int i t)=true:=by simp [h9,Value.isInt]
theorem ZiM (x:Str) (t:Tok):h9 (.inr x) (.str x t)=true:=by simp [h9,Value.isStrOf]
theorem ZiL (a b:Int):decide ((Sum.inl a:aq)=Sum.inl b)=(a == b):=by
 by_cases e:a=b
 ·subst e; simp
 ·have h:¬ (Sum.inl a:aq)=Sum.inl b:=λq=>e (Sum.inl.inj q)
  rw [decide_eq_false h]
  exact (beq_eq_false_iff_ne.mpr e).symm
theorem ZiI (a b:Str):decide ((Sum.inr a:aq)=Sum.inr b)=decide (a=b):=by
 by_cases e:a=b
 ·subst e; simp
 ·have h:¬ (Sum.inr a:aq)=Sum.inr b:=λq=>e (Sum.inr.inj q)
  rw [decide_eq_false h,decide_eq_false e]
theorem ZiK (a:Int) (b:Str):decide ((Sum.inl a:aq)=Sum.inr b)=false:=decide_eq_false (λq=>nomatch q)
theorem ZiJ (a:Str) (b:Int):decide ((Sum.inr a:aq)=Sum.inl b)=false:=decide_eq_false (λq=>nomatch q)
noncomputable def cu (prog:Program) (w:World):PySem.KeyKind prog w aq where
 is:=h9
 hash:=ZiO w
 inj:=λv a b ha hb=>by
  rcases fJ ha with ⟨i,t,rfl,rfl⟩ | ⟨x,t,rfl,rfl⟩
  ·rcases fJ hb with ⟨j,u,rfl,e⟩ | ⟨y,u,rfl,e⟩
   ·injection e with e1 _; rw [e1]
   ·exact nomatch e
  ·rcases fJ hb with ⟨j,u,rfl,e⟩ | ⟨y,u,rfl,e⟩
   ·exact nomatch e
   ·injection e with e1 _; rw [e1]
 byValue:=λk v h=>by
  rcases fJ h with ⟨i,t,rfl,rfl⟩ | ⟨x,t,rfl,rfl⟩ <;> rfl
 pyHash:=λhv h=>by
  rcases fJ hv with ⟨i,t,rfl,rfl⟩ | ⟨x,t,rfl,rfl⟩
  ·exact wpAny_pyHash_int h
  ·exact wpAny_pyHash_str h
 eqBool:=λhu hv h=>by
  rcases fJ hu with ⟨i,t,rfl,rfl⟩ | ⟨x,t,rfl,rfl⟩
  ·rcases fJ hv with ⟨j,u,rfl,rfl⟩ | ⟨y,u,rfl,rfl⟩
   ·rw [ZiL] at h; exact wpAny_eqBool_int h
   ·rw [ZiK] at h; exact SeqAt.EqAt.int_str i t y u _ _ _ _ h
  ·rcases fJ hv with ⟨j,u,rfl,rfl⟩ | ⟨y,u,rfl,rfl⟩
   ·rw [ZiJ] at h; exact SeqAt.EqAt.str_int x t j u _ _ _ _ h
   ·rw [ZiI] at h; exact wpAny_eqBool_str h
 «strs»:=λk x t v h=>by
  rcases fJ h with ⟨i,u,rfl,e⟩ | ⟨y,u,rfl,e⟩
  ·exact nomatch e
  ·injection e with e1 _
   subst e1
   cases v <;> rfl
theorem Zcv (prog:Program) (w:World) (i:Int) (t:Tok):(cu prog w).is (.inl i) (.int i t)=true:=ZiN i t
theorem Zh9 (prog:Program) (w:World) (x:Str) (t:Tok):(cu prog w).is (.inr x) (.str x t)=true:=ZiM x t
inductive V where
 | non | bl (b:Bool) | int (i:Int) | str (x:Str) | byt (b:Array UInt8) | flt (b:UInt64) | ref (a:Addr) | ty (n:String)
 deriving DecidableEq
noncomputable def RelV:V->Value->Prop
 | .non,u=>u=Value.none
 | .bl b,u=>u=Value.bool b
 | .int i,u=>∃ t,u=Value.int i t
 | .str x,u=>∃ t,u=Value.str x t
 | .byt b,u=>∃ t,u=Value.bytes b t
 | .flt b,u=>∃ t,u=Value.float b t
 | .ref a,u=>u=Value.ref a
 | .ty n,u=>u=Value.type n
noncomputable abbrev Vals:List V->List Value->Prop:=Paired RelV
theorem Vals.length {xs:List V} {us:List Value} (r:Vals xs us):xs.length=us.length:=Paired.length r
theorem Vals.get {xs:List V} {us:List Value} {i:Nat} {x:V} (h:Vals xs us) (e:xs[i]?=some x):∃ u,us[i]?=some u/\RelV x u:=by
 induction h generalizing i with
 | nil=>cases e
 | cons r t ih=>cases i with | zero=>cases e; exact ⟨_,rfl,r⟩ | succ i=>exact ih (i:=i) e
theorem Vals.set {x:V} {u:Value} (r:RelV x u) {xs:List V} {us:List Value} (i:Nat) (h:Vals xs us):Vals (xs.set i x) (us.set i u):=by
 induction h generalizing i with
 | nil=>exact .nil
 | cons q t ih=>cases i with | zero=>exact .cons r t | succ i=>exact .cons q (ih i)
theorem Vals.append {xs ys:List V} {us ws:List Value} (h:Vals xs us) (s:Vals ys ws):Vals (xs++ys) (us++ws):=by
 induction h with
 | nil=>exact s
 | cons r t ih=>exact .cons r ih
theorem Vals.take {xs:List V} {us:List Value} (n:Nat) (h:Vals xs us):Vals (xs.take n) (us.take n):=by
 induction h generalizing n with
 | nil=>rw [List.take_nil,List.take_nil]; exact .nil
 | cons r t ih=>cases n with | zero=>exact .nil | succ n=>exact .cons r (ih n)
theorem Vals.drop {xs:List V} {us:List Value} (n:Nat) (h:Vals xs us):Vals (xs.drop n) (us.drop n):=by
 induction h generalizing n with
 | nil=>rw [List.drop_nil,List.drop_nil]; exact .nil
 | cons r t ih=>cases n with | zero=>exact .cons r t | succ n=>exact ih n
noncomputable def RelO:Option V->Option Value->Prop
 | some v,some u=>RelV v u
 | none,none=>True
 | _,_=>False
noncomputable def KV {κ:Type}:List (κ×V)->List (κ×Value)->Prop:=Paired λ(p:κ×V) (q:κ×Value)=>p.1=q.1/\RelV p.2 q.2
noncomputable def kV:aq->V
 | .inl i=>.int i
 | .inr x=>.str x
inductive HO where
 /-- a list -/
 | lst (xs:List V)
 /-- a tuple (never changes) -/
 | tup (xs:List V)
 /-- a dict whose keys are ints and texts; one whose keys are tuples of ints and texts (the empty one is both) -/
 | dK (kvs:List (aq×V)) | dT (kvs:List (List aq×V))
 /-- a set of ints: its members,its size -/
 | set (S:Int->Bool) (n:Nat)
 /-- an instance of the class at C,its dict at dx,its attributes -/
 | ins (C dx:Addr) (fs:List (Str×V))
 /-- the dict of the instance at x -/
 | own (x:Addr)
 /-- the dict of an exception -/
 | xd (fs:List (Str×V))
 /-- a bound method,f of x -/
 | met (f x:Addr)
 /-- a range object lo,lo+1,.. below hi -/
 | rng (lo hi:Int)
 /-- a thing that is known to the object (the script; a dict while a loop walks it): read,never written while it is so -/
 | frz (o:Obj) (u:HO)
 /-- a code object's table -/
 | tbl (ps:Array Value)
 /-- any other thing,by what is true of its one object (a def of one's own: SetO a S n:=HO.ext λh=>..) -/
 | ext (φ:Heap->Prop)
noncomputable abbrev Hp:=Addr->Option HO
noncomputable def upd (H:Hp) (a:Addr) (o:HO):Hp:=λb=>if b=a then some o else H b
theorem bw {H:Hp} {a:Addr} {o:HO}:upd H a o a=some o:=by unfold upd; rw [if_pos rfl]
theorem au {H:Hp} {a b:Addr} {o:HO} (h:b≠a):upd H a o b=H b:=by unfold upd; rw [if_neg h]
theorem Zh2 {H:Hp} {a b:Addr} {o u:HO} (h:H a=some o) (h':H b=some u) (d:o≠u):a≠b:=by
 intro e; subst e; rw [h] at h'; exact d (Option.some.inj h')
theorem de {H:Hp} {a b:Addr} {o:HO} (h:H a=some o) (h':H b=none):a≠b:=by
 intro e; subst e; rw [h] at h'; cases h'
section
variable (P:Program) (w:World)
noncomputable def ObjOk (H:Hp) (h:Heap) (a:Addr):HO->Prop
 | .lst xs=>xs.length<=sizeLine/\∃ (its:List Value) (n:Nat),Vals xs its/\h.get? a=some { cls:=.type "list",data:=.seq its.toArray n }
 | .tup xs=>xs.length<=sizeLine/\∃ its:List Value,Vals xs its/\IsTup h a its.toArray
 | .dK kvs=>kvs.length<=sizeLine/\(a == sysModules)=false/\∃ vs,KV kvs vs/\h.DictOf (cu P w) a vs
 | .dT kvs=>kvs.length<=sizeLine/\(a == sysModules)=false/\∃ xs:List (List aq×Addr×Value),
   Paired (λ(p:List aq×V) (q:List aq×Addr×Value)=>p.1=q.1/\H q.2.1=some (.tup (p.1.map kV))/\RelV p.2 q.2.2) kvs xs /\
   ∃ o es ep,h.get? a=some o/\o.ExactDict/\o.data=.dict es ep/\es.toList=xs.map (entryOfKey (tupleKind (cu P w)))/\(xs.map (·.1)).Nodup
 | .set S n=>h.SetOf (intKind P w) a S n
 | .ins C dx fs=>H dx=some (.own a)/\fs.length<=1000/\dx≠a/\h.get? a=some (PySem.W.instObj C dx) /\
   ∃ mA,h.Ns1 dx mA/\(∀ f,RelO (fs.lookup f) (mA f))/\PySem.Within mA (fs.map (·.1))
 | .own _=>∃ o,h.get? a=some o
 | .xd fs=>∃ mA,h.Ns1 a mA/\∀ f,RelO (fs.lookup f) (mA f)
 | .rng lo hi=>∃ t u v,h.get? a=some { cls:=.type "range",data:=.fields #[.int lo t,.int hi u,.int 1 v] }
 | .frz o u=>h.get? a=some o/\ObjOk H h a u
 | .tbl ps=>h.get? a=some { cls:=.none,data:=.fields ps }
 | .met f x=>h.get? a=some (PySem.W.methodObj (.ref f) (.ref x))
 | .ext φ=>φ h/\(∃ o,h.get? a=some o)/\∀ h1 h2:Heap,φ h1->(∀ o,h1.get? a=some o->h2.get? a=some o)->φ h2
noncomputable def HOk (H:Hp) (h:Heap):Prop:=∀ a o,H a=some o->ObjOk P w H h a o
end
section
variable {P:Program} {w:World} {H H':Hp} {h h':Heap} {a:Addr} {o:HO}
theorem ObjOk.lt (x:ObjOk P w H h a o):a < h.objs.size:=by
 cases o with
 | lst xs=>obtain ⟨_,_,_,_,e⟩:=x; exact Heap.lt_size e
 | tup xs=>obtain ⟨_,_,_,p⟩:=x; exact p.lt
 | dK kvs=>obtain ⟨_,_,_,_,o,_,_,e,_⟩:=x; exact Heap.lt_size e
 | dT kvs=>obtain ⟨_,_,_,_,o,_,_,e,_⟩:=x; exact Heap.lt_size e
 | set S n=>obtain ⟨o,_,_,_,e,_⟩:=x; exact Heap.lt_size e
 | ins C dx fs=>obtain ⟨_,_,_,e,_⟩:=x; exact Heap.lt_size e
 | own y=>obtain ⟨_,e⟩:=x; exact Heap.lt_size e
 | xd fs=>obtain ⟨_,⟨_,_,_,e,_⟩,_⟩:=x; exact Heap.lt_size e
 | rng lo hi=>obtain ⟨_,_,_,e⟩:=x; exact Heap.lt_size e
 | frz ob u=>obtain ⟨e,_⟩:=x; exact Heap.lt_size e
 | tbl ps=>exact Heap.lt_size (show h.get? a=some _ from x)
 | met f y=>exact Heap.lt_size (show h.get? a=some _ from x)
 | ext φ=>obtain ⟨_,⟨_,e⟩,_⟩:=x; exact Heap.lt_size e
theorem Paired.mapP {α β:Type} {F G:α->β->Prop} {l₁:List α} {l₂:List β} (h:Paired F l₁ l₂) (f:∀ a b,F a b->G a b):Paired G l₁ l₂:=by
 induction h with
 | nil=>exact .nil
 | cons r t ih=>exact .cons (f _ _ r) ih
theorem ObjOk.stay (x:ObjOk P w H h a o) (k:∀ b u,(b=a\/H b=some (.own a))->h.get? b=some u->h'.get? b=some u)
  (ho:∀ b,H b=some (.own a)->H' b=some (.own a)) (ht:∀ b xs,H b=some (.tup xs)->H' b=some (.tup xs)):ObjOk P w H' h' a o:=by
 induction o with
 | lst xs=>obtain ⟨z,its,n,r,e⟩:=x; exact ⟨z,its,n,r,k _ _ (.inl rfl) e⟩
 | tup xs=>obtain ⟨z,its,r,ob,e,c⟩:=x; exact ⟨z,its,r,ob,k _ _ (.inl rfl) e,c⟩
 | dK kvs=>obtain ⟨z,y,vs,r,ob,es,ep,e,c⟩:=x; exact ⟨z,y,vs,r,ob,es,ep,k _ _ (.inl rfl) e,c⟩
 | dT kvs =>
  obtain ⟨z,y,xs,r,ob,es,ep,e,c⟩:=x
  exact ⟨z,y,xs,Paired.mapP r λp q z=>⟨z.1,ht _ _ z.2.1,z.2.2⟩,ob,es,ep,k _ _ (.inl rfl) e,c⟩
 | set S n=>obtain ⟨ob,es,ep,t,e,c⟩:=x; exact ⟨ob,es,ep,t,k _ _ (.inl rfl) e,c⟩
 | ins C dx fs =>
  obtain ⟨d,z,ne,e,mA,⟨od,es,ep,e2,c⟩,r⟩:=x
  exact ⟨ho _ d,z,ne,k _ _ (.inl rfl) e,mA,⟨od,es,ep,k _ _ (.inr d) e2,c⟩,r⟩
 | own y=>obtain ⟨ob,e⟩:=x; exact ⟨ob,k _ _ (.inl rfl) e⟩
 | xd fs=>obtain ⟨mA,⟨od,es,ep,e,c⟩,r⟩:=x; exact ⟨mA,⟨od,es,ep,k _ _ (.inl rfl) e,c⟩,r⟩
 | rng lo hi=>obtain ⟨t,u,v,e⟩:=x; exact ⟨t,u,v,k _ _ (.inl rfl) e⟩
 | frz ob u ih=>obtain ⟨e,q⟩:=x; exact ⟨k _ _ (.inl rfl) e,ih q⟩
 | tbl ps =>
  have e:h.get? a=some { cls:=.none,data:=.fields ps }:=x
  show h'.get? a=some { cls:=.none,data:=.fields ps }
  exact k a _ (.inl rfl) e
 | met f y =>
  have e:h.get? a=some (PySem.W.methodObj (.ref f) (.ref y)):=x
  show h'.get? a=some (PySem.W.methodObj (.ref f) (.ref y))
  exact k a _ (.inl rfl) e
 | ext φ=>obtain ⟨p,⟨o,e⟩,st⟩:=x; exact ⟨st _ _ p λo q=>k _ _ (.inl rfl) q,⟨o,k _ _ (.inl rfl) e⟩,st⟩
theorem HOk.lt (x:HOk P w H h) (e:H a=some o):a < h.objs.size:=(x a o e).lt
theorem HOk.fresh (x:HOk P w H h) (e:h.objs.size<=a):H a=none:=by
 cases q:H a with
 | none=>rfl
 | some u=>exact absurd (Nat.lt_of_lt_of_le (x.lt q) e) (Nat.lt_irrefl _)
theorem HOk.kept (x:HOk P w H h) (k:∀ b u,h.get? b=some u->h'.get? b=some u):HOk P w H h':=λa o e =>
 (x a o e).stay (λb u _ q=>k b u q) (λ_ q=>q) λ_ _ q=>q
theorem HOk.laid (x:HOk P w H h) (k:∀ b u,h.get? b=some u->h'.get? b=some u) (hp:h.objs.size<=a) (new:ObjOk P w (upd H a o) h' a o):HOk P w (upd H a o) h':=λb u e=>by
 have hn:=x.fresh hp
 by_cases hb:b=a
 ·subst hb; rw [bw] at e; cases e; exact new
 ·rw [au hb] at e
  exact (x b u e).stay (λc v _ q=>k c v q) (λc q=>by rw [au (de q hn)]; exact q) λc xs q=>by rw [au (de q hn)]; exact q
end
noncomputable def Rd (H:Hp) (a:Addr) (u:HO):Prop:=H a=some u\/∃ o,H a=some (.frz o u)
theorem Rd.ok {P:Program} {w:World} {H:Hp} {h:Heap} {a:Addr} {u:HO} (r:Rd H a u) (x:HOk P w H h):ObjOk P w H h a u:=by
 rcases r with r | ⟨o,r⟩
 ·exact x a u r
 ·obtain ⟨_,q⟩:=x a _ r
  exact q
noncomputable def lq:Option HO->Prop
 | some (.lst _)=>True
 | some (.dK _)=>True
 | some (.dT _)=>True
 | some (.set _ _)=>True
 | some (.ins _ _ _)=>True
 | some (.ext _)=>True
 | _=>False
section
variable {P:Program} {w:World} {H:Hp} {h h':Heap} {x e:Addr} {o':HO}
theorem HOk.write (ok:HOk P w H h) (mu:lq (H x)) (he:e=x\/H e=some (.own x)) (k:∀ b u,b≠e->h.get? b=some u->h'.get? b=some u) (heo:∃ u,h'.get? e=some u)
  (new:ObjOk P w (upd H x o') h' x o'):HOk P w (upd H x o') h':=λb u q=>by
 have nown:∀ c y,H c=some (.own y)->c≠x:=λc y r z=>by subst z; rw [r] at mu; exact mu
 have ntup:∀ c xs,H c=some (.tup xs)->c≠x:=λc xs r z=>by subst z; rw [r] at mu; exact mu
 by_cases hb:b=x
 ·subst hb; rw [bw] at q; cases q; exact new
 ·rw [au hb] at q
  by_cases hbe:b=e
  ·have q':H b=some (.own x):=by
    rcases he with z | z
    ·exact absurd (hbe.trans z) hb
    ·rw [hbe]; exact z
   rw [q] at q'; cases q'
   obtain ⟨v,hv⟩:=heo
   exact ⟨v,by rw [hbe]; exact hv⟩
  ·refine (ok b u q).stay (λc v hc r=>k c v ?_ r) (λc r=>by rw [au (nown c b r)]; exact r) λc xs r=>by rw [au (ntup c xs r)]; exact r
   rcases hc with rfl | hc
   ·exact hbe
   ·rintro rfl
    rcases he with z | z
    ·exact nown c b hc z
    ·rw [hc] at z; cases z; exact hb rfl
end
structure Un (fs ex:List Addr) (H H':Hp) (h h':Heap):Prop where
 keep:∀ b o,h.get? b=some o->H b=none->b ∉ fs->b ∉ ex->h'.get? b=some o
 slot:∀ b o,h.get? b=some o->H b=none->b∈fs->b ∉ ex->∃ sl,h'.get? b=some { o with slots:=sl }
 free:∀ b o,h.get? b=some o->H b=none->b ∉ ex->H' b=none
 there:∀ b o,h.get? b=some o->b ∉ ex->∃ o',h'.get? b=some o'
 tups:∀ b xs,H b=some (.tup xs)->H' b=some (.tup xs)
 frzs:∀ b o u,H b=some (.frz o u)->H' b=some (.frz o u)
 tbls:∀ b ps,H b=some (.tbl ps)->∃ more,H' b=some (.tbl (ps++more))
section
variable {fs fs' ex ex':List Addr} {H H1 H2:Hp} {h h1 h2 h':Heap} {a x e:Addr} {o:HO}
theorem Un.any (u:Un fs ex H H1 h h1) {b:Addr} {ob:Obj} (q:h.get? b=some ob) (n:H b=none) (hx:b ∉ ex):∃ sl,h1.get? b=some { ob with slots:=sl }:=by
 by_cases hb:b∈fs
 ·exact u.slot b ob q n hb hx
 ·exact ⟨ob.slots,u.keep b ob q n hb hx⟩
theorem Un.kept (k:∀ b u,h.get? b=some u->h'.get? b=some u):Un fs ex H H h h' :=
 ⟨λb ob q _ _ _=>k b ob q,λb ob q _ _ _=>⟨ob.slots,k b ob q⟩,λ_ _ _ n _=>n,λb ob q _=>⟨ob,k b ob q⟩,λ_ _ q=>q,λ_ _ _ q=>q,λ_ ps q=>⟨#[],by rw [q]; simp⟩⟩
theorem Un.refl:Un fs ex H H h h:=Un.kept λ_ _ q=>q
theorem Un.laid (k:∀ b u,h.get? b=some u->h'.get? b=some u) (hp:h.objs.size<=a) (hn:H a=none):Un fs ex H (upd H a o) h h' where
 keep:=λb u q _ _ _=>k b u q
 slot:=λb u q _ _ _=>⟨u.slots,k b u q⟩
 free:=λb u q n _=>by rw [au (Nat.ne_of_lt (Nat.lt_of_lt_of_le (Heap.lt_size q) hp))]; exact n
 there:=λb u q _=>⟨u,k b u q⟩
 tups:=λb xs q=>by rw [au (de q hn)]; exact q
 frzs:=λb u xs q=>by rw [au (de q hn)]; exact q
 tbls:=λb ps q=>⟨#[],by rw [au (de q hn),q]; simp⟩
theorem Un.write (mu:lq (H x)) (he:e=x\/H e=some (.own x)) (k:∀ b u,b≠e->h.get? b=some u->h'.get? b=some u) (heo:∃ u,h'.get? e=some u):Un fs ex H (upd H x o) h h':=by
 have hx:∀ b,H b=none->b≠x:=λb n z=>by subst z; rw [n] at mu; exact mu
 have hb:∀ b,H b=none->b≠e:=λb n z=>by
  subst z
  rcases he with r | r
  ·exact hx b n r
  ·rw [n] at r; cases r
 have hm:∀ b u,H b=some u->¬ lq (some u)->b≠x:=λb u q nm z=>by subst z; rw [q] at mu; exact nm mu
 refine ⟨λb u q n _ _=>k b u (hb b n) q,λb u q n _ _=>⟨u.slots,k b u (hb b n) q⟩,λb u q n _=>by rw [au (hx b n)]; exact n,λb u q _=>?_,
  λb xs q=>by rw [au (hm b _ q λz=>z)]; exact q,λb u xs q=>by rw [au (hm b _ q λz=>z)]; exact q,λb ps q=>⟨#[],by rw [au (hm b _ q λz=>z),q]; simp⟩⟩
 by_cases hbe:b=e
 ·subst hbe; exact heo
 ·exact ⟨u,k b u hbe q⟩
end
noncomputable def trk (h:Heap) (H:Hp):List Addr:=(List.range h.objs.size).filter λa=>(H a).isSome
noncomputable def gf (h:Heap) (H:Hp):Heap:=PySem.W.hideAll h (trk h H)
theorem Zi1 (h:Heap) (H:Hp):(gf h H).objs.size=h.objs.size:=PySem.W.hideAll_size _ _
theorem Zi2 {h:Heap} {H:Hp} {b:Addr} {o:Obj} (e:h.get? b=some o) (n:H b=none):(gf h H).get? b=some o :=
 PySem.W.hideAll_get _ e λhm=>by
  have q:(H b).isSome=true:=(List.mem_filter.mp hm).2
  rw [n] at q; simp at q
theorem ZhS {h:Heap} {H:Hp} {b:Addr} {o:Obj} (e:(gf h H).get? b=some o):h.get? b=some o/\H b=none:=by
 have e':h.get? b=some o:=PySem.W.of_hideAll (trk h H) e
 refine ⟨e',?_⟩
 cases q:H b with
 | none=>rfl
 | some x =>
  have hm:b∈trk h H:=List.mem_filter.mpr ⟨List.mem_range.mpr (Heap.lt_size e'),by simp [q]⟩
  have z:(gf h H).get? b=none:=PySem.W.hideAll_none (trk h H) hm
  rw [z] at e; cases e
noncomputable def Zn3 (g h:Heap) (L:Addr):List (Addr×Obj):=(List.range h.objs.size).filterMap λa=>if a=L\/(g.get? a).isSome=true then none else (h.get? a).map λo=>(a,o)
noncomputable def rest (g h:Heap) (L d:Addr):List (Addr×Obj):=(Zn3 g h L).filter λp=>decide (p.1≠d)
structure Mod (K:PySem.W.Frag) (mg:Str->Option Value) (base:Heap):Prop where
 kin:K.In base
 glob:base.Ns mainGlobals mg
 blt:∃ mb,base.Ns builtinsNs mb/\∀ x:Str,x≠"__name__"->mb x=bootBuiltins x
 nolimit:base.NoLimit
 nodig:base.NoDigits
structure Cx where
 prog:Program
 w:World
 K:PySem.W.Frag
 mg:Str->Option Value
 base:Heap
 A:Around
 N:List Str
 s₀:Shared
 H₀:Hp
 env:Env
 outer:List Env
 stack:List Env
 ex:List Addr
 fn:Str->Bool
 calm:Bool
 pn:List (Addr×Obj)
 xe:Value->Shared->Prop
noncomputable def frs (l:List Env):List Addr:=l.filterMap (·.frame)
noncomputable abbrev Cx.fs (X:Cx):List Addr:=frs X.outer
noncomputable def oD (sc:Scope) (x:Str):Prop:=sc.names.lookup x=some .local\/sc.names.lookup x=some .cell\/sc.names.lookup x=some .free
noncomputable def jA (sc:Scope) (x:Str):Prop:=sc.names.lookup x=some .local\/sc.names.lookup x=some .cell
noncomputable def ZoK (env:Env) (h:Heap) (m:Str->Option Value) (x:Str) (u:Value):Prop :=
 (env.kindOf x=some .local/\m x=some u)\/((env.kindOf x=some .cell\/env.kindOf x=some .free)/\∃ c,env.cells.lookup x=some c/\h.IsCell c (some u))
structure Cx.Ok (X:Cx):Prop where
 mod:Mod X.K X.mg X.base
 kind:X.env.scope.kind=.function
 glob:X.env.globals=mainGlobals
 blt:X.env.builtins=builtinsNs
 above:X.s₀.heap.objs.size<=X.env.locals
 inj:∀ x y c,X.env.cells.lookup x=some c->X.env.cells.lookup y=some c->x=y
 has:∀ x,(X.env.kindOf x=some .cell\/X.env.kindOf x=some .free)->∃ c,X.env.cells.lookup x=some c
 cab:∀ x c,X.fn x=true->X.env.cells.lookup x=some c->X.s₀.heap.objs.size<=c
 hd:X.calm=true->X.A.handled=none
 frames:X.A.frames=some X.stack
 stk:X.stack=X.outer\/(X.stack=X.env::X.outer/\X.env.frame=some X.env.locals)
 exf:∀ b∈X.ex,b≠X.env.locals/\∀ x c,X.env.cells.lookup x=some c->c≠b
 bs:∀ b o,X.base.get? b=some o->X.s₀.heap.get? b=some o/\X.H₀ b=none
 bsz:X.base.objs.size<=X.s₀.heap.objs.size
 noex:∀ b o,X.base.get? b=some o->b ∉ X.ex
 exfs:∀ b∈X.ex,b ∉ X.fs
 funs:X.s₀.heap.FunFrames X.base X.outer
 frf:∀ b∈X.fs,X.H₀ b=none
structure Inv (X:Cx) (pins:List (Addr×Obj)) (σ:List (Option V)) (H:Hp) (s:Shared):Prop where
 ok:X.Ok
 os:s.os=X.s₀.os
 bare:AllBare s.gens
 base:Un X.fs X.ex X.H₀ H X.s₀.heap s.heap
 loc:∃ m,s.heap.Ns X.env.locals m/\∀ (i:Nat) (x:Str) (v:V),X.N[i]?=some x->σ[i]?=some (some v)->oD X.env.scope x->∃ u,RelV v u/\ZoK X.env s.heap m x u
 cell:∀ x c,X.env.cells.lookup x=some c->∃ v,s.heap.IsCell c v
 free:H X.env.locals=none
 freeC:∀ x c,X.env.cells.lookup x=some c->H c=none
 pin:∀ p∈X.pn++pins,s.heap.get? p.1=some p.2/\H p.1=none/\p.1≠X.env.locals/\p.1 ∉ X.fs/\∀ v,p.2.data≠.cell v
 hok:HOk X.prog X.w H s.heap
 len:σ.length=X.N.length
section
variable {X:Cx} {pins:List (Addr×Obj)} {σ:List (Option V)} {H H':Hp} {s:Shared} {h':Heap}
theorem Cx.Ok.nofr (ok:X.Ok) {b:Addr} {o:Obj} (e:X.base.get? b=some o):b ∉ X.fs:=λhb=>by
 have:=(ok.funs.mem hb).1
 rw [e] at this; cases this
theorem Inv.bs (I:Inv X pins σ H s):∀ b o,X.base.get? b=some o->s.heap.get? b=some o/\H b=none:=λb o e =>
 ⟨I.base.keep b o (I.ok.bs b o e).1 (I.ok.bs b o e).2 (I.ok.nofr e) (I.ok.noex b o e),I.base.free b o (I.ok.bs b o e).1 (I.ok.bs b o e).2 (I.ok.noex b o e)⟩
theorem Inv.bk (I:Inv X pins σ H s):∀ b o,X.base.get? b=some o->s.heap.get? b=some o:=λb o e=>(I.bs b o e).1
theorem Inv.mod (I:Inv X pins σ H s):Mod X.K X.mg X.base:=I.ok.mod
theorem Inv.kIn (I:Inv X pins σ H s):X.K.In s.heap:=I.ok.mod.kin.keeps I.bk
theorem Inv.lt (I:Inv X pins σ H s):X.env.locals < s.heap.objs.size:=let ⟨_,hn,_⟩:=I.loc; hn.lt
theorem Inv.sz (I:Inv X pins σ H s):X.s₀.heap.objs.size<=s.heap.objs.size:=Nat.le_trans I.ok.above (Nat.le_of_lt I.lt)
theorem Inv.nofs (I:Inv X pins σ H s) {a:Addr} (h:s.heap.objs.size<=a):a ∉ X.fs:=λhb=>by
 obtain ⟨_,o,ho,_⟩:=I.ok.funs.mem hb
 exact absurd (Nat.lt_of_lt_of_le (Heap.lt_size ho) (Nat.le_trans I.sz h)) (Nat.lt_irrefl _)
theorem Inv.cne (I:Inv X pins σ H s):∀ x c,X.env.cells.lookup x=some c->c≠X.env.locals:=λx c e z=>by
 obtain ⟨v,o,ho,hd⟩:=I.cell x c e
 obtain ⟨m,⟨o',es,ep,ho',hd',_⟩,_⟩:=I.loc
 rw [z,ho'] at ho; cases ho; rw [hd'] at hd; cases hd
theorem Inv.funs (I:Inv X pins σ H s):s.heap.FunFrames X.base X.outer:=by
 have all:∀ (l:List Env),(∀ b∈frs l,b∈X.fs)->X.s₀.heap.FunFrames X.base l->s.heap.FunFrames X.base l:=by
  intro l
  induction l with
  | nil=>intro _ _; trivial
  | cons env r ih =>
   intro hs hl
   obtain ⟨hk,⟨L,o,hf,hn,ho,hd⟩,hr⟩:=hl
   have hL:L∈X.fs:=hs L (by unfold frs; rw [List.filterMap_cons,hf]; exact List.mem_cons_self)
   obtain ⟨sl,e⟩:=I.base.slot L o ho (I.ok.frf L hL) hL λz=>I.ok.exfs L z hL
   exact ⟨hk,⟨L,_,hf,hn,e,hd⟩,ih (λb hb=>hs b (by unfold frs; rw [List.filterMap_cons,hf]; exact List.mem_cons_of_mem _ hb)) hr⟩
 exact all X.outer (λ_ hb=>hb) I.ok.funs
theorem Inv.stack (I:Inv X pins σ H s):s.heap.FunFrames X.base X.stack:=by
 rcases I.ok.stk with e | ⟨e,hf⟩
 ·rw [e]; exact I.funs
 ·rw [e]
  obtain ⟨m,hn,_⟩:=I.loc
  refine .cons (by rw [I.ok.kind]; decide) hf hn ?_ I.funs
  exact Heap.get?_none_of_le (Nat.le_trans I.ok.bsz I.ok.above)
theorem Inv.stkSub (I:Inv X pins σ H s):∀ b∈frs X.stack,b∈X.env.locals::X.fs:=λb hb=>by
 rcases I.ok.stk with e | ⟨e,hf⟩
 ·rw [e] at hb; exact List.mem_cons_of_mem _ hb
 ·rw [e] at hb
  unfold frs at hb
  rw [List.filterMap_cons,hf] at hb
  exact hb
theorem Inv.stkFree (I:Inv X pins σ H s):∀ b∈frs X.stack,H b=none:=λb hb=>by
 rcases List.mem_cons.mp (I.stkSub b hb) with e | hb
 ·rw [e]; exact I.free
 ·obtain ⟨_,o,ho,_⟩:=I.ok.funs.mem hb
  exact I.base.free b o ho (I.ok.frf b hb) λz=>I.ok.exfs b z hb
theorem Inv.step {g':Array GenState} {t':Nat} {d':Drawn} {ch:List Addr} (I:Inv X pins σ H s)
  (hch:∀ b∈ch,(b∈X.ex\/X.s₀.heap.objs.size<=b)/\b≠X.env.locals/\(∀ x c,X.env.cells.lookup x=some c->c≠b)/\∀ p∈X.pn++pins,p.1≠b)
  (keep:∀ b o,b≠X.env.locals->b ∉ X.fs->b ∉ ch->s.heap.get? b=some o->H b=none->h'.get? b=some o)
  (slot:∀ b o,b≠X.env.locals->b∈X.fs->b ∉ ch->s.heap.get? b=some o->H b=none->∃ sl,h'.get? b=some { o with slots:=sl }) (free:∀ b o,b ∉ ch->s.heap.get? b=some o->H b=none->H' b=none)
  (there:∀ b o,b ∉ ch->s.heap.get? b=some o->∃ o',h'.get? b=some o')
  (tups:∀ b xs,H b=some (.tup xs)->H' b=some (.tup xs)) (frzs:∀ b o u,H b=some (.frz o u)->H' b=some (.frz o u)) (tbls:∀ b ps,H b=some (.tbl ps)->∃ more,H' b=some (.tbl (ps++more)))
  (ns:∀ m,s.heap.Ns X.env.locals m->h'.Ns X.env.locals m) (hok:HOk X.prog X.w H' h') (hg:AllBare g') :
  Inv X pins σ H' { s with heap:=h',gens:=g',drawn:=d',toks:=t' }:=by
 have neL:∀ b o,X.s₀.heap.get? b=some o->b≠X.env.locals:=λb o e=>Nat.ne_of_lt (Nat.lt_of_lt_of_le (Heap.lt_size e) I.ok.above)
 have neC:∀ b o,X.s₀.heap.get? b=some o->b ∉ X.ex->b ∉ ch:=λb o e hx hb=>by
  rcases (hch b hb).1 with z | z
  ·exact hx z
  ·exact absurd (Nat.lt_of_lt_of_le (Heap.lt_size e) z) (Nat.lt_irrefl _)
 have cellK:∀ x c,X.env.cells.lookup x=some c->∀ v,s.heap.IsCell c v->h'.IsCell c v:=λx c e v hz0=>by
  obtain ⟨o,ho,hd⟩:=hz0
  have nch:c ∉ ch:=λz=>(hch c z).2.2.1 x c e rfl
  by_cases hc:c∈X.fs
  ·obtain ⟨sl,q⟩:=slot c o (I.cne x c e) hc nch ho (I.freeC x c e)
   exact ⟨_,q,hd⟩
  ·exact ⟨o,keep c o (I.cne x c e) hc nch ho (I.freeC x c e),hd⟩
 refine ⟨I.ok,I.os,hg,⟨λb o e n hb hx=>?_,λb o e n hb hx=>?_,λb o e n hx=>?_,λb o e hx=>?_,λb xs e=>tups b xs (I.base.tups b xs e),λb o xs e=>frzs b o xs (I.base.frzs b o xs e),λb ps e=>?_⟩,?_,λx c e=>?_,?_,λx c e=>?_,λp hp=>?_,hok,I.len⟩
 ·exact keep b o (neL b o e) hb (neC b o e hx) (I.base.keep b o e n hb hx) (I.base.free b o e n hx)
 ·obtain ⟨sl,e1⟩:=I.base.slot b o e n hb hx
  obtain ⟨sl',e2⟩:=slot b _ (neL b o e) hb (neC b o e hx) e1 (I.base.free b o e n hx)
  exact ⟨sl',e2⟩
 ·obtain ⟨o',e1⟩:=I.base.there b o e hx
  exact free b o' (neC b o e hx) e1 (I.base.free b o e n hx)
 ·obtain ⟨o',e1⟩:=I.base.there b o e hx
  exact there b o' (neC b o e hx) e1
 ·obtain ⟨m1,e1⟩:=I.base.tbls b ps e
  obtain ⟨m2,e2⟩:=tbls b _ e1
  exact ⟨m1++m2,by rw [e2,Array.append_assoc]⟩
 ·obtain ⟨m,hn,hl⟩:=I.loc
  refine ⟨m,ns m hn,λi x v e1 e2 e3=>?_⟩
  obtain ⟨u,r,l⟩:=hl i x v e1 e2 e3
  refine ⟨u,r,?_⟩
  rcases l with l | ⟨k,c,e,z⟩
  ·exact .inl l
  ·exact .inr ⟨k,c,e,cellK x c e _ z⟩
 ·obtain ⟨v,z⟩:=I.cell x c e
  exact ⟨v,cellK x c e v z⟩
 ·obtain ⟨m,⟨o,_,_,ho,_⟩,_⟩:=I.loc
  exact free _ o (λz=>(hch _ z).2.1 rfl) ho I.free
 ·obtain ⟨v,o,ho,hd⟩:=I.cell x c e
  exact free c o (λz=>(hch c z).2.2.1 x c e rfl) ho (I.freeC x c e)
 ·obtain ⟨e,n,ne,nf,d⟩:=I.pin p hp
  have nch:p.1 ∉ ch:=λz=>(hch p.1 z).2.2.2 p hp rfl
  exact ⟨keep p.1 p.2 ne nf nch e n,free p.1 p.2 nch e n,ne,nf,d⟩
theorem Inv.un {t':Nat} (I:Inv X pins σ H s) (u:Un X.fs [] H H' s.heap h') (hok:HOk X.prog X.w H' h'):Inv X pins σ H' { s with heap:=h',toks:=t' }:=by
 obtain ⟨m,⟨o,es,ep,ho,r⟩,_⟩:=id I.loc
 obtain ⟨sl,hL⟩:=u.any ho I.free (by simp)
 exact I.step (g':=s.gens) (d':=s.drawn) (ch:=[]) (λ_ z=>nomatch z) (λb o _ hb _ e n=>u.keep b o e n hb (by simp)) (λb o _ hb _ e n=>u.slot b o e n hb (by simp)) (λb o _ e n=>u.free b o e n (by simp)) (λb o _ e=>u.there b o e (by simp)) u.tups u.frzs u.tbls (λm' hm=>by
  obtain ⟨o',es',ep',ho',r'⟩:=hm
  rw [ho] at ho'; cases ho'
  exact ⟨_,es',ep',hL,r'⟩) hok I.bare
theorem Inv.call {g':Array GenState} {t':Nat} {d':Drawn} {ch:List Addr} (I:Inv X pins σ H s) (u:Un (frs X.stack) ch H H' s.heap h') (hok:HOk X.prog X.w H' h') (hg:AllBare g')
  (hch:∀ b∈ch,(b∈X.ex\/X.s₀.heap.objs.size<=b)/\b≠X.env.locals/\(∀ x c,X.env.cells.lookup x=some c->c≠b)/\∀ p∈X.pn++pins,p.1≠b) :
  Inv X pins σ H' { s with heap:=h',gens:=g',drawn:=d',toks:=t' }:=by
 obtain ⟨m,⟨o,es,ep,ho,r⟩,_⟩:=id I.loc
 obtain ⟨sl,hL⟩:=u.any ho I.free λz=>(hch _ z).2.1 rfl
 exact I.step (ch:=ch) hch (λb o hL hb hc e n=>u.keep b o e n (λz=>(List.mem_cons.mp (I.stkSub b z)).elim hL hb) hc) (λb o _ _ hc e n=>u.any e n hc) (λb o hc e n=>u.free b o e n hc) (λb o hc e=>u.there b o e hc) u.tups u.frzs u.tbls (λm' hm=>by
  obtain ⟨o',es',ep',ho',r'⟩:=hm
  rw [ho] at ho'; cases ho'
  exact ⟨_,es',ep',hL,r'⟩) hok hg
theorem Inv.turned {t':Nat} {it:Addr} (I:Inv X pins σ H s) (k:∀ b o,b≠it->s.heap.get? b=some o->h'.get? b=some o) (hn:H it=none) (hL:it≠X.env.locals)
  (h1:it∈X.ex\/X.s₀.heap.objs.size<=it) (h2:∀ x c,X.env.cells.lookup x=some c->c≠it) (h3:∀ p∈X.pn++pins,p.1≠it):Inv X pins σ H { s with heap:=h',toks:=t' }:=by
 have nit:∀ b u,H b=some u->b≠it:=λb u e z=>by rw [z,hn] at e; cases e
 refine I.step (g':=s.gens) (d':=s.drawn) (ch:=[it]) (λb hb=>?_) (λb o _ _ hc e _=>k b o (λz=>hc (by simp [z])) e) (λb o _ _ hc e _=>⟨o.slots,k b o (λz=>hc (by simp [z])) e⟩) (λ_ _ _ _ n=>n)
  (λb o hc e=>⟨o,k b o (λz=>hc (by simp [z])) e⟩) (λ_ _ e=>e) (λ_ _ _ e=>e) (λb ps e=>⟨#[],by rw [e]; simp⟩) (λm hm=>?_) (λb u e=>?_) I.bare
 ·have e:b=it:=by simpa using hb
  subst e
  exact ⟨h1,hL,h2,h3⟩
 ·obtain ⟨o,es,ep,ho,r⟩:=hm
  exact ⟨o,es,ep,k _ o (Ne.symm hL) ho,r⟩
 ·refine (I.hok b u e).stay (λc v hc q=>k c v ?_ q) (λ_ q=>q) λ_ _ q=>q
  rcases hc with z | z
  ·rw [z]; exact nit b u e
  ·exact nit c _ z
theorem Inv.tok (I:Inv X pins σ H s) (t:Nat):Inv X pins σ H { s with toks:=t }:=I.un (h':=s.heap) (t':=t) Un.refl I.hok
theorem Inv.kept {t':Nat} (I:Inv X pins σ H s) (k:∀ b u,s.heap.get? b=some u->h'.get? b=some u):Inv X pins σ H { s with heap:=h',toks:=t' }:=I.un (Un.kept k) (I.hok.kept k)
theorem Inv.laid {a:Addr} {o:HO} {t':Nat} (I:Inv X pins σ H s) (k:∀ b u,s.heap.get? b=some u->h'.get? b=some u) (hp:s.heap.objs.size<=a) (new:ObjOk X.prog X.w (upd H a o) h' a o) :
  Inv X pins σ (upd H a o) { s with heap:=h',toks:=t' }:=I.un (Un.laid k hp (I.hok.fresh hp)) (I.hok.laid k hp new)
theorem Inv.write {x e:Addr} {o:HO} {t':Nat} (I:Inv X pins σ H s) (mu:lq (H x)) (he:e=x\/H e=some (.own x)) (k:∀ b u,b≠e->s.heap.get? b=some u->h'.get? b=some u) (heo:∃ u,h'.get? e=some u)
  (new:ObjOk X.prog X.w (upd H x o) h' x o):Inv X pins σ (upd H x o) { s with heap:=h',toks:=t' }:=I.un (Un.write mu he k heo) (I.hok.write mu he k heo new)
theorem Inv.pins_of {pins':List (Addr×Obj)} (I:Inv X pins σ H s) (h:∀ p∈pins',s.heap.get? p.1=some p.2/\H p.1=none/\p.1≠X.env.locals/\p.1 ∉ X.fs/\∀ v,p.2.data≠.cell v):Inv X pins' σ H s :=
 ⟨I.ok,I.os,I.bare,I.base,I.loc,I.cell,I.free,I.freeC,λp hp=>(List.mem_append.mp hp).elim (λz=>I.pin p (List.mem_append_left _ z)) (h p),I.hok,I.len⟩
theorem qw {N:List Str} (hN:N.Nodup) {i j:Nat} {x:Str} (a:N[i]?=some x) (b:N[j]?=some x):i=j:=by
 obtain ⟨h1,e1⟩:=List.getElem?_eq_some_iff.mp a
 obtain ⟨h2,e2⟩:=List.getElem?_eq_some_iff.mp b
 exact (List.getElem_inj hN).mp (e1.trans e2.symm)
theorem pq {M:Model} {A:Around} {E:Value->Shared->Prop} {i:Nat} {x:Str} {v:V} {u:Value} {Q:Unit->Shared->Prop} (I:Inv X pins σ H s) (hN:X.N.Nodup) (hi:X.N[i]?=some x) (hx:jA X.env.scope x) (r:RelV v u)
  (h:∀ s',Inv X pins (σ.set i (some v)) H s'->(∃ a,Heap.SameBut a s.heap s'.heap/\(a=X.env.locals\/X.env.cells.lookup x=some a))->Q () s') (hf:X.fn x=true\/X.env.scope.names.lookup x=some .local:=by first | exact .inl rfl | exact .inr rfl | assumption):wpAny M A (storeName X.env x u) Q E s:=by
 obtain ⟨m,hn,hl⟩:=id I.loc
 have hcls:(X.env.scope.kind == .class || (X.env.scope.kind == .module && X.env.locals != X.env.globals))=false:=by rw [I.ok.kind]; rfl
 have hiσ:i < σ.length:=by rw [I.len]; exact (List.getElem?_eq_some_iff.mp hi).1
 have cne:=I.cne
 have tracked:∀ {a:Addr} {h':Heap},(∃ o,s.heap.get? a=some o/\H a=none)->Heap.SameBut a s.heap h'->HOk X.prog X.w H h':=λ{a h'} ha hs b ob e=>by
  obtain ⟨_,_,hfree⟩:=ha
  refine (I.hok b ob e).stay (λc w' hc q=>(hs.2 c ?_).trans q) (λ_ q=>q) λ_ _ q=>q
  rintro rfl
  rcases hc with rfl | hc
  ·rw [hfree] at e; cases e
  ·rw [hfree] at hc; cases hc
 rcases hx with hk | hk
 ·refine wpAny_storeName_local hk hn (λh' hn' hs=>?_) hcls
  obtain ⟨oL,_,_,hoL,_⟩:=id hn
  refine h _ ⟨I.ok,I.os,I.bare,⟨λb o e n hb hx=>?_,λb o e n hb hx=>?_,I.base.free,λb o e hx=>?_,I.base.tups,I.base.frzs,I.base.tbls⟩,⟨_,hn',λj y v' e1 e2 e3=>?_⟩,λy c e=>?_,I.free,I.freeC,λp hp=>?_,tracked ⟨oL,hoL,I.free⟩ hs,by simpa using I.len⟩ ⟨_,hs,.inl rfl⟩
  ·exact (hs.2 b (Nat.ne_of_lt (Nat.lt_of_lt_of_le (Heap.lt_size e) I.ok.above))).trans (I.base.keep b o e n hb hx)
  ·obtain ⟨sl,e1⟩:=I.base.slot b o e n hb hx
   exact ⟨sl,(hs.2 b (Nat.ne_of_lt (Nat.lt_of_lt_of_le (Heap.lt_size e) I.ok.above))).trans e1⟩
  ·obtain ⟨o',e1⟩:=I.base.there b o e hx
   exact ⟨o',(hs.2 b (Nat.ne_of_lt (Nat.lt_of_lt_of_le (Heap.lt_size e) I.ok.above))).trans e1⟩
  ·by_cases hj:j=i
   ·subst hj
    rw [hi] at e1; cases e1
    rw [List.getElem?_set_self hiσ] at e2
    cases e2
    exact ⟨u,r,.inl ⟨hk,by simp⟩⟩
   ·rw [List.getElem?_set_ne (Ne.symm hj)] at e2
    obtain ⟨u',r',q⟩:=hl j y v' e1 e2 e3
    refine ⟨u',r',?_⟩
    rcases q with ⟨k,e⟩ | ⟨k,c,e,z⟩
    ·refine .inl ⟨k,?_⟩
     have:y≠x:=λe=>hj (qw hN e1 (e ▸ hi))
     simp [this,e]
    ·exact .inr ⟨k,c,e,z.sameBut hs (cne y c e)⟩
  ·obtain ⟨w',z⟩:=I.cell y c e
   exact ⟨w',z.sameBut hs (cne y c e)⟩
  ·obtain ⟨e,n,ne,nf,d⟩:=I.pin p hp
   exact ⟨(hs.2 p.1 ne).trans e,n,ne,nf,d⟩
 ·have hfn:X.fn x=true:=by
   rcases hf with z | z
   ·exact z
   ·rw [z] at hk; cases hk
  obtain ⟨c,hc⟩:=I.ok.has x (.inl hk)
  obtain ⟨w',z⟩:=I.cell x c hc
  refine wpAny_storeName_cell I.ok.kind hk hc z (λh' hc' hs=>?_)
  obtain ⟨oc,hoc,hocd⟩:=id z
  refine h { s with heap:=h' } ⟨I.ok,I.os,I.bare,⟨λb o e n hb hx=>?_,λb o e n hb hx=>?_,I.base.free,λb o e hx=>?_,I.base.tups,I.base.frzs,I.base.tbls⟩,⟨m,hn.sameBut hs (Ne.symm (cne x c hc)),λj y v' e1 e2 e3=>?_⟩,λy c' e=>?_,I.free,I.freeC,λp hp=>?_,tracked ⟨oc,hoc,I.freeC x c hc⟩ hs,by simpa using I.len⟩ ⟨c,hs,.inr hc⟩
  ·exact (hs.2 b (Nat.ne_of_lt (Nat.lt_of_lt_of_le (Heap.lt_size e) (I.ok.cab x c hfn hc)))).trans (I.base.keep b o e n hb hx)
  ·obtain ⟨sl,e1⟩:=I.base.slot b o e n hb hx
   exact ⟨sl,(hs.2 b (Nat.ne_of_lt (Nat.lt_of_lt_of_le (Heap.lt_size e) (I.ok.cab x c hfn hc)))).trans e1⟩
  ·obtain ⟨o',e1⟩:=I.base.there b o e hx
   exact ⟨o',(hs.2 b (Nat.ne_of_lt (Nat.lt_of_lt_of_le (Heap.lt_size e) (I.ok.cab x c hfn hc)))).trans e1⟩
  ·by_cases hj:j=i
   ·subst hj
    rw [hi] at e1; cases e1
    rw [List.getElem?_set_self hiσ] at e2
    cases e2
    exact ⟨u,r,.inr ⟨.inl hk,c,hc,hc'⟩⟩
   ·rw [List.getElem?_set_ne (Ne.symm hj)] at e2
    obtain ⟨u',r',q⟩:=hl j y v' e1 e2 e3
    refine ⟨u',r',?_⟩
    rcases q with q | ⟨k,c',e,z'⟩
    ·exact .inl q
    ·refine .inr ⟨k,c',e,z'.sameBut hs ?_⟩
     rintro rfl
     exact hj (qw hN e1 (I.ok.inj _ _ _ e hc ▸ hi))
  ·by_cases hcc:c'=c
   ·subst hcc; exact ⟨_,hc'⟩
   ·obtain ⟨w2,z2⟩:=I.cell y c' e
    exact ⟨w2,z2.sameBut hs hcc⟩
  ·obtain ⟨e,n,ne,nf,d⟩:=I.pin p hp
   refine ⟨(hs.2 p.1 ?_).trans e,n,ne,nf,d⟩
   intro q
   rw [q,hoc] at e
   have q':oc=p.2:=Option.some.inj e
   exact d w' (by rw [<- q']; exact hocd)
theorem iE {M:Model} {A:Around} {E:Value->Shared->Prop} {i:Nat} {x:Str} {v:V} {u:Value} {Q:Unit->Shared->Prop} (I:Inv X pins σ H s) (hN:X.N.Nodup) (hi:X.N[i]?=some x) (hx:jA X.env.scope x) (r:RelV v u)
  (h:∀ s',Inv X pins (σ.set i (some v)) H s'->Q () s') (hf:X.fn x=true\/X.env.scope.names.lookup x=some .local:=by first | exact .inl rfl | exact .inr rfl | assumption):wpAny M A (storeName X.env x u) Q E s :=
 pq I hN hi hx r (λs' I' _=>h s' I') hf
theorem Inv.call' {s':Shared} {ch:List Addr} (I:Inv X pins σ H s) (ho:s'.os=s.os) (u:Un (frs X.stack) ch H H' s.heap s'.heap) (hok:HOk X.prog X.w H' s'.heap) (hg:AllBare s'.gens)
  (hch:∀ b∈ch,(b∈X.ex\/X.s₀.heap.objs.size<=b)/\b≠X.env.locals/\(∀ x c,X.env.cells.lookup x=some c->c≠b)/\∀ p∈X.pn++pins,p.1≠b):Inv X pins σ H' s':=by
 obtain ⟨h',g',d',t',o'⟩:=s'
 have e:o'=s.os:=ho
 subst e
 exact I.call (g':=g') (t':=t') (d':=d') u hok hg hch
end
noncomputable abbrev XK:=Value->Option Addr->Hp->Prop
noncomputable abbrev St:=List (Option V)
noncomputable abbrev VK:=V->Hp->Prop
noncomputable abbrev TE:=St->Hp->VK->Prop
noncomputable abbrev TT:=St->Hp->(Bool->Hp->Prop)->Prop
noncomputable abbrev TA:=St->Hp->(List V->Hp->Prop)->Prop
structure Ends where
 nx:St->Hp->Prop
 rt:VK
 bk:St->Hp->Prop:=λ_ _=>False
 ct:St->Hp->Prop:=λ_ _=>False
noncomputable abbrev TS:=Ends->St->Hp->Prop
noncomputable def EP (X:Cx) (pins:List (Addr×Obj)) (σ:St) (Q:VK) (u:Value) (s':Shared):Prop:=∃ v H',Inv X pins σ H' s'/\RelV v u/\Q v H'
noncomputable def TP (X:Cx) (pins:List (Addr×Obj)) (σ:St) (Q:Bool->Hp->Prop) (b:Bool) (s':Shared):Prop:=∃ H',Inv X pins σ H' s'/\Q b H'
noncomputable def AP (X:Cx) (pins:List (Addr×Obj)) (σ:St) (Q:List V->Hp->Prop) (us:List Value) (s':Shared):Prop:=∃ vs H',Inv X pins σ H' s'/\Vals vs us/\Q vs H'
noncomputable def SP (X:Cx) (pins:List (Addr×Obj)) (D:Ends) (f:Flow) (s':Shared):Prop :=
 match f with
 | .next=>∃ σ' H',Inv X pins σ' H' s'/\D.nx σ' H'
 | .brk=>∃ σ' H',Inv X pins σ' H' s'/\D.bk σ' H'
 | .cont=>∃ σ' H',Inv X pins σ' H' s'/\D.ct σ' H'
 | .ret u=>∃ v σ' H',Inv X pins σ' H' s'/\RelV v u/\D.rt v H'
noncomputable def PE (X:Cx) (e:Expr) (t:TE):Prop :=
 ∀ (pins:List (Addr×Obj)) (s:Shared) (σ:St) (H:Hp) (Q:VK),Inv X pins σ H s->t σ H Q->wpAny (model X.prog X.w) X.A (eval e X.env) (EP X pins σ Q) X.xe s
noncomputable def PT (X:Cx) (e:Expr) (t:TT):Prop :=
 ∀ (pins:List (Addr×Obj)) (s:Shared) (σ:St) (H:Hp) (Q:Bool->Hp->Prop),Inv X pins σ H s->t σ H Q->wpAny (model X.prog X.w) X.A (isTrue e X.env (eval e X.env)) (TP X pins σ Q) X.xe s
noncomputable def PW (X:Cx) (e:Expr) (t:TT):Prop :=
 ∀ (whole:Sem Value) (pins:List (Addr×Obj)) (s:Shared) (σ:St) (H:Hp) (Q:Bool->Hp->Prop),Inv X pins σ H s->t σ H Q->wpAny (model X.prog X.w) X.A (isTrue e X.env whole) (TP X pins σ Q) X.xe s
theorem PW.pt {X:Cx} {e:Expr} {t:TT} (h:PW X e t):PT X e t:=h _
noncomputable def PA (X:Cx) (es:List Expr) (t:TA):Prop :=
 ∀ (pos:Pos) (pins:List (Addr×Obj)) (s:Shared) (σ:St) (H:Hp) (Q:List V->Hp->Prop),Inv X pins σ H s->t σ H Q->wpAny (model X.prog X.w) X.A (spliced (backTo pos (starEach es X.env))) (AP X pins σ Q) X.xe s
noncomputable def PS (X:Cx) (st:Stmt) (t:TS):Prop :=
 ∀ (pins:List (Addr×Obj)) (s:Shared) (σ:St) (H:Hp) (D:Ends),Inv X pins σ H s->t D σ H->wpAny (model X.prog X.w) X.A (exec st X.env) (SP X pins D) X.xe s
noncomputable def PSs (X:Cx) (st:List Stmt) (t:TS):Prop :=
 ∀ (pins:List (Addr×Obj)) (s:Shared) (σ:St) (H:Hp) (D:Ends),Inv X pins σ H s->t D σ H->wpAny (model X.prog X.w) X.A (execs st X.env) (SP X pins D) X.xe s
theorem thn {α:Type} {t:Sem α} {Q Q':α->Shared->Prop} {M:Model} {A:Around} {E:Value->Shared->Prop} {s:Shared} (h:wpAny M A t Q E s) (hQ:∀ a s,Q a s->Q' a s):wpAny M A t Q' E s:=wpAny_mono h hQ λ_ _ x=>x
section
variable {X:Cx}
noncomputable def cM (i:Nat):TE:=λσ H Q=>∃ v,σ[i]?=some (some v)/\Q v H
noncomputable def tC (v:V):TE:=λ_ H Q=>Q v H
theorem Zhh {i:Nat} {x:Str} {pos:Pos} (hN:X.N[i]?=some x) (hv:oD X.env.scope x) (hd:(x == ("__debug__":Str))=false:=by decide) (hcd:(x == ("__classdict__":Str))=false:=by decide):PE X (.Name x pos) (cM i):=by
 intro pins s σ H Q I h
 obtain ⟨v,e,h⟩:=h
 obtain ⟨m,hn,hl⟩:=I.loc
 obtain ⟨u,r,l⟩:=hl i x v hN e hv
 have fin:EP X pins σ Q u s:=⟨v,H,I,r,h⟩
 rcases l with ⟨hk,hm⟩ | ⟨hk,c,hc,hcell⟩
 ·exact wpAny_Name (wpAny_loadName_local I.ok.kind hk hn hm fin) hd
 ·rcases hk with hk | hk
  ·exact wpAny_Name (wpAny_loadName_cell I.ok.kind hk hc hcell fin) hd
  ·exact wpAny_Name (wpAny_loadName_free I.ok.kind hk hc hcell fin hcd) hd
theorem bK {i j pos}:PE X (.Constant (.int i) j pos) (tC (.int i)):=λ_ _ _ H _ I h=>wpAny_Constant_int ⟨.int i,H,I.tok _,⟨_,rfl⟩,h⟩
theorem Zcc {b j pos}:PE X (.Constant (.bool b) j pos) (tC (.bl b)):=λ_ _ _ H _ I h=>Constant_bool ⟨.bl b,H,I,rfl,h⟩
theorem Zb9 {j pos}:PE X (.Constant .none j pos) (tC .non):=λ_ _ _ H _ I h=>Constant_none ⟨.non,H,I,rfl,h⟩
theorem Zhj {x j pos}:PE X (.Constant (.str x) j pos) (tC (.str x)):=λ_ _ _ H _ I h=>Calls.Constant_str ⟨.str x,H,I.tok _,⟨_,rfl⟩,h⟩
noncomputable def Gl (X:Cx) (x:Str):Prop:=X.env.kindOf x=some .globalImplicit
theorem qK {E:Value->Shared->Prop} {pins:List (Addr×Obj)} {s:Shared} {σ:St} {H:Hp} {x:Str} {u:Value} {pos:Pos} {Q:Value->Shared->Prop} (I:Inv X pins σ H s) (hg:Gl X x) (hm:X.mg x=some u) (h:Q u s)
  (hd:(x == ("__debug__":Str))=false:=by decide):wpAny (model X.prog X.w) X.A (eval (.Name x pos) X.env) Q E s :=
 Calls.Name_function_global I.ok.kind hg (Calls.loadGlobal_global (by rw [I.ok.glob]; exact I.mod.glob.keeps I.bk) hm h) hd
theorem hX {E:Value->Shared->Prop} {pins:List (Addr×Obj)} {s:Shared} {σ:St} {H:Hp} {x:Str} {u:Value} {pos:Pos} {Q:Value->Shared->Prop} (I:Inv X pins σ H s) (hg:Gl X x) (hm:X.mg x=none) (hv:bootBuiltins x=some u) (h:Q u s)
  (hn:x≠"__name__":=by decide) (hd:(x == ("__debug__":Str))=false:=by decide):wpAny (model X.prog X.w) X.A (eval (.Name x pos) X.env) Q E s:=by
 obtain ⟨mb,h1,h2⟩:=I.mod.blt
 exact Calls.Name_function_global I.ok.kind hg (Calls.loadGlobal_builtin (by rw [I.ok.glob]; exact I.mod.glob.keeps I.bk) hm (by rw [I.ok.blt]; exact h1.keeps I.bk) ((h2 x hn).trans hv) h) hd
theorem fY {x:Str} {v:V} {u:Value} {pos:Pos} (hg:Gl X x) (hm:X.mg x=some u) (r:RelV v u) (hd:(x == ("__debug__":Str))=false:=by decide):PE X (.Name x pos) (tC v) :=
 λ_ _ _ H _ I h=>qK I hg hm ⟨v,H,I,r,h⟩ hd
theorem Zhs {x:Str} {v:V} {u:Value} {pos:Pos} (hg:Gl X x) (hm:X.mg x=none) (hv:bootBuiltins x=some u) (r:RelV v u) (hn:x≠"__name__":=by decide) (hd:(x == ("__debug__":Str))=false:=by decide):PE X (.Name x pos) (tC v) :=
 λ_ _ _ H _ I h=>hX I hg hm hv ⟨v,H,I,r,h⟩ hn hd
variable {a b:Expr} {ta tb:TE} {pos:Pos}
noncomputable def PC (X:Cx) (op:CmpOp) (a b:Expr) (t:TE):Prop :=
 ∀ (pins:List (Addr×Obj)) (s:Shared) (σ:St) (H:Hp) (Q:VK),Inv X pins σ H s->t σ H Q ->
  wpAny (model X.prog X.w) X.A (eval a X.env) (λv s₁=>wpAny (model X.prog X.w) X.A (eval b X.env) (λu s₂=>wpAny (model X.prog X.w) X.A (compareOp op v u) (EP X pins σ Q) X.xe s₂) X.xe s₁) X.xe s
noncomputable def tB (t:TE):TT:=λσ H Q=>t σ H λx H1=>∃ c,x=.bl c/\Q c H1
theorem Zg0 {op:CmpOp} {t:TE} (h:PC X op a b t) (h1:behindInMarks op b=false:=by first | exact nobehind _ (by decide) (by decide) | rfl):PT X (.Compare a [op] [b] pos) (tB t):=by
 intro pins s σ H Q I hw
 refine wpAny_isTrue_Compare1 (thn (h pins s σ H _ I hw) λv s1 h1=>thn h1 λu s2 h2=>thn h2 λc s3 hz0=>?_) h1
 obtain ⟨x,H1,I1,r1,q1⟩:=hz0
 obtain ⟨d,rfl,q⟩:=q1
 cases r1
 exact wpAny_truthy_bool ⟨H1,I1,q⟩
theorem ZgX {e:Expr} {t:TE} (h:PE X e t) (he:∀ whole,isTrue e X.env whole=(do let v <- whole; standAt e.pos; holding [v] (truthy v)):=by intro _; rfl):PT X e (tB t):=by
 intro pins s σ H Q I hw
 refine isTrue_plain (thn (h pins s σ H _ I hw) λv s1 hz0=>?_) (he _)
 obtain ⟨x,H1,I1,r1,q1⟩:=hz0
 obtain ⟨d,rfl,q⟩:=q1
 cases r1
 exact wpAny_truthy_bool ⟨H1,I1,q⟩
variable {tA tB':TT} {rest:List Expr}
noncomputable def ZfW (t u:TT):TT:=λσ H Q=>t σ H λc H1=>if c=true then u σ H1 Q else Q false H1
noncomputable def tOr (t u:TT):TT:=λσ H Q=>t σ H λc H1=>if c=true then Q true H1 else u σ H1 Q
noncomputable def ZfM (t:TT):TT:=λσ H Q=>t σ H λc H1=>Q (!c) H1
theorem ZbZ (ha:PT X a tA):PW X (.BoolOp .And [a] pos) tA:=by
 intro wh pins s σ H Q I h
 refine isTrue_and (thn (ha pins s σ H Q I h) λc s1 e=>?_)
 cases c with
 | true=>exact isTrue_and_nil e
 | false=>exact e
theorem ZgU (ha:PT X a tA):PW X (.BoolOp .Or [a] pos) tA:=by
 intro wh pins s σ H Q I h
 refine isTrue_or (thn (ha pins s σ H Q I h) λc s1 e=>?_)
 cases c with
 | false=>exact isTrue_or_nil e
 | true=>exact e
theorem Zb0 (ha:PT X a tA) (hb:PW X (.BoolOp .And (b::rest) pos) tB'):PW X (.BoolOp .And (a::b::rest) pos) (ZfW tA tB'):=by
 intro wh pins s σ H Q I h
 refine isTrue_and (thn (ha pins s σ H _ I h) λc s1 hz0=>?_)
 obtain ⟨H1,I1,q1⟩:=hz0
 cases c with
 | true=>exact hb wh pins s1 σ H1 Q I1 q1
 | false=>exact ⟨H1,I1,q1⟩
theorem ZgV (ha:PT X a tA) (hb:PW X (.BoolOp .Or (b::rest) pos) tB'):PW X (.BoolOp .Or (a::b::rest) pos) (tOr tA tB'):=by
 intro wh pins s σ H Q I h
 refine isTrue_or (thn (ha pins s σ H _ I h) λc s1 hz0=>?_)
 obtain ⟨H1,I1,q1⟩:=hz0
 cases c with
 | true=>exact ⟨H1,I1,q1⟩
 | false=>exact hb wh pins s1 σ H1 Q I1 q1
theorem ZgZ (ha:PT X a tA):PT X (.UnaryOp .Not a pos) (ZfM tA):=by
 intro pins s σ H Q I h
 exact isTrue_not (ha pins s σ H (λc H1=>Q (!c) H1) I h)
noncomputable def ZfV (ta tb:TE):TE:=λσ H Q=>ta σ H λx H1=>∃ c,x=.bl c/\if c=true then tb σ H1 Q else Q (.bl false) H1
theorem Zhk {op} {t:TE} (h:PE X a t):PE X (.BoolOp op [a] pos) t:=λpins s σ H Q I hw=>BoolOp_one (h pins s σ H Q I hw)
theorem Zht (ha:PE X a ta) (hb:PE X (.BoolOp .And (b::rest) pos) tb):PE X (.BoolOp .And (a::b::rest) pos) (ZfV ta tb):=by
 intro pins s σ H Q I h
 refine BoolOp_and (thn (ha pins s σ H _ I h) λv s1 hz0=>?_)
 obtain ⟨x,H1,I1,r1,q1⟩:=hz0
 obtain ⟨c,rfl,q1⟩:=q1
 cases r1
 refine wpAny_truthy_bool ?_
 cases c with
 | true=>exact hb pins s1 σ H1 Q I1 q1
 | false=>exact ⟨.bl false,H1,I1,rfl,q1⟩
noncomputable def tIf (t:TT) (ta tb:TE):TE:=λσ H Q=>t σ H λc H1=>if c=true then ta σ H1 Q else tb σ H1 Q
theorem Zhl {c:Expr} (hc:PT X c tA) (ha:PE X a ta) (hb:PE X b tb):PE X (.IfExp c a b pos) (tIf tA ta tb):=by
 intro pins s σ H Q I h
 refine wpAny_IfExp (thn (hc pins s σ H _ I h) λd s1 hz0=>?_)
 obtain ⟨H1,I1,q1⟩:=hz0
 cases d with
 | true=>exact ha pins s1 σ H1 Q I1 q1
 | false=>exact hb pins s1 σ H1 Q I1 q1
end
noncomputable def SqL (K:PySem.W.Frag) (H:Hp) (a:Addr) (xs:List V):Prop :=
 Rd H a (.lst xs) \/
  ∃ (o:Obj) (its:Array Value) (n:Nat),K.lookup a=some o/\o.cls=.type "list"/\o.dict=none/\o.data=.seq its n/\its.size<=sizeLine/\Vals xs its.toList
noncomputable def SqT (K:PySem.W.Frag) (H:Hp) (a:Addr) (xs:List V):Prop :=
 Rd H a (.tup xs) \/
  ∃ (o:Obj) (its:Array Value) (n:Nat),K.lookup a=some o/\o.cls=.type "tuple"/\o.data=.seq its n/\its.size<=sizeLine/\Vals xs its.toList
noncomputable def Zoh:Value->Option V
 | .none=>some .non
 | .bool b=>some (.bl b)
 | .int i _=>some (.int i)
 | .str x _=>some (.str x)
 | .bytes b _=>some (.byt b)
 | .float b _=>some (.flt b)
 | .ref a=>some (.ref a)
 | .type n=>some (.ty n)
 | _=>none
theorem RelV.abs {x:V} {u:Value} (r:RelV x u):Zoh u=some x:=by
 cases x with
 | non=>cases r; rfl
 | bl _=>cases r; rfl
 | int _=>obtain ⟨t,rfl⟩:=r; rfl
 | str _=>obtain ⟨t,rfl⟩:=r; rfl
 | byt _=>obtain ⟨t,rfl⟩:=r; rfl
 | flt _=>obtain ⟨t,rfl⟩:=r; rfl
 | ref _=>cases r; rfl
 | ty _=>cases r; rfl
theorem RelV.inj {x y:V} {u:Value} (r:RelV x u) (q:RelV y u):x=y:=Option.some.inj (r.abs.symm.trans q.abs)
theorem Vals.inj {xs ys:List V} {us:List Value} (h:Vals xs us) (h':Vals ys us):xs=ys:=by
 induction h generalizing ys with
 | nil=>cases h'; rfl
 | cons r t ih=>cases h' with | cons r' t'=>rw [r.inj r',ih t']
section
variable {X:Cx} {pins:List (Addr×Obj)} {σ:St} {H:Hp} {s:Shared} {a:Addr} {xs ys:List V}
theorem SqL.of {K:PySem.W.Frag} (h:H a=some (.lst xs)):SqL K H a xs:=.inl (.inl h)
theorem SqT.of {K:PySem.W.Frag} (h:H a=some (.tup xs)):SqT K H a xs:=.inl (.inl h)
theorem Inv.list (I:Inv X pins σ H s) (h:SqL X.K H a xs):∃ its:List Value,Vals xs its/\PlainL s.heap a its.toArray/\xs.length<=sizeLine:=by
 rcases h with h | ⟨o,its,n,hk,hc,hd,hs,hz,r⟩
 ·obtain ⟨z,its,n,r,e⟩:=h.ok I.hok
  exact ⟨its,r,⟨_,n,e,rfl,rfl,rfl⟩,z⟩
 ·refine ⟨its.toList,r,⟨o,n,I.kIn a o hk,hc,hd,by simpa using hs⟩,?_⟩
  have e:=r.length
  simp only [Array.length_toList] at e
  omega
theorem Inv.tuple (I:Inv X pins σ H s) (h:SqT X.K H a xs):∃ its:List Value,Vals xs its/\IsTup s.heap a its.toArray/\xs.length<=sizeLine:=by
 rcases h with h | ⟨o,its,n,hk,hc,hs,hz,r⟩
 ·obtain ⟨z,its,r,p⟩:=h.ok I.hok
  exact ⟨its,r,p,z⟩
 ·refine ⟨its.toList,r,⟨o,I.kIn a o hk,hc,n,by simpa using hs⟩,?_⟩
  have e:=r.length
  simp only [Array.length_toList] at e
  omega
theorem Inv.list_inj (I:Inv X pins σ H s) (h:SqL X.K H a xs) (h':SqL X.K H a ys):xs=ys:=by
 obtain ⟨its,r,⟨o,n,e,_,_,d⟩,_⟩:=I.list h
 obtain ⟨its',r',⟨o',n',e',_,_,d'⟩,_⟩:=I.list h'
 rw [e] at e'; cases e'
 rw [d] at d'
 injection d' with d1 _
 have:its=its':=by simpa using congrArg Array.toList d1
 subst this
 exact r.inj r'
theorem Inv.tuple_inj (I:Inv X pins σ H s) (h:SqT X.K H a xs) (h':SqT X.K H a ys):xs=ys:=by
 obtain ⟨its,r,⟨o,e,_,n,d⟩,_⟩:=I.tuple h
 obtain ⟨its',r',⟨o',e',_,n',d'⟩,_⟩:=I.tuple h'
 rw [e] at e'; cases e'
 rw [d] at d'
 injection d' with d1 _
 have:its=its':=by simpa using congrArg Array.toList d1
 subst this
 exact r.inj r'
end
noncomputable abbrev Cx.wish (X:Cx) (E:Value->Shared->Prop):Cx:={ X with xe:=E }
noncomputable abbrev Cx.nox (X:Cx):Cx:=X.wish λ_ _=>False
theorem Cx.Ok.wish {X:Cx} (ok:X.Ok) (E:Value->Shared->Prop):(X.wish E).Ok :=
 ⟨ok.mod,ok.kind,ok.glob,ok.blt,ok.above,ok.inj,ok.has,ok.cab,ok.hd,ok.frames,ok.stk,ok.exf,ok.bs,ok.bsz,ok.noex,ok.exfs,ok.funs,ok.frf⟩
theorem Cx.Ok.unwish {X:Cx} {E:Value->Shared->Prop} (ok:(X.wish E).Ok):X.Ok :=
 ⟨ok.mod,ok.kind,ok.glob,ok.blt,ok.above,ok.inj,ok.has,ok.cab,ok.hd,ok.frames,ok.stk,ok.exf,ok.bs,ok.bsz,ok.noex,ok.exfs,ok.funs,ok.frf⟩
section
variable {X:Cx} {pins:List (Addr×Obj)} {σ:St} {H:Hp} {s:Shared} {E:Value->Shared->Prop}
theorem Inv.wish (I:Inv X pins σ H s) (E:Value->Shared->Prop):Inv (X.wish E) pins σ H s:=⟨I.ok.wish E,I.os,I.bare,I.base,I.loc,I.cell,I.free,I.freeC,I.pin,I.hok,I.len⟩
theorem Inv.unwish (I:Inv (X.wish E) pins σ H s):Inv X pins σ H s:=⟨I.ok.unwish,I.os,I.bare,I.base,I.loc,I.cell,I.free,I.freeC,I.pin,I.hok,I.len⟩
theorem SP.unwish {D:Ends} {f:Flow} {s':Shared} (h:SP (X.wish E) pins D f s'):SP X pins D f s':=by
 cases f with
 | next=>obtain ⟨σ',H',I,q⟩:=h; exact ⟨σ',H',I.unwish,q⟩
 | brk=>obtain ⟨σ',H',I,q⟩:=h; exact ⟨σ',H',I.unwish,q⟩
 | cont=>obtain ⟨σ',H',I,q⟩:=h; exact ⟨σ',H',I.unwish,q⟩
 | ret u=>obtain ⟨v,σ',H',I,r,q⟩:=h; exact ⟨v,σ',H',I.unwish,r,q⟩
theorem PSs.nox {st:List Stmt} {t:TS} (h:PSs X.nox st t):PSs X st t:=λpins s σ H D I hw =>
 wpAny_mono (h pins s σ H D (I.wish _) hw) (λ_ _ q=>q.unwish) λ_ _ z=>False.elim z
end
section
variable {X:Cx} {st:Stmt} {rest:List Stmt} {t u:TS} {e:Expr} {te:TE} {pos:Pos}
noncomputable def ZaH:TS:=λD σ H=>D.nx σ H
noncomputable def jF (t u:TS):TS:=λD σ H=>t { D with nx:=u D } σ H
theorem gW:PSs X [] ZaH:=λ_ _ σ H _ I h=>wpAny_execs_nil ⟨σ,H,I,h⟩
theorem cY (h1:PS X st t) (h2:PSs X rest u):PSs X (st::rest) (jF t u):=by
 intro pins s σ H D I h
 refine wpAny_execs_cons (thn (h1 pins s σ H { D with nx:=u D } I h) λf s1 q=>?_)
 cases f with
 | next =>
  obtain ⟨σ',H',I',q⟩:=q
  exact h2 pins s1 σ' H' D I' q
 | ret v=>exact q
 | brk=>exact q
 | cont=>exact q
theorem eh (h1:PS X st t):PSs X [st] t:=by
 intro pins s σ H D I h
 refine wpAny_execs_cons (thn (h1 pins s σ H D I h) λf s1 q=>?_)
 cases f with
 | next=>exact wpAny_execs_nil q
 | ret v=>exact q
 | brk=>exact q
 | cont=>exact q
theorem Inv.quiet {pins:List (Addr×Obj)} {σ:St} {H:Hp} {s:Shared} (I:Inv X pins σ H s):interactive X.env=false:=by simp [interactive,I.ok.kind]
noncomputable def pe (te:TE):TS:=λD σ H=>te σ H λ_ H1=>D.nx σ H1
theorem iT (he:PE X e te) (hs:swapsWith e none pos.line X.env=pure false:=by rfl):PS X (.Expr e pos) (pe te):=by
 intro pins s σ H D I h
 exact wpAny_Expr_any (thn (he pins s σ H _ I h) λv s1 ⟨x,H1,I1,r1,q1⟩=>⟨σ,H1,I1,q1⟩) I.quiet hs
noncomputable def ZaE (te:TE):TS:=λD σ H=>te σ H D.rt
theorem fy (he:PE X e te):PS X (.Return (some e) pos) (ZaE te):=by
 intro pins s σ H D I h
 exact wpAny_Return_some (thn (he pins s σ H _ I h) λv s1 ⟨x,H1,I1,r1,q1⟩=>⟨x,σ,H1,I1,r1,q1⟩)
noncomputable def pb (c:TT) (t u:TS):TS:=λD σ H=>c σ H λb H1=>if b=true then t D σ H1 else u D σ H1
theorem gX {c:Expr} {a b:List Stmt} {tc:TT} (hc:PT X c tc) (ha:PSs X a t) (hb:PSs X b u):PS X (.If c a b pos) (pb tc t u):=by
 intro pins s σ H D I h
 refine wpAny_If (thn (hc pins s σ H _ I h) λd s1 hz0=>?_)
 obtain ⟨H1,I1,q1⟩:=hz0
 cases d with
 | true=>exact ha pins s1 σ H1 D I1 q1
 | false=>exact hb pins s1 σ H1 D I1 q1
noncomputable def ZfO:TS:=λ_ _ _=>False
theorem Zg1 {sts:List Stmt}:PSs X sts ZfO:=λ_ _ _ _ _ _ h=>h.elim
end
noncomputable abbrev TG:=V->St->Hp->(St->Hp->Prop)->Prop
noncomputable abbrev gj:=List V->St->Hp->(St->Hp->Prop)->Prop
noncomputable def PG (X:Cx) (target:Expr) (t:TG):Prop :=
 ∀ (pins:List (Addr×Obj)) (s:Shared) (σ:St) (H:Hp) (v:V) (u:Value) (Q:St->Hp->Prop),Inv X pins σ H s->RelV v u->t v σ H Q ->
  wpAny (model X.prog X.w) X.A (assign target X.env u) (λ_ s'=>∃ σ' H',Inv X pins σ' H' s'/\Q σ' H') X.xe s
noncomputable def PGs (X:Cx) (ts:List Expr) (t:gj):Prop :=
 ∀ (pins:List (Addr×Obj)) (s:Shared) (σ:St) (H:Hp) (vs:List V) (us:List Value) (Q:St->Hp->Prop),Inv X pins σ H s->Vals vs us->t vs σ H Q ->
  wpAny (model X.prog X.w) X.A (assignInOrder ((assignEach ts X.env).map (·.2)) us) (λ_ s'=>∃ σ' H',Inv X pins σ' H' s'/\Q σ' H') X.xe s
noncomputable abbrev lh:=V->V->V->Hp->(Hp->Prop)->Prop
noncomputable def sW (X:Cx) (t:lh):Prop :=
 ∀ (pins:List (Addr×Obj)) (s:Shared) (σ:St) (H:Hp) (o i v:V) (ov iv u:Value) (Q:Hp->Prop),Inv X pins σ H s->RelV o ov->RelV i iv->RelV v u->t o i v H Q ->
  wpAny (model X.prog X.w) X.A (setItem ov iv u) (λ_ s'=>∃ H',Inv X pins σ H' s'/\Q H') X.xe s
noncomputable abbrev jx:=V->V->Hp->VK->Prop
noncomputable def oH (X:Cx) (op:Operator) (t:jx):Prop :=
 ∀ (pins:List (Addr×Obj)) (s:Shared) (σ:St) (H:Hp) (x y:V) (v u:Value) (Q:VK),Inv X pins σ H s->RelV x v->RelV y u->t x y H Q ->
  wpAny (model X.prog X.w) X.A (inplaceOp op v u) (EP X pins σ Q) X.xe s
section
variable {X:Cx} {pos:Pos}
noncomputable def eC (i:Nat):TG:=λv σ H Q=>Q (σ.set i (some v)) H
theorem aT {i:Nat} {x:Str} (hN:X.N.Nodup) (hi:X.N[i]?=some x) (hx:jA X.env.scope x) (hf:X.fn x=true\/X.env.scope.names.lookup x=some .local:=by first | exact .inl rfl | exact .inr rfl | assumption):PG X (.Name x pos) (eC i):=by
 intro pins s σ H v u Q I r h
 exact wpAny_assign_Name (iE I hN hi hx r (λs' I'=>⟨_,H,I',h⟩) hf)
noncomputable def Zjm:gj:=λvs σ H Q=>vs=[]/\Q σ H
noncomputable def Zjn (t:TG) (u:gj):gj:=λvs σ H Q=>∃ v r,vs=v::r/\t v σ H λσ' H'=>u r σ' H' Q
theorem Zhe:PGs X [] Zjm:=by
 intro pins s σ H vs us Q I r h
 obtain ⟨e,h⟩:=h
 subst e
 cases r
 exact assignInOrder_nil ⟨σ,H,I,h⟩
theorem Zhf {e:Expr} {es:List Expr} {t:TG} {u:gj} (h1:PG X e t) (h2:PGs X es u)
  (hs:(assignEach (e::es) X.env).map (·.2)=assign e X.env::(assignEach es X.env).map (·.2):=by rfl):PGs X (e::es) (Zjn t u):=by
 intro pins s σ H vs us Q I r h
 obtain ⟨v,vr,e1,h⟩:=h
 subst e1
 cases r with
 | cons r rr =>
  rw [hs]
  refine assignInOrder_cons (thn (h1 pins s σ H _ _ _ I r h) λ_ s1 hz0=>?_)
  obtain ⟨σ1,H1,I1,q1⟩:=hz0
  exact h2 pins s1 σ1 H1 _ _ Q I1 rr q1
noncomputable def Zjl (K:PySem.W.Frag) (n:Nat) (t:gj):TG:=λv σ H Q=>∃ a xs,v=.ref a/\SqT K H a xs/\xs.length=n/\t xs σ H Q
theorem Zhg {es:List Expr} {k:Nat} {t:gj} {n:Nat} (hc:X.calm=true) (h:PGs X es t)
  (hn:(assignEach es X.env).length=n:=by rfl) (hst:(assignEach es X.env).findIdx? (·.1)=none:=by rfl):PG X (.Tuple es k pos) (Zjl X.K n t):=by
 intro pins s σ H v u Q I r hw
 obtain ⟨a,xs,e1,hq,hl,hw⟩:=hw
 subst e1
 cases r
 obtain ⟨its,rv,ht,hz⟩:=I.tuple hq
 refine assign_Tuple_tuple (I.ok.hd hc) ht (by simp [hn,<- hl,rv.length]) hst λh' hx=>?_
 have I1:Inv X pins σ H { s with heap:=h' }:=I.kept (t':=s.toks) λb o e=>hx b o (Nat.ne_of_lt (Heap.lt_size e)) e
 exact h pins _ σ H xs _ Q I1 (by simpa using rv) hw
noncomputable def Zda (to ti:TE) (t:lh):TG:=λv σ H Q=>to σ H λo H1=>ti σ H1 λi H2=>t o i v H2 λH3=>Q σ H3
theorem kc {o i:Expr} {to ti:TE} {t:lh} (ho:PE X o to) (hi:PE X i ti) (hs:sW X t)
  (ha:∀ v,assign (.Subscript o i pos) X.env v=(do
   let ov <- holding [v] (eval o X.env)
   let iv <- holding [v,ov] (eval i X.env)
   standAt pos
   holding [v,ov,iv] (setItem ov iv v)
   release [v,ov,iv] []):=by intro _; rfl):PG X (.Subscript o i pos) (Zda to ti t):=by
 intro pins s σ H v u Q I r h
 rw [ha]
 refine wpAny_bind (wpAny_holding (thn (ho pins s σ H _ I h) λov s1 hz0=>?_))
 obtain ⟨x,H1,I1,r1,q1⟩:=hz0
 refine wpAny_bind (wpAny_holding (thn (hi pins s1 σ H1 _ I1 q1) λiv s2 hz0=>?_))
 obtain ⟨y,H2,I2,r2,q2⟩:=hz0
 refine wpAny_bind (wpAny_standAt (wpAny_bind (wpAny_holding (thn (hs pins s2 σ H2 x y v ov iv u _ I2 r1 r2 r q2) λ_ s3 hz0=>?_))))
 obtain ⟨H3,I3,q3⟩:=hz0
 exact wpAny_release ⟨σ,H3,I3,q3⟩
noncomputable def dM (te:TE) (g:TG):TS:=λD σ H=>te σ H λx H1=>g x σ H1 D.nx
theorem fA {tg e:Expr} {te:TE} {g:TG} (he:PE X e te) (hg:PG X tg g) (hs:swapsWithSole [tg] e pos.line X.env=pure false:=by rfl) (hw:swappedStores [tg] e X.env=pure none:=by rfl)
  (h1:(assignEach [tg] X.env).map (·.2)=[assign tg X.env]:=by rfl):PS X (.Assign [tg] e pos) (dM te g):=by
 intro pins s σ H D I h
 refine wpAny_Assign_stores (thn (he pins s σ H _ I h) λv s1 hz0=>?_) hs hw
 obtain ⟨x,H1,I1,r1,q1⟩:=hz0
 rw [h1]
 exact thn (hg pins s1 σ H1 x v _ I1 r1 q1) λ_ s2 q=>q
theorem aM {i:Nat} {x:Str} {e:Expr} {te:TE} {pos':Pos} (hN:X.N.Nodup) (hi:X.N[i]?=some x) (hx:jA X.env.scope x) (he:PE X e te) (hs:swapsWith e (some (.Name x pos')) pos.line X.env=pure false:=by rfl) (hf:X.fn x=true\/X.env.scope.names.lookup x=some .local:=by first | exact .inl rfl | exact .inr rfl | assumption) :
  PS X (.Assign [.Name x pos'] e pos) (dM te (eC i)):=by
 intro pins s σ H D I h
 refine wpAny_Assign_Name (thn (he pins s σ H _ I h) λv s1 hz0=>?_) hs
 obtain ⟨y,H1,I1,r1,q1⟩:=hz0
 exact iE I1 hN hi hx r1 (λs2 I2=>⟨_,H1,I2,q1⟩) hf
noncomputable def ZaG (i j:Nat) (ta:TA):TS:=λD σ H=>ta σ H λvs H1=>∃ v w,vs=[v,w]/\D.nx ((σ.set i (some v)).set j (some w)) H1
theorem mJ {i j:Nat} {x y:Str} {a b:Expr} {ta:TA} {px py pt:Pos} {kt k2 pt2} (hc:X.calm=true) (hN:X.N.Nodup) (hi:X.N[i]?=some x) (hj:X.N[j]?=some y) (hij:i≠j)
  (hx:X.env.scope.names.lookup x=some .local) (hy:X.env.scope.names.lookup y=some .local) (ha:PA X [a,b] ta)
  (hw:swappedStores [.Tuple [.Name x px,.Name y py] kt pt] (.Tuple [a,b] k2 pt2) X.env=pure (some [x,y]))
  (hs:swapsWithSole [.Tuple [.Name x px,.Name y py] kt pt] (.Tuple [a,b] k2 pt2) pos.line X.env=pure false:=by rfl) :
  PS X (.Assign [.Tuple [.Name x px,.Name y py] kt pt] (.Tuple [a,b] k2 pt2) pos) (ZaG i j ta):=by
 intro pins s σ H D I h
 rw [exec_Assign_arm]
 refine wpAny_bind (wpAny_standAt ?_)
 rw [hs]
 refine wpAny_bind (wpAny_pure ?_)
 rw [if_neg (by decide)]
 refine wpAny_bind (Tuple_ (thn (ha _ pins s σ H _ I h) λus s1 hz0=>?_))
 obtain ⟨vs,H1,I1,r1,q1⟩:=hz0
 obtain ⟨v,w,e1,q1⟩:=q1
 subst e1
 obtain ⟨u1,u2,rfl,rv,rw'⟩:∃ u1 u2,us=[u1,u2]/\RelV v u1/\RelV w u2:=by
  cases r1 with
  | cons p q =>
   cases q with
   | cons p' q' =>
    cases q'
    exact ⟨_,_,rfl,p,p'⟩
 refine wpAny_newObj_type ?_ (by show 2<=sizeLine; decide)
 have I2:Inv X pins σ H1 { s1 with heap:=s1.heap.push { cls:=.type "tuple",data:=.seq [u1,u2].toArray } }:=I1.kept (t':=s1.toks) λb o e=>Heap.get?_push_of_some _ e
 rw [hw]
 refine wpAny_bind (wpAny_pure ?_)
 show wpAny (model X.prog X.w) X.A (do rule "assign.swapped-stores"; let items <- unpackItems (.ref s1.heap.objs.size) 2 none; assignInOrder [λv=>bindName X.env y v,λv=>bindName X.env x v] items.reverse; pure Flow.next) _ _ _
 refine wpAny_bind (wpAny_rule (wpAny_bind (unpackItems_tuple (items:=#[u1,u2]) (I.ok.hd hc) (IsTup.new s1.heap _) λh' hx'=>?_)))
 have I3:=I2.kept (h':=h') (t':=s1.toks) λb o e=>hx' b o (Nat.ne_of_lt (Heap.lt_size e)) e
 show wpAny _ _ (assignInOrder [λv=>bindName X.env y v,λv=>bindName X.env x v] [u2,u1] >>= λ_=>pure Flow.next) _ _ _
 refine wpAny_bind (assignInOrder_cons (wpAny_bindName (iE I3 hN hj (.inl hy) rw' (λs2 I4=>?_) (.inr hy))))
 refine assignInOrder_cons (wpAny_bindName (iE I4 hN hi (.inl hx) rv (λs3 I5=>assignInOrder_nil (wpAny_pure ?_)) (.inr hx)))
 rw [List.set_comm _ _ (Ne.symm hij)] at I5
 exact ⟨_,H1,I5,q1⟩
noncomputable def ZaO (i:Nat) (te:TE) (ti:jx):TS:=λD σ H=>∃ x,σ[i]?=some (some x)/\te σ H λy H1=>ti x y H1 λz H2=>D.nx (σ.set i (some z)) H2
theorem Zb2 {i:Nat} {x:Str} {e:Expr} {te:TE} {op:Operator} {ti:jx} {pos':Pos} (hN:X.N.Nodup) (hi:X.N[i]?=some x) (hx:jA X.env.scope x) (he:PE X e te) (ho:oH X op ti) (hf:X.fn x=true\/X.env.scope.names.lookup x=some .local:=by first | exact .inl rfl | exact .inr rfl | assumption) :
  PS X (.AugAssign (.Name x pos') op e pos) (ZaO i te ti):=by
 intro pins s σ H D I h
 obtain ⟨v,e1,h⟩:=h
 obtain ⟨m,hn,hl⟩:=I.loc
 have vis:oD X.env.scope x:=by rcases hx with k | k; exact .inl k; exact .inr (.inl k)
 obtain ⟨u,r,l⟩:=hl i x v hi e1 vis
 refine wpAny_AugAssign_Name ?_
 have go:wpAny (model X.prog X.w) X.A (eval e X.env) (λw s₂=>wpAny (model X.prog X.w) X.A (inplaceOp op u w) (λr s₃=>wpAny (model X.prog X.w) X.A (storeName X.env x r) (λ_=>SP X pins D .next) X.xe s₃) X.xe s₂) X.xe s:=by
  refine thn (he pins s σ H _ I h) λw s1 hz0=>?_
  obtain ⟨y,H1,I1,r1,q1⟩:=hz0
  refine thn (ho pins s1 σ H1 v y u w _ I1 r r1 q1) λz s2 hz0=>?_
  obtain ⟨zv,H2,I2,r2,q2⟩:=hz0
  exact iE I2 hN hi hx r2 (λs3 I3=>⟨_,H2,I3,q2⟩) hf
 rcases l with ⟨hk,hm⟩ | ⟨hk,c,hc,hcell⟩
 ·exact wpAny_loadName_local I.ok.kind hk hn hm go
 ·rcases hk with hk | hk
  ·exact wpAny_loadName_cell I.ok.kind hk hc hcell go
  ·rcases hx with k | k
   ·have:X.env.scope.names.lookup x=some .free:=hk
    rw [k] at this; cases this
   ·have:X.env.scope.names.lookup x=some .free:=hk
    rw [k] at this; cases this
noncomputable def ZaN (to ti te:TE) (tget:V->V->Hp->VK->Prop) (tip:jx) (tset:lh):TS:=λD σ H=>to σ H λo H1=>ti σ H1 λi H2=>tget o i H2 λx H3=>te σ H3 λy H4=>tip x y H4 λz H5=>tset o i z H5 λH6=>D.nx σ H6
noncomputable def Ze0 (X:Cx) (t:V->V->Hp->VK->Prop):Prop :=
 ∀ (pins:List (Addr×Obj)) (s:Shared) (σ:St) (H:Hp) (o i:V) (ov iv:Value) (Q:VK),Inv X pins σ H s->RelV o ov->RelV i iv->t o i H Q ->
  wpAny (model X.prog X.w) X.A (getItem ov iv) (EP X pins σ Q) X.xe s
theorem Zg9 {o i e:Expr} {to ti te:TE} {tget:V->V->Hp->VK->Prop} {tip:jx} {tset:lh} {op:Operator} {tpos:Pos} (ho:PE X o to) (hi:PE X i ti) (hg:Ze0 X tget) (he:PE X e te) (hp:oH X op tip) (hs:sW X tset)
  (ha:∀ ov iv new,augStore i ov iv new=(do holding [new,ov,iv] (setItem ov iv new); release [new,ov,iv] []; pure .next):=by intros; rfl):PS X (.AugAssign (.Subscript o i tpos) op e pos) (ZaN to ti te tget tip tset):=by
 intro pins s σ H D I h
 refine wpAny_AugAssign_SubscriptAny (thn (ho pins s σ H _ I h) λov s1 hz0=>?_) ha
 obtain ⟨x1,H1,I1,r1,q1⟩:=hz0
 refine thn (hi pins s1 σ H1 _ I1 q1) λiv s2 hz0=>?_
 obtain ⟨x2,H2,I2,r2,q2⟩:=hz0
 refine thn (hg pins s2 σ H2 x1 x2 ov iv _ I2 r1 r2 q2) λold s3 hz0=>?_
 obtain ⟨x3,H3,I3,r3,q3⟩:=hz0
 refine thn (he pins s3 σ H3 _ I3 q3) λv s4 hz0=>?_
 obtain ⟨x4,H4,I4,r4,q4⟩:=hz0
 refine thn (hp pins s4 σ H4 x3 x4 old v _ I4 r3 r4 q4) λnew s5 hz0=>?_
 obtain ⟨x5,H5,I5,r5,q5⟩:=hz0
 exact thn (hs pins s5 σ H5 x1 x2 x5 ov iv new _ I5 r1 r2 r5 q5) λ_ s6 hz0=>by
  obtain ⟨H6,I6,q6⟩:=hz0
  exact ⟨σ,H6,I6,q6⟩
noncomputable def ipI (f:Int->Int->Int):jx:=λx y H Q=>∃ i j,x=.int i/\y=.int j/\Q (.int (f i j)) H
theorem ZiW:oH X .Add (ipI λi j=>i+j):=by
 intro pins s σ H x y v u Q I r1 r2 h
 obtain ⟨i,j,e1,e2,q⟩:=h
 subst e1; subst e2
 obtain ⟨t,rfl⟩:=r1
 obtain ⟨t',rfl⟩:=r2
 exact iadd_int ⟨.int _,H,I.tok _,⟨_,rfl⟩,q⟩
end
section
variable {X:Cx} {pos:Pos}
noncomputable def ZfB (c:TT) (tb:TS):TS:=λD σ H=>∃ W:Nat->St->Hp->Prop,(∃ m,W m σ H)/\∀ m σ H,W m σ H ->
 c σ H λb H1=>if b=true then ∃ N:St->Hp->Prop,(∀ σ' H',N σ' H'->∃ m',m' < m/\W m' σ' H')/\tb { D with nx:=N,ct:=N,bk:=D.nx } σ H1 else D.nx σ H1
theorem Zg3 {c:Expr} {body:List Stmt} {tc:TT} {tb:TS} (hp:PassesOwn (model X.prog X.w) X.A X.env X.xe) (hc:PT X c tc) (hb:PSs X body tb):PS X (.While c body [] pos) (ZfB tc tb):=by
 intro pins s σ H D I h
 obtain ⟨W,⟨m0,w0⟩,turn⟩:=h
 refine wpAny_While (codeAny_whileLoop (λn s'=>∃ σ' H',Inv X pins σ' H' s'/\W n σ' H') ?_ m0 ⟨σ,H,I,w0⟩)
 rintro n s1 ⟨σ1,H1,I1,w1⟩
 refine wpAny_passesOwn hp (thn (hc pins s1 σ1 H1 _ I1 (turn n σ1 H1 w1)) λb s2 hz0=>?_)
 obtain ⟨H2,I2,q2⟩:=hz0
 cases b with
 | true =>
  obtain ⟨N,hN,q2⟩:=q2
  rw [if_pos rfl]
  refine wpAny_passesOwn hp (thn (hb pins s2 σ1 H2 _ I2 q2) λf s3 q3=>?_)
  cases f with
  | next =>
   obtain ⟨σ3,H3,I3,n3⟩:=q3
   obtain ⟨m',hm,w3⟩:=hN σ3 H3 n3
   exact ⟨m',hm,σ3,H3,I3,w3⟩
  | cont =>
   obtain ⟨σ3,H3,I3,n3⟩:=q3
   obtain ⟨m',hm,w3⟩:=hN σ3 H3 n3
   exact ⟨m',hm,σ3,H3,I3,w3⟩
  | brk=>exact q3
  | ret v=>exact q3
 | false =>
  rw [if_neg Bool.false_ne_true]
  exact wpAny_execs_nil ⟨σ1,H2,I2,q2⟩
end
structure It where
 go:Nat->Hp->Prop
 yld:Nat->Hp->V->Hp->Prop
 stop:Nat->Hp->Prop
noncomputable def fc (X:Cx) (pins:List (Addr×Obj)) (H:Hp) (b:Addr):Prop :=
 H b=none/\b≠X.env.locals/\b ∉ X.fs/\(b∈X.ex\/X.s₀.heap.objs.size<=b)/\(∀ x c,X.env.cells.lookup x=some c->c≠b)/\∀ p∈X.pn++pins,p.1≠b
theorem Inv.fpOk {X:Cx} {pins:List (Addr×Obj)} {σ:St} {H H':Hp} {s:Shared} {b:Addr} (I:Inv X pins σ H s) (hb:s.heap.objs.size<=b) (hn:H' b=none):fc X pins H' b:=by
 refine ⟨hn,Nat.ne_of_gt (Nat.lt_of_lt_of_le I.lt hb),I.nofs hb,.inr (Nat.le_trans I.sz hb),λx c e z=>?_,λp hp z=>?_⟩
 ·obtain ⟨v,q⟩:=I.cell x c e
  exact absurd (Nat.lt_of_lt_of_le q.lt (by rw [z]; exact hb)) (Nat.lt_irrefl _)
 ·exact absurd (Nat.lt_of_lt_of_le (Heap.lt_size (I.pin p hp).1) (by rw [z]; exact hb)) (Nat.lt_irrefl _)
structure Turn (P:Program) (w:World) (K:PySem.W.Frag) (tg:Expr) (J:It) (fp:List Addr) (it:Addr) (tn:Nat->Heap->Prop):Prop where
 mem:it∈fp
 obj:∀ i h,tn i h->∀ b∈fp,∃ o,h.get? b=some o/\∀ v,o.data≠.cell v
 keep:∀ i h h',tn i h->(∀ b∈fp,∀ o,h.get? b=some o->h'.get? b=some o)->tn i h'
 item:∀ (X:Cx),X.prog=P->X.w=w->X.K=K->X.calm=true->∀ (i:Nat) (pins:List (Addr×Obj)) (s:Shared) (σ:St) (H:Hp) (E:Value->Shared->Prop),Inv X pins σ H s->(∀ b∈fp,fc X pins H b)->tn i s.heap->J.go i H ->
  wpAny (model P w) X.A (pyNext (.ref it)) (λr s1=>∃ u,r=some u /\
   wpAny (model P w) X.A (letOwnedTupleGo tg (.ref it) u) (λ_ s2=>∃ x H',Inv X pins σ H' s2/\RelV x u/\J.yld i H x H'/\tn (i+1) s2.heap/\∀ b∈fp,H' b=none) E s1) E s
 done:∀ (X:Cx),X.prog=P->X.w=w->X.K=K->X.calm=true->∀ (i:Nat) (pins:List (Addr×Obj)) (s:Shared) (σ:St) (H:Hp) (E:Value->Shared->Prop),Inv X pins σ H s->(∀ b∈fp,fc X pins H b)->tn i s.heap->J.stop i H ->
  wpAny (model P w) X.A (pyNext (.ref it)) (λr s1=>r=none/\Inv X pins σ H s1) E s
 self:∀ (A:Around) (i:Nat) (s:Shared) (Q:Value->Shared->Prop) (E:Value->Shared->Prop),tn i s.heap->Q (.ref it) s->wpAny (model P w) A (pyIter (.ref it)) Q E s
noncomputable abbrev TI:=St->Hp->(It->Hp->Prop)->Prop
noncomputable def li (X:Cx) (pins:List (Addr×Obj)) (σ:St) (tg:Expr) (R:It->Hp->Prop) (itv:Value) (s2:Shared):Prop :=
 ∃ (it:Addr) (fp:List Addr) (tn:Nat->Heap->Prop) (J:It) (H':Hp),itv=.ref it/\Inv X pins σ H' s2/\Turn X.prog X.w X.K tg J fp it tn/\tn 0 s2.heap/\(∀ b∈fp,fc X pins H' b)/\R J H'
noncomputable def PI (X:Cx) (tg iter:Expr) (wi:TI):Prop :=
 ∀ (pins:List (Addr×Obj)) (s:Shared) (σ:St) (H:Hp) (R:It->Hp->Prop),Inv X pins σ H s->wi σ H R ->
  wpAny (model X.prog X.w) X.A (eval iter X.env) (λv s1=>wpAny (model X.prog X.w) X.A (pyIter v) (li X pins σ tg R) X.xe s1) X.xe s
theorem kF {M:Model} {A:Around} {E:Value->Shared->Prop} {s:Shared} {tg:Expr} {it:Addr} {u:Value} {o:Obj} {n:String} {vs:Array Value} {Q:Unit->Shared->Prop} (ho:s.heap.get? it=some o) (hc:o.cls=.type n) (hd:o.data=.fields vs)
  (hn:["enumerate","zip","dict_itemiterator","dict_reverseitemiterator","odict_iterator","itertools.zip_longest","itertools.pairwise"].contains n=false) (hQ:Q () s):wpAny M A (letOwnedTupleGo tg (.ref it) u) Q E s:=by
 unfold letOwnedTupleGo
 cases tg <;> first
  | exact wpAny_pure hQ
  | (cases u <;> first
    | exact wpAny_pure hQ
    | (refine wpAny_bind (wpAny_load ho ?_)
       rw [hc,hd]
       show wpAny M A (if (["enumerate","zip","dict_itemiterator","dict_reverseitemiterator","odict_iterator","itertools.zip_longest","itertools.pairwise"].contains n && vs[0]? == some (rawInt _))=true then _ else _) Q E s
       rw [if_neg (by intro h; rw [hn,Bool.false_and] at h; cases h)]
       exact wpAny_pure hQ))
noncomputable def sY (K:PySem.W.Frag) (a:Addr):It :=
 ⟨λi H=>∃ xs x,SqL K H a xs/\xs[i]?=some x,λi H x H'=>H'=H/\∀ xs,SqL K H a xs->xs[i]?=some x,λi H=>∃ xs,SqL K H a xs/\xs.length<=i⟩
noncomputable def sX (K:PySem.W.Frag) (a:Addr):It :=
 ⟨λi H=>∃ xs x,SqT K H a xs/\xs[i]?=some x,λi H x H'=>H'=H/\∀ xs,SqT K H a xs->xs[i]?=some x,λi H=>∃ xs,SqT K H a xs/\xs.length<=i⟩
noncomputable def ir (lo:Int) (n:Nat):It:=⟨λi _=>i < n,λi H x H'=>H'=H/\x=.int (lo+i),λi _=>n<=i⟩
theorem Zfx {P:Program} {w:World} {K:PySem.W.Frag} {tg:Expr} (a it:Addr):Turn P w K tg (sY K a) [it] it (λi h=>h.IsListIter it a i) where
 mem:=by simp
 obj:=λi h st b hb=>by
  have e:b=it:=by simpa using hb
  subst e
  obtain ⟨o,e,c,d⟩:=st
  exact ⟨o,e,λv z=>by rw [d] at z; cases z⟩
 keep:=λi h h' st k=>st.at λo e=>k it (by simp) o e
 item:=by
  intro X hP hw hK hc i pins s σ H E I hf st hg
  subst hP hw hK
  obtain ⟨xs,x,hq,hx⟩:=hg
  obtain ⟨its,rv,p,hz⟩:=I.list hq
  obtain ⟨u,hu,ru⟩:=rv.get hx
  obtain ⟨f0,f1,f2,f3,f4,f5⟩:=hf it (by simp)
  refine wpAny_pyNext_list_item st p.isList (x:=u) (by simpa using hu) λh' st' sb=>?_
  have I1:Inv X pins σ H { s with heap:=h' }:=I.turned (t':=s.toks) (λb o hb e=>(sb.2 b hb).trans e) f0 f1 f3 f4 f5
  obtain ⟨o,e,c,d⟩:=id st'
  exact ⟨u,rfl,kF (s:={ s with heap:=h' }) e c d (by decide) ⟨x,H,I1,ru,⟨rfl,λys hy=>by rw [I.list_inj hy hq]; exact hx⟩,st',λb hb=>(hf b hb).1⟩⟩
 done:=by
  intro X hP hw hK hc i pins s σ H E I hf st hg
  subst hP hw hK
  obtain ⟨xs,hq,hx⟩:=hg
  obtain ⟨its,rv,p,hz⟩:=I.list hq
  obtain ⟨f0,f1,f2,f3,f4,f5⟩:=hf it (by simp)
  have hl:=rv.length
  exact wpAny_pyNext_list_end (I.ok.hd hc) st p.isList (by simp; omega) λh' eb=>⟨rfl,I.turned (t':=s.toks) (λb o hb e=>eb b o hb e) f0 f1 f3 f4 f5⟩
 self:=λ_ _ _ _ _ st h=>wpAny_pyIter_listiter st h
theorem Zfu {P:Program} {w:World} {K:PySem.W.Frag} {tg:Expr} (a it:Addr):Turn P w K tg (sX K a) [it] it (λi h=>h.IsTupleIter it a i) where
 mem:=by simp
 obj:=λi h st b hb=>by
  have e:b=it:=by simpa using hb
  subst e
  obtain ⟨o,e,c,d⟩:=st
  exact ⟨o,e,λv z=>by rw [d] at z; cases z⟩
 keep:=λi h h' st k=>st.at λo e=>k it (by simp) o e
 item:=by
  intro X hP hw hK hc i pins s σ H E I hf st hg
  subst hP hw hK
  obtain ⟨xs,x,hq,hx⟩:=hg
  obtain ⟨its,rv,p,hz⟩:=I.tuple hq
  obtain ⟨u,hu,ru⟩:=rv.get hx
  obtain ⟨f0,f1,f2,f3,f4,f5⟩:=hf it (by simp)
  refine wpAny_pyNext_tuple_item st (show s.heap.IsTuple a its.toArray from p) (x:=u) (by simpa using hu) λh' st' sb=>?_
  have I1:Inv X pins σ H { s with heap:=h' }:=I.turned (t':=s.toks) (λb o hb e=>(sb.2 b hb).trans e) f0 f1 f3 f4 f5
  obtain ⟨o,e,c,d⟩:=id st'
  exact ⟨u,rfl,kF (s:={ s with heap:=h' }) e c d (by decide) ⟨x,H,I1,ru,⟨rfl,λys hy=>by rw [I.tuple_inj hy hq]; exact hx⟩,st',λb hb=>(hf b hb).1⟩⟩
 done:=by
  intro X hP hw hK hc i pins s σ H E I hf st hg
  subst hP hw hK
  obtain ⟨xs,hq,hx⟩:=hg
  obtain ⟨its,rv,p,hz⟩:=I.tuple hq
  obtain ⟨f0,f1,f2,f3,f4,f5⟩:=hf it (by simp)
  have hl:=rv.length
  exact wpAny_pyNext_tuple_end (I.ok.hd hc) st (show s.heap.IsTuple a its.toArray from p) (by simp; omega) λh' eb=>⟨rfl,I.turned (t':=s.toks) (λb o hb e=>eb b o hb e) f0 f1 f3 f4 f5⟩
 self:=λ_ _ _ _ _ st h=>wpAny_pyIter_tupleiter st h
theorem Zfw {P:Program} {w:World} {K:PySem.W.Frag} {tg:Expr} (it:Addr) (lo:Int) (n:Nat):Turn P w K tg (ir lo n) [it] it (λi h=>IsRangeIter h it (lo+(i:Nat) * 1) ((n:Int) - (i:Nat)) 1) where
 mem:=by simp
 obj:=λi h st b hb=>by
  have e:b=it:=by simpa using hb
  subst e
  exact ⟨_,st,λv z=>by
   have z':Data.fields _=Data.cell v:=z
   cases z'⟩
 keep:=λi h h' st k=>k it (by simp) _ st
 item:=by
  intro X hP hw hK hc i pins s σ H E I hf st hg
  subst hP hw hK
  obtain ⟨f0,f1,f2,f3,f4,f5⟩:=hf it (by simp)
  have W:=Walks.range (prog:=X.prog) (w:=X.w) (I.ok.hd hc) it lo 1 n
  refine W.item i s _ _ hg st λv h' tk hv st' kk=>?_
  obtain ⟨t,rfl⟩:=hv
  have I1:Inv X pins σ H { s with heap:=h',toks:=tk }:=I.turned (λb o hb e=>kk b o (by simpa using hb) e) f0 f1 f3 f4 f5
  refine ⟨_,rfl,kF (s:={ s with heap:=h',toks:=tk }) (n:="range_iterator") st' rfl rfl (by decide) ⟨.int (lo+i),H,I1,⟨t,?_⟩,⟨rfl,rfl⟩,st',λb hb=>(hf b hb).1⟩⟩
  rw [Int.mul_one]
 done:=by
  intro X hP hw hK hc i pins s σ H E I hf st hg
  subst hP hw hK
  obtain ⟨f0,f1,f2,f3,f4,f5⟩:=hf it (by simp)
  exact wpAny_pyNext_range_end (I.ok.hd hc) st (by have:n<=i:=hg; omega) λh' eb=>⟨rfl,I.turned (t':=s.toks) (λb o hb e=>eb b o hb e) f0 f1 f3 f4 f5⟩
 self:=λ_ _ _ _ _ st h=>wpAny_pyIter_rangeiter st h
section
variable {X:Cx} {tg:Expr}
theorem Zbu {pins:List (Addr×Obj)} {σ:St} {H:Hp} {s:Shared} {R:It->Hp->Prop} {E:Value->Shared->Prop} {lo hi:Int} {t u v:Tok} {tk:Nat} (I:Inv X pins σ H s) (h1:-(2 ^ 62)<=lo) (h2:lo < 2 ^ 62) (h3:-(2 ^ 62)<=hi) (h4:hi < 2 ^ 62)
  (q:R (ir lo (hi - lo).toNat) H):wpAny (model X.prog X.w) X.A (pyIter (.ref s.heap.objs.size)) (li X pins σ tg R) E { s with heap:=s.heap.push { cls:=.type "range",data:=.fields #[.int lo t,.int hi u,.int 1 v] },toks:=tk }:=by
 refine wpAny_pyIter_range (IsRange.new ..) (small_one h1 h2 h3 h4) ?_
 have I1:Inv X pins σ H { s with heap:=s.heap.push { cls:=.type "range",data:=.fields #[.int lo t,.int hi u,.int 1 v] },toks:=tk }:=I.kept λb o e=>Heap.get?_push_of_some _ e
 refine ⟨(s.heap.push { cls:=.type "range",data:=.fields #[.int lo t,.int hi u,.int 1 v] }).objs.size,[(s.heap.push { cls:=.type "range",data:=.fields #[.int lo t,.int hi u,.int 1 v] }).objs.size],_,_,H,rfl,
  I1.kept (t':=tk) λb o e=>Heap.get?_push_of_some _ e,Zfw _ lo (hi - lo).toNat,?_,λb hb=>?_,q⟩
 ·have e1:lo+((0:Nat):Int) * 1=lo:=by simp
  have e2:(((hi - lo).toNat:Nat):Int) - ((0:Nat):Int)=Builtin.Range.rangeSize lo hi 1:=by rw [rangeSize_one]; split <;> omega
  show IsRangeIter _ _ (lo+((0:Nat):Int) * 1) ((((hi - lo).toNat:Nat):Int) - ((0:Nat):Int)) 1
  rw [e1,e2]
  exact Heap.get?_push_size _ rfl
 ·have e:b=(s.heap.push { cls:=.type "range",data:=.fields #[.int lo t,.int hi u,.int 1 v] }).objs.size:=by simpa using hb
  subst e
  exact I1.fpOk (Nat.le_refl _) (I1.hok.fresh (Nat.le_refl _))
noncomputable def Zc3 (ta:TA):TI:=λσ H R=>ta σ H λvs H1=>∃ j:Int,vs=[.int j]/\-(2 ^ 62)<=j/\j < 2 ^ 62/\R (ir 0 j.toNat) H1
noncomputable def Zc2 (ta:TA):TI:=λσ H R=>ta σ H λvs H1=>∃ i j:Int,vs=[.int i,.int j]/\(-(2 ^ 62)<=i/\i < 2 ^ 62/\-(2 ^ 62)<=j/\j < 2 ^ 62)/\R (ir i (j - i).toNat) H1
theorem g6 {a:Expr} {ta:TA} {p pos:Pos} (hg:Gl X "range") (hm:X.mg "range"=none) (ha:PA X [a] ta) (hs:starEach [a] X.env=[(false,eval a X.env)]:=by rfl):PI X tg (.Call (.Name "range" p) [a] [] pos) (Zc3 ta):=by
 intro pins s σ H R I h
 refine Call_ (hX I hg hm boot_range (PyProof.Rows.callWith_type1 (thn (ha pos pins s σ H _ I h) λus s1 hz0=>?_) hs rfl))
 obtain ⟨vs,H1,I1,r1,q1⟩:=hz0
 obtain ⟨j,e,q1,q2,q⟩:=q1
 subst e
 cases r1 with
 | cons r rr =>
  cases rr
  obtain ⟨t,rfl⟩:=r
  exact call_range_1 (Zbu I1 (by omega) (by omega) q1 q2 (by simpa using q))
theorem qb {a b:Expr} {ta:TA} {p pos:Pos} (hg:Gl X "range") (hm:X.mg "range"=none) (ha:PA X [a,b] ta) (hs:starEach [a,b] X.env=[(false,eval a X.env),(false,eval b X.env)]:=by rfl) (hs2:starEach [b] X.env=[(false,eval b X.env)]:=by rfl) :
  PI X tg (.Call (.Name "range" p) [a,b] [] pos) (Zc2 ta):=by
 intro pins s σ H R I h
 refine Call_ (hX I hg hm boot_range (PyProof.Rows.callWith_type1 (thn (ha pos pins s σ H _ I h) λus s1 hz0=>?_) (by rw [hs,hs2]) (by rw [hs2]; rfl)))
 obtain ⟨vs,H1,I1,r1,q1⟩:=hz0
 obtain ⟨i,j,e,⟨q1,q2,q3,q4⟩,q⟩:=q1
 subst e
 cases r1 with
 | cons r rr =>
  cases rr with
  | cons r' rr =>
   cases rr
   obtain ⟨t,rfl⟩:=r
   obtain ⟨t',rfl⟩:=r'
   exact call_range_2 (Zbu I1 q1 q2 q3 q4 q)
noncomputable def ZfT (wi:TI) (g:TG) (tb:TS):TS:=λD σ H=>wi σ H λJ H1=>∃ W:Nat->Nat->St->Hp->Prop,(∃ m,W 0 m σ H1)/\∀ i m σ H,W i m σ H ->
 (J.stop i H/\D.nx σ H)\/(J.go i H/\∃ N:St->Hp->Prop,(∀ σ' H',N σ' H'->∃ m',m' < m/\W (i+1) m' σ' H')/\∀ x H',J.yld i H x H'->g x σ H' λσ2 H2=>tb { D with nx:=N,ct:=N,bk:=D.nx } σ2 H2)
noncomputable def mO (fp:List Addr) (h:Heap):List (Addr×Obj):=fp.filterMap λb=>(h.get? b).map λo=>(b,o)
theorem fG {fp:List Addr} {h:Heap} {b:Addr} {o:Obj} (hb:b∈fp) (e:h.get? b=some o):(b,o)∈mO fp h:=List.mem_filterMap.mpr ⟨b,hb,by rw [e]; rfl⟩
theorem ZhR {fp:List Addr} {h:Heap} {p:Addr×Obj} (hp:p∈mO fp h):p.1∈fp/\h.get? p.1=some p.2:=by
 obtain ⟨b,hb,e⟩:=List.mem_filterMap.mp hp
 cases q:h.get? b with
 | none=>rw [q] at e; cases e
 | some o =>
  rw [q] at e
  have e':(b,o)=p:=Option.some.inj e
  subst e'
  exact ⟨hb,q⟩
theorem Inv.pinned {pins:List (Addr×Obj)} {σ:St} {H:Hp} {s:Shared} {fp:List Addr} (I:Inv X pins σ H s) (hf:∀ b∈fp,fc X pins H b) (ho:∀ b∈fp,∃ o,s.heap.get? b=some o/\∀ v,o.data≠.cell v):Inv X (pins++mO fp s.heap) σ H s :=
 I.pins_of λp hp=>(List.mem_append.mp hp).elim (λz=>I.pin p (List.mem_append_right _ z)) λz=>by
  obtain ⟨hb,e⟩:=ZhR z
  obtain ⟨f0,f1,f2,_⟩:=hf p.1 hb
  obtain ⟨o,e',d⟩:=ho p.1 hb
  rw [e] at e'; cases e'
  exact ⟨e,f0,f1,f2,d⟩
theorem Inv.unpinned {pins pl:List (Addr×Obj)} {σ:St} {H:Hp} {s:Shared} (I:Inv X (pins++pl) σ H s):Inv X pins σ H s:=I.pins_of λp hp=>I.pin p (List.mem_append_right _ (List.mem_append_left _ hp))
theorem Zg8 {iter:Expr} {body:List Stmt} {wi:TI} {g:TG} {tb:TS} {pos:Pos} (hp:PassesOwn (model X.prog X.w) X.A X.env X.xe) (hc:X.calm=true) (hi:PI X tg iter wi) (hg:PG X tg g) (hb:PSs X body tb)
  (hs:∀ x,foldedSetIterable iter X.env x=pure x:=by intro _; rfl):PS X (.For tg iter body [] pos) (ZfT wi g tb):=by
 intro pins s σ H D I h
 refine wpAny_For (thn (hi pins s σ H _ I h) λv s1 h1=>thn h1 λitv s2 h2=>?_) hs
 obtain ⟨it,fp,tn,J,H2,e,I2,T,st2,f2,W,⟨m0,w0⟩,turn⟩:=h2
 subst e
 -- what stays true of the iterator's objects through the loop
 have stat:∀ {H':Hp},(∀ b∈fp,H' b=none)->∀ b∈fp,fc X pins H' b:=λhn b hb=>⟨hn b hb,(f2 b hb).2⟩
 refine codeAny_forLoop_any (λn s'=>∃ i σ' H',Inv X pins σ' H' s'/\tn i s'.heap/\(∀ b∈fp,H' b=none)/\W i n σ' H') ?_ m0 ⟨0,σ,H2,I2,st2,λb hb=>(f2 b hb).1,w0⟩
 rintro n s3 ⟨i,σ3,H3,I3,st3,fr3,w3⟩
 rcases turn i n σ3 H3 w3 with ⟨stop,qn⟩ | ⟨go,N,hN,step⟩
 ·refine wpAny_passesOwn hp (thn (T.done X rfl rfl rfl hc i pins s3 σ3 H3 X.xe I3 (stat fr3) st3 stop) λr s4 hz0=>?_)
  obtain ⟨hr,I4⟩:=hz0
  subst hr
  exact wpAny_execs_nil ⟨σ3,H3,I4,qn⟩
 ·refine wpAny_passesOwn hp (thn (T.item X rfl rfl rfl hc i pins s3 σ3 H3 X.xe I3 (stat fr3) st3 go) λr s4 hz0=>?_)
  obtain ⟨u,hr,h4⟩:=hz0
  subst hr
  refine wpAny_passesOwn hp (thn h4 λ_ s5 hz0=>?_)
  obtain ⟨x,H5,I5,r5,y5,st5,fr5⟩:=hz0
  have I5':=I5.pinned (stat fr5) (T.obj _ _ st5)
  refine wpAny_passesOwn hp (thn (hg _ s5 σ3 H5 x u _ I5' r5 (step x H5 y5)) λ_ s6 hz0=>?_)
  obtain ⟨σ6,H6,I6,q6⟩:=hz0
  refine wpAny_passesOwn hp (thn (hb _ s6 σ6 H6 _ I6 q6) λf s7 q7=>?_)
  have again:∀ {σ7:St} {H7:Hp},Inv X (pins++mO fp s5.heap) σ7 H7 s7->N σ7 H7->∃ m,m < n/\∃ i σ' H',Inv X pins σ' H' s7/\tn i s7.heap/\(∀ b∈fp,H' b=none)/\W i m σ' H':=λ{σ7 H7} I7 n7=>by
   obtain ⟨m',hm,w7⟩:=hN σ7 H7 n7
   refine ⟨m',hm,i+1,σ7,H7,I7.unpinned,T.keep _ _ _ st5 λb hb o e=>(I7.pin (b,o) (List.mem_append_right _ (List.mem_append_right _ (fG hb e)))).1,λb hb=>?_,w7⟩
   obtain ⟨o,e,d⟩:=T.obj _ _ st5 b hb
   exact (I7.pin (b,o) (List.mem_append_right _ (List.mem_append_right _ (fG hb e)))).2.1
  cases f with
  | next=>obtain ⟨σ7,H7,I7,n7⟩:=q7; exact again I7 n7
  | cont=>obtain ⟨σ7,H7,I7,n7⟩:=q7; exact again I7 n7
  | brk=>obtain ⟨σ7,H7,I7,q7⟩:=q7; exact ⟨σ7,H7,I7.unpinned,q7⟩
  | ret v=>obtain ⟨x7,σ7,H7,I7,r7,q7⟩:=q7; exact ⟨x7,σ7,H7,I7.unpinned,r7,q7⟩
end
noncomputable abbrev R2:=V->V->Hp->VK->Prop
noncomputable def OpR (X:Cx) (f:Value->Value->Sem Value) (r:R2):Prop :=
 ∀ (pins:List (Addr×Obj)) (s:Shared) (σ:St) (H:Hp) (x y:V) (v u:Value) (Q:VK),Inv X pins σ H s->RelV x v->RelV y u->r x y H Q ->
  wpAny (model X.prog X.w) X.A (f v u) (EP X pins σ Q) X.xe s
noncomputable def sT (X:Cx) (f:Value->Sem Value) (r:V->Hp->VK->Prop):Prop :=
 ∀ (pins:List (Addr×Obj)) (s:Shared) (σ:St) (H:Hp) (x:V) (v:Value) (Q:VK),Inv X pins σ H s->RelV x v->r x H Q ->
  wpAny (model X.prog X.w) X.A (f v) (EP X pins σ Q) X.xe s
noncomputable def cR (X:Cx) (f:Value) (r:List V->Hp->VK->Prop):Prop :=
 ∀ (pins:List (Addr×Obj)) (s:Shared) (σ:St) (H:Hp) (xs:List V) (us:List Value) (Q:VK),Inv X pins σ H s->Vals xs us->r xs H Q ->
  wpAny (model X.prog X.w) X.A (call f us) (EP X pins σ Q) X.xe s
noncomputable def Zom (X:Cx) (r:V->Hp->(Bool->Hp->Prop)->Prop):Prop :=
 ∀ (pins:List (Addr×Obj)) (s:Shared) (σ:St) (H:Hp) (x:V) (v:Value) (Q:Bool->Hp->Prop),Inv X pins σ H s->RelV x v->r x H Q ->
  wpAny (model X.prog X.w) X.A (truthy v) (TP X pins σ Q) X.xe s
noncomputable def gR (r:R2) (ta tb:TE):TE:=λσ H Q=>ta σ H λx H1=>tb σ H1 λy H2=>r x y H2 Q
noncomputable def tUn (r:V->Hp->VK->Prop) (ta:TE):TE:=λσ H Q=>ta σ H λx H1=>r x H1 Q
noncomputable def rI (C:Int->Int->Prop) (g:Int->Int->V):R2:=λx y H Q=>∃ i j,x=.int i/\y=.int j/\C i j/\Q (g i j) H
noncomputable def eJ (g:Int->Int->V):R2:=λx y H Q=>∃ i j,x=.int i/\y=.int j/\Q (g i j) H
noncomputable def rU (g:Int->V):V->Hp->VK->Prop:=λx H Q=>∃ i,x=.int i/\Q (g i) H
section
variable {X:Cx} {a b c:Expr} {ta tb tc:TE} {pos:Pos}
theorem sg (ha:PE X a ta) (hb:PE X b tb) {pins:List (Addr×Obj)} {s:Shared} {σ:St} {H:Hp} {R:V->V->Hp->Prop} (I:Inv X pins σ H s)
  (h:ta σ H λx H1=>tb σ H1 λy H2=>R x y H2) {Q:Value->Shared->Prop} {f:Value->Value->Sem Value}
  (hf:∀ v u s2 x y H2,Inv X pins σ H2 s2->RelV x v->RelV y u->R x y H2->wpAny (model X.prog X.w) X.A (f v u) Q X.xe s2) :
  wpAny (model X.prog X.w) X.A (eval a X.env) (λv s₁=>wpAny (model X.prog X.w) X.A (eval b X.env) (λu s₂=>wpAny (model X.prog X.w) X.A (f v u) Q X.xe s₂) X.xe s₁) X.xe s:=by
 refine thn (ha pins s σ H _ I h) λv s1 hz0=>?_
 obtain ⟨x,H1,I1,r1,q1⟩:=hz0
 refine thn (hb pins s1 σ H1 _ I1 q1) λu s2 hz0=>?_
 obtain ⟨y,H2,I2,r2,q2⟩:=hz0
 exact hf v u s2 x y H2 I2 r1 r2 q2
theorem cm {op:Operator} {r:R2} (ho:OpR X (binaryOp op) r) (ha:PE X a ta) (hb:PE X b tb):PE X (.BinOp a op b pos) (gR r ta tb):=by
 intro pins s σ H Q I h
 exact wpAny_BinOp (sg ha hb I h λv u s2 x y H2 I2 rx ry q=>ho pins s2 σ H2 x y v u Q I2 rx ry q)
theorem Zhi {op:UnaryOp} {r:V->Hp->VK->Prop} (ho:sT X (unaryOp op) r) (ha:PE X a ta):PE X (.UnaryOp op a pos) (tUn r ta):=by
 intro pins s σ H Q I h
 exact UnaryOp_ (thn (ha pins s σ H _ I h) λv s1 ⟨x,H1,I1,r1,q1⟩=>ho pins s1 σ H1 x v Q I1 r1 q1)
theorem gx {f:Value->Value->Sem Value} {C:Int->Int->Prop} {g:Int->Int->Int}
  (rule:∀ (i j:Int) (t u:Tok) (s:Shared) (Q:Value->Shared->Prop) (E:Value->Shared->Prop),C i j->Q (.int (g i j) s.toks) { s with toks:=s.toks+1 }->wpAny (model X.prog X.w) X.A (f (.int i t) (.int j u)) Q E s) :
  OpR X f (rI C λi j=>.int (g i j)):=by
 intro pins s σ H x y v u Q I rx ry h
 obtain ⟨i,j,rfl,rfl,hc,q⟩:=h
 obtain ⟨t,rfl⟩:=rx
 obtain ⟨t',rfl⟩:=ry
 exact rule i j t t' s _ _ hc ⟨.int (g i j),H,I.tok _,⟨_,rfl⟩,q⟩
theorem qo {f:Value->Value->Sem Value} {g:Int->Int->Int}
  (rule:∀ (i j:Int) (t u:Tok) (s:Shared) (Q:Value->Shared->Prop) (E:Value->Shared->Prop),Q (.int (g i j) s.toks) { s with toks:=s.toks+1 }->wpAny (model X.prog X.w) X.A (f (.int i t) (.int j u)) Q E s) :
  OpR X f (eJ λi j=>.int (g i j)):=by
 intro pins s σ H x y v u Q I rx ry h
 obtain ⟨i,j,rfl,rfl,q⟩:=h
 obtain ⟨t,rfl⟩:=rx
 obtain ⟨t',rfl⟩:=ry
 exact rule i j t t' s _ _ ⟨.int (g i j),H,I.tok _,⟨_,rfl⟩,q⟩
theorem qp {f:Value->Value->Sem Value} {g:Int->Int->Bool}
  (rule:∀ (i j:Int) (t u:Tok) (s:Shared) (Q:Value->Shared->Prop) (E:Value->Shared->Prop),Q (.bool (g i j)) s->wpAny (model X.prog X.w) X.A (f (.int i t) (.int j u)) Q E s) :
  OpR X f (eJ λi j=>.bl (g i j)):=by
 intro pins s σ H x y v u Q I rx ry h
 obtain ⟨i,j,rfl,rfl,q⟩:=h
 obtain ⟨t,rfl⟩:=rx
 obtain ⟨t',rfl⟩:=ry
 exact rule i j t t' s _ _ ⟨.bl (g i j),H,I,rfl,q⟩
noncomputable def ZoL (i j:Int):Prop:=0 < j/\j < 1073741824
noncomputable def Ze5 (i j:Int):Prop:=0<=j/\j<=1000000/\i.natAbs < 2 ^ 64
noncomputable def CMul (i j:Int):Prop:=(-(2 ^ 64) < i/\i < 2 ^ 64)\/(-(2 ^ 64) < j/\j < 2 ^ 64)
theorem CMul.ok {i j:Int} (h:CMul i j):IntMulOk i j:=by
 rcases h with ⟨h1,h2⟩ | ⟨h1,h2⟩
 ·exact .of_left (intBits_le_64 h1 h2)
 ·exact .of_right (intBits_le_64 h1 h2)
theorem g9:OpR X (binaryOp .Add) (eJ λi j=>.int (i+j)):=qo λ_ _ _ _ _ _ _ q=>add_int q
theorem bU:OpR X (binaryOp .Sub) (eJ λi j=>.int (i - j)):=qo λ_ _ _ _ _ _ _ q=>sub_int q
theorem qj:OpR X (binaryOp .Mult) (rI CMul λi j=>.int (i * j)):=gx λ_ _ _ _ _ _ _ hc q=>mul_int q hc.ok
theorem qm:OpR X (binaryOp .FloorDiv) (rI ZoL λi j=>.int (i / j)):=gx λi j _ _ _ _ _ hc q=>by
 have h1:(0:Int) < j:=hc.1
 have h2:j < 1073741824:=hc.2
 exact floordiv_int (by omega) (by rw [Int.fdiv_eq_ediv_of_nonneg i (by omega)]; exact q) (.inl (PyProof.noPylong_small (by omega)))
theorem gw:OpR X (binaryOp .Mod) (rI (λ_ j=>0 < j) λi j=>.int (i % j)):=gx λi j _ _ _ _ _ hc q=>by
 have h1:(0:Int) < j:=hc
 exact mod_int' (by omega) (by rw [Int.fmod_eq_emod_of_nonneg i (by omega)]; exact q)
theorem ql:OpR X (binaryOp .Mod) (rI (λ_ j=>j≠0) λi j=>.int (i.fmod j)):=gx λ_ _ _ _ _ _ _ hc q=>mod_int' hc q
theorem qi:OpR X (binaryOp .Pow) (rI Ze5 λi j=>.int (i ^ j.toNat)):=gx λ_ _ _ _ _ _ _ hc q=>pow_int_small hc.1 hc.2.1 hc.2.2 q
theorem ZiY:OpR X (inplaceOp .Add) (eJ λi j=>.int (i+j)):=qo λ_ _ _ _ _ _ _ q=>iadd_int q
theorem unI {f:Value->Sem Value} {g:Int->Int}
  (rule:∀ (i:Int) (t:Tok) (s:Shared) (Q:Value->Shared->Prop) (E:Value->Shared->Prop),Q (.int (g i) s.toks) { s with toks:=s.toks+1 }->wpAny (model X.prog X.w) X.A (f (.int i t)) Q E s) :
  sT X f (rU λi=>.int (g i)):=by
 intro pins s σ H x v Q I rx h
 obtain ⟨i,rfl,q⟩:=h
 obtain ⟨t,rfl⟩:=rx
 exact rule i t s _ _ ⟨.int (g i),H,I.tok _,⟨_,rfl⟩,q⟩
theorem Zfr:sT X (unaryOp .USub) (rU λi=>.int (-i)):=unI λ_ _ _ _ _ q=>neg_int q
end
noncomputable def scal:V->V->Bool
 | .non,.non=>true | .non,.int _=>true | .int _,.non=>true | .non,.bl _=>true | .bl _,.non=>true | .non,.str _=>true | .str _,.non=>true
 | .int _,.int _=>true | .bl _,.bl _=>true | .str _,.str _=>true | .byt _,.byt _=>true
 | .int _,.str _=>true | .str _,.int _=>true | .bl _,.str _=>true | .str _,.bl _=>true
 | _,_=>false
noncomputable def rEq:R2:=λx y H Q=>scal x y=true/\Q (.bl (decide (x=y))) H
noncomputable def rNe:R2:=λx y H Q=>scal x y=true/\Q (.bl (!decide (x=y))) H
theorem ZdK {i j:Int}:decide (V.int i=V.int j)=(i == j):=by
 rw [Bool.eq_iff_iff]
 simp
theorem ZdM {i j:Bool}:decide (V.bl i=V.bl j)=(i == j):=by
 rw [Bool.eq_iff_iff]
 simp
theorem og {i j:Str}:decide (V.str i=V.str j)=(i == j):=by
 rw [Bool.eq_iff_iff]
 simp
theorem ZdL {i j:Array UInt8}:decide (V.byt i=V.byt j)=(i.toList == j.toList):=by
 rw [Bool.eq_iff_iff]
 cases i
 cases j
 simp
section
variable {X:Cx} {a b c:Expr} {ta tb tc:TE} {pos:Pos}
theorem bO {pins:List (Addr×Obj)} {σ:St} {H:Hp} {s:Shared} {Q:VK} {k k':Bool} (I:Inv X pins σ H s) (q:Q (.bl k) H) (e:k=k'):EP X pins σ Q (.bool k') s:=by
 subst e
 exact ⟨.bl k,H,I,rfl,q⟩
theorem ZhJ:OpR X (compareOp .Eq) rEq:=by
 intro pins s σ H x y v u Q I rx ry h
 obtain ⟨hs,q⟩:=h
 cases x with
 | non =>
  cases rx
  cases y with
  | non=>cases ry; exact PySem.EqNone.eq_none_none (bO I q (by simp))
  | bl j=>cases ry; exact PySem.EqNone.eq_none_bool (bO I q (by simp))
  | int j=>obtain ⟨t',rfl⟩:=ry; exact PySem.EqNone.eq_none_int (bO I q (by simp))
  | str j=>obtain ⟨t',rfl⟩:=ry; exact PySem.EqNone.eq_none_str (bO I q (by simp))
  | _=>exact absurd (show false=true from hs) Bool.false_ne_true
 | bl i =>
  cases rx
  cases y with
  | non=>cases ry; exact PySem.EqNone.eq_bool_none (bO I q (by simp))
  | bl j=>cases ry; exact eq_bool (bO I q ZdM)
  | str j=>obtain ⟨t',rfl⟩:=ry; exact PySem.EqMixed.eq_bool_str (bO I q (by simp))
  | _=>exact absurd (show false=true from hs) Bool.false_ne_true
 | int i =>
  obtain ⟨t,rfl⟩:=rx
  cases y with
  | non=>cases ry; exact PySem.EqNone.eq_int_none (bO I q (by simp))
  | int j=>obtain ⟨t',rfl⟩:=ry; exact eq_int (bO I q ZdK)
  | str j=>obtain ⟨t',rfl⟩:=ry; exact PySem.EqMixed.eq_int_str (bO I q (by simp))
  | _=>exact absurd (show false=true from hs) Bool.false_ne_true
 | str i =>
  obtain ⟨t,rfl⟩:=rx
  cases y with
  | non=>cases ry; exact PySem.EqNone.eq_str_none (bO I q (by simp))
  | bl j=>cases ry; exact PySem.EqMixed.eq_str_bool (bO I q (by simp))
  | int j=>obtain ⟨t',rfl⟩:=ry; exact PySem.EqMixed.eq_str_int (bO I q (by simp))
  | str j=>obtain ⟨t',rfl⟩:=ry; exact eq_str (bO I q og)
  | _=>exact absurd (show false=true from hs) Bool.false_ne_true
 | byt i =>
  obtain ⟨t,rfl⟩:=rx
  cases y with
  | byt j=>obtain ⟨t',rfl⟩:=ry; exact PySem.W.eq_bytes (bO I q ZdL)
  | _=>exact absurd (show false=true from hs) Bool.false_ne_true
 | _=>cases y <;> exact absurd (show false=true from hs) Bool.false_ne_true
theorem ZhE:OpR X (compareOp .NotEq) rNe:=by
 intro pins s σ H x y v u Q I rx ry h
 obtain ⟨hs,q⟩:=h
 cases x with
 | non =>
  cases rx
  cases y with
  | non=>cases ry; exact PySem.EqNone.ne_none_none (bO I q (by simp))
  | bl j=>cases ry; exact PySem.EqNone.ne_none_bool (bO I q (by simp))
  | int j=>obtain ⟨t',rfl⟩:=ry; exact PySem.EqNone.ne_none_int (bO I q (by simp))
  | str j=>obtain ⟨t',rfl⟩:=ry; exact PySem.EqNone.ne_none_str (bO I q (by simp))
  | _=>exact absurd (show false=true from hs) Bool.false_ne_true
 | bl i =>
  cases rx
  cases y with
  | non=>cases ry; exact PySem.EqNone.ne_bool_none (bO I q (by simp))
  | bl j=>cases ry; exact ne_bool (bO I q (congrArg not ZdM))
  | str j=>obtain ⟨t',rfl⟩:=ry; exact PySem.EqMixed.ne_bool_str (bO I q (by simp))
  | _=>exact absurd (show false=true from hs) Bool.false_ne_true
 | int i =>
  obtain ⟨t,rfl⟩:=rx
  cases y with
  | non=>cases ry; exact PySem.EqNone.ne_int_none (bO I q (by simp))
  | int j=>obtain ⟨t',rfl⟩:=ry; exact ne_int (bO I q (congrArg not ZdK))
  | str j=>obtain ⟨t',rfl⟩:=ry; exact PySem.EqMixed.ne_int_str (bO I q (by simp))
  | _=>exact absurd (show false=true from hs) Bool.false_ne_true
 | str i =>
  obtain ⟨t,rfl⟩:=rx
  cases y with
  | non=>cases ry; exact PySem.EqNone.ne_str_none (bO I q (by simp))
  | bl j=>cases ry; exact PySem.EqMixed.ne_str_bool (bO I q (by simp))
  | int j=>obtain ⟨t',rfl⟩:=ry; exact PySem.EqMixed.ne_str_int (bO I q (by simp))
  | str j=>obtain ⟨t',rfl⟩:=ry; exact ne_str (bO I q (congrArg not og))
  | _=>exact absurd (show false=true from hs) Bool.false_ne_true
 | byt i =>
  obtain ⟨t,rfl⟩:=rx
  cases y with
  | byt j=>obtain ⟨t',rfl⟩:=ry; exact PySem.W.ne_bytes (bO I q (congrArg not ZdL))
  | _=>exact absurd (show false=true from hs) Bool.false_ne_true
 | _=>cases y <;> exact absurd (show false=true from hs) Bool.false_ne_true
theorem g8:OpR X (compareOp .Lt) (eJ λi j=>.bl (decide (i < j))):=qp λ_ _ _ _ _ _ _ q=>lt_int q
theorem fg:OpR X (compareOp .Gt) (eJ λi j=>.bl (decide (j < i))):=qp λ_ _ _ _ _ _ _ q=>gt_int q
theorem ZhH:OpR X (compareOp .GtE) (eJ λi j=>.bl (decide (j<=i))):=qp λ_ _ _ _ _ _ _ q=>ge_int q
theorem ZhG:OpR X (compareOp .Is) (λx y H Q=>y=.non/\Q (.bl (decide (x=.non))) H):=by
 intro pins s σ H x y v u Q I rx ry h
 obtain ⟨rfl,q⟩:=h
 cases ry
 refine is_none_gen (bO I q ?_)
 cases x <;> first
  | (cases rx; rfl)
  | (obtain ⟨t,rfl⟩:=rx; rfl)
theorem OpR.or {f:Value->Value->Sem Value} {r r':R2} (h:OpR X f r) (h':OpR X f r'):OpR X f (λx y H Q=>r x y H Q\/r' x y H Q):=by
 intro pins s σ H x y v u Q I rx ry q
 rcases q with q | q
 ·exact h pins s σ H x y v u Q I rx ry q
 ·exact h' pins s σ H x y v u Q I rx ry q
theorem nomark (b:Expr) {op:CmpOp} (h:op≠.In:=by decide) (h2:op≠.NotIn:=by decide):behindInMarks op b=false:=by
 have e1:(op == CmpOp.In)=false:=by cases op <;> first | rfl | exact absurd rfl h
 have e2:(op == CmpOp.NotIn)=false:=by cases op <;> first | rfl | exact absurd rfl h2
 cases b <;> first | rfl | (show (_ && (op == CmpOp.In || op == CmpOp.NotIn) && _)=false; rw [e1,e2,Bool.or_false,Bool.and_false,Bool.false_and])
theorem Zhq {op:CmpOp} {r:R2} (ho:OpR X (compareOp op) r) (ha:PE X a ta) (hb:PE X b tb) (hm:behindInMarks op b=false):PE X (.Compare a [op] [b] pos) (gR r ta tb):=by
 intro pins s σ H Q I h
 exact wpAny_Compare1 (sg ha hb I h λv u s2 x y H2 I2 rx ry q=>ho pins s2 σ H2 x y v u Q I2 rx ry q) hm
noncomputable def lG (t:TE):TT:=λσ H Q=>t σ H λx H'=>∃ k,x=.bl k/\Q k H'
theorem ka {op:CmpOp} {r:R2} (ho:OpR X (compareOp op) r) (ha:PE X a ta) (hb:PE X b tb) (hm:behindInMarks op b=false):PT X (.Compare a [op] [b] pos) (lG (gR r ta tb)):=by
 intro pins s σ H Q I h
 refine wpAny_isTrue_Compare1 (thn (ha pins s σ H _ I h) λv s1 ⟨x,H1,I1,r1,q1⟩=>thn (hb pins s1 σ H1 _ I1 q1) λu s2 ⟨y,H2,I2,r2,q2⟩ =>
  thn (ho pins s2 σ H2 x y v u _ I2 r1 r2 q2) λc s3 ⟨z,H3,I3,r3,k,e,q3⟩=>?_) hm
 subst e
 cases r3
 exact wpAny_truthy_bool ⟨H3,I3,q3⟩
noncomputable def ZeZ (K:PySem.W.Frag) (x:V) (H:Hp) (k:Bool):Prop :=
 match x with
 | .non=>k=false
 | .bl b=>k=b
 | .int i=>k=(i != 0)
 | .str y=>y.length<=sizeLine/\k=((y.length:Int) != 0)
 | .byt y=>y.size<=sizeLine/\k=((y.size:Int) != 0)
 | .ref p=>(∃ xs,SqL K H p xs/\k=!xs.isEmpty)\/(∃ xs,SqT K H p xs/\k=!xs.isEmpty)\/∃ kvs,H p=some (.dK kvs)/\k=!kvs.isEmpty
 | _=>False
theorem ZiV {κ:Type} {kvs:List (κ×V)} {vs:List (κ×Value)} (r:KV kvs vs):(!vs.isEmpty)=!kvs.isEmpty:=by
 cases r <;> rfl
theorem ZcW {xs:List V} {its:List Value} (r:Vals xs its):(!its.toArray.isEmpty)=!xs.isEmpty:=by
 cases r <;> simp
theorem gE:(sizeLine:Nat) < 2 ^ 63:=by rw [sizeLine_eq]; decide
theorem ZfA:Zom X (λx H Q=>∃ k,ZeZ X.K x H k/\Q k H):=by
 intro pins s σ H x v Q I rx h
 obtain ⟨k,e,q⟩:=h
 have hl:=gE
 have hs:sizeLine=16777216:=sizeLine_eq
 cases x with
 | non =>
  cases rx
  have e':k=false:=e
  subst e'
  exact truthy_none ⟨H,I,q⟩
 | bl b =>
  cases rx
  have e':k=b:=e
  subst e'
  exact wpAny_truthy_bool ⟨H,I,q⟩
 | int i =>
  obtain ⟨t,rfl⟩:=rx
  have e':k=(i != 0):=e
  subst e'
  exact PySem.P.truthy_int ⟨H,I,q⟩
 | str y =>
  obtain ⟨t,rfl⟩:=rx
  obtain ⟨hy,e'⟩:y.length<=sizeLine/\k=((y.length:Int) != 0):=e
  subst e'
  exact PySem.P.truthy_str (by omega) ⟨H,I.tok _,q⟩
 | byt y =>
  obtain ⟨t,rfl⟩:=rx
  obtain ⟨hy,e'⟩:y.size<=sizeLine/\k=((y.size:Int) != 0):=e
  subst e'
  exact PySem.W.truthy_bytes (by omega) ⟨H,I.tok _,q⟩
 | ref p =>
  cases rx
  have e':(∃ xs,SqL X.K H p xs/\k=!xs.isEmpty)\/(∃ xs,SqT X.K H p xs/\k=!xs.isEmpty)\/∃ kvs,H p=some (.dK kvs)/\k=!kvs.isEmpty:=e
  rcases e' with ⟨xs,hx,e'⟩ | ⟨xs,hx,e'⟩ | ⟨kvs,hx,e'⟩
  ·subst e'
   obtain ⟨its,r,pl,hz⟩:=I.list hx
   have hlen:=r.length
   exact wpAny_truthy_list pl.isList (by simp only [List.size_toArray]; omega) ⟨H,I.tok _,by rw [ZcW r]; exact q⟩
  ·subst e'
   obtain ⟨its,r,pl,hz⟩:=I.tuple hx
   have hlen:=r.length
   exact truthy_tuple pl (by simp only [List.size_toArray]; omega) ⟨H,I.tok _,by rw [ZcW r]; exact q⟩
  ·subst e'
   obtain ⟨hz,hS,vs,r,m⟩:kvs.length<=sizeLine/\(p == sysModules)=false/\∃ vs,KV kvs vs/\s.heap.DictOf (cu X.prog X.w) p vs:=I.hok p _ hx
   have hlen:kvs.length=vs.length:=Paired.length r
   exact wpAny_truthy_dict hS m (by omega) ⟨H,I.tok _,by rw [ZiV r]; exact q⟩
 | _=>exact (show False from e).elim
theorem ZgY (ha:PE X a ta) (he:∀ whole,isTrue a X.env whole=(do let v <- whole; standAt a.pos; holding [v] (truthy v))) :
  PT X a (λσ H Q=>ta σ H λx H'=>∃ k,ZeZ X.K x H' k/\Q k H'):=by
 intro pins s σ H Q I h
 exact isTrue_plain (thn (ha pins s σ H _ I h) λv s1 ⟨x,H1,I1,r1,q1⟩=>ZfA pins s1 σ H1 x v Q I1 r1 q1) (he _)
theorem eG {x:V} {us:List Value} (r:Vals [x] us):∃ u,us=[u]/\RelV x u:=by
 cases r with
 | cons r1 r2=>cases r2; exact ⟨_,rfl,r1⟩
theorem iz {x y:V} {us:List Value} (r:Vals [x,y] us):∃ u w',us=[u,w']/\RelV x u/\RelV y w':=by
 cases r with
 | cons r1 r2 =>
  cases r2 with
  | cons r3 r4=>cases r4; exact ⟨_,_,rfl,r1,r3⟩
theorem jl:cR X (.builtin "abs") (λxs H Q=>∃ i,xs=[.int i]/\Q (.int (if i < 0 then -i else i)) H):=by
 intro pins s σ H xs us Q I r h
 obtain ⟨i,rfl,q⟩:=h
 obtain ⟨u,rfl,t,rfl⟩:=eG r
 exact call_abs_int λu tk=>⟨.int (if i < 0 then -i else i),H,I.tok _,⟨_,rfl⟩,q⟩
theorem kM (hc:X.calm=true):cR X (.builtin "max") (λxs H Q=>∃ i j,xs=[.int i,.int j]/\Q (.int (if j > i then j else i)) H):=by
 intro pins s σ H xs us Q I r h
 obtain ⟨i,j,rfl,q⟩:=h
 obtain ⟨u,w',rfl,⟨t,rfl⟩,⟨t',rfl⟩⟩:=iz r
 refine max_two_ints (I.ok.hd hc) λh' tk k=>⟨_,H,I.kept k,?_,q⟩
 by_cases hj:j > i
 ·rw [if_pos hj,if_pos hj]; exact ⟨_,rfl⟩
 ·rw [if_neg hj,if_neg hj]; exact ⟨_,rfl⟩
theorem Zea (hc:X.calm=true):cR X (.builtin "min") (λxs H Q=>∃ i j,xs=[.int i,.int j]/\Q (.int (if j < i then j else i)) H):=by
 intro pins s σ H xs us Q I r h
 obtain ⟨i,j,rfl,q⟩:=h
 obtain ⟨u,w',rfl,⟨t,rfl⟩,⟨t',rfl⟩⟩:=iz r
 refine min_two_ints (I.ok.hd hc) λh' tk k=>⟨_,H,I.kept k,?_,q⟩
 by_cases hj:j < i
 ·rw [if_pos hj,if_pos hj]; exact ⟨_,rfl⟩
 ·rw [if_neg hj,if_neg hj]; exact ⟨_,rfl⟩
theorem Znk:cR X (.type "int") (λxs H Q=>(∃ i,xs=[.int i]/\Q (.int i) H)\/∃ k,xs=[.bl k]/\Q (.int (if k then 1 else 0)) H):=by
 intro pins s σ H xs us Q I r h
 rcases h with ⟨i,rfl,q⟩ | ⟨k,rfl,q⟩
 ·obtain ⟨u,rfl,t,rfl⟩:=eG r
  exact call_int_int ⟨.int i,H,I,⟨_,rfl⟩,q⟩
 ·obtain ⟨u,rfl,r1⟩:=eG r
  cases r1
  exact call_int_bool ⟨.int (if k then 1 else 0),H,I.tok _,⟨_,rfl⟩,q⟩
end
section
variable {prog:Program} {w:World} {A:Around} {E:Value->Shared->Prop} {s:Shared} {K:PySem.W.Frag} {x dx C f:Addr} {mA:Str->Option Value} {name:Str} {v:Value}
end
theorem RelO.some_of {v:V} {o:Option Value} (r:RelO (some v) o):∃ u,o=some u/\RelV v u:=by
 cases o with
 | none=>exact (show False from r).elim
 | some u=>exact ⟨u,rfl,r⟩
section
variable {P:Program} {w:World} {H H':Hp} {h h':Heap} {a C dx:Addr} {fs fs':List (Str×V)}
end
section
variable {X:Cx} {pins:List (Addr×Obj)} {σ:St} {H:Hp} {s:Shared} {a C dx:Addr} {fs:List (Str×V)} {f:Str} {v:V} {A:Around} {E:Value->Shared->Prop}
end
section
variable {X:Cx} {o e value:Expr} {f:Str} {pos pos' tpos:Pos} {ta tv:TE}
end
section
variable {X:Cx} {pins:List (Addr×Obj)} {σ:St} {H:Hp} {s:Shared} {A:Around} {E:Value->Shared->Prop} {Q:Value->Shared->Prop} {c:Value} {b:Bool}
end
structure Room (k:Nat) (A:Around):Prop where
 hd:A.handled=none
 dp:A.depth+3 * k+5 < recursionLimit
 un:A.units+16 * k+200 < cLine
 gd:A.guards=some []
theorem Room.mono {j k:Nat} {A:Around} (r:Room k A) (h:j<=k):Room j A:=⟨r.hd,by have:=r.dp; omega,by have:=r.un; omega,r.gd⟩
theorem Room.deeper {k:Nat} {A:Around} (r:Room (k+1) A) (env:Env):Room k (A.deeper env) :=
 ⟨r.hd,by have:=r.dp; show A.depth+1+3 * k+5 < _; omega,by have:=r.un; show A.units+3+16 * k+200 < _; omega,r.gd⟩
theorem Room.depth {k:Nat} {A:Around} (r:Room k A):A.depth < recursionLimit:=by have:=r.dp; omega
theorem Room.units {k:Nat} {A:Around} (r:Room k A):A.units+64 < cLine:=by have:=r.un; omega
noncomputable def aW:TA:=λ_ H Q=>Q [] H
noncomputable def gS (ta:TE) (tr:TA):TA:=λσ H Q=>ta σ H λx H1=>tr σ H1 λxs H2=>Q (x::xs) H2
section
variable {X:Cx} {e:Expr} {es:List Expr} {te:TE} {t:TA} {pos:Pos}
theorem cB:PA X [] aW:=λ_ _ _ _ H Q I h=>Calls.spliced_nil ⟨[],H,I,.nil,h⟩
theorem bx (ha:PE X e te) (hr:PA X es t) (hs:starEach (e::es) X.env=(false,eval e X.env)::starEach es X.env:=by rfl):PA X (e::es) (gS te t):=by
 intro pos pins s σ H Q I h
 rw [hs]
 show wpAny _ _ (spliced ((false,eval e X.env)::backTo pos (starEach es X.env))) _ _ s
 refine Calls.spliced_cons (thn (ha pins s σ H _ I h) λu s1 hz0=>?_)
 obtain ⟨x,H1,I1,r1,q1⟩:=hz0
 exact thn (hr pos pins s1 σ H1 _ I1 q1) λus s2 hz0=>by
  obtain ⟨xs,H2,I2,r2,q2⟩:=hz0
  exact ⟨x::xs,H2,I2,.cons r1 r2,q2⟩
noncomputable def ZfD (t:TA):TE:=λσ H Q=>t σ H λxs H1=>xs.length<=sizeLine/\∀ p,H1 p=none->Q (.ref p) (upd H1 p (.tup xs))
noncomputable def ZfP (t:TA):TE:=λσ H Q=>t σ H λxs H1=>xs.length<=sizeLine/\∀ p,H1 p=none->Q (.ref p) (upd H1 p (.lst xs))
theorem Zb7 {x1} (h:PA X es t):PE X (.Tuple es x1 pos) (ZfD t):=by
 intro pins s σ H Q I hq
 refine wpAny_Tuple_spliced (thn (h pos pins s σ H _ I hq) λus s1 ⟨xs,H1,I1,r,z,q⟩=>⟨by rw [<- r.length]; exact z,?_⟩)
 have hf:H1 s1.heap.objs.size=none:=I1.hok.fresh (Nat.le_refl _)
 refine ⟨.ref s1.heap.objs.size,upd H1 s1.heap.objs.size (.tup xs),I1.laid (t':=s1.toks) (λb u e=>Heap.get?_push_of_some _ e) (Nat.le_refl _) ?_,rfl,q _ hf⟩
 exact ⟨z,us,r,⟨_,Heap.get?_push_size _ rfl,rfl,_,rfl⟩⟩
theorem Zca (h:PA X es t):PE X (.List es pos) (ZfP t):=by
 intro pins s σ H Q I hq
 refine wpAny_List_spliced (thn (h pos pins s σ H _ I hq) λus s1 ⟨xs,H1,I1,r,z,q⟩=>⟨by rw [<- r.length]; exact z,?_⟩)
 have hf:H1 s1.heap.objs.size=none:=I1.hok.fresh (Nat.le_refl _)
 refine ⟨.ref s1.heap.objs.size,upd H1 s1.heap.objs.size (.lst xs),I1.laid (t':=s1.toks) (λb u e=>Heap.get?_push_of_some _ e) (Nat.le_refl _) ?_,rfl,q _ hf⟩
 exact ⟨z,us,0,r,Heap.get?_push_size _ rfl⟩
end
noncomputable abbrev Sp:=List V->Hp->VK->XK->Prop
noncomputable abbrev d4:=List Env->Hp->Shared->XK->Value->Shared->Prop
structure Env0 (P:Program) (w:World) (K:PySem.W.Frag) (mg:Str->Option Value) (base:Heap) (A:Around) (outer:List Env) (s:Shared) (H:Hp):Prop where
 frames:A.frames=some outer
 mod:Mod K mg base
 bs:∀ b o,base.get? b=some o->s.heap.get? b=some o/\H b=none
 bsz:base.objs.size<=s.heap.objs.size
 funs:s.heap.FunFrames base outer
 frf:∀ b∈frs outer,H b=none
 hok:HOk P w H s.heap
 bare:AllBare s.gens
noncomputable def CE (outer:List Env) (P:Program) (w:World) (H:Hp) (s:Shared) (Q:VK) (u:Value) (s':Shared):Prop :=
 ∃ v H',s'.os=s.os/\AllBare s'.gens/\Un (frs outer) [] H H' s.heap s'.heap/\HOk P w H' s'.heap/\RelV v u/\Q v H'
noncomputable def CR (CX:d4) (outer:List Env) (P:Program) (w:World) (H:Hp) (s:Shared) (Q:VK) (E:XK) (r:Result) (s':Shared):Prop :=
 match r with
 | .ok (.ret u)=>CE outer P w H s Q u s'
 | .ok _=>False
 | .error e=>CX outer H s E e s'
structure FnOk (P:Program) (w:World) (K:PySem.W.Frag) (mg:Str->Option Value) (base:Heap) (CX:d4) (k:Nat) (f:Addr) (fd:FuncData) (ps:List Str) (sp:Sp):Prop where
 len:∀ vs H Q E,sp vs H Q E->vs.length=ps.length
 run:∀ (A:Around) (outer:List Env) (s:Shared) (H:Hp) (args:Args) (us:List Value) (vs:List V) (Q:VK) (E:XK),Room k A->Env0 P w K mg base A outer s H->BindsTo s fd args (ps.zip us)->Vals vs us->sp vs H Q E ->
  codeAny (model P w) A (.call (.ref f) args) (CR CX outer P w H s Q E) s
theorem FnOk.imp {P:Program} {w:World} {K:PySem.W.Frag} {mg:Str->Option Value} {base:Heap} {CX:d4} {k:Nat} {f:Addr} {fd:FuncData} {ps:List Str} {sp sp':Sp} (F:FnOk P w K mg base CX k f fd ps sp)
  (h:∀ vs H Q E,sp' vs H Q E->sp vs H Q E):FnOk P w K mg base CX k f fd ps sp' :=
 ⟨λvs H Q E q=>F.len vs H Q E (h _ _ _ _ q),λA outer s H args us vs Q E hr he hb hv hs=>F.run A outer s H args us vs Q E hr he hb hv (h _ _ _ _ hs)⟩
section
variable {X:Cx} {pins:List (Addr×Obj)} {σ:St} {H:Hp} {s s':Shared}
theorem Inv.env0 (I:Inv X pins σ H s):Env0 X.prog X.w X.K X.mg X.base X.A X.stack s H :=
 ⟨I.ok.frames,I.ok.mod,I.bs,Nat.le_trans I.ok.bsz I.sz,I.stack,I.stkFree,I.hok,I.bare⟩
theorem Inv.after {Q:VK} {u:Value} (I:Inv X pins σ H s) (h:CE X.stack X.prog X.w H s Q u s'):EP X pins σ Q u s':=by
 obtain ⟨v,H',os,bare,un,hok,r,q⟩:=h
 obtain ⟨hh,g,d,t,os'⟩:=s'
 obtain rfl:os'=s.os:=os
 exact ⟨v,H',I.call (h':=hh) (g':=g) (d':=d) (t':=t) (ch:=[]) un hok bare (λb z=>absurd z (by simp)),r,q⟩
end
noncomputable def ZaK (sp:Sp) (dvs:List V) (E:XK) (t:TA):TE:=λσ H Q=>t σ H λvs H1=>sp (vs++dvs) H1 Q E
noncomputable def Binds (K:PySem.W.Frag) (fd:FuncData) (ps:List Str) (ds:List Value):Prop :=
 ∀ (s:Shared) (us:List Value),K.In s.heap->(us++ds).length=ps.length->BindsTo s fd ⟨us,[]⟩ (ps.zip (us++ds))
theorem Binds.all {K:PySem.W.Frag} {fd:FuncData} {ps:List Str} (h:∀ us:List Value,us.length=ps.length->bindArgs fd ⟨us,[]⟩=pure (ps.zip us)):Binds K fd ps []:=λs us _ hl=>by
 rw [List.append_nil] at hl ⊢
 exact .of_eq (h us hl)
noncomputable def sV (CX:d4) (X:Cx) (E:XK):Prop:=∀ (pins:List (Addr×Obj)) (σ:St) (H:Hp) (s:Shared) (e:Value) (s':Shared),Inv X pins σ H s->CX X.stack H s E e s'->X.xe e s'
section
variable {X:Cx} {CX:d4} {k:Nat} {f C:Addr} {fd:FuncData} {ps:List Str} {sp:Sp} {dvs:List V} {ds:List Value} {E:XK} {x m:Str} {p pos apos:Pos} {e o:Expr} {es:List Expr} {ta:TE} {t:TA}
theorem Zgy {pins:List (Addr×Obj)} {σ:St} {H:Hp} {s:Shared} {Q:VK} {us:List Value} {vs:List V} (F:FnOk X.prog X.w X.K X.mg X.base CX k f fd ps sp) (hr:Room k X.A) (hb:Binds X.K fd ps ds) (hd:Vals dvs ds) (hx:sV CX X E)
  (I:Inv X pins σ H s) (r:Vals vs us) (h:sp (vs++dvs) H Q E):wpAny (model X.prog X.w) X.A (call (.ref f) us) (EP X pins σ Q) X.xe s:=by
 have r2:Vals (vs++dvs) (us++ds):=r.append hd
 have hl:(us++ds).length=ps.length:=by rw [<- r2.length]; exact F.len _ _ _ _ h
 refine wpAny_call (codeAny_mono (F.run X.A X.stack s H ⟨us,[]⟩ (us++ds) (vs++dvs) Q E hr I.env0 (hb s us I.kIn hl) r2 h) λr s' hq=>?_)
 cases r with
 | error e=>exact hx pins σ H s e s' I hq
 | ok fl =>
  cases fl with
  | ret u=>exact I.after hq
  | next=>exact False.elim hq
  | brk=>exact False.elim hq
  | cont=>exact False.elim hq
theorem Zhr (F:FnOk X.prog X.w X.K X.mg X.base CX k f fd ps sp) (hr:Room k X.A) (hg:Gl X x) (hm:X.mg x=some (.ref f)) (hk:PySem.W.keepIn X.K (.ref f)=true) (hb:Binds X.K fd ps ds) (hd:Vals dvs ds) (hx:sV CX X E)
  (ha:PA X (e::es) t) (hdb:(x == ("__debug__":Str))=false:=by decide) (he:starEach (e::es) X.env=(false,eval e X.env)::starEach es X.env:=by rfl) (hpl:(backTo pos (starEach es X.env)).any (·.1)=false:=by rfl) :
  PE X (.Call (.Name x p) (e::es) [] pos) (ZaK sp dvs E t):=by
 intro pins s σ H Q I h
 refine wpAny_Call_Name_kw (qK I hg hm ?_ hdb)
 refine PySem.W.callWith_K (h₀:=X.base) I.ok.mod.kin hk (thn (ha pos pins s σ H _ I h) λus s1 ⟨vs,H1,I1,r,q⟩=>⟨I1.kIn,?_⟩) he hpl
 exact Zgy F hr hb hd hx I1 r q
end
noncomputable def PK (X:Cx) (kws:List Keyword) (t:TA):Prop :=
 ∀ (pos:Pos) (pins:List (Addr×Obj)) (s:Shared) (σ:St) (H:Hp) (Q:List V->Hp->Prop),Inv X pins σ H s->t σ H Q->wpAny (model X.prog X.w) X.A (evalAll ((backToKw pos (keywordEach kws X.env)).map (·.2))) (AP X pins σ Q) X.xe s
section
variable {X:Cx} {CX:d4} {k:Nat} {f C:Addr} {fd:FuncData} {ps ks:List Str} {sp:Sp} {E:XK} {x m:Str} {p pos apos kpos:Pos} {e o:Expr} {es:List Expr} {kws:List Keyword} {te ta:TE} {t tk:TA} {nm:Option Str}
variable {g:List Value->List Value->List Value} {gV:List V->List V->List V}
end
structure FnScope (N P:List Str) (sc:Scope):Prop where
 kind:sc.kind=.function
 co:sc.isCoroutine=false
 gen:sc.isGenerator=false
 nd:N.Nodup
 pre:N.take P.length=P
 par:∀ x∈P,sc.names.lookup x=some .local\/sc.names.lookup x=some .cell
 nofree:∀ y∈sc.names,y.2≠.free
theorem Zel {kindOf:Str->Option NameKind} {x:Str}:∀ {binds:List (Str×Value)} {m:Str->Option Value},(∀ v,(x,v) ∉ binds)->bindL kindOf binds m x=m x
 | [],_,_=>rfl
 | (n,v)::r,m,h=>by
  unfold bindL
  rw [Zel λw hw=>h w (List.mem_cons_of_mem _ hw)]
  split
  ·have:x≠n:=by rintro rfl; exact h v List.mem_cons_self
   simp [this]
  ·rfl
theorem Zen {kindOf:Str->Option NameKind} {x:Str}:∀ {binds:List (Str×Value)} {m:Str->Option Value},(∀ v,(x,v) ∉ binds)->bindC kindOf binds m x=m x
 | [],_,_=>rfl
 | (n,v)::r,m,h=>by
  unfold bindC
  rw [Zen λw hw=>h w (List.mem_cons_of_mem _ hw)]
  split
  ·rfl
  ·have:x≠n:=by rintro rfl; exact h v List.mem_cons_self
   simp [this]
theorem Zem {kindOf:Str->Option NameKind} {x:Str} {v:Value}:∀ {P:List Str} {vs:List Value} {i:Nat} {m:Str->Option Value},P.Nodup->P[i]?=some x->vs[i]?=some v->kindOf x=some .local ->
  bindL kindOf (P.zip vs) m x=some v
 | [],_,_,_,_,h,_,_=>by simp at h
 | _::_,[],_,_,_,_,h,_=>by simp at h
 | p::P,w::vs,0,m,nd,h1,h2,hk=>by
  simp at h1 h2; subst h1; subst h2
  show bindL kindOf ((p,w)::P.zip vs) m p=_
  unfold bindL
  rw [Zel λv hv=>(List.nodup_cons.mp nd).1 (List.of_mem_zip hv).1,if_pos hk]
  simp
 | p::P,w::vs,i+1,m,nd,h1,h2,hk=>by
  show bindL kindOf ((p,w)::P.zip vs) m x=_
  unfold bindL
  exact Zem (i:=i) (List.nodup_cons.mp nd).2 (by simpa using h1) (by simpa using h2) hk
theorem Zeo {kindOf:Str->Option NameKind} {x:Str} {v:Value}:∀ {P:List Str} {vs:List Value} {i:Nat} {m:Str->Option Value},P.Nodup->P[i]?=some x->vs[i]?=some v->kindOf x≠some .local ->
  bindC kindOf (P.zip vs) m x=some v
 | [],_,_,_,_,h,_,_=>by simp at h
 | _::_,[],_,_,_,_,h,_=>by simp at h
 | p::P,w::vs,0,m,nd,h1,h2,hk=>by
  simp at h1 h2; subst h1; subst h2
  show bindC kindOf ((p,w)::P.zip vs) m p=_
  unfold bindC
  rw [Zen λv hv=>(List.nodup_cons.mp nd).1 (List.of_mem_zip hv).1,if_neg hk]
  simp
 | p::P,w::vs,i+1,m,nd,h1,h2,hk=>by
  show bindC kindOf ((p,w)::P.zip vs) m x=_
  unfold bindC
  exact Zeo (i:=i) (List.nodup_cons.mp nd).2 (by simpa using h1) (by simpa using h2) hk
noncomputable def start (N:List Str) (vs:List V):St:=vs.map some++List.replicate (N.length - vs.length) none
noncomputable def cD (CX:d4) (P:Program) (w:World) (K:PySem.W.Frag) (mg:Str->Option Value) (base:Heap) (N:List Str) (qual:Str) (scope:Scope) (f:Addr) (cd:Value) (A:Around) (outer:List Env) (s:Shared) (H:Hp) (E:XK):Cx where
 prog:=P
 w:=w
 K:=K
 mg:=mg
 base:=base
 A:=A.deeper (envOfC qual scope s.heap.objs.size f cd)
 N:=N
 s₀:=s
 H₀:=H
 env:=envOfC qual scope s.heap.objs.size f cd
 outer:=outer
 stack:=envOfC qual scope s.heap.objs.size f cd::outer
 ex:=[]
 calm:=true
 fn:=λ_=>true
 pn:=[]
 xe:=λe s'=>wpAny (model P w) (A.deeper (envOfC qual scope s.heap.objs.size f cd)) (leaving (envOfC qual scope s.heap.objs.size f cd) e) (λ_ s''=>CX outer H s E e s'') (λe' s''=>CX outer H s E e' s'') s'
theorem Zd6 {sc:Scope} {n:Nat} {x:Str} (h:sc.names.lookup x=some .cell):∃ c,(cellsFrom n sc.names []).lookup x=some c:=by
 have q:=PySem.W.cellsFrom_some sc.names n [] (.inl h)
 exact Option.isSome_iff_exists.mp q
theorem ZiZ {CX:d4} {P:Program} {w:World} {K:PySem.W.Frag} {mg:Str->Option Value} {base:Heap} {N ps:List Str} {qual:Str} {scope:Scope} {f:Addr} {cd:Value} {A:Around} {outer:List Env} {s s1:Shared} {H:Hp} {E:XK} {us:List Value} {vs:List V}
  (S:FnScope N ps scope) (hd:A.handled=none) (e0:Env0 P w K mg base A outer s H) (hl:vs.length=ps.length) (r:Vals vs us)
  (x:InCallC s s.heap.objs.size (bindL (envOfC qual scope s.heap.objs.size f cd).kindOf (ps.zip us) λ_=>none) (cellsFrom (s.heap.objs.size+1) scope.names []) (bindC (envOfC qual scope s.heap.objs.size f cd).kindOf (ps.zip us) λ_=>none) s1) :
  Inv (cD CX P w K mg base N qual scope f cd A outer s H E) [] (start N vs) H s1:=by
 have hpl:ps.length<=N.length:=by have:=congrArg List.length S.pre; rw [List.length_take] at this; omega
 obtain ⟨h1,tk,rfl,hk⟩:=x.done
 have noA:∀ b:Addr,b ∉ (cD CX P w K mg base N qual scope f cd A outer s H E).ex:=λb z=>absurd (show b∈([]:List Addr) from z) (by simp)
 refine ⟨⟨e0.mod,S.kind,rfl,rfl,Nat.le_refl _,λy z c h1 h2=>?_,λy hy=>?_,λy c _ h=>?_,λ_=>hd,Around.frames_deeper e0.frames,.inr ⟨rfl,rfl⟩,λb z=>absurd z (noA b),e0.bs,e0.bsz,λb _ _=>noA b,λb z=>absurd z (noA b),e0.funs,e0.frf⟩,
  rfl,e0.bare,Un.kept hk,⟨_,x.toInCall.ns,λi y v h1 h2 h3=>?_⟩,λy c h=>⟨_,x.cell y c h⟩,e0.hok.fresh (Nat.le_refl _),λy c h=>?_,λp hp=>absurd (show p∈([]:List (Addr×Obj)) from hp) (by simp),e0.hok.kept hk,?_⟩
 ·exact name_of_addr x.apart (PySem.mem_of_lookup h1) (PySem.mem_of_lookup h2)
 ·have hy:scope.names.lookup y=some .cell\/scope.names.lookup y=some .free:=hy
  rcases hy with hy | hy
  ·exact Zd6 hy
  ·exact absurd rfl (S.nofree _ (PySem.mem_of_lookup hy))
 ·exact Nat.le_of_lt (x.above y c (PySem.mem_of_lookup h))
 ·have hi:i < vs.length:=by
   unfold start at h2
   by_cases hi:i < vs.length
   ·exact hi
   ·rw [List.getElem?_append_right (by simpa using hi)] at h2
    rw [List.getElem?_replicate] at h2
    split at h2 <;> cases h2
  have ha:vs[i]?=some v:=by
   unfold start at h2
   rw [List.getElem?_append_left (by simpa using hi),List.getElem?_map] at h2
   cases e:vs[i]? with
   | none=>rw [e] at h2; cases h2
   | some a=>rw [e] at h2; cases h2; rfl
  obtain ⟨u,hu,rv⟩:=r.get ha
  have hp:ps[i]?=some y:=by
   rw [<- S.pre,List.getElem?_take_of_lt (by omega)]; exact h1
  have ndP:ps.Nodup:=by rw [<- S.pre]; exact S.nd.sublist (List.take_sublist _ _)
  refine ⟨u,rv,?_⟩
  rcases S.par y (List.mem_of_getElem? hp) with k | k
  ·exact .inl ⟨k,Zem ndP hp hu k⟩
  ·obtain ⟨c,e⟩:=Zd6 (n:=s.heap.objs.size+1) k
   refine .inr ⟨.inl k,c,e,?_⟩
   have q:=x.cell y c e
   rw [Zeo ndP hp hu (by show scope.names.lookup y≠_; rw [k]; decide)] at q
   exact q
 ·exact e0.hok.fresh (Nat.le_of_lt (x.above y c (PySem.mem_of_lookup h)))
 ·unfold start
  show _=N.length
  rw [List.length_append,List.length_map,List.length_replicate]
  omega
theorem Zdg {CX:d4} {P:Program} {w:World} {K:PySem.W.Frag} {mg:Str->Option Value} {base:Heap} {k:Nat} {f:Addr} {name qual:Str} {params:Arguments} {body:List Stmt} {scope:Scope} {dV kV doc pm cdv ct oc:Value} {an od:Option Addr}
  {osl:Array (Option Value)} {N ps:List Str} {sp:Sp} (lk:K.lookup f=some ⟨oc,od,.func (PySem.W.fnOf name qual params body scope dV kV doc pm an cdv ct),osl⟩) (hcd:PySem.W.codeIn K cdv qual=true) (S:FnScope N ps scope)
  (len:∀ vs H Q E,sp vs H Q E->vs.length=ps.length)
  (hbody:∀ (A:Around) (outer:List Env) (s:Shared) (H:Hp) (vs:List V) (Q:VK) (E:XK),Room k (A.deeper (envOfC qual scope s.heap.objs.size f cdv))->sp vs H Q E ->
   ∃ t,PSs (cD CX P w K mg base N qual scope f cdv A outer s H E) body t/\t { nx:=λ_ H'=>Q .non H',rt:=Q } (start N vs) H) :
  FnOk P w K mg base CX (k+1) f (PySem.W.fnOf name qual params body scope dV kV doc pm an cdv ct) ps sp:=by
 refine ⟨len,λA outer s H args us vs Q E hr e0 hb r hsp=>?_⟩
 have hl:=len _ _ _ _ hsp
 have KX:K.In s.heap:=e0.mod.kin.keeps λb o e=>(e0.bs b o e).1
 have lim:s.heap.NoLimit:=e0.mod.nolimit.keeps λb o e=>(e0.bs b o e).1
 have hkind:∀ y∈ps.zip us,scope.names.lookup y.1=some .local\/(scope.names.lookup y.1=some .cell/\((cellsFrom (s.heap.objs.size+1) scope.names []).lookup y.1).isSome=true):=λ⟨n,v⟩ hy=>by
  rcases S.par n (List.of_mem_zip hy).1 with q | q
  ·exact .inl q
  ·exact .inr ⟨q,PySem.W.cellsFrom_some _ _ _ (.inl q)⟩
 refine codeAny_call_function hr.depth (KX _ _ lk) rfl S.co S.gen rfl (PySem.W.codeRec_of KX hcd) (hb _ _ _ _ ?_)
 refine wpAny_newFunctionEnv_cells S.kind hkind λenv he s1 x=>?_
 subst he
 refine ⟨lim.keeps x.toInCall.keep,codeAny_func ?_⟩
 obtain ⟨t,ht,hq⟩:=hbody A outer s H vs Q E (hr.deeper _) hsp
 have I:Inv (cD CX P w K mg base N qual scope f cdv A outer s H E) [] (start N vs) H s1:=ZiZ S hr.hd e0 hl r x
 refine wpAny_mono (ht [] s1 (start N vs) H _ I hq) (λfl s' hs=>?_) λe s' hs=>hs
 have fin:∀ {σ':St} {H':Hp} {v:V} {u:Value},Inv (cD CX P w K mg base N qual scope f cdv A outer s H E) [] σ' H' s'->RelV v u->Q v H'->CE outer P w H s Q u s' :=
  λ{σ' H' v u} J rv q=>⟨v,H',J.os,J.bare,J.base,J.hok,rv,q⟩
 cases fl with
 | ret u =>
  obtain ⟨v,σ',H',J,rv,q⟩:=hs
  exact fin J rv q
 | next =>
  obtain ⟨σ',H',J,q⟩:=hs
  exact fin (v:=V.non) (u:=Value.none) J rfl q
 | brk =>
  obtain ⟨_,_,_,q⟩:=hs
  exact False.elim q
 | cont =>
  obtain ⟨_,_,_,q⟩:=hs
  exact False.elim q
section
variable {X:Cx} {x:Str} {p pos:Pos} {e:Expr} {es:List Expr} {t:TA} {id T:String} {r:List V->Hp->VK->Prop}
noncomputable def gl (r:List V->Hp->VK->Prop) (t:TA):TE:=λσ H Q=>t σ H λvs H1=>r vs H1 Q
theorem a9 (hc:cR X (.builtin id) r) (hg:Gl X x) (hm:X.mg x=none) (hv:bootBuiltins x=some (.builtin id)) (ha:PA X (e::es) t) (hn:x≠"__name__":=by decide) (hdb:(x == ("__debug__":Str))=false:=by decide)
  (he:starEach (e::es) X.env=(false,eval e X.env)::starEach es X.env:=by rfl) (hpl:(backTo pos (starEach es X.env)).any (·.1)=false:=by rfl):PE X (.Call (.Name x p) (e::es) [] pos) (gl r t):=by
 intro pins s σ H Q I h
 refine wpAny_Call_Name_kw (hX I hg hm hv ?_ hn hdb)
 exact PyProof.Rows.callWith_builtin1 (thn (ha pos pins s σ H _ I h) λus s1 ⟨vs,H1,I1,r1,q1⟩=>hc pins s1 σ H1 vs us Q I1 r1 q1) he hpl
theorem fE (hc:cR X (.type T) r) (hg:Gl X x) (hm:X.mg x=none) (hv:bootBuiltins x=some (.type T)) (ha:PA X (e::es) t) (hn:x≠"__name__":=by decide) (hdb:(x == ("__debug__":Str))=false:=by decide)
  (he:starEach (e::es) X.env=(false,eval e X.env)::starEach es X.env:=by rfl) (hpl:(backTo pos (starEach es X.env)).any (·.1)=false:=by rfl):PE X (.Call (.Name x p) (e::es) [] pos) (gl r t):=by
 intro pins s σ H Q I h
 refine wpAny_Call_Name_kw (hX I hg hm hv ?_ hn hdb)
 exact PyProof.Rows.callWith_type1 (thn (ha pos pins s σ H _ I h) λus s1 ⟨vs,H1,I1,r1,q1⟩=>hc pins s1 σ H1 vs us Q I1 r1 q1) he hpl
end
end L2
namespace HT
open PySem PyProof.Rows
noncomputable def cJ:List Int->List Int->Bool
 | [],[]=>false
 | [],_::_=>true
 | _::_,[]=>false
 | x::xs,y::ys=>if x=y then cJ xs ys else decide (x < y)
theorem ZcL (x y:Int) (xs ys:List Int):cJ (x::xs) (y::ys)=if x=y then cJ xs ys else decide (x < y):=rfl
theorem ZcK:cJ [] []=false:=rfl
theorem Zir (y:Int) (ys:List Int):cJ [] (y::ys)=true:=rfl
theorem Zis (x:Int) (xs:List Int):cJ (x::xs) []=false:=rfl
theorem ZlR (A:Around) (s:Shared) (a:Int) (t:Tok) (c:Int) (u:Tok):∃ e,SeqAt.EqAt A s (.int a t) (.int c u) e/\(e=true ↔ a=c) :=
 ⟨(a == c),SeqAt.EqAt.int_int a t c u,by simp⟩
theorem ZgM (A:Around) (s:Shared) (a:Int) (t:Tok) (c:Int) (u:Tok) (prog:Program) (w:World) (E:Value->Shared->Prop) (Q:Value->Shared->Prop) (h:Q (.bool (decide (a < c))) s) :
  wpAny (model prog w) A (richCompare .Lt (.int a t) (.int c u)) Q E s :=
 (PyProof.Rows.lt_int h:wpAny (model prog w) A (compareOp .Lt (.int a t) (.int c u)) Q E s)
section
open PySem.SeqAt
open PySem.AutoSeq1 (wpAny_loadPart')
open PySem.MeetsSeq PySem.MeetsSeq2 PySem.MeetsSeq3
theorem Zfz (l b:Addr) (items items2:Array Value) (n n2:Nat) (dd dd2:Option Addr) (sl cV:Array (Option Value)) (ns ms:List Int) (hi:IntsAre items.toList ns) (hj:IntsAre items2.toList ms) :
  Meets (Builtin.«tuple.__lt__» ⟨[.ref l,.ref b],[]⟩)
   (λ_ R s=>s.heap.get? l=some { cls:=.type "tuple",dict:=dd,data:=.seq items n,slots:=sl }/\s.heap.get? b=some { cls:=.type "tuple",dict:=dd2,data:=.seq items2 n2,slots:=cV } /\
    R (.ok (.ret (.bool (cJ ns ms)))) s) :=
 .of_wp λprog w A R s h=>by
  obtain ⟨hp,g,d,tk,os⟩:=s; obtain ⟨hl,hb,h⟩:=h
  have f2:=AutoSeq1.sub_tuple_tuple
  have z1:items.size=ns.length:=by rw [<- hi.length]; simp
  have z2:items2.size=ms.length:=by rw [<- hj.length]; simp
  wp_walk using wpAny_loadPart' hl,wpAny_loadPart' hb,wpAny_forIn_list _ (λrest b s'=>b.1=none/\s'=⟨hp,g,d,tk,os⟩/\∃ (vs ws:List Value) (ns' ms':List Int),rest=vs.zip ws /\
   IntsAre vs ns'/\IntsAre ws ms'/\ns'.length+items2.size=ms'.length+items.size/\R (.ok (.ret (.bool (cJ ns' ms')))) ⟨hp,g,d,tk,os⟩) _
  case turn =>
   rintro ⟨y,x⟩ rest b s' ⟨hb',rfl,vs,ws,ns',ms',hz,hvi,hwi,hlen,hR⟩
   cases hvi with
   | nil=>rw [List.zip_nil_left] at hz; cases hz
   | cons a t hvi' =>
    cases hwi with
    | nil=>rw [List.zip_nil_right] at hz; cases hz
    | cons c u hwi' =>
     rw [List.zip_cons_cons] at hz
     injection hz with hyx hrest
     injection hyx with hy hx
     subst hy hx
     rw [ZcL] at hR
     simp only [List.length_cons] at hlen
     obtain ⟨e,he,hiff⟩:=ZlR A.in1 ⟨hp,g,d,tk,os⟩ a t c u
     refine wpAny_bind (he prog w _ _ ?_)
     cases e with
     | true =>
      rw [if_pos (hiff.mp rfl)] at hR
      wp_walk
      exact ⟨rfl,rfl,_,_,_,_,hrest,hvi',hwi',by omega,hR⟩
     | false =>
      rw [if_neg (λq=>absurd (hiff.mpr q) Bool.false_ne_true)] at hR
      have hri:=ZgM A.in1 ⟨hp,g,d,tk,os⟩ a t c u prog w
      wp_walk using hri
      exact ⟨_,rfl,by simpa using hR⟩
  case fin =>
   rintro ⟨b1,b2⟩ s' ⟨hb',rfl,vs,ws,ns',ms',hz,hvi,hwi,hlen,hR⟩
   simp only at hb'
   subst hb'
   have hv:cJ ns' ms'=decide (items.size < items2.size):=by
    cases hvi with
    | nil =>
     cases hwi with
     | nil =>
      simp only [List.length_nil] at hlen
      rw [ZcK]
      exact (decide_eq_false (by omega)).symm
     | cons c u hw =>
      simp only [List.length_nil,List.length_cons] at hlen
      rw [Zir]
      exact (decide_eq_true (by omega)).symm
    | cons a t hv =>
     cases hwi with
     | nil =>
      simp only [List.length_nil,List.length_cons] at hlen
      rw [Zis]
      exact (decide_eq_false (by omega)).symm
     | cons c u hw =>
      rw [List.zip_cons_cons] at hz
      cases hz
   rw [hv] at hR
   wp_walk
   exact ⟨_,rfl,by simpa [Builtin.Tuple.tupleCompareSizes] using hR⟩
  case h =>
   exact ⟨rfl,rfl,items.toList,items2.toList,ns,ms,rfl,hi,hj,by omega,h⟩
end
section
variable {prog:Program} {w:World} {A:Around} {E:Value->Shared->Prop} {s:Shared}
theorem Zil {l b:Addr} {items items2:Array Value} {ns ms:List Int} {Q:Value->Shared->Prop} (hl:IsTup s.heap l items) (hb:IsTup s.heap b items2) (hi:IntsAre items.toList ns) (hj:IntsAre items2.toList ms)
  (hu:A.units < cLine) (h:Q (.bool (cJ ns ms)) s):wpAny (model prog w) A (compareOp .Lt (.ref l) (.ref b)) Q E s:=by
 obtain ⟨⟨cls,dd,data,sl⟩,ho,hc,n,hd⟩:=id hl
 obtain ⟨⟨cls2,dd2,data2,cV⟩,ho2,hc2,n2,hd2⟩:=id hb
 simp only at hc hd hc2 hd2
 subst hc hd hc2 hd2
 exact richCompare_meets_room (op:=.Lt) ⟨_,ho,rfl⟩ ⟨_,ho2,rfl⟩ PySem.F.slot_tuple_lt PySem.F.entry_tuple_lt (PySem.F.args_tuple_lt_2 _ _) (Zfz l b items items2 n n2 dd dd2 sl cV ns ms hi hj)
  ⟨ho,ho2,show Value.bool (cJ ns ms)≠Value.notImplemented/\Q (.bool (cJ ns ms)) s from ⟨(λx=>nomatch x),h⟩⟩ hu
theorem Zm9 {t b:Addr} {vs ws:List Value} {Q:Value->Shared->Prop} (ht:IsTup s.heap t vs.toArray) (hb:IsTup s.heap b ws.toArray) (hv:vs≠[])
  (h1:ws=[]->Q (.ref t) s) (h2:ws≠[]->Q (.ref s.heap.objs.size) { s with heap:=s.heap.push { cls:=.type "tuple",data:=.seq (vs++ws).toArray } })
  (hsz:vs.length+ws.length<=sizeLine):wpAny (model prog w) A (binaryOp .Add (.ref t) (.ref b)) Q E s:=by
 obtain ⟨⟨cls,dd,data,sl⟩,ho,hc,n,hd⟩:=id ht
 obtain ⟨⟨cls2,dd2,data2,cV⟩,ho2,hc2,n2,hd2⟩:=id hb
 simp only at hc hd hc2 hd2
 subst hc hd hc2 hd2
 have e:vs.toArray++ws.toArray=(vs++ws).toArray:=by simp
 by_cases hw:ws=[]
 ·exact concat_meets ⟨_,ho,rfl⟩ ⟨_,ho2,rfl⟩ noFill_tuple_add seq_tuple_add PySem.F.slot_tuple_add PySem.F.entry_tuple_add (PySem.F.args_tuple_add_2 _ _)
   (tuple_addW1 t b vs.toArray ws.toArray n n2 dd dd2 sl cV (by simpa using hv) (by simp [hw])) ⟨ho,ho2,h1 hw⟩
 ·refine concat_meets ⟨_,ho,rfl⟩ ⟨_,ho2,rfl⟩ noFill_tuple_add seq_tuple_add PySem.F.slot_tuple_add PySem.F.entry_tuple_add (PySem.F.args_tuple_add_2 _ _)
   (tuple_addW2 t b vs.toArray ws.toArray n n2 dd dd2 sl cV (by simpa using hv) (by simpa using hw) (by rw [List.size_toArray,List.size_toArray]; exact hsz)) ⟨ho,ho2,?_⟩
  rw [e]
  exact h2 hw
noncomputable def aA (n d:Nat):Option Int->Nat
 | none=>d
 | some v=>if v < 0 then (v+(n:Int)).toNat else min v.toNat n
theorem pJ (n d:Nat):aA n d none=d:=rfl
theorem mr (n d k:Nat):aA n d (some (k:Int))=min k n:=by
 show (if (k:Int) < 0 then ((k:Int)+(n:Int)).toNat else min (k:Int).toNat n)=min k n
 rw [if_neg (by omega),Int.toNat_natCast]
theorem Zgx (n d:Nat) (hd:d<=n) (o:Option Int):aA n d o<=n:=by
 cases o with
 | none=>exact hd
 | some v =>
  show (if v < 0 then (v+(n:Int)).toNat else min v.toNat n)<=n
  by_cases hv:v < 0
  ·rw [if_pos hv]; omega
  ·rw [if_neg hv]; exact Nat.min_le_right _ _
theorem Zd5 (v:Int) (n d:Nat):(if v < 0 then max (v+(n:Int)) 0 else min v (n:Int))=((aA n d (some v):Nat):Int):=by
 show (if v < 0 then max (v+(n:Int)) 0 else min v (n:Int))=(((if v < 0 then (v+(n:Int)).toNat else min v.toNat n):Nat):Int)
 by_cases hv:v < 0
 ·rw [if_pos hv,if_pos hv,Int.ofNat_toNat]
 ·rw [if_neg hv,if_neg hv]
  obtain ⟨k,rfl⟩:=Int.eq_ofNat_of_zero_le (Int.not_lt.mp hv)
  rw [Int.toNat_natCast,<- Lean.Omega.Int.ofNat_min]
theorem Zof (lo hi:Option Int) (n:Nat):Builtin.Slice.sliceAdjust lo hi 1 (n:Int)=(((aA n 0 lo:Nat):Int),((aA n n hi:Nat):Int)):=by
 have h1:¬ ((1:Int) < 0):=by omega
 unfold Builtin.Slice.sliceAdjust
 simp only [h1,if_false]
 refine Prod.ext ?_ ?_
 ·cases lo with
  | none=>rfl
  | some v=>exact Zd5 v n 0
 ·cases hi with
  | none=>rfl
  | some v=>exact Zd5 v n n
theorem Zhb (i j:Nat):Builtin.Slice.slicePlaces (i:Int) (j:Int) 1=j - i:=by
 unfold Builtin.Slice.slicePlaces
 have h1:(1:Int) > 0:=by omega
 simp only [h1,if_true,Int.ediv_one]
 split <;> omega
theorem ZaZ {v:Value} {o:Option Int} {Q:Option Int->Shared->Prop} (p:IsPart v o) (h:Q o s):wpAny (model prog w) A (Builtin.Slice.slicePartIndex v) Q E s:=by
 cases p with
 | none=>exact slicePart_none h
 | int i t=>exact slicePart_int h
theorem Za1 {sl:Addr} {vl vu:Value} {lo hi:Option Int} {n:Nat} {Q:Int×Int×Nat->Shared->Prop} (hs:s.heap.IsSliceOf sl vl vu .none) (pl:IsPart vl lo) (pu:IsPart vu hi)
  (h:Q (((aA n 0 lo:Nat):Int),1,aA n n hi - aA n 0 lo) s):wpAny (model prog w) A (Builtin.Slice.sliceApplied (.ref sl) (pure (n:Int))) Q E s:=by
 obtain ⟨os,hos,hcs,hds⟩:=id hs
 unfold Builtin.Slice.sliceApplied Builtin.Slice.sliceFields
 refine wpAny_bind (wpAny_bind (wpAny_field hos hds (x:=vl) rfl (wpAny_bind (wpAny_field hos hds (x:=vu) rfl (wpAny_bind (wpAny_field hos hds (x:=.none) rfl (wpAny_pure ?_)))))))
 refine wpAny_bind (slicePart_none ?_)
 show wpAny _ _ (if ((1:Int) == 0)=true then _ else _) _ _ s
 rw [if_neg (by decide)]
 refine wpAny_bind (ZaZ pl (wpAny_bind (ZaZ pu (wpAny_bind (wpAny_pure ?_)))))
 show wpAny _ _ (match Builtin.Slice.sliceAdjust lo hi 1 (n:Int) with | (lo,hi)=>pure (lo,(1:Int),Builtin.Slice.slicePlaces lo hi 1)) _ _ s
 rw [Zof lo hi n]
 show wpAny _ _ (pure (((aA n 0 lo:Nat):Int),(1:Int),Builtin.Slice.slicePlaces ((aA n 0 lo:Nat):Int) ((aA n n hi:Nat):Int) 1)) _ _ s
 rw [Zhb]
 exact wpAny_pure h
theorem Zhc (xs:Array Value) (i k:Nat):((List.range k).filterMap λ(m:Nat)=>xs[((i:Int)+(m:Int) * 1).toNat]?).toArray=((xs.toList.drop i).take k).toArray:=by
 have e:(λ(m:Nat)=>xs[((i:Int)+(m:Int) * 1).toNat]?)=λm=>xs[i+m]?:=by
  funext m
  have:((i:Int)+(m:Int) * 1).toNat=i+m:=by omega
  rw [this]
 rw [e]
 have:=pick_run xs i k
 rw [List.filterMap_map] at this
 have e2:((λx=>xs[x]?) ∘ λx=>i+x)=λm=>xs[i+m]?:=rfl
 rw [e2] at this
 rw [this]
theorem Zi8 {t sl:Addr} {items:Array Value} {vl vu:Value} {lo hi:Option Int} {Q:Value->Shared->Prop} (ht:IsTup s.heap t items) (hs:s.heap.IsSliceOf sl vl vu .none) (pl:IsPart vl lo) (pu:IsPart vu hi)
  (hw:¬ (aA items.size 0 lo=0/\aA items.size items.size hi=items.size))
  (h:Q (.ref s.heap.objs.size) { s with heap:=s.heap.push { cls:=.type "tuple",data:=.seq ((items.toList.drop (aA items.size 0 lo)).take (aA items.size items.size hi - aA items.size 0 lo)).toArray } })
  (hsz:items.size<=sizeLine):wpAny (model prog w) A (getItem (.ref t) (.ref sl)) Q E s:=by
 have htake:sizeOk (.seq ((items.toList.drop (aA items.size 0 lo)).take (aA items.size items.size hi - aA items.size 0 lo)).toArray):=by
  show ((items.toList.drop (aA items.size 0 lo)).take (aA items.size items.size hi - aA items.size 0 lo)).toArray.size<=sizeLine
  rw [List.size_toArray,List.length_take,List.length_drop,Array.length_toList]
  exact Nat.le_trans (Nat.min_le_right _ _) (Nat.le_trans (Nat.sub_le _ _) hsz)
 have hj:aA items.size items.size hi<=items.size:=Zgx _ _ (Nat.le_refl _) hi
 obtain ⟨os,hos,hcs,hds⟩:=id hs
 have hTs:s.TypeIs (.ref sl) "slice":=⟨os,hos,hcs⟩
 unfold getItem
 try with_reducible refine wpAny_holding ?_
 first | refine wpAny_bind (wpAny_pure ?_) | skip
 refine wpAny_bind (wpAny_sequenceKey ht.typeIs (by decide) ?_)
 refine wpAny_bind (wpAny_callSpecial?_slot (name:=Str.ofString "__getitem__") ht.typeIs PyProof.Rows.slot_tuple_getitem
  (wpAny_call_entry PyProof.Rows.slot_tuple_getitem ht.typeIs entry_tuple_getitem ?_ (args_tuple_getitem _ _)))
 show wpAny _ _ (Builtin.Tuple.tupleItemsOf (.ref t) >>= _) _ _ s
 refine wpAny_bind (tupleItemsOf_ ht ?_)
 refine wpAny_bind (wpAny_typeOf hTs ?_)
 rw [if_pos (by decide)]
 refine wpAny_bind (Za1 hs pl pu ?_)
 have hno:¬ ((((aA items.size 0 lo:Nat):Int) == 0 && (1:Int) == 1 && (aA items.size items.size hi - aA items.size 0 lo) == items.size)=true):=by
  intro q
  rw [Bool.and_eq_true,Bool.and_eq_true] at q
  have q1:((aA items.size 0 lo:Nat):Int)=0:=eq_of_beq q.1.1
  have q2:aA items.size items.size hi - aA items.size 0 lo=items.size:=eq_of_beq q.2
  exact hw ⟨by omega,by omega⟩
 show wpAny _ _ (if (((aA items.size 0 lo:Nat):Int) == 0 && (1:Int) == 1 && (aA items.size items.size hi - aA items.size 0 lo) == items.size)=true then _ else _) _ _ s
 rw [if_neg hno,Zhc]
 first
  | exact wpAny_bind (m:=Builtin.Tuple.tupleExact _) (wpAny_newObj_type (wpAny_pure ⟨_,rfl,wpAny_pure h⟩) htake)
  | exact wpAny_bind (m:=Builtin.Tuple.tupleExact _) (wpAny_newObj_type (wpAny_bind (wpAny_pure (wpAny_pure ⟨_,rfl,wpAny_pure h⟩))) htake)
  | exact wpAny_bind (wpAny_bind (m:=Builtin.Tuple.tupleExact _) (wpAny_newObj_type (wpAny_pure (wpAny_pure ⟨_,rfl,wpAny_pure h⟩)) htake))
  | exact wpAny_bind (wpAny_bind (m:=Builtin.Tuple.tupleExact _) (wpAny_newObj_type (wpAny_pure ⟨_,rfl,wpAny_pure h⟩) htake))
end
end HT
namespace L2
open PySem PySem.Spec PyProof.Rows
noncomputable abbrev TO:=St->Hp->(Option Int->Hp->Prop)->Prop
noncomputable def PO (X:Cx) (e:Option Expr) (t:TO):Prop :=
 ∀ (pins:List (Addr×Obj)) (s:Shared) (σ:St) (H:Hp) (Q:Option Int->Hp->Prop),Inv X pins σ H s->t σ H Q ->
  wpAny (model X.prog X.w) X.A (evalPart e X.env) (λu s'=>∃ o H',Inv X pins σ H' s'/\IsPart u o/\Q o H') X.xe s
noncomputable def ZfN:TO:=λ_ H Q=>Q none H
noncomputable def ZfK (t:TE):TO:=λσ H Q=>t σ H λx H1=>∃ i,x=.int i/\Q (some i) H1
theorem Zc0 {ns:List Int}:∀ {us:List Value},Vals (ns.map V.int) us->IntsAre us ns:=by
 induction ns with
 | nil=>intro us r; rw [List.map_nil] at r; cases r; exact .nil
 | cons n ns ih =>
  intro us r
  rw [List.map_cons] at r
  cases r with
  | cons r1 r2 =>
   obtain ⟨t,e⟩:=r1
   subst e
   exact .cons n t (ih r2)
section
variable {X:Cx} {e:Expr} {te:TE} {lo hi:Option Expr} {tl th:TO} {pos p2:Pos}
theorem Zb4:PO X none ZfN:=by
 intro pins s σ H Q I h
 rw [evalPart_none]
 exact wpAny_pure ⟨none,H,I,.none,h⟩
theorem Zb3 (h:PE X e te):PO X (some e) (ZfK te):=by
 intro pins s σ H Q I hw
 rw [evalPart_some]
 refine thn (h pins s σ H _ I hw) λu s1 hz0=>?_
 obtain ⟨x,H1,I1,r1,q1⟩:=hz0
 obtain ⟨i,rfl,q⟩:=q1
 obtain ⟨t,rfl⟩:=r1
 exact ⟨some i,H1,I1,.int i t,q⟩
noncomputable def SlR (X:Cx) (r:V->Option Int->Option Int->Hp->VK->Prop):Prop :=
 ∀ (pins:List (Addr×Obj)) (s:Shared) (σ:St) (H:Hp) (x:V) (v vl vu:Value) (lo hi:Option Int) (sl:Addr) (Q:VK),Inv X pins σ H s->RelV x v->s.heap.IsSliceOf sl vl vu .none->IsPart vl lo->IsPart vu hi->r x lo hi H Q ->
  ∃ T id,typeLookup (.type T) "__getitem__"=pure (some (.builtin id))/\s.TypeIs v T/\wpAny (model X.prog X.w) X.A (getItem v (.ref sl)) (EP X pins σ Q) X.xe s
theorem SlR.or {r r':V->Option Int->Option Int->Hp->VK->Prop} (h:SlR X r) (h':SlR X r'):SlR X (λx lo hi H Q=>r x lo hi H Q\/r' x lo hi H Q):=by
 intro pins s σ H x v vl vu lo hi sl Q I rx hs pl pu q
 rcases q with q | q
 ·exact h pins s σ H x v vl vu lo hi sl Q I rx hs pl pu q
 ·exact h' pins s σ H x v vl vu lo hi sl Q I rx hs pl pu q
noncomputable def tSl (r:V->Option Int->Option Int->Hp->VK->Prop) (te:TE) (tl th:TO):TE:=λσ H Q=>te σ H λx H1=>tl σ H1 λl H2=>th σ H2 λu H3=>r x l u H3 Q
theorem Zb8 {r:V->Option Int->Option Int->Hp->VK->Prop} (hr:SlR X r) (he:PE X e te) (hl:PO X lo tl) (hu:PO X hi th):PE X (.Subscript e (.Slice lo hi none p2) pos) (tSl r te tl th):=by
 intro pins s σ H Q I h
 refine Subscript_ (thn (he pins s σ H _ I h) λv s1 hz0=>?_)
 obtain ⟨x,H1,I1,r1,q1⟩:=hz0
 refine wpAny_Slice (thn (hl pins s1 σ H1 _ I1 q1) λvl s2 ⟨l,H2,I2,pl,q2⟩=>thn (hu pins s2 σ H2 _ I2 q2) λvu s3 hz0=>?_)
 obtain ⟨u,H3,I3,pu,q3⟩:=hz0
 rw [evalPart_none]
 refine wpAny_pure ?_
 have I4:Inv X pins σ H3 { s3 with heap:=s3.heap.push { cls:=.type "slice",data:=.fields #[vl,vu,.none] } }:=I3.kept (t':=s3.toks) λb ob q=>Heap.get?_push_of_some _ q
 obtain ⟨T,id,hT,ht,hg⟩:=hr pins { s3 with heap:=s3.heap.push { cls:=.type "slice",data:=.fields #[vl,vu,.none] } } σ H3 x v vl vu l u s3.heap.objs.size Q I4 r1 (Heap.IsSliceOf.new ..) pl pu q3
 show wpAny (model X.prog X.w) X.A (subscriptTail e (.Slice lo hi none p2) v (.ref s3.heap.objs.size)) (EP X pins σ Q) X.xe { s3 with heap:=s3.heap.push { cls:=.type "slice",data:=.fields #[vl,vu,.none] } }
 exact tail_any (ops:=[.ref s3.heap.objs.size,v]) ht hT hg (by with_unfolding_all rfl)
noncomputable def eU (xs:List V) (lo hi:Option Int):List V:=(xs.drop (HT.aA xs.length 0 lo)).take (HT.aA xs.length xs.length hi - HT.aA xs.length 0 lo)
theorem Zd0 (xs:List V) (lo hi:Option Int):(eU xs lo hi).length<=xs.length:=by
 unfold eU
 rw [List.length_take,List.length_drop]
 exact Nat.le_trans (Nat.min_le_right _ _) (Nat.sub_le _ _)
noncomputable def Zbx (K:PySem.W.Frag):V->Option Int->Option Int->Hp->VK->Prop:=λx lo hi H Q=>∃ a xs,x=.ref a/\SqT K H a xs /\
 ¬ (HT.aA xs.length 0 lo=0/\HT.aA xs.length xs.length hi=xs.length)/\∀ p,H p=none->Q (.ref p) (upd H p (.tup (eU xs lo hi)))
theorem Zf5:SlR X (Zbx X.K):=by
 intro pins s σ H x v vl vu lo hi sl Q I rx hs pl pu h
 obtain ⟨a,xs,rfl,hx,hw,q⟩:=h
 cases rx
 obtain ⟨its,r,ht,hz⟩:=I.tuple hx
 have hlen:its.toArray.size=xs.length:=by rw [List.size_toArray]; exact r.length.symm
 refine ⟨"tuple",_,PyProof.Rows.slot_tuple_getitem.lookup,ht.typeIs,?_⟩
 refine HT.Zi8 ht hs pl pu (by rw [hlen]; exact hw) ?_ (by rw [hlen]; exact hz)
 rw [hlen]
 refine ⟨.ref s.heap.objs.size,_,I.laid (t':=s.toks) (o:=.tup (eU xs lo hi)) (λb ob q=>Heap.get?_push_of_some _ q) (Nat.le_refl _) ?_,rfl,q _ (I.hok.fresh (Nat.le_refl _))⟩
 exact ⟨Nat.le_trans (Zd0 xs lo hi) hz,_,(r.drop (HT.aA xs.length 0 lo)).take (HT.aA xs.length xs.length hi - HT.aA xs.length 0 lo),IsTup.new _ _⟩
noncomputable def ZbQ (K:PySem.W.Frag):R2:=λx y H Q=>∃ a b xs ys,x=.ref a/\y=.ref b/\SqT K H a xs/\SqT K H b ys/\xs≠[]/\xs.length+ys.length<=sizeLine /\
 (ys=[]->Q (.ref a) H)/\(ys≠[]->∀ p,H p=none->Q (.ref p) (upd H p (.tup (xs++ys))))
theorem Vals.nil_iff {xs:List V} {us:List Value} (r:Vals xs us):us=[] ↔ xs=[]:=by
 cases r with
 | nil=>simp
 | cons _ _=>simp
theorem ZhK:OpR X (binaryOp .Add) (ZbQ X.K):=by
 intro pins s σ H x y v u Q I rx ry h
 obtain ⟨a,b,xs,ys,rfl,rfl,ha,hb,hx,hz,q1,q2⟩:=h
 cases rx
 cases ry
 obtain ⟨its,r1,p1,_⟩:=I.tuple ha
 obtain ⟨its2,r2,p2,_⟩:=I.tuple hb
 refine HT.Zm9 p1 p2 (λz=>hx (r1.nil_iff.mp z)) (λz=>⟨.ref a,H,I,rfl,q1 (r2.nil_iff.mp z)⟩) (λz=>?_) (by rw [<- r1.length,<- r2.length]; exact hz)
 refine ⟨.ref s.heap.objs.size,_,I.laid (t':=s.toks) (o:=.tup (xs++ys)) (λb ob q=>Heap.get?_push_of_some _ q) (Nat.le_refl _) ?_,rfl,q2 (λw=>z (r2.nil_iff.mpr w)) _ (I.hok.fresh (Nat.le_refl _))⟩
 exact ⟨by rw [List.length_append]; exact hz,_,r1.append r2,IsTup.new _ _⟩
end
noncomputable def df (n:Nat) (i:Int):Option Nat:=if 0<=i then (if i < n then some i.toNat else none) else if -(n:Int)<=i then some (i+n).toNat else none
noncomputable def bf {α:Type} (xs:List α) (i:Int):Option α:=(df xs.length i).bind λj=>xs[j]?
theorem ZcT {n:Nat} {i:Int} {j:Nat} (h:df n i=some j):seqIndex? i n=some j/\j < n/\-(n:Int)<=i/\i < n:=by
 unfold df at h
 by_cases h0:0<=i
 ·rw [if_pos h0] at h
  by_cases h1:i < n
  ·rw [if_pos h1] at h
   have e:i.toNat=j:=Option.some.inj h
   exact ⟨by rw [seqIndex_of h0 h1,e],by omega,by omega,h1⟩
  ·rw [if_neg h1] at h; cases h
 ·rw [if_neg h0] at h
  by_cases h1:-(n:Int)<=i
  ·rw [if_pos h1] at h
   have e:(i+n).toNat=j:=Option.some.inj h
   exact ⟨by rw [seqIndex_neg (by omega) h1,e],by omega,h1,by omega⟩
  ·rw [if_neg h1] at h; cases h
theorem oq {α:Type} {xs:List α} {i:Int} {v:α} (h:bf xs i=some v):∃ j,seqIndex? i xs.length=some j/\xs[j]?=some v/\j < xs.length/\-(xs.length:Int)<=i/\i < xs.length:=by
 unfold bf at h
 cases e:df xs.length i with
 | none=>rw [e] at h; cases h
 | some j =>
  rw [e] at h
  obtain ⟨h1,h2,h3,h4⟩:=ZcT e
  exact ⟨j,h1,h,h2,h3,h4⟩
theorem fq {α:Type} {xs:List α} {j:Nat} {v:α} (h:xs[j]?=some v):bf xs (j:Int)=some v:=by
 have hj:j < xs.length:=(List.getElem?_eq_some_iff.mp h).1
 have e:df xs.length (j:Int)=some j:=by
  unfold df
  rw [if_pos (by omega),if_pos (by omega)]; simp
 unfold bf; rw [e]; exact h
noncomputable def sU (b:Expr):Prop:=∀ o i,subscripted b false o i=operate [o,i] (getItem o i)
noncomputable def IxR (X:Cx) (r:R2):Prop :=
 ∀ (value slice:Expr) (pins:List (Addr×Obj)) (s:Shared) (σ:St) (H:Hp) (x y:V) (v u:Value) (Q:VK),Inv X pins σ H s->RelV x v->RelV y u->r x y H Q ->
  subscripted slice false v u=operate [v,u] (getItem v u)->wpAny (model X.prog X.w) X.A (subscriptTail value slice v u) (EP X pins σ Q) X.xe s
noncomputable def MtR (X:Cx) (id:String) (r:V->List V->Hp->VK->Prop):Prop :=
 ∀ (pins:List (Addr×Obj)) (s:Shared) (σ:St) (H:Hp) (x:V) (xs:List V) (v:Value) (us:List Value) (Q:VK),Inv X pins σ H s->RelV x v->Vals xs us->r x xs H Q ->
  wpAny (model X.prog X.w) X.A (call (.builtin id) (v::us)) (EP X pins σ Q) X.xe s
section
variable {X:Cx} {a b:Expr} {ta tb:TE} {pos:Pos}
theorem IxR.or {r r':R2} (h:IxR X r) (h':IxR X r'):IxR X (λx y H Q=>r x y H Q\/r' x y H Q):=by
 intro value slice pins s σ H x y v u Q I rx ry q hs
 rcases q with q | q
 ·exact h value slice pins s σ H x y v u Q I rx ry q hs
 ·exact h' value slice pins s σ H x y v u Q I rx ry q hs
theorem ff {r:R2} (hr:IxR X r) (ha:PE X a ta) (hb:PE X b tb) (hs:sU b):PE X (.Subscript a b pos) (gR r ta tb):=by
 intro pins s σ H Q I h
 exact Subscript_ (sg ha hb I h λv u s2 x y H2 I2 rx ry q=>hr a b pins s2 σ H2 x y v u Q I2 rx ry q (hs _ _))
noncomputable def pT (K:PySem.W.Frag):R2:=λx y H Q=>∃ p xs i v,x=.ref p/\y=.int i/\SqL K H p xs/\bf xs i=some v/\Q v H
noncomputable def ZbK (K:PySem.W.Frag):R2:=λx y H Q=>∃ p xs i v,x=.ref p/\y=.int i/\SqT K H p xs/\bf xs i=some v/\Q v H
noncomputable def ZbL:R2:=λx y H Q=>∃ z i c,x=.str z/\y=.int i/\z.length<=sizeLine/\bf z.cps.toList i=some c/\Q (.str ⟨#[c]⟩) H
theorem fj:IxR X (pT X.K):=by
 intro value slice pins s σ H x y v u Q I rx ry h hs
 obtain ⟨p,xs,i,z,rfl,rfl,hq,he,q⟩:=h
 cases rx
 obtain ⟨t,rfl⟩:=ry
 obtain ⟨its,r,pl,hz⟩:=I.list hq
 obtain ⟨j,h1,h2,h3,h4,h5⟩:=oq he
 obtain ⟨w,ew,rw'⟩:=r.get h2
 have hl:=r.length
 have hn:=gE
 have fin:EP X pins σ Q w s:=⟨z,H,I,rw',q⟩
 by_cases h0:0<=i
 ·have hj:i.toNat=j:=by
   rw [seqIndex_of h0 h5] at h1
   exact Option.some.inj h1
  exact item_listR pl.isList h0 (by omega) (by rw [hj]; simpa using ew) fin hs
 ·have hj:(i+(its.toArray.size:Int)).toNat=j:=by
   rw [seqIndex_neg (by omega) h4] at h1
   rw [List.size_toArray,<- hl]
   exact Option.some.inj h1
  exact subscriptTail_builtinR (x:=w) pl.isList.typeIs slot_list_getitem.lookup
   (wpAny_getItem_list_neg (Q:=λr s'=>r=w/\EP X pins σ Q r s') pl.isList (by omega) (by rw [List.size_toArray] <;> omega) (by omega) (by rw [hj]; simpa using ew) ⟨rfl,fin⟩) hs
theorem ZiS:IxR X (ZbK X.K):=by
 intro value slice pins s σ H x y v u Q I rx ry h hs
 obtain ⟨p,xs,i,z,rfl,rfl,hq,he,q⟩:=h
 cases rx
 obtain ⟨t,rfl⟩:=ry
 obtain ⟨its,r,pl,hz⟩:=I.tuple hq
 obtain ⟨j,h1,h2,h3,h4,h5⟩:=oq he
 obtain ⟨w,ew,rw'⟩:=r.get h2
 have hl:=r.length
 have hn:=gE
 have fin:EP X pins σ Q w s:=⟨z,H,I,rw',q⟩
 exact subscriptTail_builtinR (x:=w) pl.typeIs slot_tuple_getitem.lookup
  (getItem_tuple (j:=j) (Q:=λr s'=>r=w/\EP X pins σ Q r s') pl (by omega) (by omega) (by rw [List.size_toArray,<- hl]; exact h1) (by simpa using ew) ⟨rfl,fin⟩) hs
theorem ZiT:IxR X ZbL:=by
 intro value slice pins s σ H x y v u Q I rx ry h hs
 obtain ⟨z,i,c,rfl,rfl,hz,he,q⟩:=h
 obtain ⟨t,rfl⟩:=rx
 obtain ⟨t',rfl⟩:=ry
 obtain ⟨j,h1,h2,h3,h4,h5⟩:=oq he
 have hl:z.cps.toList.length=z.length:=by simp [Str.length]
 rw [hl] at h1 h4 h5
 have hn:=gE
 exact tail_any (typeIs_str s z t) slot_str_getitem.lookup (getItem_str (c:=c) (by
  have e1:decide (i < -(2 ^ 63:Int))=false:=decide_eq_false (by omega)
  have e2:decide (i ≥ 2 ^ 63)=false:=decide_eq_false (by omega)
  rw [e1,e2,Bool.or_false]) (by rw [h1]; simpa using h2) ⟨.str ⟨#[c]⟩,H,I.tok _,⟨_,rfl⟩,q⟩) hs
noncomputable def rIx (K:PySem.W.Frag):R2:=λx y H Q=>pT K x y H Q\/ZbK K x y H Q\/ZbL x y H Q
theorem bj:IxR X (rIx X.K):=fj.or (ZiS.or ZiT)
theorem Zik (its:List Value) (n j:Nat) (u:Value):Obj.mapSeq (·.setIfInBounds j u) { cls:=.type "list",data:=.seq its.toArray n }={ cls:=.type "list",data:=.seq (its.set j u).toArray n }:=by
 simp [Obj.mapSeq]
theorem Inv.lst {pins:List (Addr×Obj)} {σ:St} {H:Hp} {s:Shared} {p:Addr} {xs:List V} (I:Inv X pins σ H s) (h:H p=some (.lst xs)) :
  ∃ (its:List Value) (n:Nat),Vals xs its/\s.heap.get? p=some { cls:=.type "list",data:=.seq its.toArray n }/\xs.length<=sizeLine:=by
 obtain ⟨z,its,n,r,e⟩:=I.hok p _ h
 exact ⟨its,n,r,e,z⟩
theorem Inv.lstUpd {pins:List (Addr×Obj)} {σ:St} {H:Hp} {s:Shared} {p:Addr} {xs ys:List V} {its its':List Value} {n n':Nat} {f:Obj->Obj} (I:Inv X pins σ H s) (h:H p=some (.lst xs))
  (ho:s.heap.get? p=some { cls:=.type "list",data:=.seq its.toArray n }) (hf:f { cls:=.type "list",data:=.seq its.toArray n }={ cls:=.type "list",data:=.seq its'.toArray n' }) (r:Vals ys its') (hz:ys.length<=sizeLine) (t:Nat) :
  Inv X pins σ (upd H p (.lst ys)) { s with heap:=s.heap.update p f,toks:=t }:=by
 have e:(s.heap.update p f).get? p=some { cls:=.type "list",data:=.seq its'.toArray n' }:=by
  rw [Heap.get?_update_self f ho (by rw [hf] <;> rfl),hf]
 refine I.write (x:=p) (e:=p) (by rw [h]; trivial) (.inl rfl) (λb u hb q=>(Heap.get?_update_other _ _ (Ne.symm hb)).trans q) ⟨_,e⟩ ?_
 exact ⟨hz,its',n',r,e⟩
noncomputable def pQ:V->V->V->Hp->(Hp->Prop)->Prop:=λo i v H Q=>∃ p xs k j,o=.ref p/\i=.int k/\H p=some (.lst xs)/\df xs.length k=some j/\Q (upd H p (.lst (xs.set j v)))
theorem iF:sW X pQ:=by
 intro pins s σ H o i v ov iv u Q I ro ri rv h
 obtain ⟨p,xs,k,j,rfl,rfl,hp,hj,q⟩:=h
 cases ro
 obtain ⟨t,rfl⟩:=ri
 obtain ⟨its,n,r,ho,hz⟩:=I.lst hp
 obtain ⟨h1,h2,h3,h4⟩:=ZcT hj
 have hl:=r.length
 have hn:=gE
 have I':Inv X pins σ (upd H p (.lst (xs.set j v))) { s with heap:=s.heap.update p (Obj.mapSeq (·.setIfInBounds j u)) } :=
  I.lstUpd hp ho (Zik its n j u) (r.set rv j) (by rw [List.length_set]; exact hz) s.toks
 by_cases h0:0<=k
 ·have hk:k.toNat=j:=by
   rw [seqIndex_of h0 h4] at h1
   exact Option.some.inj h1
  exact PySem.W.ki_setAt ho h0 (by omega) (by rw [List.size_toArray,<- hl]; exact h4) (by rw [hk]; exact ⟨_,I',q⟩)
 ·have hk:(k+(its.toArray.size:Int)).toNat=j:=by
   rw [seqIndex_neg (by omega) h3] at h1
   rw [List.size_toArray,<- hl]
   exact Option.some.inj h1
  exact PySem.W.ki_setBack ho (by omega) (by rw [List.size_toArray,<- hl]; exact h3) (by omega) (by rw [hk]; exact ⟨_,I',q⟩)
theorem ZdZ {n:Nat} {i:Int} (h:i < 0):max 0 (min (i+(n:Int)) n)=(((i+n).toNat:Nat):Int):=by
 rw [Int.min_eq_left (by omega),Int.ofNat_toNat,Int.max_comm]
theorem oi {n:Nat} {i:Int} (h:¬ i < 0):max 0 (min i (n:Int))=((min i.toNat n:Nat):Int):=by
 obtain ⟨k,rfl⟩:=Int.eq_ofNat_of_zero_le (Int.not_lt.mp h)
 rw [Int.toNat_natCast,<- Lean.Omega.Int.ofNat_min]
 exact Int.max_eq_right (Int.natCast_nonneg _)
theorem Zf2 (lo hi:Option Int) (n:Nat):(sliceBounds lo hi none n).1=((HT.aA n 0 lo:Nat):Int)/\(sliceBounds lo hi none n).2.1=((HT.aA n n hi:Nat):Int)/\(sliceBounds lo hi none n).2.2=1:=by
 refine ⟨?_,?_,rfl⟩
 ·cases lo with
  | none=>simp [sliceBounds,HT.aA]
  | some i =>
   simp only [sliceBounds,HT.aA,Option.getD_none,show (1:Int) > 0 by decide,if_true]
   by_cases h:i < 0
   ·simp only [h,if_true]
    exact ZdZ h
   ·simp only [h,if_false]
    exact oi h
 ·cases hi with
  | none=>simp [sliceBounds,HT.aA]
  | some i =>
   simp only [sliceBounds,HT.aA,Option.getD_none,show (1:Int) > 0 by decide,if_true]
   by_cases h:i < 0
   ·simp only [h,if_true]
    exact ZdZ h
   ·simp only [h,if_false]
    exact oi h
theorem Zf3 (its:List Value) (lo hi:Option Int):slicePick its.toArray lo hi none=((its.drop (HT.aA its.length 0 lo)).take (HT.aA its.length its.length hi - HT.aA its.length 0 lo)).toArray:=by
 obtain ⟨h1,h2,h3⟩:=Zf2 lo hi its.toArray.size
 unfold slicePick
 rw [h1,h2,h3]
 simp only [sliceRange_one,pick_run,List.size_toArray] <;> rfl
noncomputable def Zby (K:PySem.W.Frag):V->Option Int->Option Int->Hp->VK->Prop:=λx lo hi H Q=>∃ a xs,x=.ref a/\SqL K H a xs/\∀ p,H p=none->Q (.ref p) (upd H p (.lst (eU xs lo hi)))
theorem Za2:SlR X (Zby X.K):=by
 intro pins s σ H x v vl vu lo hi sl Q I rx hs pl pu h
 obtain ⟨a,xs,rfl,hx,q⟩:=h
 cases rx
 obtain ⟨its,r,ht,hz⟩:=I.list hx
 have hlen:=r.length
 refine ⟨"list",_,slot_list_getitem.lookup,ht.isList.typeIs,?_⟩
 refine wpAny_getItem_list_slice ht.isList hs pl pu .none (by simp) ?_ (by rw [List.size_toArray] <;> omega)
 rw [Zf3,<- hlen]
 refine ⟨.ref s.heap.objs.size,_,I.laid (t':=s.toks) (o:=.lst (eU xs lo hi)) (λb ob q=>Heap.get?_push_of_some _ q) (Nat.le_refl _) ?_,rfl,q _ (I.hok.fresh (Nat.le_refl _))⟩
 exact ⟨Nat.le_trans (Zd0 xs lo hi) hz,_,0,(r.drop (HT.aA xs.length 0 lo)).take (HT.aA xs.length xs.length hi - HT.aA xs.length 0 lo),Heap.get?_push_size _ rfl⟩
theorem eX:cR X (.builtin "len") (λxs H Q=>∃ p ys,xs=[.ref p]/\(SqL X.K H p ys\/SqT X.K H p ys)/\Q (.int ys.length) H):=by
 intro pins s σ H xs us Q I r h
 obtain ⟨p,ys,rfl,hq,q⟩:=h
 obtain ⟨u,rfl,rx⟩:=eG r
 cases rx
 have hn:=gE
 rcases hq with hq | hq
 ·obtain ⟨its,r',pl,hz⟩:=I.list hq
  have hlen:=r'.length
  exact Calls.call_len_list pl.isList (by simp only [List.size_toArray] <;> omega) ⟨.int ys.length,H,I.tok _,⟨s.toks+1,by rw [List.size_toArray,hlen]⟩,q⟩
 ·obtain ⟨its,r',pl,hz⟩:=I.tuple hq
  have hlen:=r'.length
  exact len_tuple pl (by simp only [List.size_toArray] <;> omega) ⟨.int ys.length,H,I.tok _,⟨s.toks+1,by rw [List.size_toArray,hlen]⟩,q⟩
theorem Zng:cR X (.type "list") (λxs H Q=>∃ p ys,xs=[.ref p]/\(SqL X.K H p ys\/SqT X.K H p ys)/\∀ l,H l=none->Q (.ref l) (upd H l (.lst ys))):=by
 intro pins s σ H xs us Q I r h
 obtain ⟨p,ys,rfl,hq,q⟩:=h
 obtain ⟨u,rfl,rx⟩:=eG r
 cases rx
 have fin:∀ (its:List Value),Vals ys its->ys.length<=sizeLine->∀ (h':Heap) (c':Nat),(∀ b o',s.heap.get? b=some o'->h'.get? b=some o') ->
   h'.get? s.heap.objs.size=some { cls:=.type "list",dict:=none,data:=.seq its.toArray c',slots:=#[] }->EP X pins σ Q (.ref s.heap.objs.size) { s with heap:=h' }:=λits r' hz h' c' kp e =>
  ⟨.ref s.heap.objs.size,_,I.laid (t':=s.toks) kp (Nat.le_refl _) (show ObjOk X.prog X.w _ h' _ (.lst ys) from ⟨hz,its,c',r',e⟩),rfl,q _ (I.hok.fresh (Nat.le_refl _))⟩
 rcases hq with hq | hq
 ·obtain ⟨its,r',pl,hz⟩:=I.list hq
  have hlen:=r'.length
  obtain ⟨o,ho,hc,n,hd⟩:=pl.isList
  exact call_list_seq p (.inl rfl) ho hc hd (λh' c' kp e=>fin its r' hz h' c' kp e) (by simp only [List.size_toArray] <;> omega)
 ·obtain ⟨its,r',pl,hz⟩:=I.tuple hq
  have hlen:=r'.length
  obtain ⟨o,ho,hc,n,hd⟩:=pl
  exact call_list_seq p (.inr rfl) ho hc hd (λh' c' kp e=>fin its r' hz h' c' kp e) (by simp only [List.size_toArray] <;> omega)
theorem oj:cR X (.type "tuple") (λxs H Q=>∃ p ys,xs=[.ref p]/\((SqL X.K H p ys/\∀ l,H l=none->Q (.ref l) (upd H l (.tup ys)))\/(SqT X.K H p ys/\Q (.ref p) H))):=by
 intro pins s σ H xs us Q I r h
 obtain ⟨p,ys,rfl,h⟩:=h
 obtain ⟨u,rfl,rx⟩:=eG r
 cases rx
 rcases h with ⟨hq,q⟩ | ⟨hq,q⟩
 ·obtain ⟨its,r',pl,hz⟩:=I.list hq
  have hlen:=r'.length
  refine call_tuple_list pl.isList (λh' kp=>?_) (by simp only [List.size_toArray] <;> omega)
  have I1:Inv X pins σ H { s with heap:=h' }:=I.kept (t':=s.toks) kp
  have I2:Inv X pins σ (upd H h'.objs.size (.tup ys)) { s with heap:=h'.push { cls:=.type "tuple",data:=.seq its.toArray } } :=
   I1.laid (t':=s.toks) (λb o e=>Heap.get?_push_of_some _ e) (Nat.le_refl _) (show ObjOk X.prog X.w _ _ _ (.tup ys) from ⟨hz,its,r',IsTup.new _ _⟩)
  exact ⟨.ref h'.objs.size,_,I2,rfl,q _ (I1.hok.fresh (Nat.le_refl _))⟩
 ·obtain ⟨its,r',pl,hz⟩:=I.tuple hq
  exact call_tuple_same pl ⟨.ref p,H,I,rfl,q⟩
noncomputable def o6 (K:PySem.W.Frag) (T:String) (x:V) (H:Hp):Prop:=match x with
 | .str _=>T="str"
 | .int _=>T="int"
 | .ref p=>(T="list"/\∃ xs,SqL K H p xs)\/(T="tuple"/\∃ o,K.lookup p=some o/\o.cls=.type "tuple"/\o.dict=none) \/
   (T="dict"/\((∃ kvs,H p=some (.dK kvs))\/∃ kvs,H p=some (.dT kvs)))\/(T="set"/\∃ S n,H p=some (.set S n))
 | _=>False
theorem Zaz {pins:List (Addr×Obj)} {σ:St} {H:Hp} {s:Shared} {T:String} {x:V} {v:Value} (I:Inv X pins σ H s) (r:RelV x v) (ty:o6 X.K T x H) :
  s.TypeIs v T/\∀ a,v=.ref a->∃ ob,s.heap.get? a=some ob/\ob.dict=none:=by
 cases x with
 | str z =>
  obtain ⟨t,rfl⟩:=r
  cases (show T="str" from ty)
  exact ⟨typeIs_str s z t,λ_ e=>nomatch e⟩
 | int i =>
  obtain ⟨t,rfl⟩:=r
  cases (show T="int" from ty)
  exact ⟨typeIs_int s i t,λ_ e=>nomatch e⟩
 | ref p =>
  cases r
  rcases ty with ⟨rfl,xs,hq⟩ | ⟨rfl,o,hk,hc,hd⟩ | ⟨rfl,hk⟩ | ⟨rfl,S,n,hk⟩
  ·obtain ⟨its,_,pl,_⟩:=I.list hq
   refine ⟨pl.isList.typeIs,λa e=>?_⟩
   cases e
   obtain ⟨o,n,e,c,hd,_⟩:=pl
   exact ⟨o,e,hd⟩
  ·refine ⟨⟨o,I.kIn p o hk,hc⟩,λa e=>?_⟩
   cases e
   exact ⟨o,I.kIn _ o hk,hd⟩
  ·have z:∃ o,s.heap.get? p=some o/\o.ExactDict:=by
    rcases hk with ⟨kvs,hk⟩ | ⟨kvs,hk⟩
    ·obtain ⟨_,_,_,_,o,_,_,e,ex,_⟩:=I.hok p _ hk
     exact ⟨o,e,ex⟩
    ·obtain ⟨_,_,_,_,o,_,_,e,ex,_⟩:=I.hok p _ hk
     exact ⟨o,e,ex⟩
   obtain ⟨o,e,ex⟩:=z
   refine ⟨⟨o,e,ex.1⟩,λa e2=>?_⟩
   cases e2
   exact ⟨o,e,ex.2.1⟩
  ·obtain ⟨o,_,_,_,e,ex,_⟩:=I.hok p _ hk
   refine ⟨⟨o,e,ex.1⟩,λa e2=>?_⟩
   cases e2
   exact ⟨o,e,ex.2.1⟩
 | _=>exact False.elim ty
noncomputable def ZaL (K:PySem.W.Frag) (T:String) (r:V->List V->Hp->VK->Prop) (to:TE):TE:=λσ H Q=>to σ H λx H1=>o6 K T x H1/\r x [] H1 Q
noncomputable def tBM (K:PySem.W.Frag) (T:String) (r:V->List V->Hp->VK->Prop) (to:TE) (t:TA):TE:=λσ H Q=>to σ H λx H1=>o6 K T x H1/\t σ H1 λxs H2=>r x xs H2 Q
variable {o e:Expr} {es:List Expr} {to:TE} {t:TA} {name:Str} {apos cpos:Pos} {T id:String} {r:V->List V->Hp->VK->Prop}
theorem Zcb (pa:PlainAttrs T) (slot:Slot T name id) (hty:typeOf (.builtin id)=pure (.type "method_descriptor")) (hm:MtR X id r) (ho:PE X o to)
  (hbase:attributeBase o name X.env (eval o X.env)=eval o X.env:=by rfl) (hline:(apos.endLine == cpos.line)=true:=by rfl):PE X (.Call (.Attribute o name apos) [] [] cpos) (ZaL X.K T r to):=by
 intro pins s σ H Q I h
 refine wpAny_Call_method0_late hbase hline (thn (ho pins s σ H _ I h) λv s1 hz0=>?_)
 obtain ⟨x,H1,I1,r1,ty,q1⟩:=hz0
 obtain ⟨h1,h2⟩:=Zaz I1 r1 ty
 exact ⟨T,id,pa,slot,hty,h1,h2,Calls.callWith_builtin rfl (PySem.evalArgs_none (hm pins s1 σ H1 x [] v [] Q I1 r1 .nil q1))⟩
theorem qe (pa:PlainAttrs T) (slot:Slot T name id) (hty:typeOf (.builtin id)=pure (.type "method_descriptor")) (hm:MtR X id r) (ho:PE X o to) (ha:PA X (e::es) t)
  (hbase:attributeBase o name X.env (eval o X.env)=eval o X.env:=by rfl)
  (hfew:((backTo cpos (starEach (e::es) X.env)).all (λx=>!x.1) && (backToKw cpos (keywordEach [] X.env)).all (λx=>x.1.isSome)
   && decide ((e::es).length+([]:List Keyword).length+(if ([]:List Keyword).isEmpty then 0 else 1) < 30))=true:=by rfl)
  (hline:(apos.endLine == cpos.line)=true:=by rfl) (hs:starEach (e::es) X.env=(false,eval e X.env)::starEach es X.env:=by rfl) (hplain:(backTo cpos (starEach es X.env)).any (·.1)=false:=by rfl) :
  PE X (.Call (.Attribute o name apos) (e::es) [] cpos) (tBM X.K T r to t):=by
 intro pins s σ H Q I h
 refine wpAny_Call_method_late hbase hfew hline rfl (thn (ho pins s σ H _ I h) λv s1 hz0=>?_)
 obtain ⟨x,H1,I1,r1,ty,q1⟩:=hz0
 obtain ⟨h1,h2⟩:=Zaz I1 r1 ty
 refine ⟨T,id,pa,slot,hty,h1,h2,?_⟩
 have hA:=ha cpos pins s1 σ H1 _ I1 q1
 rw [hs] at hA ⊢
 refine Calls.callWith_builtin (by show (false || (backTo cpos (starEach es X.env)).any (·.1))=false; rw [hplain] <;> rfl) (Calls.evalArgs_plain ?_)
 exact thn hA λus s2 hz0=>by
  obtain ⟨vs,H2,I2,r2,q2⟩:=hz0
  exact hm pins s2 σ H2 x vs v us Q I2 r1 r2 q2
end
noncomputable def MtM (X:Cx) (id:String) (r:V->List V->Hp->VK->Prop):Prop :=
 ∀ (pins:List (Addr×Obj)) (s:Shared) (σ:St) (H:Hp) (x:V) (xs:List V) (v:Value) (us:List Value) (Q:VK),Inv X pins σ H s->RelV x v->Vals xs us->r x xs H Q ->
  wpAny (model X.prog X.w) X.A (call (.builtin id) (v::us)) (EP X pins σ Q) X.xe s
theorem Vals.one {x:V} {us:List Value} (h:Vals [x] us):∃ u,us=[u]/\RelV x u:=by
 cases h with
 | cons r t=>cases t; exact ⟨_,rfl,r⟩
theorem Vals.zero:∀ {us:List Value},Vals [] us->us=[]
 | _,.nil=>rfl
theorem Vals.reverse {xs:List V} {us:List Value} (h:Vals xs us):Vals xs.reverse us.reverse:=by
 induction h with
 | nil=>exact .nil
 | cons r t ih=>rw [List.reverse_cons,List.reverse_cons]; exact Vals.append ih (.cons r .nil)
theorem Vals.rep {xs:List V} {us:List Value} (h:Vals xs us):∀ k:Nat,Vals (List.replicate k xs).flatten (List.replicate k us).flatten
 | 0=>.nil
 | k+1=>by
  rw [List.replicate_succ,List.replicate_succ,List.flatten_cons,List.flatten_cons]
  exact Vals.append h (Vals.rep h k)
theorem Zdf (its:List Value):∀ (k:Nat) (acc:List Value),
  List.foldl (λx1 x2=>x1++x2) acc.toArray (List.replicate k its.toArray)=(acc++(List.replicate k its).flatten).toArray
 | 0,acc=>by simp
 | k+1,acc=>by
  have e:acc.toArray++its.toArray=(acc++its).toArray:=by simp
  have e2:(acc++its)++(List.replicate k its).flatten=acc++(List.replicate (k+1) its).flatten:=by
   rw [List.replicate_succ,List.flatten_cons,List.append_assoc]
  rw [<- e2,<- Zdf its k (acc++its),<- e,List.replicate_succ,List.foldl_cons]
section
variable {X:Cx} {pins:List (Addr×Obj)} {σ:St} {H:Hp} {s:Shared} {l b:Addr} {xs ys zs:List V}
theorem Inv.lset {its its':List Value} {n:Nat} {f:Array Value->Array Value} {t':Nat} (I:Inv X pins σ H s) (hH:H l=some (.lst xs))
  (e:s.heap.get? l=some { cls:=.type "list",data:=.seq its.toArray n }) (hf:f its.toArray=its'.toArray) (hv:Vals ys its') (hz:ys.length<=sizeLine) :
  Inv X pins σ (upd H l (.lst ys)) { s with heap:=s.heap.update l (Obj.mapSeq f),toks:=t' }:=by
 have q:=PySem.IsL.update e f
 rw [hf] at q
 refine I.write (x:=l) (e:=l) (by rw [hH]; exact trivial) (.inl rfl) (λb' u hb hu=>(Heap.get?_update_other s.heap (Obj.mapSeq f) (Ne.symm hb)).trans hu) ⟨_,q⟩ ?_
 exact ⟨hz,its',_,hv,q⟩
theorem Inv.lnew {its:List Value} {t':Nat} (I:Inv X pins σ H s) (hv:Vals ys its) (hz:ys.length<=sizeLine) :
  Inv X pins σ (upd H s.heap.objs.size (.lst ys)) { s with heap:=s.heap.push { cls:=.type "list",data:=.seq its.toArray },toks:=t' } :=
 I.laid (λ_ _ q=>Heap.get?_push_of_some _ q) (Nat.le_refl _) ⟨hz,its,0,hv,Heap.get?_push_size _ rfl⟩
theorem Inv.fresh (I:Inv X pins σ H s):H s.heap.objs.size=none:=I.hok.fresh (Nat.le_refl _)
theorem Inv.lstM (I:Inv X pins σ H s) (hH:H l=some (.lst xs)):xs.length<=sizeLine/\∃ (its:List Value) (n:Nat),Vals xs its/\xs.length=its.length/\s.heap.get? l=some { cls:=.type "list",data:=.seq its.toArray n }:=by
 obtain ⟨z,its,n,r,e⟩:=I.hok l _ hH
 exact ⟨z,its,n,r,r.length,e⟩
theorem ZhX {n:Nat} (h:n<=sizeLine):Builtin.List.listTooLong n=false:=by
 unfold Builtin.List.listTooLong
 exact decide_eq_false (by omega)
end
section
variable {X:Cx}
noncomputable def ZbT:V->List V->Hp->VK->Prop:=λx vs H Q=>∃ l xs y,x=.ref l/\vs=[y]/\H l=some (.lst xs)/\xs.length < sizeLine/\Q .non (upd H l (.lst (xs++[y])))
theorem qz:MtM X "list.append" ZbT:=by
 intro pins s σ H x vs v us Q I rx rv h
 obtain ⟨l,xs,y,rfl,rfl,hH,hz,q⟩:=h
 cases rx
 obtain ⟨u,rfl,ru⟩:=rv.one
 obtain ⟨z,its,n,r,hl,e⟩:=I.lstM hH
 refine call_meets F.slot_list_append ⟨_,e,rfl⟩ F.entry_list_append (F.args_list_append_2 _ _) (PySem.list_append l its.toArray n u (by rw [List.size_toArray]; omega)) ⟨e,?_⟩
 refine ⟨.non,_,I.lset (its':=its++[u]) hH e (by simp) (r.append (.cons ru .nil)) ?_,rfl,q⟩
 rw [List.length_append,List.length_singleton]
 omega
noncomputable def Zbz:V->List V->Hp->VK->Prop:=λx vs H Q=>∃ l xs,x=.ref l/\vs=[]/\H l=some (.lst xs)/\Q .non (upd H l (.lst xs.reverse))
theorem Zcu:MtM X "list.reverse" Zbz:=by
 intro pins s σ H x vs v us Q I rx rv h
 obtain ⟨l,xs,rfl,rfl,hH,q⟩:=h
 cases rx
 have hus:=rv.zero
 subst hus
 obtain ⟨z,its,n,r,hl,e⟩:=I.lstM hH
 refine call_meets F.slot_list_reverse ⟨_,e,rfl⟩ F.entry_list_reverse (F.args_list_reverse_1 _) (AutoSeq1.list_reverse_list_0 l its.toArray n (by rw [List.size_toArray]; omega)) ⟨e,?_⟩
 refine ⟨.non,_,I.lset (its':=its.reverse) hH e (by simp) r.reverse ?_,rfl,q⟩
 rw [List.length_reverse]
 omega
noncomputable def ZbS:R2:=λx y H Q=>∃ l b xs zs,x=.ref l/\y=.ref b/\H l=some (.lst xs)/\H b=some (.lst zs)/\xs.length+zs.length<=sizeLine/\∀ p,H p=none->Q (.ref p) (upd H p (.lst (xs++zs)))
theorem ZhM:OpR X (binaryOp .Add) ZbS:=by
 intro pins s σ H x y v u Q I rx ry h
 obtain ⟨l,b,xs,zs,rfl,rfl,hH,hB,hz,q⟩:=h
 cases rx
 cases ry
 obtain ⟨z,its,n,r,hl,e⟩:=I.lstM hH
 obtain ⟨z2,its2,n2,r2,hl2,e2⟩:=I.lstM hB
 refine PySem.P.add_list e e2 ?_ (by rw [List.size_toArray,List.size_toArray]; omega)
 have ea:its.toArray++its2.toArray=(its++its2).toArray:=by simp
 rw [ea]
 exact ⟨.ref _,_,I.lnew (t':=s.toks) (r.append r2) (by rw [List.length_append]; omega),rfl,q _ I.fresh⟩
noncomputable def pS:R2:=λx y H Q=>∃ l k xs,x=.ref l/\y=.int k/\H l=some (.lst xs)/\-(2 ^ 63)<=k/\k < 2 ^ 63/\xs.length * k.toNat<=sizeLine /\
 ∀ p,H p=none->Q (.ref p) (upd H p (.lst (List.replicate k.toNat xs).flatten))
theorem Ziu {α:Type} (xs:List α) (k:Nat):(List.replicate k xs).flatten.length=k * xs.length:=by
 induction k with
 | zero=>simp
 | succ k ih=>rw [List.replicate_succ,List.flatten_cons,List.length_append,ih,Nat.succ_mul,Nat.add_comm]
theorem Zci:OpR X (binaryOp .Mult) pS:=by
 intro pins s σ H x y v u Q I rx ry h
 obtain ⟨l,k,xs,rfl,rfl,hH,h1,h2,hz,q⟩:=h
 cases rx
 obtain ⟨t,rfl⟩:=ry
 obtain ⟨z,its,n,r,hl,e⟩:=I.lstM hH
 have hlen:its.toArray.size * k.toNat<=sizeLine:=by rw [List.size_toArray,<- hl]; exact hz
 have hcap:¬ its.toArray.size * k.toNat > (2 ^ 63 - 1) / 8:=by
  have:(sizeLine:Nat)<=(2 ^ 63 - 1) / 8:=by decide
  omega
 have hfit:¬ (!Builtin.List.listFitsIndex k)=true:=by
  rw [fitsIndex_both h1 h2]
  exact Bool.false_ne_true
 have hlong:¬ Builtin.List.listTooLong (its.toArray.size * k.toNat)=true:=by
  rw [ZhX hlen]
  exact Bool.false_ne_true
 have hnew:List.foldl (λx1 x2=>x1++x2) #[] (List.replicate (if its.toArray.isEmpty=true then 0 else k.toNat) its.toArray)=(List.replicate k.toNat its).flatten.toArray:=by
  have f0:∀ m:Nat,List.foldl (λx1 x2=>x1++x2) #[] (List.replicate m its.toArray)=(List.replicate m its).flatten.toArray:=λm=>by
   have:=Zdf its m []
   rw [List.nil_append] at this
   exact this
  rw [f0]
  cases its with
  | nil=>simp
  | cons a r'=>rw [if_neg (by simp)]
 refine wpAny_binaryOp_repeat_ref (T:="list") (U:="int") (by decide) ⟨_,e,rfl⟩ (λs'=>typeIs_int s' k t) noFill_list_mul F.fills_int_mul F.slot_int_rmul repeat_list F.slot_int_index.lookup
  (call_meets F.slot_int_rmul (typeIs_int s k t) F.entry_int_rmul (F.args_int_rmul_2 _ _) (int___rmul___int_list k t l its.toArray n)
   ⟨e,rfl,⟨_,e,rfl⟩,call_meets F.slot_list_mul ⟨_,e,rfl⟩ F.entry_list_mul (F.args_list_mul_2 _ _) (AutoListH.list___mul___list_int_3 l its.toArray n k t hfit hcap hlong) ⟨e,?_⟩⟩)
 rw [hnew]
 exact ⟨.ref _,_,I.lnew (t':=s.toks) (r.rep k.toNat) (by rw [Ziu,Nat.mul_comm]; exact hz),rfl,q _ I.fresh⟩
end
section
variable {prog:Program} {w:World} {A:Around} {E:Value->Shared->Prop} {s:Shared}
end
section
variable {X:Cx}
end
section
variable {κ:Type} [DecidableEq κ]
noncomputable def bE (kvs:List (κ×V)) (k:κ):Option V:=(kvs.find? λkv=>decide (kv.1=k)).map (·.2)
noncomputable def bT (kvs:List (κ×V)) (k:κ) (v:V):List (κ×V) :=
 if (kvs.any λkv=>decide (kv.1=k))=true then kvs.map (λkv=>if kv.1=k then (kv.1,v) else kv) else kvs++[(k,v)]
theorem d7 {p:κ×V} {r:List (κ×V)} {k:κ} (e:p.1=k):bE (p::r) k=some p.2:=by simp [bE,List.find?_cons,e]
theorem eI {p:κ×V} {r:List (κ×V)} {k:κ} (e:¬ p.1=k):bE (p::r) k=bE r k:=by simp [bE,List.find?_cons,e]
theorem iB (k:κ):∀ kvs:List (κ×V),(kvs.any λkv=>decide (kv.1=k))=(bE kvs k).isSome
 | []=>rfl
 | p::r=>by
  rw [List.any_cons]
  by_cases e:p.1=k
  ·simp only [d7 e,decide_eq_true e,Bool.true_or,Option.isSome_some]
  ·rw [eI e,decide_eq_false e,Bool.false_or]; exact iB k r
theorem Zaw (k j:κ) (y:V):∀ kvs:List (κ×V),bE (kvs.map λkv=>if kv.1=k then (kv.1,y) else kv) j=(bE kvs j).map λx=>if j=k then y else x
 | []=>rfl
 | p::r=>by
  have ih:=Zaw k j y r
  rw [List.map_cons]
  by_cases h:p.1=k
  ·rw [if_pos h]
   by_cases e:p.1=j
   ·rw [d7 (p:=(p.1,y)) e,d7 e,Option.map_some,if_pos (e.symm.trans h)]
   ·rw [eI (p:=(p.1,y)) e,eI e,ih]
  ·rw [if_neg h]
   by_cases e:p.1=j
   ·rw [d7 (p:=p) e,d7 e,Option.map_some,if_neg (λz=>h (e.trans z))]
   ·rw [eI (p:=p) e,eI e,ih]
theorem Zau (k j:κ) (y:V):∀ kvs:List (κ×V),bE kvs k=none->bE (kvs++[(k,y)]) j=if j=k then some y else bE kvs j
 | [],_=>by
  by_cases e:k=j
  ·rw [if_pos e.symm]; exact d7 (p:=(k,y)) e
  ·rw [if_neg (λz=>e z.symm)]; exact eI (p:=(k,y)) e
 | p::r,hn=>by
  rw [List.cons_append]
  have hk:¬ p.1=k:=λz=>by rw [d7 z] at hn; cases hn
  rw [eI hk] at hn
  have ih:=Zau k j y r hn
  by_cases e:p.1=j
  ·rw [d7 e,d7 e,if_neg (λz=>hk (e.trans z))]
  ·rw [eI e,eI e,ih]
theorem Zav (kvs:List (κ×V)) (k j:κ) (y:V):bE (bT kvs k y) j=if j=k then some y else bE kvs j:=by
 unfold bT
 by_cases a:(kvs.any λkv=>decide (kv.1=k))=true
 ·rw [if_pos a,Zaw]
  rw [iB] at a
  by_cases e:j=k
  ·obtain ⟨x,hx⟩:=Option.isSome_iff_exists.mp a
   rw [if_pos e,e,hx,Option.map_some,if_pos rfl]
  ·rw [if_neg e]
   cases bE kvs j with
   | none=>rfl
   | some x=>rw [Option.map_some,if_neg e]
 ·rw [if_neg a]
  refine Zau k j y kvs ?_
  rw [iB] at a
  cases q:bE kvs k with
  | none=>rfl
  | some x=>rw [q] at a; exact (a rfl).elim
theorem nE (kvs:List (κ×V)) (k:κ) (v:V):(bT kvs k v).length<=kvs.length+1:=by
 unfold bT
 split
 ·rw [List.length_map]; omega
 ·rw [List.length_append,List.length_cons,List.length_nil]; omega
theorem ZgW {kvs:List (κ×V)} {k:κ} (v:V) (h:bE kvs k=none):bT kvs k v=kvs++[(k,v)]:=by
 unfold bT
 rw [iB,h]
 exact if_neg (by decide)
theorem RelO.isSome_eq {o:Option V} {u:Option Value} (r:RelO o u):o.isSome=u.isSome:=by
 cases o with
 | none=>cases u with
  | none=>rfl
  | some _=>exact (show False from r).elim
 | some _=>cases u with
  | none=>exact (show False from r).elim
  | some _=>rfl
theorem KV.val {kvs:List (κ×V)} {vs:List (κ×Value)} (r:KV kvs vs) (k:κ):RelO (bE kvs k) (valueAt vs k):=by
 unfold KV at r
 induction r with
 | nil=>exact True.intro
 | @cons p q ps qs h t ih =>
  obtain ⟨h1,h2⟩:=h
  by_cases e:p.1=k
  ·have e':q.1=k:=h1.symm.trans e
   have b:valueAt (q::qs) k=some q.2:=by simp [valueAt,List.find?_cons,e']
   rw [d7 e,b]; exact h2
  ·have e':¬ q.1=k:=λz=>e (h1.trans z)
   have b:valueAt (q::qs) k=valueAt qs k:=by simp [valueAt,List.find?_cons,e']
   rw [eI e,b]; exact ih
theorem KV.any {kvs:List (κ×V)} {vs:List (κ×Value)} (r:KV kvs vs) (k:κ):(kvs.any λkv=>decide (kv.1=k))=vs.any λkv=>decide (kv.1=k):=by
 unfold KV at r
 induction r with
 | nil=>rfl
 | cons h t ih=>rw [List.any_cons,List.any_cons,ih,h.1]
theorem KV.repl {kvs:List (κ×V)} {vs:List (κ×Value)} (r:KV kvs vs) (k:κ) {y:V} {u:Value} (ry:RelV y u) :
  KV (kvs.map λkv=>if kv.1=k then (kv.1,y) else kv) (vs.map λkv=>if kv.1=k then (kv.1,u) else kv):=by
 unfold KV at r ⊢
 induction r with
 | nil=>exact .nil
 | @cons p q ps qs h t ih =>
  rw [List.map_cons,List.map_cons]
  refine .cons ?_ ih
  obtain ⟨h1,h2⟩:=h
  by_cases e:p.1=k
  ·rw [if_pos e,if_pos (h1.symm.trans e)]; exact ⟨h1,ry⟩
  ·rw [if_neg e,if_neg (λz=>e (h1.trans z))]; exact ⟨h1,h2⟩
theorem KV.put {kvs:List (κ×V)} {vs:List (κ×Value)} (r:KV kvs vs) (k:κ) {y:V} {u:Value} (ry:RelV y u):KV (bT kvs k y) (stored vs k u):=by
 unfold bT stored
 rw [r.any k]
 by_cases e:(vs.any λkv=>decide (kv.1=k))=true
 ·rw [if_pos e,if_pos e]; exact r.repl k ry
 ·rw [if_neg e,if_neg e]; exact Paired.snoc r ⟨rfl,ry⟩
theorem KV.length {kvs:List (κ×V)} {vs:List (κ×Value)} (r:KV kvs vs):kvs.length=vs.length:=Paired.length r
end
theorem nQ {P:Program} {w:World} {k:aq} {u:Value} (r:RelV (kV k) u):(cu P w).is k u=true:=by
 cases k with
 | inl i=>obtain ⟨t,e⟩:=(show ∃ t,u=Value.int i t from r); subst e; exact Zcv P w i t
 | inr x=>obtain ⟨t,e⟩:=(show ∃ t,u=Value.str x t from r); subst e; exact Zh9 P w x t
theorem ZcU {P:Program} {w:World}:∀ {ks:List aq} {us:List Value},Vals (ks.map kV) us->ItemsAre (cu P w) ks us
 | [],_,r=>by rw [List.map_nil] at r; cases r; exact .nil
 | k::ks,_,r=>by
  rw [List.map_cons] at r
  cases r with
  | cons h t=>exact .cons (nQ h) (ZcU t)
noncomputable abbrev KT (H:Hp):List (List aq×V)->List (List aq×Addr×Value)->Prop:=Paired λp q=>p.1=q.1/\H q.2.1=some (.tup (p.1.map kV))/\RelV p.2 q.2.2
theorem KT.val {H:Hp} {kvs:List (List aq×V)} {xs:List (List aq×Addr×Value)} (r:KT H kvs xs) (k:List aq):RelO (bE kvs k) ((atKey xs k).map (·.2)):=by
 induction r with
 | nil=>exact True.intro
 | @cons p q ps qs h t ih =>
  obtain ⟨h1,_,h2⟩:=h
  by_cases e:p.1=k
  ·have e':q.1=k:=h1.symm.trans e
   have b:atKey (q::qs) k=some q.2:=by simp [atKey,List.find?_cons,e']
   rw [d7 e,b]; exact h2
  ·have e':¬ q.1=k:=λz=>e (h1.trans z)
   have b:atKey (q::qs) k=atKey qs k:=by simp [atKey,List.find?_cons,e']
   rw [eI e,b]; exact ih
theorem KT.repl {H:Hp} {kvs:List (List aq×V)} {xs:List (List aq×Addr×Value)} (r:KT H kvs xs) (k:List aq) {y:V} {u:Value} (ry:RelV y u) :
  KT H (kvs.map λkv=>if kv.1=k then (kv.1,y) else kv) (xs.map (putAt k u)):=by
 induction r with
 | nil=>exact .nil
 | @cons p q ps qs h t ih =>
  rw [List.map_cons,List.map_cons]
  refine .cons ?_ ih
  obtain ⟨h1,h2,h3⟩:=h
  unfold putAt
  by_cases e:p.1=k
  ·rw [if_pos e,if_pos (h1.symm.trans e)]; exact ⟨h1,h2,ry⟩
  ·rw [if_neg e,if_neg (λz=>e (h1.trans z))]; exact ⟨h1,h2,h3⟩
theorem KT.put {H:Hp} {kvs:List (List aq×V)} {xs:List (List aq×Addr×Value)} (r:KT H kvs xs) (k:List aq) {b:Addr} {y:V} {u:Value} (hb:H b=some (.tup (k.map kV))) (ry:RelV y u) :
  KT H (bT kvs k y) (storedH xs k b u):=by
 have e:(kvs.any λkv=>decide (kv.1=k))=(atKey xs k).isSome:=by
  rw [iB,(r.val k).isSome_eq,Option.isSome_map]
 unfold bT storedH
 rw [e]
 by_cases q:(atKey xs k).isSome=true
 ·rw [if_pos q,if_pos q]; exact r.repl k ry
 ·rw [if_neg q,if_neg q]; exact Paired.snoc r ⟨rfl,hb,ry⟩
theorem KT.keeps {H H':Hp} {kvs:List (List aq×V)} {xs:List (List aq×Addr×Value)} (r:KT H kvs xs) (ht:∀ b ys,H b=some (.tup ys)->H' b=some (.tup ys)):KT H' kvs xs :=
 Paired.mapP r λ_ _ z=>⟨z.1,ht _ _ z.2.1,z.2.2⟩
section
variable {P:Program} {w:World} {H:Hp} {h:Heap} {a:Addr}
theorem Zbt {u:HO} (ok:HOk P w H h) (e:Rd H a u):ObjOk P w H h a u:=e.ok ok
theorem oa {kvs:List (aq×V)} (ok:HOk P w H h) (e:Rd H a (.dK kvs)):kvs.length<=sizeLine/\(a == sysModules)=false/\∃ vs,KV kvs vs/\h.DictOf (cu P w) a vs :=
 show ObjOk P w H h a (.dK kvs) from Zbt ok e
theorem Zmi {kvs:List (aq×V)} (ok:HOk P w H h) (e:H a=some (.dK kvs)):kvs.length<=sizeLine/\(a == sysModules)=false/\∃ vs,KV kvs vs/\h.DictOf (cu P w) a vs:=oa ok (.inl e)
theorem nP {ks:List aq} (ok:HOk P w H h) (e:H a=some (.tup (ks.map kV))):(tupleKind (cu P w)).is h ks a:=by
 obtain ⟨_,its,r,o,h1,h2,n,h3⟩:=(show ObjOk P w H h a (.tup (ks.map kV)) from ok a _ e)
 exact ⟨o,its.toArray,n,h1,h2,h3,by simpa using ZcU r⟩
theorem n9 {kvs:List (List aq×V)} (ok:HOk P w H h) (e:Rd H a (.dT kvs)):kvs.length<=sizeLine/\(a == sysModules)=false /\
  ∃ xs,KT H kvs xs/\h.DictOfH (tupleKind (cu P w)) a xs:=by
 obtain ⟨z,y,xs,r,o,es,ep,h1,h2,h3,h4,h5⟩:=(show ObjOk P w H h a (.dT kvs) from Zbt ok e)
 refine ⟨z,y,xs,r,o,es,ep,h1,h2,h3,h4,λx hx=>?_,h5⟩
 have all:∀ {l:List (List aq×V)} {m:List (List aq×Addr×Value)},KT H l m->∀ x∈m,(tupleKind (cu P w)).is h x.1 x.2.1:=by
  intro l m q
  induction q with
  | nil=>intro x hx; exact nomatch hx
  | @cons p q ps qs hq t ih =>
   intro x hx
   rcases List.mem_cons.mp hx with e | hx
   ·subst e
    exact nP ok (by rw [<- hq.1]; exact hq.2.1)
   ·exact ih x hx
 exact all r x hx
theorem Zmd {kvs:List (List aq×V)} (ok:HOk P w H h) (e:H a=some (.dT kvs)):kvs.length<=sizeLine/\(a == sysModules)=false /\
  ∃ xs,KT H kvs xs/\h.DictOfH (tupleKind (cu P w)) a xs:=n9 ok (.inl e)
end
noncomputable def DGet (H:Hp) (a:Addr) (y:V) (r:Option V):Prop :=
 (∃ kvs k,Rd H a (.dK kvs)/\y=kV k/\r=bE kvs k)\/∃ kvs k b,Rd H a (.dT kvs)/\y=.ref b/\H b=some (.tup (k.map kV))/\r=bE kvs k
noncomputable def DPut (H:Hp) (a:Addr) (y v:V) (H':Hp):Prop :=
 (∃ kvs k,H a=some (.dK kvs)/\y=kV k/\kvs.length < sizeLine/\H'=upd H a (.dK (bT kvs k v))) \/
 ∃ kvs k b,H a=some (.dT kvs)/\y=.ref b/\H b=some (.tup (k.map kV))/\kvs.length < sizeLine/\H'=upd H a (.dT (bT kvs k v))
theorem DGet.k {H:Hp} {a:Addr} {kvs:List (aq×V)} {k:aq} (e:H a=some (.dK kvs)):DGet H a (kV k) (bE kvs k):=.inl ⟨kvs,k,.inl e,rfl,rfl⟩
theorem DGet.t {H:Hp} {a b:Addr} {kvs:List (List aq×V)} {k:List aq} (e:H a=some (.dT kvs)) (eb:H b=some (.tup (k.map kV))):DGet H a (.ref b) (bE kvs k):=.inr ⟨kvs,k,b,.inl e,rfl,eb,rfl⟩
theorem DPut.k {H:Hp} {a:Addr} {kvs:List (aq×V)} {k:aq} {v:V} (e:H a=some (.dK kvs)) (hl:kvs.length < sizeLine):DPut H a (kV k) v (upd H a (.dK (bT kvs k v))):=.inl ⟨kvs,k,e,rfl,hl,rfl⟩
theorem DPut.t {H:Hp} {a b:Addr} {kvs:List (List aq×V)} {k:List aq} {v:V} (e:H a=some (.dT kvs)) (eb:H b=some (.tup (k.map kV))) (hl:kvs.length < sizeLine) :
  DPut H a (.ref b) v (upd H a (.dT (bT kvs k v))):=.inr ⟨kvs,k,b,e,rfl,eb,hl,rfl⟩
section
variable {X:Cx} {pins:List (Addr×Obj)} {σ:St} {H:Hp} {s:Shared} {a:Addr} {y v:V} {u r:Value} {o:Option V} {A:Around} {E:Value->Shared->Prop}
theorem Inv.big (I:Inv X pins σ H s):sysModules < s.heap.objs.size:=by
 have h:mainGlobals < s.heap.objs.size:=(I.mod.glob.keeps I.bk).lt
 exact Nat.lt_trans (by decide) h
theorem ZmA {Q:Value->Shared->Prop} (hu:A.units+1 < cLine) (I:Inv X pins σ H s) (g:DGet H a y (some v)) (ry:RelV y u) (h:∀ w' s',Inv X pins σ H s'->RelV v w'->Q w' s') :
  wpAny (model X.prog X.w) A (getItem (.ref a) u) Q E s:=by
 rcases g with ⟨kvs,k,e,ey,l⟩ | ⟨kvs,k,b,e,ey,eb,l⟩
 ·subst ey
  obtain ⟨z,hd,vs,rel,dd⟩:=oa I.hok e
  obtain ⟨w',hw,rw'⟩:=RelO.some_of (v:=v) (o:=valueAt vs k) (by rw [l]; exact rel.val k)
  exact wpAny_getItem_of (nQ ry) dd.mapOf hw (h w' _ (I.tok _) rw')
 ·subst ey
  cases (show u=Value.ref b from ry)
  obtain ⟨z,hd,xs,rel,dd⟩:=n9 I.hok e
  obtain ⟨w',hw,rw'⟩:=RelO.some_of (v:=v) (o:=(atKey xs k).map (·.2)) (by rw [l]; exact rel.val k)
  obtain ⟨p,hp,hp2⟩:=Option.map_eq_some_iff.mp hw
  refine wpAny_getItem_heap (tupleKind_room_in1 hu) (nP I.hok eb) dd hp ?_
  rw [hp2]
  exact h w' _ (I.tok _) rw'
theorem Zmv {Q:Value->Shared->Prop} (hu:A.units+1 < cLine) (I:Inv X pins σ H s) (g:DGet H a y o) (ry:RelV y u) (h:∀ s',Inv X pins σ H s'->Q (.bool (!o.isSome)) s') :
  wpAny (model X.prog X.w) A (compareOp .NotIn u (.ref a)) Q E s:=by
 rcases g with ⟨kvs,k,e,ey,l⟩ | ⟨kvs,k,b,e,ey,eb,l⟩
 ·subst ey
  obtain ⟨z,hd,vs,rel,dd⟩:=oa I.hok e
  refine wpAny_notIn_of (nQ ry) hd dd.mapOf ?_
  rw [<- (rel.val k).isSome_eq,<- l]
  exact h _ (I.tok _)
 ·subst ey
  cases (show u=Value.ref b from ry)
  obtain ⟨z,hd,xs,rel,dd⟩:=n9 I.hok e
  refine wpAny_notIn_heap (tupleKind_room_in1 hu) (nP I.hok eb) hd dd ?_
  have q:=(rel.val k).isSome_eq
  rw [Option.isSome_map] at q
  rw [<- q,<- l]
  exact h _ (I.tok _)
theorem ZdS {h':Heap} {t':Nat} {ob:HO} (I:Inv X pins σ H s) (mu:lq (H a)) (hs:Heap.SameBut a s.heap h') (he:∃ q,h'.get? a=some q) (new:ObjOk X.prog X.w (upd H a ob) h' a ob) :
  Inv X pins σ (upd H a ob) { s with heap:=h',toks:=t' } :=
 I.write (x:=a) (e:=a) mu (.inl rfl) (λb q hb z=>(hs.2 b hb).trans z) he new
theorem Zmj {P:Program} {w:World} {H':Hp} {h':Heap} {kvs:List (aq×V)} {vs:List (aq×Value)} (z:kvs.length<=sizeLine) (hd:(a == sysModules)=false) (rel:KV kvs vs) (dd:h'.DictOf (cu P w) a vs) :
  ObjOk P w H' h' a (.dK kvs):=⟨z,hd,vs,rel,dd⟩
theorem Zmt {H':Hp} {Q:Unit->Shared->Prop} (hu:A.units+1 < cLine) (I:Inv X pins σ H s) (g:DPut H a y v H') (ry:RelV y u) (rv:RelV v r) (h:∀ s',Inv X pins σ H' s'->Q () s') :
  wpAny (model X.prog X.w) A (setItem (.ref a) u r) Q E s:=by
 rcases g with ⟨kvs,k,e,ey,l,eH⟩ | ⟨kvs,k,b,e,ey,eb,l,eH⟩
 ·subst ey eH
  obtain ⟨z,hd,vs,rel,dd⟩:=Zmi I.hok e
  have hz:vs.length<=sizeLine:=by rw [<- rel.length]; exact z
  have hl:(bT kvs k v).length<=sizeLine:=by have:=nE kvs k v; omega
  refine wpAny_setItem_pairs (hsz:=hz) (nQ ry) dd λh' dd' hs=>h _ ?_
  have he:∃ q,h'.get? a=some q:=let ⟨q,_,_,hq,_⟩:=dd'; ⟨q,hq⟩
  exact ZdS I (by rw [e]; exact True.intro) hs he (Zmj hl hd (rel.put k rv) dd')
 ·subst ey eH
  cases (show u=Value.ref b from ry)
  obtain ⟨z,hd,xs,rel,dd⟩:=Zmd I.hok e
  have hz:xs.length<=sizeLine:=by rw [<- Paired.length rel]; exact z
  have hl:(bT kvs k v).length<=sizeLine:=by have:=nE kvs k v; omega
  refine wpAny_setItem_heap (hsz:=hz) (tupleKind_room_in1 hu) (nP I.hok eb) dd λh' dd' hs=>h _ ?_
  obtain ⟨q,es,ep,hq,h2,h3,h4,_,h5⟩:=dd'
  refine ZdS I (by rw [e]; exact True.intro) hs ⟨q,hq⟩ ⟨hl,hd,_,(rel.put k eb rv).keeps λc ys ec=>?_,q,es,ep,hq,h2,h3,h4,h5⟩
  rw [au (Zh2 ec e (λz=>nomatch z))]
  exact ec
end
section
variable {X:Cx} {pins:List (Addr×Obj)} {σ:St} {H:Hp} {s:Shared} {a:Addr} {kvs:List (aq×V)} {k:aq} {u:Value} {A:Around} {E:Value->Shared->Prop}
end
noncomputable def Ze1 (i:Expr):Prop:=∀ ov iv,subscripted i false ov iv=operate [ov,iv] (getItem ov iv)
theorem ZfZ {prog:Program} {w:World} {A:Around} {E:Value->Shared->Prop} {s:Shared} {env:Env} {value slice:Expr} {pos:Pos} {T id:String} {Q:Value->Shared->Prop}
  (hl:typeLookup (.type T) "__getitem__"=pure (some (.builtin id))) (hs:Ze1 slice)
  (h:wpAny (model prog w) A (eval value env) (λo s₁=>wpAny (model prog w) A (eval slice env) (λi s₂=>s₂.TypeIs o T/\wpAny (model prog w) A (getItem o i) Q E s₂) E s₁) E s) :
  wpAny (model prog w) A (eval (.Subscript value slice pos) env) Q E s:=by
 refine Subscript_ (wpAny_mono h (λo s₁ h₁=>wpAny_mono h₁ (λi s₂ h₂=>?_) λ_ _ x=>x) λ_ _ x=>x)
 obtain ⟨hT,h₂⟩:=h₂
 unfold subscriptTail
 refine wpAny_bind ?_
 rw [getitemInPython_of_ne hT.not_modules]
 refine wpAny_bind (wpAny_specialOf hT hl ?_)
 have fin:wpAny (model prog w) A (subscripted slice false o i) (λr s₃=>wpAny (model prog w) A (letTemporaryGo value o r >>= λ_=>pure r) Q E s₃) E s₂:=by
  rw [hs o i]
  exact wpAny_operating (wpAny_mono h₂ (λr s₃ h₃=>wpAny_bind (wpAny_letTemporaryGo (wpAny_pure h₃))) λ_ _ x=>x)
 first
  | exact wpAny_pure (wpAny_bind fin)
  | exact wpAny_bind (wpAny_pure (wpAny_bind fin))
  | exact wpAny_bind fin
theorem Zml {X:Cx} {pins:List (Addr×Obj)} {σ:St} {H:Hp} {s:Shared} {a:Addr} {y:V} {o:Option V} (I:Inv X pins σ H s) (g:DGet H a y o):s.TypeIs (.ref a) "dict":=by
 rcases g with ⟨kvs,k,e,_,_⟩ | ⟨kvs,k,b,e,_,_,_⟩
 ·obtain ⟨_,_,vs,_,dd⟩:=oa I.hok e
  exact dd.typeIs
 ·obtain ⟨_,_,xs,_,dd⟩:=n9 I.hok e
  exact dd.typeIs
noncomputable def lH (td ty:TE):TE:=λσ H Q=>td σ H λx H1=>ty σ H1 λy H2=>∃ a v,x=.ref a/\DGet H2 a y (some v)/\Q v H2
noncomputable def ZaI (ty td:TE):TE:=λσ H Q=>ty σ H λy H1=>td σ H1 λx H2=>∃ a o,x=.ref a/\DGet H2 a y o/\Q (.bl (!o.isSome)) H2
noncomputable def pK (td ty tv:TE):TS:=λD σ H=>tv σ H λv H1=>td σ H1 λx H2=>ty σ H2 λy H3=>∃ a H4,x=.ref a/\DPut H3 a y v H4/\D.nx σ H4
section
variable {X:Cx} {o i e value:Expr} {pos pos' tpos:Pos} {td ty tv:TE}
theorem mP (hu:X.A.units+1 < cLine) (ho:PE X o td) (hi:PE X i ty) (hs:Ze1 i):PE X (.Subscript o i pos) (lH td ty):=by
 intro pins s σ H Q I h
 refine ZfZ PySem.F.slot_dict_getitem.lookup hs (thn (ho pins s σ H _ I h) λu s1 ⟨x,H1,I1,rx,q1⟩=>thn (hi pins s1 σ H1 _ I1 q1) λiv s2 hz0=>?_)
 obtain ⟨y,H2,I2,ry,a,v,ex,g,q2⟩:=hz0
 subst ex
 obtain rfl:u=Value.ref a:=rx
 exact ⟨Zml I2 g,ZmA hu I2 g ry λw' s3 I3 rw'=>⟨v,H2,I3,rw',q2⟩⟩
theorem Zhw (hu:X.A.units+1 < cLine) (hi:PE X i ty) (ho:PE X o td):PC X .NotIn i o (ZaI ty td):=by
 intro pins s σ H Q I h
 refine thn (hi pins s σ H _ I h) λiv s1 ⟨y,H1,I1,ry,q1⟩=>thn (ho pins s1 σ H1 _ I1 q1) λu s2 hz0=>?_
 obtain ⟨x,H2,I2,rx,a,ov,ex,g,q2⟩:=hz0
 subst ex
 obtain rfl:u=Value.ref a:=rx
 exact Zmv hu I2 g ry λs3 I3=>⟨.bl (!ov.isSome),H2,I3,rfl,q2⟩
theorem Zb1 (hu:X.A.units+1 < cLine) (ho:PE X o td) (hi:PE X i ty) (hv:PE X value tv) (hs:swapsWith value (some (.Subscript o i pos')) pos.line X.env=pure false) :
  PS X (.Assign [.Subscript o i pos'] value pos) (pK td ty tv):=by
 intro pins s σ H D I h
 refine wpAny_Assign_Subscript (thn (hv pins s σ H _ I h) λr s1 ⟨v,H1,I1,rv,q1⟩=>thn (ho pins s1 σ H1 _ I1 q1) λu s2 ⟨x,H2,I2,rx,q2⟩=>thn (hi pins s2 σ H2 _ I2 q2) λiv s3 hz0=>?_) hs
 obtain ⟨y,H3,I3,ry,a,H4,ex,g,q3⟩:=hz0
 subst ex
 obtain rfl:u=Value.ref a:=rx
 exact Zmt hu I3 g ry rv λs4 I4=>⟨σ,H4,I4,q3⟩
end
theorem Zmk {P:Program} {w:World} {H:Hp} (h:Heap) (hb:sysModules < h.objs.size):ObjOk P w H (h.push { cls:=.type "dict",data:=.dict #[] }) h.objs.size (.dK []) :=
 ⟨Nat.zero_le _,beq_eq_false_iff_ne.mpr (Ne.symm (Nat.ne_of_lt hb)),[],.nil,Heap.DictOf.new h⟩
theorem Zme {P:Program} {w:World} {H:Hp} (h:Heap) (hb:sysModules < h.objs.size):ObjOk P w H (h.push { cls:=.type "dict",data:=.dict #[] }) h.objs.size (.dT []) :=
 ⟨Nat.zero_le _,beq_eq_false_iff_ne.mpr (Ne.symm (Nat.ne_of_lt hb)),[],.nil,_,#[],0,Heap.get?_push_size _ rfl,⟨rfl,rfl,rfl⟩,rfl,rfl,List.nodup_nil⟩
noncomputable def ZaJ:TE:=λ_ H Q=>∀ p,H p=none->Q (.ref p) (upd H p (.dK []))
noncomputable def ZfU:TE:=λ_ H Q=>∀ p,H p=none->Q (.ref p) (upd H p (.dT []))
section
variable {X:Cx} {pos:Pos}
theorem Zho:PE X (.Dict [] [] pos) ZaJ:=λpins s σ H Q I h =>
 wpAny_Dict_empty ⟨.ref s.heap.objs.size,_,I.laid (a:=s.heap.objs.size) (o:=.dK []) (t':=s.toks) (λ_ _ q=>Heap.get?_push_of_some _ q) (Nat.le_refl _) (Zmk s.heap I.big),rfl,h _ (I.hok.fresh (Nat.le_refl _))⟩
theorem Zhn:PE X (.Dict [] [] pos) ZfU:=λpins s σ H Q I h =>
 wpAny_Dict_empty ⟨.ref s.heap.objs.size,_,I.laid (a:=s.heap.objs.size) (o:=.dT []) (t':=s.toks) (λ_ _ q=>Heap.get?_push_of_some _ q) (Nat.le_refl _) (Zme s.heap I.big),rfl,h _ (I.hok.fresh (Nat.le_refl _))⟩
end
section
variable {X:Cx} {pins:List (Addr×Obj)} {σ:St} {H:Hp} {s:Shared} {a:Addr} {y d:V} {u r:Value} {o:Option V} {A:Around} {E:Value->Shared->Prop}
end
section
variable {X:Cx} {o e f:Expr} {apos cpos:Pos} {td ty tx:TE}
end
section
variable {X:Cx} {pins:List (Addr×Obj)} {σ:St} {H:Hp} {s:Shared} {a:Addr} {kvs:List (aq×V)} {A:Around} {E:Value->Shared->Prop}
end
section
variable {X:Cx} {pins:List (Addr×Obj)} {σ:St} {H:Hp} {s:Shared} {a:Addr} {y:V} {u:Value} {A:Around} {E:Value->Shared->Prop}
end
end L2
namespace Att
open PySem PySem.W PySem.Calls PyProof.Rows
theorem ints_of_wellAll {P:Params} {h:Heap}:∀ (ns:List Int) (vs:List Value),WellAll P h vs (ns.map WData.int)->IntsAre vs ns:=by
 intro ns
 induction ns with
 | nil =>
  intro vs w
  rw [List.map_nil] at w
  cases w
  exact .nil
 | cons n ns ih =>
  intro vs w
  rw [List.map_cons] at w
  cases w with
  | cons a b =>
   cases a
   exact .cons _ _ (ih _ b)
theorem script_of {l:OpenLaw} {n:Nat} (hn:l.most=some n) {P:Params} {h:Heap} {args:List WData} {vals:List Value}
  (hpre:l.row.toRowW.claim.pre args=true) (hwl:WellAll P h vals args) :
  ∃ a vs ns,vals=[Value.ref a]/\args=[WData.list (ns.map WData.int)]/\h.get? a=some { cls:=.type "list",data:=.seq vs.toArray }/\IntsAre vs ns/\ns.length<=n:=by
 have hsh:WShape.hasAll [] args [.list .int]=true:=(pre_splitW hpre).1
 have hc:l.pre.holds [] { args:=args }=true:=(pre_splitW hpre).2
 obtain ⟨d,r,rfl,h1,h2⟩:=hasAllW_cons hsh
 obtain rfl:=hasAllW_nil h2
 obtain ⟨xs,rfl,h3⟩:=hasW_list h1
 obtain ⟨ns,rfl⟩:=items_int h3
 have hlen:ns.length<=n:=by
  unfold OpenLaw.pre at hc
  have h4:(WTm.not (.lt (.lit (.int (n:Int))) (.len (.arg 0)))).holds [] { args:=[.list (ns.map .int)] }=true:=by
   have h4:=(holds_andW hc).1
   rw [hn] at h4
   exact h4
  have h5:=condW_of h4 (w_not (w_lt w_lit (w_len_list (w_arg rfl))))
  rw [List.length_map] at h5
  refine Nat.le_of_not_lt λq=>?_
  have q':(n:Int) < ((ns.length:Nat):Int):=by omega
  first
   | (rw [decide_eq_true q'] at h5; exact absurd h5 (by decide))
   | (simp at h5; omega)
 cases hwl with
 | cons w1 w2 =>
  cases w2
  cases w1 with
  | list ho hall=>exact ⟨_,_,ns,rfl,rfl,ho,ints_of_wellAll ns _ hall,hlen⟩
theorem post_true (l:OpenLaw) (args:List WData):l.row.toRowW.claim.post args (.bool true) args=true :=
 postW_of (r:=l.row.toRowW) (X:=(true == true))
  (show WShape.has [] (.bool true) .bool=true by first | rfl | decide | simp [WShape.has,WShape.arms,WShape.armsAll])
  (show (WTm.eq .res (.lit (.bool true))).value [] { args:=args,res:=some (.bool true),after:=args }=some (.bool (true == true)) from w_eq_bool (w_res rfl) w_lit) rfl
theorem attach_call {l:OpenLaw} {n:Nat} {q:Program} {loose:List Str} {XP:(Str->Option Value)->Heap->Prop} {YP:World->Heap->Prop} {d:DefRec}
  (hn:l.most=some n) (hdf:d.params.defaults=[])
  (call:∀ (w:World) (s₀ s₁:Shared) (mg mb:Str->Option Value) (fa:Addr) (o:Obj) (pm cd doc:Value) (a:Addr) (vs:List Value) (ns:List Int),
   Ground q loose [] XP w s₀ mg mb s₁.heap->YP w s₁.heap ->
   s₁.heap.get? fa=some o->o.data=.func (docDef d.name d.params d.body d.scope pm cd doc)->s₁.heap.CodeRec cd d.name->mg d.name=some (.ref fa) ->
   s₁.heap.get? a=some { cls:=.type "list",data:=.seq vs.toArray }->IntsAre vs ns->ns.length<=n->s₁.gens=#[] ->
   codeAny (model l.prog w) callerA (.call (.ref fa) ⟨[.ref a],[]⟩) (λr s'=>r=.ok (.ret (.bool true))/\OldK s₁.heap s'.heap/\s'.os=s₁.os/\AllBare s'.gens) s₁) :
  WalkO q loose XP YP l.row.toRowW d [] (λf vs=>PySem.call f vs):=by
 intro w s₀ s₁ mg mb G Y fa o pm cd doc dV kV ho hd hcd hD hmg hg args vals as hpre hlay hrd hwl hlo
 obtain rfl:dV=.none:=Dflts.none hD hdf
 obtain rfl:kV=.none:=Dflts.noKw hD
 obtain ⟨a,vs,ns,rfl,rfl,hobj,hints,hlen⟩:=script_of hn hpre hwl
 refine enter_call (codeAny_mono (call w s₀ s₁ mg mb fa o pm cd doc a vs ns G Y ho (fd_plain hd) hcd hmg hobj hints hlen hg) λr s' hq=>?_)
 obtain ⟨rfl,h2,h3,h4⟩:=hq
 exact ⟨.inl ⟨.bool true,.bool true,[],rfl,λ_=>rfl,.bool true,post_true l _,λ_=>⟨List.Pairwise.nil,λ_ hm=>(nomatch hm)⟩⟩,h2,h3,h4⟩
section
variable {prog:Program} {w:World} {A:Around} {E:Value->Shared->Prop} {s:Shared} {K:Frag}
end
end Att
namespace L2
open PySem PySem.Spec PyProof.Rows
theorem Zfp {vs:List Value} {ns:List Int} (h:IntsAre vs ns):Vals (ns.map V.int) vs:=by
 induction h with
 | nil=>exact .nil
 | cons n t h ih=>exact .cons ⟨t,rfl⟩ ih
noncomputable def oI (H:Hp):Prop:=∀ b,H b=none\/∃ o xs,H b=some (.frz o (.lst xs))
theorem Ziy {P:Program} {w:World} {K:PySem.W.Frag} {mg mb:Str->Option Value} {CX:d4} {k:Nat} {fa a:Addr} {fd:FuncData} {x:Str} {sp:Sp} {s₁:Shared} {vs:List Value} {ns:List Int}
  (KX:K.In s₁.heap) (hns:s₁.heap.Ns mainGlobals mg) (hb:s₁.heap.Ns builtinsNs mb) (hbb:∀ x:Str,x≠"__name__"->mb x=bootBuiltins x) (hlim:s₁.heap.NoLimit) (hdig:s₁.heap.NoDigits) (hg:s₁.gens=#[])
  (ha:s₁.heap.get? a=some { cls:=.type "list",data:=.seq vs.toArray }) (hi:IntsAre vs ns) (hl:ns.length<=sizeLine) (hr:Room k callerA)
  (F:∀ base:Heap,K.In base->base.Ns mainGlobals mg->FnOk P w K mg base CX k fa fd [x] sp) (hbind:∀ (s:Shared) (u:Value),BindsTo s fd ⟨[u],[]⟩ [(x,u)])
  (hsp:∀ H:Hp,oI H->SqL K H a (ns.map V.int)->sp [.ref a] H (λv _=>v=.bl true) λ_ _ _=>False)
  (hCX:∀ H e s',CX [] H s₁ (λ_ _ _=>False) e s'->False) :
  codeAny (model P w) callerA (.call (.ref fa) ⟨[.ref a],[]⟩) (λr s'=>r=.ok (.ret (.bool true))/\OldK s₁.heap s'.heap/\s'.os=s₁.os/\AllBare s'.gens) s₁:=by
 have rv:=Zfp hi
 have lenV:=hi.length
 -- from an abstract heap in which nothing but the script may be tracked
 have core:∀ H:Hp,oI H->SqL K H a (ns.map V.int)->HOk P w H s₁.heap->(∀ b,H b≠none->b=a)->(H a≠none->K.lookup a=none) ->
   codeAny (model P w) callerA (.call (.ref fa) ⟨[.ref a],[]⟩) (λr s'=>r=.ok (.ret (.bool true))/\OldK s₁.heap s'.heap/\s'.os=s₁.os/\AllBare s'.gens) s₁:=by
  intro H hO hS hok hA hK
  have base_of:∀ {b:Addr} {o:Obj},s₁.heap.get? b=some o->H b=none->(gf s₁.heap H).get? b=some o:=λe n=>Zi2 e n
  have noA:∀ {b:Addr} {o:Obj} {es:Array DictEntry} {ep:Nat},s₁.heap.get? b=some o->o.data=.dict es ep->H b=none:=λ{b o es ep} e d=>by
   cases q:H b with
   | none=>rfl
   | some u =>
    have e':b=a:=hA b (by rw [q]; simp)
    subst e'
    rw [ha] at e; cases e
    have d':Data.seq vs.toArray _=Data.dict es ep:=d
    cases d'
  have nsK:∀ {b:Addr} {m:Str->Option Value},s₁.heap.Ns b m->(gf s₁.heap H).Ns b m:=λ{b m} hz0=>by
   obtain ⟨o,es,ep,e,d,r⟩:=hz0
   exact ⟨o,es,ep,base_of e (noA e d),d,r⟩
  have hKb:K.In (gf s₁.heap H):=λb o e=>base_of (KX b o e) (by
   cases q:H b with
   | none=>rfl
   | some u =>
    have e':b=a:=hA b (by rw [q]; simp)
    subst e'
    rw [hK (by rw [q]; simp)] at e; cases e)
  have hM:Mod K mg (gf s₁.heap H):=⟨hKb,nsK hns,⟨mb,nsK hb,hbb⟩,let ⟨mc,h1,h2⟩:=hlim; ⟨mc,nsK h1,h2⟩,let ⟨mc,h1,h2⟩:=hdig; ⟨mc,nsK h1,h2⟩⟩
  have e0:Env0 P w K mg (gf s₁.heap H) callerA [] s₁ H:=⟨rfl,hM,λb o e=>ZhS e,Nat.le_of_eq (Zi1 _ _),trivial,λb hb=>absurd (show b∈([]:List Addr) from hb) (by simp),hok,.of_eq hg⟩
  refine codeAny_mono ((F _ hKb (nsK hns)).run callerA [] s₁ H ⟨[.ref a],[]⟩ [.ref a] [.ref a] _ _ hr e0 (hbind s₁ (.ref a)) (.cons rfl .nil) (hsp H hO hS)) λr s' h=>?_
  cases r with
  | error e=>exact (hCX H e s' h).elim
  | ok fl =>
   cases fl with
   | next=>exact False.elim h
   | brk=>exact False.elim h
   | cont=>exact False.elim h
   | ret u =>
    obtain ⟨v,H',os,bare,un,hok',r',q⟩:=h
    have q':v=.bl true:=q
    subst q'
    obtain rfl:u=Value.bool true:=r'
    refine ⟨rfl,OldK.of_keep λb o e=>?_,os,bare⟩
    cases q:H b with
    | none=>exact un.keep b o e q (by intro z; exact absurd (show b∈([]:List Addr) from z) (by simp)) (by simp)
    | some u =>
     rcases hO b with z | ⟨ob,xs,z⟩
     ·rw [q] at z; cases z
     ·have z2:=un.frzs b ob _ z
      obtain ⟨e1,_⟩:=hok b _ z
      obtain ⟨e2,_⟩:=hok' b _ z2
      rw [e] at e1; cases e1
      exact e2
 cases hk:K.lookup a with
 | some o =>
  -- the script is one of the module's own objects
  have e:=KX a o hk
  rw [ha] at e
  cases e
  refine core (λ_=>none) (λ_=>.inl rfl) (.inr ⟨_,vs.toArray,_,hk,rfl,rfl,rfl,by rw [List.size_toArray,lenV]; exact hl,by simpa using rv⟩) (λb u z=>by have z':(none:Option HO)=some u:=z; cases z') (λb z=>absurd rfl z) λz=>absurd rfl z
 | none =>
  refine core (λb=>if b=a then some (.frz { cls:=.type "list",data:=.seq vs.toArray } (.lst (ns.map V.int))) else none) (λb=>?_) (.inl (.inr ⟨{ cls:=.type "list",data:=.seq vs.toArray },if_pos rfl⟩)) (λb u z=>?_) (λb z=>?_) λ_=>hk
  ·by_cases hb:b=a
   ·exact .inr ⟨_,_,if_pos hb⟩
   ·exact .inl (if_neg hb)
  ·by_cases hb:b=a
   ·have z':=(if_pos hb).symm.trans z
    cases z'
    subst hb
    exact ⟨ha,by rw [List.length_map]; exact hl,vs,_,rv,ha⟩
   ·have z':=(if_neg hb).symm.trans z
    cases z'
  ·by_cases hb:b=a
   ·exact hb
   ·exact absurd (if_neg hb) z
noncomputable abbrev aw {K:PySem.W.Frag} {h:Heap} (_:K.In h):PySem.W.Frag:=K
theorem Zff {l:PySem.W.OpenLaw} {n k:Nat} {q:Program} {loose:List Str} {XP:(Str->Option Value)->Heap->Prop} {YP:World->Heap->Prop} {d:DefRec} {K:Params->PySem.W.Frag} {CX:World->d4} {sp:World->Sp} {x:Str}
  (hn:l.most=some n) (hn2:n<=sizeLine) (hdf:d.params.defaults=[]) (hr:Room k callerA)
  (hY:∀ (w:World) (h:Heap),YP w h->(K w.params).In h)
  (F:∀ (w:World) (mg:Str->Option Value) (fa:Addr) (h:Heap),(K w.params).In h->h.Ns mainGlobals mg->mg d.name=some (.ref fa) ->
   ∃ fd:FuncData,(∀ (s:Shared) (u:Value),BindsTo s fd ⟨[u],[]⟩ [(x,u)]) /\
    ∀ base:Heap,(K w.params).In base->base.Ns mainGlobals mg->FnOk l.prog w (K w.params) mg base (CX w) k fa fd [x] (sp w))
  (hsp:∀ (w:World) (H:Hp) (a:Addr) (ns:List Int),ns.length<=n->oI H->SqL (K w.params) H a (ns.map V.int)->sp w [.ref a] H (λv _=>v=.bl true) λ_ _ _=>False)
  (hCX:∀ (w:World) (H:Hp) (s:Shared) (e:Value) (s':Shared),CX w [] H s (λ_ _ _=>False) e s'->False) :
  PySem.W.WalkO q loose XP YP l.row.toRowW d [] (λf vs=>PySem.call f vs):=by
 refine Att.attach_call hn hdf λw s₀ s₁ mg mb fa o pm cd doc a vs ns G Y ho hd hcd hmg hobj hints hlen hg=>?_
 have KX:=hY w _ Y
 obtain ⟨fd,hb,hF⟩:=F w mg fa _ KX G.T.g hmg
 exact Ziy KX G.T.g G.T.b G.T.builtins G.T.nolimit G.T.nodigits hg hobj hints (Nat.le_trans hlen hn2) hr hF hb (λH hO hS=>hsp w H a ns hlen hO hS) λH e s'=>hCX w H s₁ e s'
theorem Zfe {l:PySem.W.OpenLaw} {n k:Nat} {q:Program} {loose:List Str} {XP:(Str->Option Value)->Heap->Prop} {YP:World->Heap->Prop} {d:DefRec} {K:Params->PySem.W.Frag} {CX:d4} {sp:PySem.W.Frag->Sp} {x:Str}
  (hn:l.most=some n) (hn2:n<=sizeLine) (hdf:d.params.defaults=[]) (hr:Room k callerA)
  (hY:∀ (w:World) (h:Heap),YP w h->(K w.params).In h)
  (F:∀ (w:World) (mg:Str->Option Value) (fa:Addr) (h:Heap),(K w.params).In h->h.Ns mainGlobals mg->mg d.name=some (.ref fa) ->
   ∃ fd:FuncData,(∀ (s:Shared) (u:Value),BindsTo s fd ⟨[u],[]⟩ [(x,u)]) /\
    ∀ base:Heap,(K w.params).In base->base.Ns mainGlobals mg->FnOk l.prog w (K w.params) mg base CX k fa fd [x] (sp (K w.params)))
  (hsp:∀ (K:PySem.W.Frag) (H:Hp) (a:Addr) (ns:List Int),ns.length<=n->oI H->SqL K H a (ns.map V.int)->sp K [.ref a] H (λv _=>v=.bl true) λ_ _ _=>False)
  (hCX:∀ (H:Hp) (s:Shared) (e:Value) (s':Shared),CX [] H s (λ_ _ _=>False) e s'->False) :
  PySem.W.WalkO q loose XP YP l.row.toRowW d [] (λf vs=>PySem.call f vs) :=
 Zff (K:=K) (CX:=λ_=>CX) (sp:=λw=>sp (K w.params)) hn hn2 hdf hr hY F (λw H a ns h1 h2 h3=>hsp (K w.params) H a ns h1 h2 h3) λ_ H s e s'=>hCX H s e s'
noncomputable def ji (s:Stmt):Arguments:=match s with
 | .FunctionDef _ a _ _ _ _ _ _ _ _=>a
 | _=>{ posonlyargs:=[],args:=[],vararg:=none,kwonlyargs:=[],kw_defaults:=[],kwarg:=none,defaults:=[] }
noncomputable def fo (s:Stmt):List Stmt:=match s with
 | .FunctionDef _ _ b _ _ _ _ _ _ _=>b
 | _=>[]
noncomputable def az (s:Stmt):Scope:=match s with
 | .FunctionDef _ _ _ _ _ _ sc _ _ _=>sc
 | _=>{ kind:=.function,names:=[],isGenerator:=false,isCoroutine:=false }
noncomputable abbrev gk:d4:=λ_ _ _ _ _ _=>False
noncomputable abbrev E0:XK:=λ_ _ _=>False
theorem Zhy {X:Cx}:sV gk X E0:=λ_ _ _ _ _ _ _ h=>h.elim
structure Fun (K:PySem.W.Frag) (x qual:Str) (st:Stmt) (f:Addr) (fd:FuncData):Prop where
 ex:∃ (oc:Value) (od:Option Addr) (kV doc pm:Value) (an:Option Addr) (cdv ct:Value) (osl:Array (Option Value)),
  fd=PySem.W.fnOf x qual (ji st) (fo st) (az st) .none kV doc pm an cdv ct/\K.lookup f=some ⟨oc,od,.func fd,osl⟩/\PySem.W.codeIn K cdv qual=true
 kp:PySem.W.keepIn K (.ref f)=true
section
variable {P:Program} {w:World} {K:PySem.W.Frag} {mg:Str->Option Value} {base:Heap}
theorem Fun.ok {x qual:Str} {st:Stmt} {f:Addr} {fd:FuncData} {N ps:List Str} {k:Nat} {sp:Sp} (F:Fun K x qual st f fd) (S:FnScope N ps (az st)) (len:∀ vs H Q E,sp vs H Q E->vs.length=ps.length)
  (hbody:∀ (cdv:Value) (A:Around) (outer:List Env) (s:Shared) (H:Hp) (vs:List V) (Q:VK) (E:XK),Room k (A.deeper (envOfC qual (az st) s.heap.objs.size f cdv))->sp vs H Q E ->
   ∃ t,PSs (cD gk P w K mg base N qual (az st) f cdv A outer s H E).nox (fo st) t/\t { nx:=λ_ H'=>Q .non H',rt:=Q } (start N vs) H):FnOk P w K mg base gk (k+1) f fd ps sp:=by
 obtain ⟨oc,od,kV,doc,pm,an,cdv,ct,osl,rfl,lk,hcd⟩:=F.ex
 refine Zdg lk hcd S len λA outer s H vs Q E hr hsp=>?_
 obtain ⟨t,h,q⟩:=hbody cdv A outer s H vs Q E hr hsp
 exact ⟨t,h.nox,q⟩
theorem Fun.binds {x qual:Str} {st:Stmt} {f:Addr} {fd:FuncData} {ps:List Str} (F:Fun K x qual st f fd)
  (h:∀ (kV doc pm:Value) (an:Option Addr) (cdv ct:Value) (us:List Value),us.length=ps.length->bindArgs (PySem.W.fnOf x qual (ji st) (fo st) (az st) .none kV doc pm an cdv ct) ⟨us,[]⟩=pure (ps.zip us)):Binds K fd ps []:=by
 obtain ⟨oc,od,kV,doc,pm,an,cdv,ct,osl,rfl,lk,hcd⟩:=F.ex
 exact .all (h kV doc pm an cdv ct)
theorem Zjq {x qual:Str} {st:Stmt} {f:Addr} {oc:Value} {od an:Option Addr} {osl:Array (Option Value)} {kV doc pm cdv ct:Value} (l:K.lookup f=some ⟨oc,od,.func (PySem.W.fnOf x qual (ji st) (fo st) (az st) .none kV doc pm an cdv ct),osl⟩)
  (c:PySem.W.codeIn K cdv qual=true) (k:PySem.W.keepIn K (.ref f)=true):Fun K x qual st f (PySem.W.fnOf x qual (ji st) (fo st) (az st) .none kV doc pm an cdv ct):=⟨⟨oc,od,kV,doc,pm,an,cdv,ct,osl,rfl,l,c⟩,k⟩
end
theorem fL {A:Around} {k:Nat} (hr:Room k A):A.units+1 < cLine:=Nat.lt_of_le_of_lt (Nat.add_le_add_left (by decide:1<=64) _) hr.units
section
variable {X:Cx}
theorem pv (i:Nat) {x:Str} {pos:Pos} (hN:X.N[i]?=some x:=by rfl) (hv:oD X.env.scope x:=by first | exact Or.inl rfl | exact Or.inr (Or.inl rfl) | exact Or.inr (Or.inr rfl)) (hd:(x == ("__debug__":Str))=false:=by decide)
  (hcd:(x == ("__classdict__":Str))=false:=by decide):PE X (.Name x pos) (cM i):=Zhh hN hv hd hcd
end
theorem ZiU {A B:Prop} (h:B):if false=true then A else B:=by
 rw [if_neg Bool.false_ne_true]
 exact h
theorem nR {c A B:Prop} [Decidable c] (h1:c->A) (h2:¬ c->B):if c then A else B:=by
 by_cases h:c
 ·rw [if_pos h]
  exact h1 h
 ·rw [if_neg h]
  exact h2 h
noncomputable def Same (H H':Hp):Prop:=∀ b o,H b=some o->H' b=some o
theorem Same.refl (H:Hp):Same H H:=λ_ _ h=>h
theorem Same.free {H H':Hp} (e:Same H H') {l:Addr} (h:H' l=Option.none):H l=Option.none:=by
 cases q:H l with
 | none=>rfl
 | some o =>
  rw [e l o q] at h
  cases h
structure Blk where
 cl:List (Str×Addr)
 C:Addr
 s:Shared
 H:Hp
 fp:List Addr
 pn:List (Addr×Obj)
noncomputable def aY (X:Cx) (N:List Str) (scope:Scope) (b:Blk):Cx where
 prog:=X.prog
 w:=X.w
 K:=X.K
 mg:=X.mg
 base:=X.base
 A:=X.A
 N:=N
 s₀:=b.s
 H₀:=b.H
 env:=compEnvC scope b.cl b.C X.env
 outer:=X.stack
 stack:=X.stack
 ex:=b.fp
 fn:=λx=>scope.names.lookup x == some .cell
 calm:=X.calm
 pn:=b.pn
 xe:=λ_ _=>False
noncomputable def bN (Nx ts:List Str) (ix:List Nat):List Str:=ts++ix.map λj=>(Nx[j]?).getD Str.empty
noncomputable def cL (n:Nat) (ix:List Nat) (σ:St):St:=List.replicate n none++ix.map λj=>(σ[j]?).getD none
structure BlkOk (Nx:List Str) (sc scope:Scope) (ix:List Nat):Prop where
 kind:scope.kind=.function
 cells:∀ y∈scope.names,y.2=.cell->scope.names.lookup y.1=some .cell
 locs:∀ y∈scope.names,y.2=.local->scope.names.lookup y.1=some .local
 frees:∀ y∈scope.names,y.2=.free->sc.names.lookup y.1=some .cell\/sc.names.lookup y.1=some .free
 caps:∀ j∈ix,j < Nx.length/\scope.names.lookup ((Nx[j]?).getD Str.empty)=some .free
theorem rz {env:Env} {f:Str×NameKind->List (Str×Addr)->Sem (ForInStep (List (Str×Addr)))}
  (h1:∀ n k r,k≠NameKind.free->f (n,k) r=pure (.yield r)) (h2:∀ n r c,env.cells.lookup n=some c->f (n,NameKind.free) r=pure (.yield ((n,c)::r))) :
  ∀ (names:List (Str×NameKind)) (acc:List (Str×Addr)),(∀ y∈names,y.2=.free->∃ c,env.cells.lookup y.1=some c)->(∀ x c,acc.lookup x=some c->env.cells.lookup x=some c) ->
   ∃ cl,forIn names acc f=pure cl/\(∀ x c,cl.lookup x=some c->env.cells.lookup x=some c)/\(∀ y∈names,y.2=.free->∃ c,cl.lookup y.1=some c)/\∀ x c,acc.lookup x=some c->∃ c',cl.lookup x=some c'
 | [],acc,_,ha=>⟨acc,rfl,ha,(λ_ h=>nomatch h),λx c h=>⟨c,h⟩⟩
 | (n,k)::names,acc,hn,ha=>by
  have hn':∀ y∈names,y.2=.free->∃ c,env.cells.lookup y.1=some c:=λy hy=>hn y (List.mem_cons_of_mem _ hy)
  by_cases hk:k=.free
  ·subst hk
   obtain ⟨c,hc⟩:=hn (n,.free) List.mem_cons_self rfl
   have ha':∀ x d,((n,c)::acc).lookup x=some d->env.cells.lookup x=some d:=λx d e=>by
    rw [List.lookup_cons] at e
    cases hx:x == n with
    | true =>
     rw [hx] at e
     have hxn:x=n:=by simpa using hx
     subst hxn
     cases e
     exact hc
    | false =>
     rw [hx] at e
     exact ha x d e
   obtain ⟨cl,e,p1,p2,p3⟩:=rz h1 h2 names ((n,c)::acc) hn' ha'
   refine ⟨cl,?_,p1,λy hy hf=>?_,λx d hx=>?_⟩
   ·rw [List.forIn_cons,h2 n acc c hc,pure_bind]
    exact e
   ·rcases List.mem_cons.mp hy with rfl | hy
    ·exact p3 n c (by simp)
    ·exact p2 y hy hf
   ·by_cases e1:x=n
    ·subst e1
     exact p3 x c (by simp)
    ·exact p3 x d (by rw [List.lookup_cons,beq_false_of_ne e1]; exact hx)
  ·obtain ⟨cl,e,p1,p2,p3⟩:=rz h1 h2 names acc hn' ha
   refine ⟨cl,?_,p1,λy hy hf=>?_,p3⟩
   ·rw [List.forIn_cons,h1 n k acc hk,pure_bind]
    exact e
   ·rcases List.mem_cons.mp hy with rfl | hy
    ·exact absurd hf hk
    ·exact p2 y hy hf
theorem kL {scope:Scope} {env:Env} (hn:∀ y∈scope.names,y.2=.free->∃ c,env.cells.lookup y.1=some c) :
  ∃ cl,closureFor scope env=pure cl/\(∀ x c,cl.lookup x=some c->env.cells.lookup x=some c)/\∀ y∈scope.names,y.2=.free->∃ c,cl.lookup y.1=some c:=by
 unfold closureFor
 have key:=rz (env:=env) (f:=λ(x:Str×NameKind) (r:List (Str×Addr))=>match x with
  | (name,kind)=>if (kind == NameKind.free)=true then (do let a <- cellOf env name; pure (ForInStep.yield ((name,a)::r))) else pure (ForInStep.yield r))
  (λn k r hk=>by
   have hb:(k == NameKind.free)=false:=by simpa using hk
   show (if (k == NameKind.free)=true then _ else _)=_
   rw [hb]
   rfl)
  (λn r c hc=>by
   show (do let a <- cellOf env n; pure (ForInStep.yield ((n,a)::r)))=_
   unfold cellOf
   rw [hc]
   rfl) scope.names [] hn (λx c h=>by simp at h)
 obtain ⟨cl,e,p1,p2,_⟩:=key
 refine ⟨cl,?_,p1,p2⟩
 show (forIn scope.names [] _ >>= λr=>pure r)=pure cl
 exact (congrArg (λt=>t >>= λr=>pure r) e).trans (pure_bind _ _)
section
variable {X:Cx} {pins:List (Addr×Obj)} {σ:St} {H:Hp} {s:Shared}
theorem Zbq {scope:Scope} {env:Env} {x:Str} (h:scope.names.lookup x=some .free):(relabel scope env).names.lookup x=some .cell\/(relabel scope env).names.lookup x=some .free:=by
 unfold relabel
 show List.lookup x (scope.names.map _)=_\/List.lookup x (scope.names.map _)=_
 generalize scope.names=l at h
 induction l with
 | nil=>simp at h
 | cons p r ih =>
  obtain ⟨n,k⟩:=p
  rw [List.map_cons]
  cases hx:x == n with
  | true =>
   rw [List.lookup_cons,hx] at h
   have hk:k=.free:=by simpa using h
   subst hk
   by_cases hc:(NameKind.free == NameKind.free && env.scope.kind == .function && env.kindOf n == some .cell)=true
   ·refine .inl ?_
    show List.lookup x ((if (NameKind.free == NameKind.free && env.scope.kind == .function && env.kindOf n == some .cell)=true then (n,NameKind.cell) else (n,NameKind.free))::_)=_
    rw [if_pos hc,List.lookup_cons,hx]
   ·refine .inr ?_
    show List.lookup x ((if (NameKind.free == NameKind.free && env.scope.kind == .function && env.kindOf n == some .cell)=true then (n,NameKind.cell) else (n,NameKind.free))::_)=_
    rw [if_neg hc,List.lookup_cons,hx]
  | false =>
   rw [List.lookup_cons,hx] at h
   have key:∀ q:Str×NameKind,(q=(n,NameKind.cell)\/q=(n,k))->∀ l',List.lookup x (q::l')=List.lookup x l':=λq hq l'=>by
    rcases hq with rfl | rfl <;> rw [List.lookup_cons,hx]
   have hq:(if (k == NameKind.free && env.scope.kind == .function && env.kindOf n == some .cell)=true then (n,NameKind.cell) else (n,k))=(n,NameKind.cell)\/(if (k == NameKind.free && env.scope.kind == .function && env.kindOf n == some .cell)=true then (n,NameKind.cell) else (n,k))=(n,k):=by
    split
    ·exact .inl rfl
    ·exact .inr rfl
   rcases ih h with z | z
   ·exact .inl ((key _ hq _).trans z)
   ·exact .inr ((key _ hq _).trans z)
theorem ZgK {scope:Scope} {env:Env} {x:Str} (h:(relabel scope env).names.lookup x=some .cell\/(relabel scope env).names.lookup x=some .free):∃ y∈scope.names,y.1=x/\(y.2=.free\/y.2=.cell):=by
 unfold relabel at h
 have h':List.lookup x (scope.names.map λ(n,k)=>if (k == .free && env.scope.kind == .function && env.kindOf n == some .cell) then (n,NameKind.cell) else (n,k))=some .cell\/List.lookup x (scope.names.map λ(n,k)=>if (k == .free && env.scope.kind == .function && env.kindOf n == some .cell) then (n,NameKind.cell) else (n,k))=some .free:=h
 clear h
 generalize scope.names=l at h'
 induction l with
 | nil=>simp at h'
 | cons p r ih =>
  obtain ⟨n,k⟩:=p
  rw [List.map_cons] at h'
  cases hx:x == n with
  | true =>
   have hxn:x=n:=by simpa using hx
   by_cases hk:k=.free
   ·exact ⟨(n,k),List.mem_cons_self,hxn.symm,.inl hk⟩
   ·
    have hb:(k == NameKind.free)=false:=by simpa using hk
    have e:(if (k == NameKind.free && env.scope.kind == .function && env.kindOf n == some .cell)=true then (n,NameKind.cell) else (n,k))=(n,k):=by
     rw [hb]
     rfl
    have h2:List.lookup x ((n,k)::r.map λ(n,k)=>if (k == .free && env.scope.kind == .function && env.kindOf n == some .cell) then (n,NameKind.cell) else (n,k))=some .cell\/List.lookup x ((n,k)::r.map λ(n,k)=>if (k == .free && env.scope.kind == .function && env.kindOf n == some .cell) then (n,NameKind.cell) else (n,k))=some .free:=by
     rw [<- e]
     exact h'
    rw [List.lookup_cons,hx] at h2
    rcases h2 with z | z
    ·exact ⟨(n,k),List.mem_cons_self,hxn.symm,.inr (Option.some.inj z)⟩
    ·exact absurd (Option.some.inj z) hk
  | false =>
   have hq:∀ q:Str×NameKind,(q=(n,NameKind.cell)\/q=(n,k))->∀ l',List.lookup x (q::l')=List.lookup x l':=λq hq l'=>by
    rcases hq with rfl | rfl <;> rw [List.lookup_cons,hx]
   have hqq:(if (k == NameKind.free && env.scope.kind == .function && env.kindOf n == some .cell)=true then (n,NameKind.cell) else (n,k))=(n,NameKind.cell)\/(if (k == NameKind.free && env.scope.kind == .function && env.kindOf n == some .cell)=true then (n,NameKind.cell) else (n,k))=(n,k):=by
    split
    ·exact .inl rfl
    ·exact .inr rfl
   obtain ⟨y,hy,e⟩:=ih (by
    rcases h' with z | z
    ·exact .inl ((hq _ hqq _).symm.trans z)
    ·exact .inr ((hq _ hqq _).symm.trans z))
   exact ⟨y,List.mem_cons_of_mem _ hy,e⟩
theorem rY:∀ (names:List (Str×NameKind)) (h:Heap) (acc:List (Str×Addr)),
  (∀ x c,(cellsFrom h.objs.size names acc).lookup x=some c->acc.lookup x=some c\/(h.objs.size<=c/\(pushCells h names).IsCell c none/\(x,NameKind.cell)∈names)) /\
  (∀ x,((x,NameKind.cell)∈names\/∃ c,acc.lookup x=some c)->∃ c,(cellsFrom h.objs.size names acc).lookup x=some c) /\
  (∀ x c,(x,NameKind.cell)∈names->(cellsFrom h.objs.size names acc).lookup x=some c->h.objs.size<=c) /\
  ((∀ x c,acc.lookup x=some c->c < h.objs.size)->(∀ x y c,acc.lookup x=some c->acc.lookup y=some c->x=y)->∀ x y c,(cellsFrom h.objs.size names acc).lookup x=some c->(cellsFrom h.objs.size names acc).lookup y=some c->x=y):=by
 intro names
 induction names with
 | nil=>intro h acc; exact ⟨λx c e=>.inl e,λx e=>by rcases e with e | e; cases e; exact e,λx c e=>(by cases e),λ_ i=>i⟩
 | cons p r ih =>
  obtain ⟨name,kind⟩:=p
  intro h acc
  unfold cellsFrom pushCells
  by_cases hk:kind=.cell
  ·subst hk
   have hk':((NameKind.cell == NameKind.cell)=true):=rfl
   rw [if_pos hk',if_pos hk']
   have ih':=ih (h.push { cls:=.type "cell",data:=.cell none }) ((name,h.objs.size)::acc)
   rw [Heap.size_push] at ih'
   obtain ⟨i1,i2,i4,i3⟩:=ih'
   refine ⟨λx c e=>?_,λx e=>?_,λx c e1 e2=>?_,λhb hi=>i3 (λx c e=>?_) λx y c e1 e2=>?_⟩
   ·rcases i1 x c e with z | ⟨z1,z2,z3⟩
    ·rw [List.lookup_cons] at z
     cases hx:x == name with
     | true =>
      rw [hx] at z
      have hxn:x=name:=by simpa using hx
      cases z
      exact .inr ⟨Nat.le_refl _,⟨_,pushCells_keeps _ _ _ _ (Heap.get?_push_size _ rfl),rfl⟩,by rw [hxn]; exact List.mem_cons_self⟩
     | false=>rw [hx] at z; exact .inl z
    ·exact .inr ⟨by omega,z2,List.mem_cons_of_mem _ z3⟩
   ·refine i2 x ?_
    by_cases hx:x=name
    ·exact .inr ⟨h.objs.size,by rw [List.lookup_cons,hx]; simp⟩
    ·rcases e with e | ⟨c,e⟩
     ·rcases List.mem_cons.mp e with q | q
      ·exact absurd (congrArg Prod.fst q) hx
      ·exact .inl q
     ·exact .inr ⟨c,by rw [List.lookup_cons,beq_false_of_ne hx]; exact e⟩
   ·rcases i1 x c e2 with z | ⟨z,_,_⟩
    ·rw [List.lookup_cons] at z
     cases hx:x == name with
     | true=>rw [hx] at z; cases z; exact Nat.le_refl _
     | false =>
      have hxn:x≠name:=by simpa using hx
      rcases List.mem_cons.mp e1 with q | q
      ·exact absurd (congrArg Prod.fst q) hxn
      ·exact Nat.le_of_succ_le (i4 x c q e2)
    ·exact Nat.le_of_succ_le z
   ·rw [List.lookup_cons] at e
    cases hx:x == name with
    | true=>rw [hx] at e; cases e; exact Nat.lt_succ_self _
    | false=>rw [hx] at e; exact Nat.lt_succ_of_lt (hb x c e)
   ·rw [List.lookup_cons] at e1 e2
    cases hx:x == name with
    | true =>
     have hxn:x=name:=by simpa using hx
     rw [hx] at e1
     cases e1
     cases hy:y == name with
     | true =>
      have hyn:y=name:=by simpa using hy
      rw [hxn,hyn]
     | false=>rw [hy] at e2; exact absurd (hb y _ e2) (Nat.lt_irrefl _)
    | false =>
     rw [hx] at e1
     cases hy:y == name with
     | true=>rw [hy] at e2; cases e2; exact absurd (hb x _ e1) (Nat.lt_irrefl _)
     | false=>rw [hy] at e2; exact hi x y c e1 e2
  ·have hk':¬ ((kind == NameKind.cell)=true):=by simpa using hk
   rw [if_neg hk',if_neg hk']
   obtain ⟨i1,i2,i4,i3⟩:=ih h acc
   refine ⟨λx c e=>?_,λx e=>i2 x ?_,λx c e1 e2=>?_,i3⟩
   ·rcases i1 x c e with z | ⟨z1,z2,z3⟩
    ·exact .inl z
    ·exact .inr ⟨z1,z2,List.mem_cons_of_mem _ z3⟩
   ·rcases e with e | e
    ·rcases List.mem_cons.mp e with q | q
     ·exact absurd (congrArg Prod.snd q).symm hk
     ·exact .inl q
    ·exact .inr e
   ·rcases List.mem_cons.mp e1 with q | q
    ·exact absurd (congrArg Prod.snd q).symm hk
    ·exact i4 x c q e2
theorem oX {M:Model} {A:Around} {E:Value->Shared->Prop} {s:Shared} {scope:Scope} {globals:Addr} {cl:List (Str×Addr)} {qual:Str} {outer:Env} {Q:Env->Shared->Prop}
  (h:Q { scope:=scope,locals:=s.heap.objs.size,globals:=globals,cells:=cellsFrom (s.heap.objs.size+1) scope.names cl,qual:=qual,func:=none,code:=outer.code,frame:=outer.frame,builtins:=outer.builtins } { s with heap:=pushCells (s.heap.push { cls:=.type "dict",data:=.dict #[] }) scope.names }) :
  wpAny M A (newFunctionEnv scope globals cl [] qual none .none (some outer)) Q E s:=by
 simp only [newFunctionEnv,Option.isSome_some,if_true]
 refine wpAny_bind (wpAny_alloc ?_)
 refine wpAny_bind (wpAny_layCells _ (λname kind cells=>by cases hkc:kind == NameKind.cell <;> simp [hkc]) _ _ _ _ ?_)
 rw [show ({ s with heap:=s.heap.push { cls:=.type "dict",data:=.dict #[] } }:Shared).heap.objs.size=s.heap.objs.size+1 from Heap.size_push ..]
 rw [List.forIn_nil]
 exact wpAny_bind (wpAny_pure (wpAny_pure h))
theorem ZnN {Nx ts:List Str} {ix:List Nat} {i:Nat} {x:Str} (h:(bN Nx ts ix)[i]?=some x) (hi:ts.length<=i):∃ j,ix[i - ts.length]?=some j/\x=(Nx[j]?).getD Str.empty:=by
 unfold bN at h
 rw [List.getElem?_append_right hi,List.getElem?_map] at h
 cases e:ix[i - ts.length]? with
 | none=>rw [e] at h; cases h
 | some j=>rw [e] at h; exact ⟨j,rfl,(Option.some.inj h).symm⟩
theorem qZ {scope:Scope} {cl:List (Str×Addr)} {fp:List Addr} {C:Addr} {h3:Heap} {tk:Nat} {m:Str->Option Value} {Nx ts:List Str} {ix:List Nat}
  (I:Inv X pins σ H s) (hNx:X.N=Nx) (ok:BlkOk Nx X.env.scope scope ix) (cs1:∀ x c,cl.lookup x=some c->X.env.cells.lookup x=some c\/(C < c/\h3.IsCell c none/\(x,NameKind.cell)∈scope.names)) (csI:∀ x y c,cl.lookup x=some c->cl.lookup y=some c->x=y) (cl2:∀ y∈scope.names,(y.2=.free\/y.2=.cell)->∃ c,cl.lookup y.1=some c) (csA:∀ x c,(x,NameKind.cell)∈scope.names->cl.lookup x=some c->C<=c)
  (hf:∀ b∈fp,fc X pins H b) (hfs:∀ b∈fp,b < s.heap.objs.size) (hC:s.heap.objs.size<=C) (kp:∀ b o,s.heap.get? b=some o->h3.get? b=some o) (hns:h3.Ns C m) :
  Inv (aY X (bN Nx ts ix) scope ⟨cl,C,s,H,fp,X.pn++pins⟩) [] (cL ts.length ix σ) H { s with heap:=h3,toks:=tk }:=by
 have below:∀ {b:Addr},b < s.heap.objs.size->b≠C:=λhb=>Nat.ne_of_lt (Nat.lt_of_lt_of_le hb hC)
 have nstk:∀ b,b≠X.env.locals->b ∉ X.fs->b ∉ frs X.stack:=λb h1 h2 hb=>by
  rcases List.mem_cons.mp (I.stkSub b hb) with z | z
  ·exact h1 z
  ·exact h2 z
 refine ⟨⟨I.ok.mod,?_,I.ok.glob,I.ok.blt,hC,csI,λx hx=>?_,λx c hfn e=>Nat.le_trans hC (csA x c (PySem.mem_of_lookup (eq_of_beq hfn)) e),I.ok.hd,I.ok.frames,.inl rfl,λb hb=>⟨below (hfs b hb),λx c e=>by
  rcases cs1 x c e with z | ⟨z,_,_⟩
  ·exact (hf b hb).2.2.2.2.1 x c z
  ·exact Nat.ne_of_gt (Nat.lt_of_lt_of_le (hfs b hb) (Nat.le_trans hC (Nat.le_of_lt z)))⟩,I.bs,Nat.le_trans I.ok.bsz I.sz,λb o e hb=>?_,λb hb=>nstk b (hf b hb).2.1 (hf b hb).2.2.1,I.stack,I.stkFree⟩,
  rfl,I.bare,Un.kept kp,⟨m,hns,λi x v h1 h2 h3'=>?_⟩,λx c e=>?_,I.hok.fresh hC,λx c e=>by
  rcases cs1 x c e with z | ⟨z,_,_⟩
  ·exact I.freeC x c z
  ·exact I.hok.fresh (Nat.le_trans hC (Nat.le_of_lt z)),λp hp=>?_,I.hok.kept kp,?_⟩
 ·exact ok.kind
 ·have hx':(relabel scope X.env).names.lookup x=some .cell\/(relabel scope X.env).names.lookup x=some .free:=hx
  obtain ⟨y,hy,e1,e2⟩:=ZgK hx'
  obtain ⟨c,hc⟩:=cl2 y hy e2
  exact ⟨c,by rw [<- e1]; exact hc⟩
 ·rcases (hf b hb).2.2.2.1 with z | z
  ·exact I.ok.noex b o e z
  ·exact absurd (Nat.lt_of_lt_of_le (Heap.lt_size e) (Nat.le_trans I.ok.bsz z)) (Nat.lt_irrefl _)
 ·have hi:ts.length<=i:=by
   rcases Nat.lt_or_ge i ts.length with z | z
   ·exfalso
    have h2':(cL ts.length ix σ)[i]?=some (some v):=h2
    unfold cL at h2'
    rw [List.getElem?_append_left (by simpa using z),List.getElem?_replicate] at h2'
    split at h2' <;> cases h2'
   ·exact z
  obtain ⟨j,hj,ex⟩:=ZnN h1 hi
  have h2':(cL ts.length ix σ)[i]?=some (some v):=h2
  unfold cL at h2'
  rw [List.getElem?_append_right (by simpa using hi),List.getElem?_map,List.length_replicate,hj] at h2'
  have hσ:σ[j]?=some (some v):=by
   have q:(σ[j]?).getD none=some v:=Option.some.inj h2'
   cases e:σ[j]? with
   | none=>rw [e] at q; cases q
   | some w=>rw [e] at q; exact congrArg some q
  obtain ⟨hjl,hfree⟩:=ok.caps j (List.mem_of_getElem? hj)
  have hNj:X.N[j]?=some x:=by
   rw [hNx,ex,List.getElem?_eq_getElem hjl]
   rfl
  rw [<- ex] at hfree
  obtain ⟨c,hc⟩:=cl2 (x,.free) (PySem.mem_of_lookup hfree) (.inl rfl)
  have cl1:X.env.cells.lookup x=some c:=by
   rcases cs1 x c hc with z | ⟨_,_,z⟩
   ·exact z
   ·have:=ok.cells _ z rfl
    rw [hfree] at this
    cases this
  have kx:=ok.frees (x,.free) (PySem.mem_of_lookup hfree) rfl
  obtain ⟨m0,hn0,hl0⟩:=I.loc
  obtain ⟨u,ru,look⟩:=hl0 j x v hNj hσ (by rcases kx with z | z; exact .inr (.inl z); exact .inr (.inr z))
  refine ⟨u,ru,.inr ⟨Zbq hfree,c,hc,?_⟩⟩
  rcases look with ⟨k1,_⟩ | ⟨_,c',hc',z⟩
  ·have k1':X.env.scope.names.lookup x=some .local:=k1
   rcases kx with z | z
   ·rw [k1'] at z; cases z
   ·rw [k1'] at z; cases z
  ·have e:=cl1
   rw [hc'] at e
   cases e
   obtain ⟨o,ho,hd⟩:=z
   exact ⟨o,kp _ _ ho,hd⟩
 ·rcases cs1 x c e with z | ⟨_,z,_⟩
  ·obtain ⟨v,o,ho,hd⟩:=I.cell x c z
   exact ⟨v,o,kp _ _ ho,hd⟩
  ·exact ⟨_,z⟩
 ·have hp':p∈X.pn++pins:=by simpa [aY] using hp
  obtain ⟨e,n,ne,nf,d⟩:=I.pin p hp'
  exact ⟨kp _ _ e,n,below (Heap.lt_size e),nstk _ ne nf,d⟩
 ·show (cL ts.length ix σ).length=(bN Nx ts ix).length
  unfold cL bN
  simp
theorem Inv.track {D:Addr} {ys:List V} {its:List Value} {n:Nat} (I:Inv X pins σ H s) (hD:H D=none) (ho:s.heap.get? D=some { cls:=.type "list",data:=.seq its.toArray n }) (r:Vals ys its) (hz:ys.length<=sizeLine)
  (hL:D≠X.env.locals) (hs0:X.s₀.heap.objs.size<=D) (hc:∀ x c,X.env.cells.lookup x=some c->c≠D) (hp:∀ p∈X.pn++pins,p.1≠D):Inv X pins σ (upd H D (.lst ys)) s:=by
 have ne:∀ {b:Addr} {o:HO},H b=some o->b≠D:=λe=>de e hD
 refine I.step (g':=s.gens) (d':=s.drawn) (t':=s.toks) (h':=s.heap) (ch:=[D]) (λb hb=>?_) (λb o _ _ _ e _=>e) (λb o _ _ _ e _=>⟨o.slots,e⟩) (λb o hb e n=>?_) (λb o _ e=>⟨o,e⟩)
  (λb xs e=>by rw [au (ne e)]; exact e) (λb o u e=>by rw [au (ne e)]; exact e) (λb ps e=>⟨#[],by rw [au (ne e),e]; simp⟩) (λm hm=>hm) (λb u e=>?_) I.bare
 ·have e:b=D:=by simpa using hb
  subst e
  exact ⟨.inr hs0,hL,hc,hp⟩
 ·have hb':b≠D:=by simpa using hb
  rw [au hb']
  exact n
 ·by_cases hb:b=D
  ·subst hb
   rw [bw] at e
   cases e
   exact ⟨hz,its,n,r,ho⟩
  ·rw [au hb] at e
   exact (I.hok b u e).stay (λc v _ q=>q) (λc q=>by rw [au (ne q)]; exact q) λc xs q=>by rw [au (ne q)]; exact q
end
theorem Zm6 {prog:Program} {w:World} {A:Around} {R:Result->Shared->Prop} {s:Shared} {elt target iter:Expr} {scope:Scope} {pos:Pos} {it acc:Value} {env:Env} (J:Nat->Shared->Prop)
  (step:∀ k s0,J k s0->wpAny (model prog w) A (pyNext it) (λgot s1=>match got with
   | none=>R (.ok .next) s1
   | some v=>wpAny (model prog w) A (letOwnedTupleGo target it v) (λ_ s2=>wpAny (model prog w) A (assign target env v) (λ_ s3=>wpAny (model prog w) A (eval elt env) (λy s4 =>
     wpAny (model prog w) A (call (.builtin "list.append") [acc,y]) (λ_ s5=>∃ j,j < k/\J j s5) (λ_ _=>False) s4) (λ_ _=>False) s3) (λ_ _=>False) s2) (λ_ _=>False) s1) (λ_ _=>False) s0)
  (k:Nat) (h:J k s):codeAny (model prog w) A (.compLoop (.ListComp elt [⟨target,iter,[],0⟩] scope pos) 0 it acc env) R s:=by
 refine codeAny_loop rfl J (λk0 s0 hJ=>?_) k h
 show wpAny _ _ ((compTurn (.ListComp elt [⟨target,iter,[],0⟩] scope pos) 0 it acc env).onRaise (λx=>do noteFrame x env; theTreesLotGoes x)) _ _ s0
 apply wpAny_noted
 rw [compTurn_list1]
 refine wpAny_bind (wpAny_standAt (wpAny_bind (wpAny_mono (step k0 s0 hJ) (λgot s1 h1=>?_) λ_ _ z=>z.elim)))
 cases got with
 | none=>exact wpAny_pure h1
 | some v =>
  refine wpAny_bind (wpAny_mono h1 (λ_ s2 h2=>?_) λ_ _ z=>z.elim)
  refine wpAny_bind (wpAny_mono h2 (λ_ s3 h3=>?_) λ_ _ z=>z.elim)
  refine wpAny_bind (wpAny_bind (wpAny_mono h3 (λy s4 h4=>?_) λ_ _ z=>z.elim))
  exact wpAny_bind (wpAny_mono h4 (λ_ s5 h5=>wpAny_pure (wpAny_pure ⟨rfl,h5⟩)) λ_ _ z=>z.elim)
noncomputable def iC (wi:TI) (n:Nat) (ix:List Nat) (g:Blk->TG) (te:Blk->TE):TE:=λσ H Q=>wi σ H λJ H1=>∀ b:Blk,∃ W:Nat->Nat->St->List V->Hp->Prop,(∃ m,W 0 m (cL n ix σ) [] H1)/\∀ i m τ ys H2,W i m τ ys H2 ->
 (J.stop i H2/\∀ p v H',H2 p=none->v=V.ref p->H'=upd H2 p (.lst ys)->Q v H') \/
 (J.go i H2/\ys.length < sizeLine/\∀ x H3,J.yld i H2 x H3->g b x τ H3 λτ2 H4=>te b τ2 H4 λy H5=>∃ m',m' < m/\W (i+1) m' τ2 (ys++[y]) H5)
section
variable {X:Cx} {pins:List (Addr×Obj)} {σ:St} {H:Hp} {s:Shared}
theorem ZcM {elt target iter:Expr} {scope:Scope} {pos:Pos} {Nx ts:List Str} {ix:List Nat} {g:Blk->TG} {te:Blk->TE} {cl:List (Str×Addr)} {s2:Shared} {itv:Value} {R:Value->Addr->Result->Shared->Prop}
  {E:Value->Shared->Prop} {Q:VK}
  (hc:X.calm=true) (hg:∀ b,PG (aY X (bN Nx ts ix) scope b) target (g b)) (he:∀ b,PE (aY X (bN Nx ts ix) scope b) elt (te b))
  (hNx:X.N=Nx) (ok:BlkOk Nx X.env.scope scope ix) (cl1:∀ x c,cl.lookup x=some c->X.env.cells.lookup x=some c) (cl2:∀ y∈scope.names,y.2=.free->∃ c,cl.lookup y.1=some c)
  (h2:li X pins σ target (λJ H1=>∀ b:Blk,∃ W:Nat->Nat->St->List V->Hp->Prop,(∃ m,W 0 m (cL ts.length ix σ) [] H1)/\∀ i m τ ys H2,W i m τ ys H2 ->
   (J.stop i H2/\∀ p v H',H2 p=none->v=V.ref p->H'=upd H2 p (.lst ys)->Q v H') \/
   (J.go i H2/\ys.length < sizeLine/\∀ x H3,J.yld i H2 x H3->g b x τ H3 λτ2 H4=>te b τ2 H4 λy H5=>∃ m',m' < m/\W (i+1) m' τ2 (ys++[y]) H5)) itv s2)
  (hR:∀ (D C:Addr) (H':Hp) (s':Shared) (v:V),Inv X pins σ H' s'->v=.ref D->Q v H'->(∃ m,s'.heap.Ns C m)->H' C=none->C≠X.env.locals->X.s₀.heap.objs.size<=C->(∀ x c,X.env.cells.lookup x=some c->c≠C)->(∀ p∈X.pn++pins,p.1≠C) ->
   R (.ref D) C (.ok .next) s') :
  wpAny (model X.prog X.w) X.A (newList []) (λacc s₃=>wpAny (model X.prog X.w) X.A (newFunctionEnv scope X.env.globals cl [] X.env.qual none .none (some X.env)) (λcenv s₄ =>
   codeAny (model X.prog X.w) X.A (.compStart (.ListComp elt [⟨target,iter,[],0⟩] scope pos) 0 itv acc { cenv with scope:=relabel scope X.env }) (R acc cenv.locals) s₄) E s₃) E s2:=by
 obtain ⟨it,fp,tn,J,H1,e,I2,T,st2,f2,q2⟩:=h2
 subst e
 refine wpAny_newObj_type (oX ?_)
 dsimp only
 generalize hG:s2.heap.push { cls:=.type "list",dict:=none,data:=.seq ([]:List Value).toArray }=G
 have hGs:G.objs.size=s2.heap.objs.size+1:=by rw [<- hG,Heap.size_push]
 have hfs:∀ b∈fp,b < s2.heap.objs.size:=λb hb=>let ⟨o,e,_⟩:=T.obj _ _ st2 b hb; Heap.lt_size e
 have kpG:∀ b o,G.get? b=some o->(pushCells (G.push { cls:=.type "dict",data:=.dict #[] }) scope.names).get? b=some o:=λb o e=>pushCells_keeps _ _ _ _ (Heap.get?_push_of_some _ e)
 have hns3:(pushCells (G.push { cls:=.type "dict",data:=.dict #[] }) scope.names).Ns G.objs.size (λ_=>none):=(Heap.Ns.new G (.type "dict")).keeps (pushCells_keeps _ _)
 obtain ⟨sp1,sp2,sp4,sp3⟩:=rY scope.names (G.push { cls:=.type "dict",data:=.dict #[] }) cl
 rw [Heap.size_push] at sp1 sp2 sp3 sp4
 generalize hh3:pushCells (G.push { cls:=.type "dict",data:=.dict #[] }) scope.names=h3 at kpG hns3 sp1 ⊢
 have kp:∀ b o,s2.heap.get? b=some o->h3.get? b=some o:=λb o e=>kpG b o (by rw [<- hG]; exact Heap.get?_push_of_some _ e)
 have hD3:h3.get? s2.heap.objs.size=some { cls:=.type "list",data:=.seq ([]:List Value).toArray }:=kpG _ _ (by rw [<- hG]; exact Heap.get?_push_size _ rfl)
 have clB:∀ x c,cl.lookup x=some c->c < G.objs.size+1:=λx c e=>by
  obtain ⟨v,q⟩:=I2.cell x c (cl1 x c e)
  exact Nat.lt_succ_of_lt (Nat.lt_of_lt_of_le q.lt (by rw [hGs]; exact Nat.le_succ _))
 have csI:=sp3 clB λx y c e1 e2=>I2.ok.inj x y c (cl1 x c e1) (cl1 y c e2)
 have cs1:∀ x c,(cellsFrom (G.objs.size+1) scope.names cl).lookup x=some c->X.env.cells.lookup x=some c\/(G.objs.size < c/\h3.IsCell c none/\(x,NameKind.cell)∈scope.names):=λx c e=>by
  rcases sp1 x c e with z | ⟨z1,z2,z3⟩
  ·exact .inl (cl1 x c z)
  ·exact .inr ⟨by omega,z2,z3⟩
 have cs2:∀ y∈scope.names,(y.2=.free\/y.2=.cell)->∃ c,(cellsFrom (G.objs.size+1) scope.names cl).lookup y.1=some c:=λy hy hk=>by
  refine sp2 y.1 ?_
  rcases hk with z | z
  ·exact .inr (cl2 y hy z)
  ·exact .inl (by rw [<- z]; exact hy)
 have csA:∀ x c,(x,NameKind.cell)∈scope.names->(cellsFrom (G.objs.size+1) scope.names cl).lookup x=some c->G.objs.size<=c:=λx c e1 e2=>Nat.le_of_succ_le (sp4 x c e1 e2)
 generalize hcs:cellsFrom (G.objs.size+1) scope.names cl=cs at csI cs1 cs2 csA ⊢
 generalize hCe:G.objs.size=C at hns3 cs1 csA ⊢
 have hC:s2.heap.objs.size<=C:=by omega
 have hDC:s2.heap.objs.size≠C:=by omega
 let B:Blk:=⟨cs,C,s2,H1,fp,X.pn++pins⟩
 have I3:Inv (aY X (bN Nx ts ix) scope B) [] (cL ts.length ix σ) H1 { s2 with heap:=h3 }:=qZ I2 hNx ok cs1 csI cs2 csA f2 hfs hC kp hns3
 have fC:H1 s2.heap.objs.size=none:=I2.hok.fresh (Nat.le_refl _)
 have cellIn:∀ x c,cs.lookup x=some c->c≠s2.heap.objs.size:=λx c e=>by
  rcases cs1 x c e with z | ⟨z,_,_⟩
  ·obtain ⟨v,q⟩:=I2.cell x c z
   exact Nat.ne_of_lt q.lt
  ·exact Nat.ne_of_gt (Nat.lt_of_le_of_lt hC z)
 have pinIn:∀ p∈X.pn++pins,p.1 < s2.heap.objs.size:=λp hp=>Heap.lt_size (I2.pin p hp).1
 have nofrs:s2.heap.objs.size ∉ frs X.stack:=λhb=>by
  rcases List.mem_cons.mp (I2.stkSub _ hb) with z | z
  ·exact absurd I2.lt (by rw [<- z]; exact Nat.lt_irrefl _)
  ·exact I2.nofs (Nat.le_refl _) z
 -- a state with the list at its place,pinned
 have pinD:∀ {τ:St} {H':Hp} {s':Shared} {ob:Obj},Inv (aY X (bN Nx ts ix) scope B) [] τ H' s'->s'.heap.get? s2.heap.objs.size=some ob->H' s2.heap.objs.size=none->(∀ v,ob.data≠.cell v)->Inv (aY X (bN Nx ts ix) scope B) [(s2.heap.objs.size,ob)] τ H' s' :=
  λ{τ H' s' ob} I' ho hn hd=>I'.pins_of λp hp=>by
   have e:p=(s2.heap.objs.size,ob):=by simpa using hp
   subst e
   exact ⟨ho,hn,hDC,nofrs,hd⟩
 obtain ⟨W,⟨m0,w0⟩,turn⟩:=q2 B
 have stat:∀ {H':Hp} {ob:Obj},(∀ b∈fp,H' b=none)->∀ b∈fp,fc (aY X (bN Nx ts ix) scope B) [(s2.heap.objs.size,ob)] H' b:=λ{H' ob} hn b hb=>by
  refine ⟨hn b hb,Nat.ne_of_lt (Nat.lt_of_lt_of_le (hfs b hb) hC),λz=>?_,.inl hb,λx c e=>by
   rcases cs1 x c e with z | ⟨z,_,_⟩
   ·exact (f2 b hb).2.2.2.2.1 x c z
   ·exact Nat.ne_of_gt (Nat.lt_of_lt_of_le (hfs b hb) (Nat.le_trans hC (Nat.le_of_lt z))),λp hp=>?_⟩
  ·rcases List.mem_cons.mp (I2.stkSub _ z) with q | q
   ·exact (f2 b hb).2.1 q
   ·exact (f2 b hb).2.2.1 q
  ·rcases List.mem_append.mp hp with z | z
   ·exact (f2 b hb).2.2.2.2.2 p z
   ·have e:p=(s2.heap.objs.size,ob):=by simpa using z
    subst e
    exact Nat.ne_of_gt (hfs b hb)
 have loop:∀ s4:Shared,s4={ s2 with heap:=h3 } ->
   codeAny (model X.prog X.w) X.A (.compLoop (.ListComp elt [⟨target,iter,[],0⟩] scope pos) 0 (.ref it) (.ref s2.heap.objs.size) (compEnvC scope cs C X.env)) (R (.ref s2.heap.objs.size) C) s4:=by
  rintro s4 rfl
  refine Zm6 (λk s'=>∃ i τ ys its n H',Inv (aY X (bN Nx ts ix) scope B) [(s2.heap.objs.size,({ cls:=.type "list",data:=.seq (List.toArray its) n }:Obj))] τ H' s'/\tn i s'.heap/\(∀ b∈fp,H' b=none)/\Vals ys its/\ys.length<=sizeLine/\W i k τ ys H') ?_ m0
   ⟨0,_,[],[],_,H1,pinD I3 hD3 fC (λv z=>by cases z),T.keep _ _ _ st2 λb hb o e=>kp b o e,λb hb=>(f2 b hb).1,.nil,Nat.zero_le _,w0⟩
  rintro k s5 ⟨i,τ,ys,its,n,H5,I5,st5,fr5,rv,hz,w5⟩
  rcases turn i k τ ys H5 w5 with ⟨stop,qn⟩ | ⟨go,hlt,step⟩
  ·refine thn (T.done (aY X (bN Nx ts ix) scope B) rfl rfl rfl hc i _ s5 τ H5 _ I5 (stat fr5) st5 stop) λgot s6 hz0=>?_
   obtain ⟨hr,I6⟩:=hz0
   subst hr
   obtain ⟨ho,hn,_,_,_⟩:=I6.pin (s2.heap.objs.size,({ cls:=.type "list",data:=.seq (List.toArray its) n }:Obj)) (List.mem_append_right _ (by simp))
   have I7:Inv X pins σ H5 s6:=I2.call' (ch:=fp) (H':=H5) (by exact I6.os) I6.base I6.hok I6.bare λb hb=>⟨(f2 b hb).2.2.2.1,(f2 b hb).2.1,(f2 b hb).2.2.2.2.1,(f2 b hb).2.2.2.2.2⟩
   have hs0:X.s₀.heap.objs.size<=s2.heap.objs.size:=I2.sz
   have I8:=I7.track hn ho rv hz (Nat.ne_of_gt I2.lt) hs0 (λx c e z=>by
    obtain ⟨v,q⟩:=I2.cell x c e
    exact absurd q.lt (by rw [z]; exact Nat.lt_irrefl _)) (λp hp=>Nat.ne_of_lt (pinIn p hp))
   obtain ⟨m6,hm6,_⟩:=I6.loc
   refine hR _ C _ s6 _ I8 rfl (qn _ _ _ hn rfl rfl) ⟨m6,hm6⟩ ?_ (λz=>?_) (Nat.le_trans hs0 hC) (λx c e z=>?_) λp hp=>Nat.ne_of_lt (Nat.lt_of_lt_of_le (pinIn p hp) hC)
   ·rw [au (Ne.symm hDC)]
    exact I6.free
   ·exact absurd (Nat.lt_of_lt_of_le I2.lt hC) (by rw [z]; exact Nat.lt_irrefl _)
   ·obtain ⟨v,q⟩:=I2.cell x c e
    exact absurd (Nat.lt_of_lt_of_le q.lt hC) (by rw [z]; exact Nat.lt_irrefl _)
  ·refine thn (T.item (aY X (bN Nx ts ix) scope B) rfl rfl rfl hc i _ s5 τ H5 _ I5 (stat fr5) st5 go) λgot s6 hz0=>?_
   obtain ⟨u,hr,h6⟩:=hz0
   subst hr
   refine thn h6 λ_ s7 hz0=>?_
   obtain ⟨x,H7,I7,r7,y7,st7,fr7⟩:=hz0
   have I7':=I7.pinned (stat fr7) (T.obj _ _ st7)
   refine thn (hg B _ s7 τ H7 x u _ I7' r7 (step x H7 y7)) λ_ s8 hz0=>?_
   obtain ⟨τ8,H8,I8,q8⟩:=hz0
   refine thn (he B _ s8 τ8 H8 _ I8 q8) λy s9 hz0=>?_
   obtain ⟨vy,H9,I9,r9,m',hm',w9⟩:=hz0
   obtain ⟨ho,hn,_,_,_⟩:=I9.pin (s2.heap.objs.size,({ cls:=.type "list",data:=.seq (List.toArray its) n }:Obj)) (List.mem_append_right _ (List.mem_append_left _ (by simp)))
   have lenv:=rv.length
   refine wpAny_list_append_plain (l:=s2.heap.objs.size) ⟨n,ho⟩ (λh' hpl hsb=>?_) (by rw [List.size_toArray]; omega)
   obtain ⟨n',ho'⟩:=hpl
   have eobj:(its.toArray.push y)=List.toArray (its++[y]):=by simp
   rw [eobj] at ho'
   have I9':Inv (aY X (bN Nx ts ix) scope B) [] τ8 H9 s9:=I9.pins_of λp hp=>absurd hp (by simp)
   have I10:Inv (aY X (bN Nx ts ix) scope B) [] τ8 H9 { s9 with heap:=h' }:=I9'.turned (it:=s2.heap.objs.size) (t':=s9.toks) (λb o hb e=>(hsb.2 b hb).trans e) hn hDC (.inr (Nat.le_refl _)) cellIn (λp hp=>by
    have hp':p∈(X.pn++pins)++[]:=hp
    rw [List.append_nil] at hp'
    exact Nat.ne_of_lt (pinIn p hp'))
   refine ⟨m',hm',i+1,τ8,ys++[vy],its++[y],n',H9,pinD I10 ho' hn (λv z=>by cases z),?_,λb hb=>?_,rv.append (.cons r9 .nil),by rw [List.length_append]; show ys.length+1<=_; omega,w9⟩
   ·refine T.keep _ _ _ st7 λb hb o e=>?_
    have q:=(I9.pin (b,o) (List.mem_append_right _ (List.mem_append_right _ (fG hb e)))).1
    exact (hsb.2 b (Nat.ne_of_lt (hfs b hb))).trans q
   ·obtain ⟨o,e,d⟩:=T.obj _ _ st7 b hb
    exact (I9.pin (b,o) (List.mem_append_right _ (List.mem_append_right _ (fG hb e)))).2.1
 exact codeAny_compStart_list (loop _ rfl) (T.self X.A 0 _ _ _ (T.keep _ _ _ st2 λb hb o e=>kp b o e) (loop _ rfl))
theorem g7 {elt target iter:Expr} {scope:Scope} {pos:Pos} {wi:TI} {g:Blk->TG} {te:Blk->TE} (Nx:List Str) (ts:List Str) (ix:List Nat)
  (hc:X.calm=true) (hi:PI X target iter wi) (hg:∀ b,PG (aY X (bN Nx ts ix) scope b) target (g b)) (he:∀ b,PE (aY X (bN Nx ts ix) scope b) elt (te b))
  (hNx:X.N=Nx) (ok:BlkOk Nx X.env.scope scope ix) (hs:∀ x,foldedSetIterable iter X.env x=pure x:=by intro _; rfl) :
  PE X (.ListComp elt [⟨target,iter,[],0⟩] scope pos) (iC wi ts.length ix g te):=by
 intro pins s σ H Q I h
 obtain ⟨cl,hcl,cl1,cl2⟩:=kL (scope:=scope) (env:=X.env) λy hy hf=>I.ok.has y.1 (ok.frees y hy hf)
 rw [eval_ListComp]
 refine wpAny_comprehension_free (use:=none) rfl hs hcl ok.kind ok.locs (thn (hi pins s σ H _ I h) λv s1 h1=>thn h1 λitv s2 h2=>?_)
 refine ZcM (R:=λacc C=>compPost (model X.prog X.w) X.A X.xe none (EP X pins σ Q) acc C) hc hg he hNx ok cl1 cl2 h2 ?_
 rintro D C H' s' v I' rfl q ⟨m,hm⟩ hn hL h0 hcl' hp
 exact ⟨m,hm,λh' hsb=>⟨.ref D,H',I'.turned (it:=C) (t':=s'.toks) (λb o hb e=>(hsb.2 b hb).trans e) hn hL (.inr h0) hcl' hp,rfl,q⟩⟩
theorem p9 {elt target iter:Expr} {scope:Scope} {pos pos' spos:Pos} {wi:TI} {g:Blk->TG} {te:Blk->TE} {i:Nat} {x:Str} (Nx:List Str) (ts:List Str) (ix:List Nat)
  (hc:X.calm=true) (hN:X.N.Nodup) (hix:X.N[i]?=some x) (hx:X.env.scope.names.lookup x=some .local) (hi:PI X target iter wi) (hg:∀ b,PG (aY X (bN Nx ts ix) scope b) target (g b)) (he:∀ b,PE (aY X (bN Nx ts ix) scope b) elt (te b))
  (hNx:X.N=Nx) (ok:BlkOk Nx X.env.scope scope ix) (hsw:swapsWith (.ListComp elt [⟨target,iter,[],0⟩] scope pos) (some (.Name x pos')) spos.line X.env=pure true) (hs:∀ x,foldedSetIterable iter X.env x=pure x:=by intro _; rfl) :
  PS X (.Assign [.Name x pos'] (.ListComp elt [⟨target,iter,[],0⟩] scope pos) spos) (dM (iC wi ts.length ix g te) (eC i)):=by
 intro pins s σ H D0 I h
 obtain ⟨cl,hcl,cl1,cl2⟩:=kL (scope:=scope) (env:=X.env) λy hy hf=>I.ok.has y.1 (ok.frees y hy hf)
 rw [exec_Assign_Name_used _ _ _ _ hsw]
 refine wpAny_bind (wpAny_standAt (wpAny_bind ?_))
 show wpAny _ X.A (do let _ <- comprehension (.ListComp elt [⟨target,iter,[],0⟩] scope pos) scope X.env _ (newList []) false (eval iter X.env) (some (assign (.Name x pos') X.env))) _ _ s
 refine wpAny_bind (thn (wpAny_comprehension_free (use:=some (assign (.Name x pos') X.env)) (Q:=λ_ s'=>SP X pins D0 .next s') rfl hs hcl ok.kind ok.locs (thn (hi pins s σ H _ I h) λv s1 h1=>thn h1 λitv s2 h2=>?_)) λ_ s' hq=>wpAny_pure (wpAny_pure hq))
 refine ZcM (R:=λacc C=>compPost (model X.prog X.w) X.A X.xe (some (assign (.Name x pos') X.env)) (λ_ s'=>SP X pins D0 .next s') acc C) (Q:=λx H1=>eC i x σ H1 D0.nx) hc hg he hNx ok cl1 cl2 h2 ?_
 rintro D C H' s' v I' rfl q ⟨m,hm⟩ hn hL h0 hcl' hp
 show wpAny _ X.A (assign (.Name x pos') X.env (.ref D)) _ _ _
 refine wpAny_assign_Name (pq I' hN hix (.inl hx) (show RelV (.ref D) (.ref D) from rfl) (λs'' I'' hch=>?_) (.inr hx))
 obtain ⟨a,hsb,ha⟩:=hch
 have haC:C≠a:=by
  rcases ha with z | z
  ·rw [z]; exact hL
  ·exact λe=>hcl' _ _ z e.symm
 exact ⟨m,hm.sameBut hsb haC,λh'' hs''=>⟨_,H',I''.turned (it:=C) (t':=s''.toks) (λb o hb e=>(hs''.2 b hb).trans e) hn hL (.inr h0) hcl' hp,q⟩⟩
end
theorem ZgJ {scope:Scope} {env:Env} {x:Str} (h:scope.names.lookup x=some .cell\/scope.names.lookup x=some .free):(relabel scope env).names.lookup x=some .cell\/(relabel scope env).names.lookup x=some .free:=by
 rcases h with h | h
 ·refine .inl ?_
  unfold relabel
  show List.lookup x (scope.names.map _)=_
  generalize scope.names=l at h
  induction l with
  | nil=>simp at h
  | cons p r ih =>
   obtain ⟨n,k⟩:=p
   rw [List.map_cons]
   show List.lookup x ((if (k == NameKind.free && env.scope.kind == .function && env.kindOf n == some .cell)=true then (n,NameKind.cell) else (n,k))::_)=_
   cases hx:x == n with
   | true =>
    rw [List.lookup_cons,hx] at h
    have hk:k=.cell:=by simpa using h
    subst hk
    rw [if_neg (by rw [show (NameKind.cell == NameKind.free)=false from rfl]; simp),List.lookup_cons,hx]
   | false =>
    rw [List.lookup_cons,hx] at h
    split <;> rw [List.lookup_cons,hx] <;> exact ih h
 ·exact Zbq h
theorem BlkOk.nest {Nx:List Str} {sc scope:Scope} {env:Env} {ix:List Nat} (h:BlkOk Nx sc scope ix):BlkOk Nx (relabel sc env) scope ix :=
 ⟨h.kind,h.cells,h.locs,λy hy z=>ZgJ (h.frees y hy z),h.caps⟩
mutual
/-- the value bears the datum -/
inductive Dn (H:Hp):V->PyData->Prop
 | non:Dn H .non .none
 | bl (b:Bool):Dn H (.bl b) (.bool b)
 | int (i:Int):Dn H (.int i) (.int i)
 | str (x:Str):Dn H (.str x) (.str x)
 | tup {a:Addr} {xs:List V} {ds:List PyData}:H a=some (.tup xs)->DnAll H xs ds->Dn H (.ref a) (.tuple ds)
 | lst {a:Addr} {xs:List V} {ds:List PyData}:H a=some (.lst xs)->DnAll H xs ds->Dn H (.ref a) (.list ds)
 | dct {a:Addr} {ks:List (aq×V)} {ds:List PyData}:Rd H a (.dK ks)->DnAll H (ks.map (·.2)) ds->Dn H (.ref a) (.dict ((ks.map λk=>match k.1 with | .inl i=>PyData.int i | .inr x=>PyData.str x).zip ds))
inductive DnAll (H:Hp):List V->List PyData->Prop
 | nil:DnAll H [] []
 | cons {v:V} {vs:List V} {d:PyData} {ds:List PyData}:Dn H v d->DnAll H vs ds->DnAll H (v::vs) (d::ds)
end
mutual
theorem Dn.mono {H H':Hp} (e:∀ b o,H b=some o->H' b=some o):∀ {v:V} {d:PyData},Dn H v d->Dn H' v d
 | _,_,.non=>.non
 | _,_,.bl b=>.bl b
 | _,_,.int i=>.int i
 | _,_,.str x=>.str x
 | _,_,.tup h r=>.tup (e _ _ h) (DnAll.mono e r)
 | _,_,.lst h r=>.lst (e _ _ h) (DnAll.mono e r)
 | _,_,.dct h r=>.dct (h.imp (e _ _) λ⟨o,h⟩=>⟨o,e _ _ h⟩) (DnAll.mono e r)
theorem DnAll.mono {H H':Hp} (e:∀ b o,H b=some o->H' b=some o):∀ {vs:List V} {ds:List PyData},DnAll H vs ds->DnAll H' vs ds
 | _,_,.nil=>.nil
 | _,_,.cons r t=>.cons (Dn.mono e r) (DnAll.mono e t)
end
theorem DnAll.ints {H:Hp}:∀ ns:List Int,DnAll H (ns.map V.int) (ns.map PyData.int)
 | []=>.nil
 | n::ns=>.cons (.int n) (DnAll.ints ns)
theorem DnAll.length {H:Hp} {vs:List V} {ds:List PyData} (h:DnAll H vs ds):vs.length=ds.length:=by
 induction vs generalizing ds with
 | nil=>cases h; rfl
 | cons v vs ih=>cases h with | cons r t=>exact congrArg (·+1) (ih t)
theorem DnAll.append {H:Hp} {vs ws:List V} {ds es:List PyData} (h:DnAll H vs ds) (s:DnAll H ws es):DnAll H (vs++ws) (ds++es):=by
 induction vs generalizing ds with
 | nil=>cases h; exact s
 | cons v vs ih=>cases h with | cons r t=>exact .cons r (ih t)
mutual
/-- data without dicts -/
theorem Dn.reads {P:Program} {w:World} {H:Hp} {h:Heap} (ok:HOk P w H h):∀ {v:V} {d:PyData} {u:Value},Dn H v d->d.hasDict=false->RelV v u->∃ as,Reads h u d as
 | _,_,_,.non,_,r=>by cases r; exact ⟨_,.none⟩
 | _,_,_,.bl b,_,r=>by cases r; exact ⟨_,.bool b⟩
 | _,_,_,.int i,_,r=>by obtain ⟨t,rfl⟩:=r; exact ⟨_,.int i t⟩
 | _,_,_,.str x,_,r=>by obtain ⟨t,rfl⟩:=r; exact ⟨_,.str x t⟩
 | _,_,_,.tup e rs,hd,r=>by
  cases r
  obtain ⟨z,its,rv,o,h1,h2,n,h3⟩:=ok _ _ e
  obtain ⟨as,q⟩:=DnAll.reads ok rs (by simpa [PyData.hasDict] using hd) rv
  exact ⟨_,.tuple h1 h2 h3 (by simpa using q)⟩
 | _,_,_,.lst e rs,hd,r=>by
  cases r
  obtain ⟨z,its,n,rv,h1⟩:=ok _ _ e
  obtain ⟨as,q⟩:=DnAll.reads ok rs (by simpa [PyData.hasDict] using hd) rv
  exact ⟨_,.list h1 rfl rfl (by simpa using q)⟩
 | _,_,_,.dct e rs,hd,r=>by simp [PyData.hasDict] at hd
theorem DnAll.reads {P:Program} {w:World} {H:Hp} {h:Heap} (ok:HOk P w H h):∀ {vs:List V} {ds:List PyData} {us:List Value},DnAll H vs ds->PyData.hasDictAll ds=false->Vals vs us->∃ as,ReadsAll h us ds as
 | _,_,_,.nil,_,r=>by cases r; exact ⟨_,.nil⟩
 | _,_,_,.cons p t,hd,r=>by
  cases r with
  | cons r1 r2 =>
   simp only [PyData.hasDictAll,Bool.or_eq_false_iff] at hd
   obtain ⟨as,q⟩:=Dn.reads ok p hd.1 r1
   obtain ⟨bs,q2⟩:=DnAll.reads ok t hd.2 r2
   exact ⟨_,.cons q q2⟩
end
section
variable {X:Cx}
theorem ZhI {k:Nat} (hr:Room k X.A):OpR X (compareOp .Eq) (λx y H Q=>∃ d e,Dn H x d/\Dn H y e/\SeqAt.shaped d=true/\SeqAt.shaped e=true/\Q (.bl (PyData.eqv d e)) H):=by
 intro pins s σ H x y v u Q I rx ry h
 obtain ⟨d,e,hd,he,sd,se,q⟩:=h
 obtain ⟨as,r1⟩:=Dn.reads I.hok hd (PyData.hasDict_of_canLay _ (SeqAt.canLay_of_shaped sd)) rx
 obtain ⟨bs,r2⟩:=Dn.reads I.hok he (PyData.hasDict_of_canLay _ (SeqAt.canLay_of_shaped se)) ry
 exact SeqAt.compareEq_shaped r1 r2 sd se hr.units ⟨.bl _,H,I,rfl,q⟩
theorem ZhD {k:Nat} (hr:Room k X.A):OpR X (compareOp .NotEq) (λx y H Q=>∃ d e,Dn H x d/\Dn H y e/\SeqAt.shaped d=true/\SeqAt.shaped e=true/\Q (.bl (!PyData.eqv d e)) H):=by
 intro pins s σ H x y v u Q I rx ry h
 obtain ⟨d,e,hd,he,sd,se,q⟩:=h
 obtain ⟨as,r1⟩:=Dn.reads I.hok hd (PyData.hasDict_of_canLay _ (SeqAt.canLay_of_shaped sd)) rx
 obtain ⟨bs,r2⟩:=Dn.reads I.hok he (PyData.hasDict_of_canLay _ (SeqAt.canLay_of_shaped se)) ry
 exact SeqAt.compareNe_shaped r1 r2 sd se hr.units ⟨.bl _,H,I,rfl,q⟩
theorem Zd8:cR X (.type "range") (λxs H Q=>∃ i j:Int,xs=[.int i,.int j]/\∀ p,H p=none->Q (.ref p) (upd H p (.rng i j))):=by
 intro pins s σ H xs us Q I r h
 obtain ⟨i,j,rfl,q⟩:=h
 cases r with
 | cons r1 rr =>
  cases rr with
  | cons r2 rr =>
   cases rr
   obtain ⟨t,rfl⟩:=r1
   obtain ⟨u,rfl⟩:=r2
   refine call_range_2 ?_
   exact ⟨.ref s.heap.objs.size,_,I.laid (t':=s.toks+1) (λb o e=>Heap.get?_push_of_some _ e) (Nat.le_refl _) (show ObjOk X.prog X.w _ _ _ (.rng i j) from ⟨t,u,s.toks,Heap.get?_push_size _ rfl⟩),rfl,q _ (I.hok.fresh (Nat.le_refl _))⟩
noncomputable def gt (lo:Int) (n:Nat):List V:=(List.range n).map λ(k:Nat)=>V.int (lo+(k:Int))
theorem Zfo (lo:Int):∀ (n:Nat) (l:List Value),l.length=n->(∀ (j:Nat) (v:Value),l[j]?=some v->∃ t,v=Value.int (lo+(j:Int)) t)->Vals (gt lo n) l:=by
 intro n
 unfold gt
 induction n with
 | zero =>
  intro l hl _
  have e:l=[]:=List.length_eq_zero_iff.mp hl
  subst e
  exact .nil
 | succ n ih =>
  intro l hl hl2
  obtain ⟨l',x,rfl⟩:∃ l' x,l=l'++[x]:=⟨l.dropLast,l.getLast (by intro e; rw [e] at hl; cases hl),(List.dropLast_concat_getLast _).symm⟩
  have hl':l'.length=n:=by rw [List.length_append] at hl; simpa using hl
  rw [List.range_succ,List.map_append]
  refine Vals.append (ih l' hl' λj v hv=>hl2 j v (by rw [List.getElem?_append_left (List.getElem?_eq_some_iff.mp hv).1]; exact hv)) (.cons ?_ .nil)
  obtain ⟨t,e⟩:=hl2 n x (by rw [List.getElem?_append_right (by omega),hl',Nat.sub_self]; rfl)
  exact ⟨t,e⟩
theorem Znf (hh:X.A.handled=none):cR X (.type "list") (λxs H Q=>∃ a lo hi,xs=[.ref a]/\H a=some (.rng lo hi)/\-(2 ^ 62)<=lo/\lo < 2 ^ 62/\-(2 ^ 62)<=hi/\hi < 2 ^ 62/\(hi - lo).toNat<=1000/\∀ p,H p=none->Q (.ref p) (upd H p (.lst (gt lo (hi - lo).toNat)))):=by
 intro pins s σ H xs us Q I r h
 obtain ⟨a,lo,hi,rfl,ha,b1,b2,b3,b4,hn,q⟩:=h
 obtain ⟨u,rfl,ru⟩:=eG r
 cases ru
 obtain ⟨t,u,v,e⟩:=I.hok a _ ha
 have hsz:Builtin.Range.rangeSize lo hi 1=(((hi - lo).toNat:Nat):Int):=by rw [rangeSize_one]; split <;> omega
 refine call_list_range hh (r:=a) (t:=t) (u:=u) (v:=v) e (small_one b1 b2 b3 b4) hsz (by omega) λh' tk acc c' hk ho hacc=>?_
 refine ⟨.ref s.heap.objs.size,_,I.laid hk (Nat.le_refl _) ?_,rfl,q _ (I.hok.fresh (Nat.le_refl _))⟩
 refine ⟨by unfold gt; rw [List.length_map,List.length_range]; exact Nat.le_trans hn (by decide),acc.toList,c',?_,by simpa using ho⟩
 obtain ⟨hl,hit⟩:=hacc
 exact Zfo lo _ _ (by simpa using hl) λj v hv=>by
  obtain ⟨t,e⟩:=hit j v (by simpa using hv)
  exact ⟨t,by rw [e,Int.mul_one]⟩
end
end L2
set_option Elab.async false
set_option linter.all false
set_option maxRecDepth 100000
namespace L2
open PySem PySem.Spec PyProof.Rows
structure Def (K:PySem.W.Frag) (mg:Str->Option Value) (x:Str) (st:Stmt) (ps:List Str):Prop where
 ex:∃ f fd,Fun K x x st f fd/\mg x=some (.ref f)/\Binds K fd ps []
structure Callee (P:Program) (w:World) (K:PySem.W.Frag) (mg:Str->Option Value) (base:Heap) (x:Str) (k:Nat) (ps:List Str) (sp:Sp):Prop where
 ex:∃ f fd,FnOk P w K mg base gk k f fd ps sp/\mg x=some (.ref f)/\PySem.W.keepIn K (.ref f)=true/\Binds K fd ps []
section
variable {P:Program} {w:World} {K:PySem.W.Frag} {mg:Str->Option Value} {base:Heap}
theorem Def.ok {x:Str} {st:Stmt} {N ps:List Str} {k:Nat} {sp:Sp} (D:Def K mg x st ps) (S:FnScope N ps (az st)) (len:∀ vs H Q E,sp vs H Q E->vs.length=ps.length)
  (hbody:∀ (f:Addr) (cdv:Value) (A:Around) (outer:List Env) (s:Shared) (H:Hp) (vs:List V) (Q:VK) (E:XK),Room k (A.deeper (envOfC x (az st) s.heap.objs.size f cdv))->sp vs H Q E ->
   ∃ t,PSs (cD gk P w K mg base N x (az st) f cdv A outer s H E).nox (fo st) t/\t { nx:=λ_ H'=>Q .non H',rt:=Q } (start N vs) H):Callee P w K mg base x (k+1) ps sp:=by
 obtain ⟨f,fd,F,hm,hb⟩:=D.ex
 exact ⟨f,fd,F.ok S len λcdv A outer s H vs Q E hr h=>hbody f cdv A outer s H vs Q E hr h,hm,F.kp,hb⟩
theorem bB {x:Str} {st:Stmt} {ps:List Str} {h:Heap} {f:Addr} {oc:Value} {od an:Option Addr} {osl:Array (Option Value)} {kV doc pm cdv ct:Value} (X:K.In h) (G:h.Ns mainGlobals mg)
  (a:PySem.W.nsIn K mainGlobals x=some (some (.ref f))) (l:K.lookup f=some ⟨oc,od,.func (PySem.W.fnOf x x (ji st) (fo st) (az st) .none kV doc pm an cdv ct),osl⟩)
  (c:PySem.W.codeIn K cdv x=true) (k:PySem.W.keepIn K (.ref f)=true)
  (hb:∀ (kV doc pm:Value) (an:Option Addr) (cdv ct:Value) (us:List Value),us.length=ps.length->bindArgs (PySem.W.fnOf x x (ji st) (fo st) (az st) .none kV doc pm an cdv ct) ⟨us,[]⟩=pure (ps.zip us)):Def K mg x st ps:=by
 have F:=Zjq (st:=st) l c k
 exact ⟨f,_,F,PySem.W.mg_of X G a,F.binds hb⟩
end
section
variable {X:Cx} {x:Str} {k:Nat} {ps:List Str} {sp:Sp} {e:Expr} {es:List Expr} {t:TA} {p pos:Pos}
theorem qd (C:Callee X.prog X.w X.K X.mg X.base x k ps sp) (hr:Room k X.A) (hg:Gl X x) (ha:PA X (e::es) t) (hdb:(x == ("__debug__":Str))=false:=by decide)
  (he:starEach (e::es) X.env=(false,eval e X.env)::starEach es X.env:=by rfl) (hpl:(backTo pos (starEach es X.env)).any (·.1)=false:=by rfl):PE X (.Call (.Name x p) (e::es) [] pos) (ZaK sp [] E0 t):=by
 obtain ⟨f,fd,F,hm,hk,hb⟩:=C.ex
 exact Zhr F hr hg hm hk hb .nil Zhy ha hdb he hpl
theorem Zhm {i:Int} (hg:Gl X x) (h:∃ t,X.mg x=some (.int i t)) (hd:(x == ("__debug__":Str))=false:=by decide):PE X (.Name x pos) (tC (.int i)):=by
 obtain ⟨t,e⟩:=h
 exact fY hg e ⟨t,rfl⟩ hd
end
noncomputable def ZfR (t:TS):TS:=λD σ H=>∃ J:St->Hp->Prop,t { D with nx:=J } σ H/\∀ σ' H',J σ' H'->D.nx σ' H'
noncomputable def ZfQ (t:TT):TT:=λσ H Q=>∃ J:Bool->Hp->Prop,t σ H J/\∀ b H',J b H'->Q b H'
section
variable {X:Cx} {st:Stmt} {e:Expr}
theorem PS.join {t:TS} (h:PS X st t):PS X st (ZfR t):=by
 rintro pins s σ H D I ⟨J,q,hJ⟩
 refine thn (h pins s σ H _ I q) λf s' z=>?_
 cases f with
 | next=>obtain ⟨σ',H',I',q'⟩:=z; exact ⟨σ',H',I',hJ _ _ q'⟩
 | brk=>exact z
 | cont=>exact z
 | ret u=>exact z
theorem PT.join {t:TT} (h:PT X e t):PT X e (ZfQ t):=by
 rintro pins s σ H Q I ⟨J,q,hJ⟩
 refine thn (h pins s σ H _ I q) λb s' ⟨H',I',q'⟩=>⟨H',I',hJ _ _ q'⟩
end
section
variable {H:Hp} {p c:Addr} {a l b:Int}
end
noncomputable def Kept (p:Addr) (H H':Hp):Prop:=∀ b o,H b=some o->b≠p->H' b=some o
theorem Kept.refl {p:Addr} {H:Hp}:Kept p H H:=λ_ _ h _=>h
theorem Kept.pen {p:Addr} {H H':Hp} {o:HO} (a:Kept p H H'):Kept p H (upd H' p o):=λc u h n=>by
 rw [au n]
 exact a c u h n
theorem Same.new {q:Addr} {H H':Hp} {o:HO} (a:Same H H') (hq:H' q=none):Same H (upd H' q o):=λc u h=>by
 have e:=a c u h
 rw [au (de e hq)]
 exact e
end L2
set_option Elab.async false
set_option linter.all false
set_option maxRecDepth 100000
namespace L2
open PySem PySem.Spec PyProof.Rows
section
variable {prog:Program} {w:World} {A:Around} {E:Value->Shared->Prop} {s:Shared} {r:Addr} {a b c:Int} {t u v:Tok} {n:Nat}
end
section
variable {X:Cx}
theorem qx:fillsNumberSlot (.type "tuple") "mul"=pure false :=
 PySem.fillsNumberSlot_seq (id:="tuple.__mul__") (r:=some (.builtin "tuple.__rmul__")) PySem.F.slot_tuple_mul.lookup (by decide +kernel) PySem.F.slot_tuple_rmul.lookup (by decide +kernel)
theorem pO:seqRepeat? (.type "tuple")=pure (some (.builtin "tuple.__mul__")):=by
 unfold seqRepeat?
 rw [PySem.seqSlot_of (T:="tuple") (name:="__mul__") (id:="tuple.__mul__") PySem.F.slot_tuple_mul.lookup (by decide +kernel),PySem.seqSlot_of (T:="tuple") (name:="__rmul__") (id:="tuple.__rmul__") PySem.F.slot_tuple_rmul.lookup (by decide +kernel)]; rfl
theorem pN (x:Int) (t:Tok) (l:Addr) (items:Array Value) (n:Nat) (dd:Option Addr) (sl:Array (Option Value)) :
  Meets (Builtin.«int.__rmul__» ⟨[.int x t,.ref l],[]⟩) (λ_ R s=>s.heap.get? l=some { cls:=.type "tuple",dict:=dd,data:=.seq items n,slots:=sl }/\R (.ok (.ret Value.notImplemented)) s):=by
 refine .of_wp λprog w A R s h=>?_
 obtain ⟨hp,g,d,tk,os⟩:=s
 obtain ⟨hl,h⟩:=h
 wp_walk
 exact ⟨_,rfl,h⟩
theorem Zh8 (x:Int) (t:Tok) (l:Addr) (items:Array Value) (n:Nat) (dd:Option Addr) (sl:Array (Option Value)) (h1:1 < x) (h2:x<=1000) (h3:items.isEmpty=false) (h4:items.size<=1000) :
  Meets (Builtin.«tuple.__mul__» ⟨[.ref l,.int x t],[]⟩) (λ_ R s=>s.heap.get? l=some { cls:=.type "tuple",dict:=dd,data:=.seq items n,slots:=sl } /\
   R (.ok (.ret (.ref s.heap.objs.size))) { s with heap:=s.heap.push { cls:=.type "tuple",data:=.seq ((List.replicate x.toNat items).foldl (·++·) #[]) } }):=by
 refine .of_wp λprog w A R s h=>?_
 obtain ⟨hp,g,d,tk,os⟩:=s
 obtain ⟨hl,h⟩:=h
 have hp0:0<=(items.size:Int) * x:=Int.mul_nonneg (by omega) (by omega)
 have hp1:(items.size:Int) * x<=1000 * 1000:=Int.mul_le_mul (by omega) h2 (by omega) (by omega)
 have hne:items.size≠0:=λe=>by simp [Array.isEmpty,e] at h3
 wp_walk
 refine wpAny_ite_split (λz=>absurd z (by simp; omega)) (λ_=>?_)
 refine wpAny_bind ?_
 unfold Builtin.Tuple.tupleItemsOf
 refine wpAny_bind (wpAny_seqItems hl rfl (wpAny_pure ?_))
 refine wpAny_ite_split (λz=>absurd z (by rw [h3]; simp; omega)) (λ_=>?_)
 refine wpAny_ite_split (λz=>absurd z (by rw [h3]; simp; omega)) (λ_=>?_)
 refine wpAny_ite_split (λz=>absurd z (by omega)) (λ_=>?_)
 refine wpAny_ite_split (λz=>absurd z (by unfold Builtin.Tuple.tupleTooMany; rw [sizeLine_eq]; simp; omega)) (λ_=>?_)
 unfold Builtin.Tuple.tupleExact
 have hlen:∀ k:Nat,((List.replicate k items).foldl (·++·) #[]).size=k * items.size:=λk=>by
  have key:∀ (k:Nat) (acc:Array Value),((List.replicate k items).foldl (·++·) acc).size=acc.size+k * items.size:=by
   intro k
   induction k with
   | zero=>intro acc; simp
   | succ k ih =>
    intro acc
    rw [List.replicate_succ,List.foldl_cons,ih,Array.size_append,Nat.succ_mul]
    omega
  simpa using key k #[]
 refine wpAny_bind (wpAny_newObj_type (wpAny_pure ⟨_,rfl,h⟩) ?_)
 show ((List.replicate x.toNat items).foldl (·++·) #[]).size<=sizeLine
 rw [hlen,sizeLine_eq]
 have hx:x.toNat<=1000:=by omega
 exact Nat.le_trans (Nat.mul_le_mul hx h4) (by decide)
noncomputable def pR (K:PySem.W.Frag):R2:=λx y H Q=>∃ a k xs,x=.ref a/\y=.int k/\SqT K H a xs/\1 < k/\k<=1000/\xs≠[]/\xs.length<=1000/\∀ p,H p=none->Q (.ref p) (upd H p (.tup (List.replicate k.toNat xs).flatten))
theorem Zar {xs:List V} {us:List Value} (r:Vals xs us):∀ k:Nat,Vals (List.replicate k xs).flatten (List.replicate k us).flatten
 | 0=>.nil
 | k+1=>by
  rw [List.replicate_succ,List.replicate_succ,List.flatten_cons,List.flatten_cons]
  exact r.append (Zar r k)
theorem Zch:OpR X (binaryOp .Mult) (pR X.K):=by
 intro pins s σ H x y v u Q I rx ry h
 obtain ⟨a,k,xs,rfl,rfl,hq,h1,h2,hne,hl,q⟩:=h
 cases rx
 obtain ⟨t,rfl⟩:=ry
 obtain ⟨its,rv,p,hz⟩:=I.tuple hq
 obtain ⟨o,ho,hc,n,hd⟩:=p
 obtain ⟨oc,od,odd,osl⟩:=o
 have hc':oc=.type "tuple":=hc
 have hd':odd=.seq its.toArray n:=hd
 subst hc' hd'
 have hlen:=rv.length
 have hemp:its.toArray.isEmpty=false:=by
  cases its with
  | nil=>cases rv; exact absurd rfl hne
  | cons i r=>rfl
 have efl:(List.replicate k.toNat its.toArray).foldl (·++·) #[]=(List.replicate k.toNat its).flatten.toArray:=by
  have key:∀ (k:Nat) (acc:Array Value),(List.replicate k its.toArray).foldl (·++·) acc=acc++(List.replicate k its).flatten.toArray:=by
   intro k
   induction k with
   | zero=>intro acc; simp
   | succ k ih =>
    intro acc
    rw [List.replicate_succ,List.foldl_cons,ih,List.replicate_succ,List.flatten_cons]
    simp
  simpa using key k.toNat #[]
 refine wpAny_binaryOp_repeat_ref (T:="tuple") (U:="int") (by decide) ⟨_,ho,rfl⟩ (λs'=>typeIs_int s' k t) qx PySem.F.fills_int_mul PySem.F.slot_int_rmul pO PySem.F.slot_int_index.lookup ?_
 refine call_meets PySem.F.slot_int_rmul (typeIs_int s k t) PySem.F.entry_int_rmul (PySem.F.args_int_rmul_2 _ _) (pN k t a its.toArray n od osl) ⟨ho,rfl,⟨_,ho,rfl⟩,?_⟩
 refine call_meets PySem.F.slot_tuple_mul ⟨_,ho,rfl⟩ PySem.F.entry_tuple_mul (PySem.F.args_tuple_mul_2 _ _) (Zh8 k t a its.toArray n od osl h1 h2 hemp (by rw [List.size_toArray]; omega)) ⟨ho,?_⟩
 rw [efl]
 have hzz:(List.replicate k.toNat xs).flatten.length<=sizeLine:=by
  have hx:k.toNat<=1000:=by omega
  have e:(List.replicate k.toNat xs).flatten.length=k.toNat * xs.length:=by simp
  rw [e,sizeLine_eq]
  exact Nat.le_trans (Nat.mul_le_mul hx hl) (by decide)
 exact ⟨.ref s.heap.objs.size,_,I.laid (t':=s.toks) (λb o e=>Heap.get?_push_of_some _ e) (Nat.le_refl _) (show ObjOk X.prog X.w _ _ _ (.tup (List.replicate k.toNat xs).flatten) from ⟨hzz,_,Zar rv k.toNat,IsTup.new _ _⟩),rfl,q _ (I.hok.fresh (Nat.le_refl _))⟩
end
end L2
set_option Elab.async false
set_option linter.all false
set_option maxRecDepth 100000
namespace L2
open PySem PySem.Spec PyProof.Rows
theorem ZcG {n:Nat} (h:n < 2 ^ 1900):n.log2 < 1900:=by
 by_cases h0:n=0
 ·rw [h0]; decide
 ·exact (Nat.log2_lt h0).mpr h
theorem Zgd {i:Int} (h:i.natAbs < 2 ^ 1900):(PyData.int i).shown.length<=1901:=by
 have e:=int_text_length_le (k:=1900) (by decide) (ZcG h)
 have q:(Str.ofString (toString i)).length<=1901:=by rw [PySem.ofString_length]; exact e
 simpa [PyData.shown] using q
theorem Za8:∀ (ns:List Int),(∀ n∈ns,n.natAbs < 2 ^ 1900)->((PyData.shownAll (ns.map PyData.int)).map (·.length)).sum<=ns.length * 1901/\(PyData.shownAll (ns.map PyData.int)).length=ns.length
 | [],_=>⟨by simp [PyData.shownAll],rfl⟩
 | n::r,h=>by
  obtain ⟨h1,h2⟩:=Za8 r λx hx=>h x (List.mem_cons_of_mem _ hx)
  have h3:=Zgd (h n List.mem_cons_self)
  rw [List.map_cons,PyData.shownAll,List.map_cons,List.sum_cons,List.length_cons,List.length_cons,h2,Nat.succ_mul]
  exact ⟨by omega,rfl⟩
theorem Za9:∀ (ns:List Int),(∀ n∈ns,n.natAbs < 2 ^ 1900)->PyData.showableAll (ns.map PyData.int)=true
 | [],_=>rfl
 | n::r,h=>by
  rw [List.map_cons,PyData.showableAll,Za9 r λx hx=>h x (List.mem_cons_of_mem _ hx),Bool.and_true]
  have q:=ZcG (h n List.mem_cons_self)
  simp only [PyData.showable,decide_eq_true_eq]
  omega
noncomputable def aB (lo:Int) (n:Nat):List Int:=(List.range n).map λ(k:Nat)=>lo+(k:Int)
theorem ZgO (lo:Int) (n:Nat):gt lo n=(aB lo n).map V.int:=by
 unfold gt aB
 rw [List.map_map]
 rfl
theorem gu (lo:Int) (n:Nat):(aB lo n).length=n:=by
 unfold aB
 rw [List.length_map,List.length_range]
theorem Zbv {lo x:Int} {n:Nat} (h:x∈aB lo n):lo<=x/\x < lo+n:=by
 unfold aB at h
 obtain ⟨k,hk,rfl⟩:=List.mem_map.mp h
 have:=List.mem_range.mp hk
 omega
end L2
set_option Elab.async false
set_option linter.all false
set_option maxRecDepth 100000
namespace L2
open PySem PySem.Spec PyProof.Rows
noncomputable def CMulG (i j:Int):Prop:=i.natAbs < 2 ^ 8000/\j.natAbs < 2 ^ 8000
noncomputable def Ze6 (i j:Int):Prop:=j≠0/\j.natAbs < 2 ^ 8000
theorem Zej {x:Int} (h:x.natAbs < 2 ^ 8000):Builtin.Int.intBits x<=8000:=by
 unfold Builtin.Int.intBits
 split
 ·exact Nat.zero_le _
 ·rename_i hx
  have h0:x.natAbs≠0:=by
   intro z
   have e:x=0:=Int.natAbs_eq_zero.mp z
   rw [e] at hx
   exact hx rfl
  exact (Nat.log2_lt h0).mpr h
theorem CMulG.ok {i j:Int} (h:CMulG i j):IntMulOk i j:=by
 have h1:=Zej h.1
 have h2:=Zej h.2
 unfold IntMulOk
 have e:Builtin.Int.intTooBig ((Builtin.Int.intBits i+Builtin.Int.intBits j:Nat):Int)=false:=by
  unfold Builtin.Int.intTooBig
  refine decide_eq_false ?_
  have hb:((16000:Nat):Int)<=(bitsLine:Int):=by decide
  omega
 intro z
 rw [Bool.and_eq_true] at z
 have z2:Builtin.Int.intTooBig ((Builtin.Int.intBits i+Builtin.Int.intBits j:Nat):Int)=true:=z.2
 rw [e] at z2
 cases z2
section
variable {X:Cx}
theorem ZhF:OpR X (binaryOp .Mult) (rI CMulG λi j=>.int (i * j)):=gx λ_ _ _ _ _ _ _ hc q=>mul_int q hc.ok
theorem mU:OpR X (binaryOp .FloorDiv) (rI Ze6 λi j=>.int (i.fdiv j)):=gx λi j _ _ _ _ _ hc q=>by
 refine floordiv_int hc.1 q (.inl (PyProof.noPylong_of_log2 ?_))
 by_cases h0:j.natAbs=0
 ·exact absurd (Int.natAbs_eq_zero.mp h0) hc.1
 ·exact Nat.lt_trans ((Nat.log2_lt h0).mpr hc.2) (by decide)
end
end L2
set_option Elab.async false
set_option linter.all false
set_option maxRecDepth 100000
namespace Gc
noncomputable def gI (a b:Int):Int:=((Nat.gcd a.natAbs b.natAbs:Nat):Int)
noncomputable def den (t b:Int):Int:=if b < 0 then -gI t b else gI t b
noncomputable def gb (t b:Int):Int:=t.fdiv (den t b)
noncomputable def fH (t b:Int):Int:=b.fdiv (den t b)
theorem rq {t b:Int} (h:b≠0):0 < Nat.gcd t.natAbs b.natAbs:=Nat.gcd_pos_of_pos_right _ (by omega)
theorem rR {t b:Int} (h:b≠0):den t b≠0:=by
 have:=rq (t:=t) h
 unfold den gI
 split <;> omega
theorem rS (t b:Int):(den t b).natAbs=Nat.gcd t.natAbs b.natAbs:=by
 unfold den gI
 split <;> omega
theorem Zio {t b:Int} (h:b≠0):t=den t b * gb t b/\b=den t b * fH t b/\0 < fH t b/\Nat.gcd (gb t b).natAbs (fH t b).natAbs=1:=by
 have hd:=rR (t:=t) h
 have ha:=rS t b
 have hg:=rq (t:=t) h
 have d1:den t b ∣ t:=Int.natAbs_dvd_natAbs.mp (by rw [ha]; exact Nat.gcd_dvd_left _ _)
 have d2:den t b ∣ b:=Int.natAbs_dvd_natAbs.mp (by rw [ha]; exact Nat.gcd_dvd_right _ _)
 obtain ⟨x,hx⟩:=d1
 obtain ⟨y,hy⟩:=d2
 have e1:gb t b=x:=by
  show t.fdiv (den t b)=x
  generalize den t b=d at hd hx
  rw [hx]
  exact Int.mul_fdiv_cancel_left _ hd
 have e2:fH t b=y:=by
  show b.fdiv (den t b)=y
  generalize den t b=d at hd hy
  rw [hy]
  exact Int.mul_fdiv_cancel_left _ hd
 rw [e1,e2]
 refine ⟨hx,hy,?_,?_⟩
 ·have hb:(0 < b/\0 < den t b)\/(b < 0/\den t b < 0):=by
   unfold den gI
   split <;> omega
  rcases hb with ⟨p,q⟩ | ⟨p,q⟩
  ·rcases (show 0 < y\/y<=0 by omega) with z | z
   ·exact z
   ·exfalso
    have:=Int.mul_nonneg (Int.le_of_lt q) (show 0<=-y by omega)
    rw [Int.mul_neg,<- hy] at this
    omega
  ·rcases (show 0 < y\/y<=0 by omega) with z | z
   ·exact z
   ·exfalso
    have:=Int.mul_nonneg (show 0<=-den t b by omega) (show 0<=-y by omega)
    rw [Int.neg_mul_neg,<- hy] at this
    omega
 ·have h1:t.natAbs=Nat.gcd t.natAbs b.natAbs * x.natAbs:=by
   have:=congrArg Int.natAbs hx
   rw [Int.natAbs_mul,ha] at this
   exact this
  have h2:b.natAbs=Nat.gcd t.natAbs b.natAbs * y.natAbs:=by
   have:=congrArg Int.natAbs hy
   rw [Int.natAbs_mul,ha] at this
   exact this
  have h3:Nat.gcd t.natAbs b.natAbs=Nat.gcd t.natAbs b.natAbs * Nat.gcd x.natAbs y.natAbs:=by
   rw [<- Nat.gcd_mul_left,<- h1,<- h2]
  have h4:Nat.gcd t.natAbs b.natAbs * 1=Nat.gcd t.natAbs b.natAbs * Nat.gcd x.natAbs y.natAbs:=by rw [Nat.mul_one]; exact h3
  exact (Nat.eq_of_mul_eq_mul_left hg h4).symm
theorem Ziq {t b:Int} (h:b≠0):(gb t b).natAbs<=t.natAbs/\(fH t b).natAbs<=b.natAbs:=by
 obtain ⟨h1,h2,_,_⟩:=Zio (t:=t) h
 have hg:=rq (t:=t) h
 have ha:=rS t b
 constructor
 ·have e:=congrArg Int.natAbs h1
  rw [Int.natAbs_mul,ha] at e
  rw [e]
  exact Nat.le_mul_of_pos_left _ hg
 ·have e:=congrArg Int.natAbs h2
  rw [Int.natAbs_mul,ha] at e
  rw [e]
  exact Nat.le_mul_of_pos_left _ hg
end Gc
set_option Elab.async false
set_option linter.all false
set_option maxRecDepth 100000
namespace L2
open PySem PySem.Spec PyProof.Rows
end L2
set_option Elab.async false
set_option linter.all false
set_option maxRecDepth 100000
namespace L2
open PySem PySem.Spec PyProof.Rows
end L2
set_option Elab.async false
set_option linter.all false
set_option maxRecDepth 100000
namespace L2
open PySem PySem.Spec PyProof.Rows
inductive Tr (α:Type) where
 | ret (a:α)
 | draw (n:Int) (k:Int->Tr α)
 | fail
namespace Tr
variable {α β γ:Type}
noncomputable def bind:Tr α->(α->Tr β)->Tr β
 | .ret a,f=>f a
 | .draw n k,f=>.draw n λr=>(k r).bind f
 | .fail,_=>.fail
@[simp] theorem ret_bind (a:α) (f:α->Tr β):(Tr.ret a).bind f=f a:=rfl
@[simp] theorem draw_bind (n:Int) (k:Int->Tr α) (f:α->Tr β):(Tr.draw n k).bind f=.draw n λr=>(k r).bind f:=rfl
@[simp] theorem fail_bind (f:α->Tr β):(Tr.fail:Tr α).bind f=.fail:=rfl
@[simp] theorem bind_assoc:∀ (t:Tr α) (f:α->Tr β) (g:β->Tr γ),(t.bind f).bind g=t.bind λa=>(f a).bind g
 | .ret a,f,g=>rfl
 | .draw n k,f,g=>by simp only [draw_bind]; congr 1; funext r; exact bind_assoc (k r) f g
 | .fail,f,g=>rfl
noncomputable def of:Option α->Tr α
 | some a=>.ret a
 | none=>.fail
@[simp] theorem of_some (a:α):Tr.of (some a)=.ret a:=rfl
@[simp] theorem of_none:Tr.of (none:Option α)=.fail:=rfl
noncomputable def ok:Tr α->Nat->(Nat->α->Prop)->Prop
 | .ret a,m,Q=>Q m a
 | .draw n k,m,Q=>m < 400000/\0 < n/\n < 1073741824/\∀ r,0<=r->r < n->(k r).ok (m+1) Q
 | .fail,_,_=>False
theorem ok_mono:∀ {t:Tr α} {m:Nat} {Q Q':Nat->α->Prop},t.ok m Q->(∀ m a,Q m a->Q' m a)->t.ok m Q'
 | .ret a,m,_,_,h,hq=>hq m a h
 | .draw n k,m,_,_,⟨h1,h2,h3,h⟩,hq=>⟨h1,h2,h3,λr h0 h1=>ok_mono (h r h0 h1) hq⟩
theorem ok_bind:∀ {t:Tr α} {f:α->Tr β} {m:Nat} {Q:Nat->β->Prop},(t.bind f).ok m Q ↔ t.ok m λm' a=>(f a).ok m' Q
 | .ret a,f,m,Q=>Iff.rfl
 | .draw n k,f,m,Q=>by
  show (_/\_/\_/\∀ r,_) ↔ (_/\_/\_/\∀ r,_)
  refine and_congr_right λ_=>and_congr_right λ_=>and_congr_right λ_=>forall_congr' λr=>forall_congr' λ_=>forall_congr' λ_=>ok_bind
 | .fail,f,m,Q=>Iff.rfl
theorem ok_of {o:Option α} {m:Nat} {Q:Nat->α->Prop} (h:(Tr.of o).ok m Q):∃ a,o=some a/\Q m a:=by
 cases o with
 | none=>exact h.elim
 | some a=>exact ⟨a,rfl,h⟩
noncomputable def all:Tr α->Nat->(α->Prop)->Prop
 | .ret a,_,P=>P a
 | .draw w k,n+1,P=>0 < w/\w < 1073741824/\∀ r,0<=r->r < w->(k r).all n P
 | .draw _ _,0,_=>False
 | .fail,_,_=>False
theorem all_ok:∀ {t:Tr α} {n m:Nat} {P:α->Prop},t.all n P->m+n<=400000->t.ok m λm' a=>m'<=m+n/\P a
 | .ret a,n,m,P,h,hm=>⟨by omega,h⟩
 | .draw w k,n+1,m,P,⟨h1,h2,h⟩,hm=>⟨by omega,h1,h2,λr a b=>ok_mono (all_ok (h r a b) (by omega)) λm' x hz0=>by
  obtain ⟨p,q⟩:=hz0
  exact ⟨by omega,q⟩⟩
theorem all_mono:∀ {t:Tr α} {n n':Nat} {P P':α->Prop},t.all n P->n<=n'->(∀ a,P a->P' a)->t.all n' P'
 | .ret a,n,n',P,P',h,hn,hp=>hp a h
 | .draw w k,n+1,n'+1,P,P',⟨h1,h2,h⟩,hn,hp=>⟨h1,h2,λr a b=>all_mono (h r a b) (by omega) hp⟩
 | .draw w k,n+1,0,P,P',h,hn,hp=>by omega
theorem all_bind:∀ {t:Tr α} {f:α->Tr β} {n n':Nat} {P:α->Prop} {P':β->Prop},t.all n P->(∀ a,P a->(f a).all n' P')->(t.bind f).all (n+n') P'
 | .ret a,f,n,n',P,P',h,hf=>all_mono (hf a h) (by omega) λ_ x=>x
 | .draw w k,f,n+1,n',P,P',⟨h1,h2,h⟩,hf=>by
  have e:n+1+n'=(n+n')+1:=by omega
  rw [e]
  exact ⟨h1,h2,λr a b=>all_bind (h r a b) hf⟩
end Tr
noncomputable abbrev Sub (G H:Hp):Prop:=∀ b o,G b=some o->H b=some o
structure Pk where
 is:HO->Hp->Nat->Prop
 mono:∀ {o:HO} {G G':Hp} {m:Nat},Sub G G'->is o G m->is o G' m
structure Wd (PK:Pk) (pa:Addr) (m:Nat) (G H:Hp):Prop where
 sub:Sub G H
 gpa:G pa=none
 pen:∃ o,H pa=some o/\PK.is o G m
structure Stp (pa:Addr) (G H G' H':Hp):Prop where
 gs:Sub G G'
 gn:∀ b o,G' b=some o->G b=some o\/H b=none
 hk:∀ b o,H b=some o->b≠pa->H' b=some o
theorem Stp.refl {pa:Addr} {G H:Hp}:Stp pa G H G H:=⟨λ_ _ h=>h,λ_ _ h=>.inl h,λ_ _ h _=>h⟩
theorem Stp.trans {pa:Addr} {G H G1 H1 G2 H2:Hp} (a:Stp pa G H G1 H1) (b:Stp pa G1 H1 G2 H2) (hp:∃ o,H1 pa=some o):Stp pa G H G2 H2:=by
 refine ⟨λc o h=>b.gs c o (a.gs c o h),λc o h=>?_,λc o h n=>b.hk c o (a.hk c o h n) n⟩
 rcases b.gn c o h with z | z
 ·exact a.gn c o z
 ·refine .inr ?_
  cases e:H c with
  | none=>rfl
  | some u =>
   by_cases hc:c=pa
   ·subst hc
    obtain ⟨o',z'⟩:=hp
    rw [z'] at z; cases z
   ·rw [a.hk c u e hc] at z; cases z
section
variable {PK:Pk} {pa:Addr} {m:Nat} {G H:Hp}
theorem Wd.some (w:Wd PK pa m G H):∃ o,H pa=some o:=let ⟨o,h,_⟩:=w.pen; ⟨o,h⟩
theorem Wd.ne (w:Wd PK pa m G H) {p:Addr} (hp:H p=none):pa≠p:=λe=>by
 obtain ⟨o,h⟩:=w.some
 rw [e,hp] at h; cases h
theorem Sub.new {p:Addr} {o:HO} (hp:G p=none):Sub G (upd G p o):=λb u h=>by rw [au (de h hp)]; exact h
theorem Wd.gnone (w:Wd PK pa m G H) {p:Addr} (hp:H p=none):G p=none:=by
 cases e:G p with
 | none=>rfl
 | some o=>rw [w.sub p o e] at hp; cases hp
theorem Sub.upd2 {p:Addr} {o:HO} (s:Sub G H):Sub (upd G p o) (upd H p o):=λb u h=>by
 by_cases e:b=p
 ·subst e; rw [bw] at h ⊢; exact h
 ·rw [au e] at h ⊢; exact s b u h
theorem Wd.new (w:Wd PK pa m G H) {p:Addr} {o:HO} (hp:H p=none):Wd PK pa m (upd G p o) (upd H p o)/\Stp pa G H (upd G p o) (upd H p o):=by
 have hg:=w.gnone hp
 have hne:=w.ne hp
 refine ⟨⟨w.sub.upd2,by rw [au hne]; exact w.gpa,?_⟩,⟨Sub.new hg,λb u h=>?_,λb u h _=>by rw [au (de h hp)]; exact h⟩⟩
 ·obtain ⟨u,h,q⟩:=w.pen
  exact ⟨u,by rw [au hne]; exact h,PK.mono (Sub.new hg) q⟩
 ·by_cases e:b=p
  ·subst e; exact .inr hp
  ·rw [au e] at h; exact .inl h
theorem Wd.own (w:Wd PK pa m G H) {p:Addr} {o:HO} (hp:H p=none):Wd PK pa m G (upd H p o)/\Stp pa G H G (upd H p o):=by
 have hne:=w.ne hp
 refine ⟨⟨λb u h=>by rw [au (de (w.sub b u h) hp)]; exact w.sub b u h,w.gpa,?_⟩,⟨λ_ _ h=>h,λ_ _ h=>.inl h,λb u h _=>by rw [au (de h hp)]; exact h⟩⟩
 obtain ⟨u,h,q⟩:=w.pen
 exact ⟨u,by rw [au hne]; exact h,q⟩
theorem Wd.freeze (w:Wd PK pa m G H) {p:Addr} {o:HO} (hp:H p=Option.some o) (hg:G p=none) (hne:pa≠p):Wd PK pa m (upd G p o) H:=by
 refine ⟨λb u h=>?_,by rw [au hne]; exact w.gpa,?_⟩
 ·by_cases e:b=p
  ·subst e; rw [bw] at h; rw [hp]; exact h
  ·rw [au e] at h; exact w.sub b u h
 ·obtain ⟨u,h,q⟩:=w.pen
  exact ⟨u,h,PK.mono (Sub.new hg) q⟩
noncomputable def Kn (PK:Pk) (pa:Addr) (m:Nat) (G H:Hp) (x:PyData) (Q:VK):Prop:=∀ v G' H',Stp pa G H G' H'->Wd PK pa m G' H'->Dn G' v x->Q v H'
variable {x:PyData} {Q:VK} {v:V} {vs:List V} {ds:List PyData} {p:Addr}
theorem Kn.here (k:Kn PK pa m G H x Q) (w:Wd PK pa m G H) (d:Dn G v x):Q v H:=k v G H .refl w d
theorem Kn.tup (k:Kn PK pa m G H (.tuple ds) Q) (w:Wd PK pa m G H) (d:DnAll G vs ds) (hp:H p=none):Q (.ref p) (upd H p (.tup vs)):=by
 obtain ⟨w1,s1⟩:=w.new (o:=.tup vs) hp
 exact k _ _ _ s1 w1 (.tup bw (DnAll.mono s1.gs d))
theorem Kn.lst (k:Kn PK pa m G H (.list ds) Q) (w:Wd PK pa m G H) (d:DnAll G vs ds) (hp:H p=none):Q (.ref p) (upd H p (.lst vs)):=by
 obtain ⟨w1,s1⟩:=w.new (o:=.lst vs) hp
 exact k _ _ _ s1 w1 (.lst bw (DnAll.mono s1.gs d))
theorem Kn.later {G1 H1:Hp} (k:Kn PK pa m G H x Q) (s:Stp pa G H G1 H1) (hp:∃ o,H1 pa=Option.some o):Kn PK pa m G1 H1 x Q:=λv G' H' s' w d=>k v G' H' (s.trans s' hp) w d
end
inductive Sl where
 | un | d (x:PyData) | own (xs:List PyData) | pen | dic (kvs:List (Int×PyData))
inductive KD (G:Hp):List (aq×V)->List (Int×PyData)->Prop
 | nil:KD G [] []
 | cons {i:Int} {v:V} {d:PyData} {ks:List (aq×V)} {kvs:List (Int×PyData)}:Dn G v d->KD G ks kvs->KD G ((.inl i,v)::ks) ((i,d)::kvs)
theorem KD.mono {G G':Hp} (s:Sub G G') {ks:List (aq×V)} {kvs:List (Int×PyData)} (h:KD G ks kvs):KD G' ks kvs:=by
 induction h with
 | nil=>exact .nil
 | cons h _ ih=>exact .cons (h.mono s) ih
inductive SlOk (pa:Addr) (H₀ G H:Hp):Option V->Sl->Prop
 | un {o:Option V}:SlOk pa H₀ G H o .un
 | d {v:V} {x:PyData}:Dn G v x->SlOk pa H₀ G H (some v) (.d x)
 | own {p:Addr} {vs:List V} {xs:List PyData}:H p=some (.lst vs)->G p=none->H₀ p=none->DnAll G vs xs->SlOk pa H₀ G H (some (.ref p)) (.own xs)
 | pen:SlOk pa H₀ G H (some (.ref pa)) .pen
 | dic {p:Addr} {ks:List (aq×V)} {kvs:List (Int×PyData)}:H p=some (.dK ks)->G p=none->H₀ p=none->KD G ks kvs->SlOk pa H₀ G H (some (.ref p)) (.dic kvs)
structure Rl (PK:Pk) (pa:Addr) (G₀ H₀:Hp) (m:Nat) (σ:St) (ρ:List Sl) (G H:Hp):Prop where
 wd:Wd PK pa m G H
 st:Stp pa G₀ H₀ G H
 p0:∃ o,H₀ pa=some o
 sl:∀ (i:Nat) (s:Sl),ρ[i]?=some s->∃ o,σ[i]?=some o/\SlOk pa H₀ G H o s
 len:ρ.length=σ.length
 dj:∀ (i j:Nat) (xs ys:List PyData),i≠j->ρ[i]?=some (.own xs)->ρ[j]?=some (.own ys)->σ[i]?≠σ[j]?
 dj2:∀ (i j:Nat) (xs ys:List (Int×PyData)),i≠j->ρ[i]?=some (.dic xs)->ρ[j]?=some (.dic ys)->σ[i]?≠σ[j]?
section
variable {PK:Pk} {pa:Addr} {G₀ H₀ G H:Hp} {m:Nat} {σ:St} {ρ:List Sl}
theorem lL {α:Type} {l:List α} {k i:Nat} {x y:α} (h:(l.set k x)[i]?=some y) (hn:x≠y):k≠i/\l[i]?=some y:=by
 have hi:k≠i:=λe=>by
  subst e
  have hl:k < l.length:=by
   have:=(List.getElem?_eq_some_iff.mp h).1
   rwa [List.length_set] at this
  rw [List.getElem?_set_self hl] at h
  exact hn (Option.some.inj h)
 rw [List.getElem?_set_ne hi] at h
 exact ⟨hi,h⟩
theorem rQ {α:Type} {T:α->Sl} {k:Nat} {x:Sl} {v:Option V} (dj:∀ (i j:Nat) (a b:α),i≠j->ρ[i]?=some (T a)->ρ[j]?=some (T b)->σ[i]?≠σ[j]?) (hn:∀ a,x≠T a) :
  ∀ (i j:Nat) (a b:α),i≠j->(ρ.set k x)[i]?=some (T a)->(ρ.set k x)[j]?=some (T b)->(σ.set k v)[i]?≠(σ.set k v)[j]?:=λi j a b hij h1 h2=>by
 obtain ⟨hi,h1⟩:=lL h1 (hn a)
 obtain ⟨hj,h2⟩:=lL h2 (hn b)
 rw [List.getElem?_set_ne hi,List.getElem?_set_ne hj]
 exact dj i j a b hij h1 h2
theorem rP {α:Type} {T:α->Sl} {k:Nat} {x:Sl} (dj:∀ (i j:Nat) (a b:α),i≠j->ρ[i]?=some (T a)->ρ[j]?=some (T b)->σ[i]?≠σ[j]?) (hn:∀ a,x≠T a) :
  ∀ (i j:Nat) (a b:α),i≠j->(ρ.set k x)[i]?=some (T a)->(ρ.set k x)[j]?=some (T b)->σ[i]?≠σ[j]?:=λi j a b hij h1 h2 =>
 dj i j a b hij (lL h1 (hn a)).2 (lL h2 (hn b)).2
theorem SlOk.step {G' H':Hp} {o:Option V} {s:Sl} (k:SlOk pa H₀ G H o s) (hp0:∃ o,H₀ pa=some o) (st:Stp pa G H G' H'):SlOk pa H₀ G' H' o s:=by
 cases k with
 | un=>exact .un
 | d h=>exact .d (h.mono st.gs)
 | pen=>exact .pen
 | @own p vs xs h1 h2 h3 h4 =>
  have hne:p≠pa:=λe=>by
   obtain ⟨u,hu⟩:=hp0
   rw [<- e,h3] at hu; cases hu
  refine .own (st.hk _ _ h1 hne) ?_ h3 (DnAll.mono st.gs h4)
  cases e:G' p with
  | none=>rfl
  | some u =>
   rcases st.gn p u e with z | z
   ·rw [h2] at z; cases z
   ·rw [h1] at z; cases z
 | @dic p ks kvs h1 h2 h3 h4 =>
  have hne:p≠pa:=λe=>by
   obtain ⟨u,hu⟩:=hp0
   rw [<- e,h3] at hu; cases hu
  refine .dic (st.hk _ _ h1 hne) ?_ h3 (h4.mono st.gs)
  cases e:G' p with
  | none=>rfl
  | some u =>
   rcases st.gn p u e with z | z
   ·rw [h2] at z; cases z
   ·rw [h1] at z; cases z
theorem Rl.step {G' H':Hp} {m':Nat} (r:Rl PK pa G₀ H₀ m σ ρ G H) (s:Stp pa G H G' H') (w:Wd PK pa m' G' H'):Rl PK pa G₀ H₀ m' σ ρ G' H' :=
 ⟨w,r.st.trans s r.wd.some,r.p0,λi sl h=>let ⟨o,h1,h2⟩:=r.sl i sl h; ⟨o,h1,h2.step r.p0 s⟩,r.len,r.dj,r.dj2⟩
theorem Rl.set (r:Rl PK pa G₀ H₀ m σ ρ G H) {v:V} {x:PyData} (d:Dn G v x) (k:Nat):Rl PK pa G₀ H₀ m (σ.set k (some v)) (ρ.set k (.d x)) G H:=by
 refine ⟨r.wd,r.st,r.p0,λi s h=>?_,by rw [List.length_set,List.length_set]; exact r.len,λi j xs ys hij h1 h2=>?_,rQ r.dj2 λa h=>by cases h⟩
 ·by_cases e:k=i
  ·subst e
   have hl:k < ρ.length:=by
    have:=(List.getElem?_eq_some_iff.mp h).1
    rwa [List.length_set] at this
   rw [List.getElem?_set_self hl] at h
   cases h
   exact ⟨_,List.getElem?_set_self (by rw [<- r.len]; exact hl),.d d⟩
  ·rw [List.getElem?_set_ne e] at h ⊢
   exact r.sl i s h
 ·have hi:k≠i:=λe=>by
   subst e
   have hl:k < ρ.length:=by
    have:=(List.getElem?_eq_some_iff.mp h1).1
    rwa [List.length_set] at this
   rw [List.getElem?_set_self hl] at h1; cases h1
  have hj:k≠j:=λe=>by
   subst e
   have hl:k < ρ.length:=by
    have:=(List.getElem?_eq_some_iff.mp h2).1
    rwa [List.length_set] at this
   rw [List.getElem?_set_self hl] at h2; cases h2
  rw [List.getElem?_set_ne hi] at h1 ⊢
  rw [List.getElem?_set_ne hj] at h2 ⊢
  exact r.dj i j xs ys hij h1 h2
theorem Rl.setO (r:Rl PK pa G₀ H₀ m σ ρ G H) {p:Addr} {vs:List V} {xs:List PyData} (h1:H p=some (.lst vs)) (h2:G p=none) (h3:H₀ p=none) (h4:DnAll G vs xs)
  (hd:∀ (i:Nat) (ys:List PyData),ρ[i]?=some (.own ys)->σ[i]?≠some (some (.ref p))) (k:Nat):Rl PK pa G₀ H₀ m (σ.set k (some (.ref p))) (ρ.set k (.own xs)) G H:=by
 have up:∀ {i:Nat} {s:Sl},(ρ.set k (.own xs))[i]?=some s->i=k->s=.own xs/\(σ.set k (some (V.ref p)))[i]?=some (some (.ref p)):=λ{i s} h e=>by
  subst e
  have hl:i < ρ.length:=by
   have:=(List.getElem?_eq_some_iff.mp h).1
   rwa [List.length_set] at this
  rw [List.getElem?_set_self hl] at h
  cases h
  exact ⟨rfl,List.getElem?_set_self (by rw [<- r.len]; exact hl)⟩
 refine ⟨r.wd,r.st,r.p0,λi s h=>?_,by rw [List.length_set,List.length_set]; exact r.len,λi j ys zs hij e1 e2=>?_,rQ r.dj2 λa h=>by cases h⟩
 ·by_cases e:i=k
  ·obtain ⟨e1,e2⟩:=up h e
   subst e1
   exact ⟨_,e2,.own h1 h2 h3 h4⟩
  ·rw [List.getElem?_set_ne (Ne.symm e)] at h ⊢
   exact r.sl i s h
 ·by_cases ei:i=k
  ·have q:=(up e1 ei).2
   have hj:k≠j:=λe=>hij (ei.trans e)
   rw [q]
   rw [List.getElem?_set_ne hj] at e2 ⊢
   exact λz=>hd j zs e2 z.symm
  ·rw [List.getElem?_set_ne (Ne.symm ei)] at e1 ⊢
   by_cases ej:j=k
   ·rw [(up e2 ej).2]
    exact hd i ys e1
   ·rw [List.getElem?_set_ne (Ne.symm ej)] at e2 ⊢
    exact r.dj i j ys zs hij e1 e2
theorem Rl.h0 (r:Rl PK pa G₀ H₀ m σ ρ G H) {p:Addr} (hp:H p=none):H₀ p=none:=by
 cases e:H₀ p with
 | none=>rfl
 | some u =>
  by_cases hc:p=pa
  ·subst hc
   obtain ⟨o,h⟩:=r.wd.some
   rw [hp] at h; cases h
  ·rw [r.st.hk p u e hc] at hp; cases hp
theorem Rl.apart (r:Rl PK pa G₀ H₀ m σ ρ G H) {p:Addr} (hp:H p=none) (i:Nat) (ys:List PyData) (h:ρ[i]?=some (.own ys)):σ[i]?≠some (some (.ref p)):=λe=>by
 obtain ⟨o,h1,h2⟩:=r.sl i _ h
 rw [e] at h1
 cases h1
 cases h2 with
 | own a _ _ _=>rw [hp] at a; cases a
theorem Rl.change (r:Rl PK pa G₀ H₀ m σ ρ G H) {k:Nat} {xs ys:List PyData} {p:Addr} {ws:List V} (hk:ρ[k]?=some (.own xs)) (hσ:σ[k]?=some (some (.ref p))) (d:DnAll G ws ys) :
  Rl PK pa G₀ H₀ m σ (ρ.set k (.own ys)) G (upd H p (.lst ws)):=by
 obtain ⟨o,h1,h2⟩:=r.sl k _ hk
 rw [hσ] at h1
 cases h1
 cases h2 with
 | @own _ vs _ a1 a2 a3 a4 =>
  have hne:pa≠p:=λe=>by
   obtain ⟨u,hu⟩:=r.p0
   rw [e,a3] at hu; cases hu
  have hl:k < ρ.length:=(List.getElem?_eq_some_iff.mp hk).1
  refine ⟨⟨λb o h=>?_,r.wd.gpa,?_⟩,⟨r.st.gs,r.st.gn,λb o h hb=>?_⟩,r.p0,λi s h=>?_,by rw [List.length_set]; exact r.len,λi j us ws hij e1 e2=>?_,rP r.dj2 λa h=>by cases h⟩
  ·rw [au (λe=>by subst e; rw [a2] at h; cases h)]
   exact r.wd.sub b o h
  ·obtain ⟨u,h,q⟩:=r.wd.pen
   exact ⟨u,by rw [au hne]; exact h,q⟩
  ·rw [au (λe=>by subst e; rw [a3] at h; cases h)]
   exact r.st.hk b o h hb
  ·by_cases e:k=i
   ·subst e
    rw [List.getElem?_set_self hl] at h
    cases h
    exact ⟨_,hσ,.own bw a2 a3 d⟩
   ·rw [List.getElem?_set_ne e] at h
    obtain ⟨o,q1,q2⟩:=r.sl i s h
    refine ⟨o,q1,?_⟩
    cases q2 with
    | un=>exact .un
    | d z=>exact .d z
    | pen=>exact .pen
    | dic b1 b2 b3 b4=>exact .dic (by rw [au (λe2=>by subst e2; rw [a1] at b1; cases b1)]; exact b1) b2 b3 b4
    | own b1 b2 b3 b4 =>
     refine .own ?_ b2 b3 b4
     rw [au]
     ·exact b1
     ·intro e2
      subst e2
      exact r.dj k i _ _ e hk h (by rw [hσ,q1])
  ·by_cases ei:k=i
   ·subst ei
    rw [List.getElem?_set_ne hij] at e2
    exact r.dj k j _ _ hij hk e2
   ·rw [List.getElem?_set_ne ei] at e1
    by_cases ej:k=j
    ·subst ej
     exact r.dj i k _ _ hij e1 hk
    ·rw [List.getElem?_set_ne ej] at e2
     exact r.dj i j _ _ hij e1 e2
noncomputable def fz (k:Nat) (ρ:List Sl):List Sl:=match ρ[k]? with
 | some (.own xs)=>ρ.set k (.d (.list xs))
 | _=>ρ
theorem Rl.freeze (r:Rl PK pa G₀ H₀ m σ ρ G H) (k:Nat):∃ G',Sub G G'/\Rl PK pa G₀ H₀ m σ (fz k ρ) G' H:=by
 unfold fz
 split
 ·rename_i xs hk
  obtain ⟨o,h1,h2⟩:=r.sl k _ hk
  cases h2 with
  | @own p vs _ a1 a2 a3 a4 =>
   have hne:pa≠p:=λe=>by
    obtain ⟨u,hu⟩:=r.p0
    rw [e,a3] at hu; cases hu
   have hl:k < ρ.length:=(List.getElem?_eq_some_iff.mp hk).1
   have sb:Sub G (upd G p (.lst vs)):=Sub.new a2
   refine ⟨upd G p (.lst vs),sb,r.wd.freeze a1 a2 hne,⟨λb o h=>sb b o (r.st.gs b o h),λb o h=>?_,r.st.hk⟩,r.p0,λi s h=>?_,by rw [List.length_set]; exact r.len,λi j us ws hij e1 e2=>?_,rP r.dj2 λa h=>by cases h⟩
   ·by_cases e:b=p
    ·subst e; exact .inr a3
    ·rw [au e] at h; exact r.st.gn b o h
   ·by_cases e:k=i
    ·subst e
     rw [List.getElem?_set_self hl] at h
     cases h
     exact ⟨_,h1,.d (.lst bw (DnAll.mono sb a4))⟩
    ·rw [List.getElem?_set_ne e] at h
     obtain ⟨o,q1,q2⟩:=r.sl i s h
     refine ⟨o,q1,?_⟩
     cases q2 with
     | un=>exact .un
     | d z=>exact .d (z.mono sb)
     | pen=>exact .pen
     | dic b1 b2 b3 b4=>exact .dic b1 (by rw [au (λe2=>by subst e2; rw [a1] at b1; cases b1)]; exact b2) b3 (b4.mono sb)
     | own b1 b2 b3 b4 =>
      refine .own b1 ?_ b3 (DnAll.mono sb b4)
      rw [au]
      ·exact b2
      ·intro e2
       subst e2
       exact r.dj k i _ _ e hk h (by rw [h1,q1])
   ·have hi:k≠i:=λe=>by subst e; rw [List.getElem?_set_self hl] at e1; cases e1
    have hj:k≠j:=λe=>by subst e; rw [List.getElem?_set_self hl] at e2; cases e2
    rw [List.getElem?_set_ne hi] at e1
    rw [List.getElem?_set_ne hj] at e2
    exact r.dj i j _ _ hij e1 e2
 ·exact ⟨G,λ_ _ h=>h,r⟩
end
end L2
set_option Elab.async false
set_option linter.all false
set_option maxRecDepth 100000
namespace L2
open PySem PySem.Spec PyProof.Rows
noncomputable def TAe (PK:Pk) (i:List Sl->Tr PyData):TE:=λσ H Q=>∃ pa G₀ H₀ m ρ G,Rl PK pa G₀ H₀ m σ ρ G H/\(i ρ).ok m λm' x=>Kn PK pa m' G H x Q
noncomputable def TAt (PK:Pk) (i:List Sl->Tr Bool):TT:=λσ H Q=>∃ pa G₀ H₀ m ρ G,Rl PK pa G₀ H₀ m σ ρ G H/\(i ρ).ok m λm' b=>∀ G' H',Stp pa G H G' H'->Wd PK pa m' G' H'->Q b H'
noncomputable def TAd (PK:Pk) (i:List Sl->Tr (List PyData)):TA:=λσ H Q=>∃ pa G₀ H₀ m ρ G,Rl PK pa G₀ H₀ m σ ρ G H/\(i ρ).ok m λm' xs=>∀ vs G' H',Stp pa G H G' H'->Wd PK pa m' G' H'->DnAll G' vs xs->Q vs H'
noncomputable def Ko1 (PK:Pk) (pa:Addr) (m:Nat) (G H:Hp) (xs:List PyData) (Q:VK):Prop:=∀ p vs G' H',Stp pa G H G' H'->Wd PK pa m G' H'->H p=none->G' p=none->H' p=some (.lst vs)->DnAll G' vs xs->Q (.ref p) H'
noncomputable def fw (PK:Pk) (i:List Sl->Tr (List PyData)):TE:=λσ H Q=>∃ pa G₀ H₀ m ρ G,Rl PK pa G₀ H₀ m σ ρ G H/\(i ρ).ok m λm' xs=>Ko1 PK pa m' G H xs Q
inductive ArOk (pa:Addr) (G:Hp):V->Sl->Prop
 | d {v:V} {x:PyData}:Dn G v x->ArOk pa G v (.d x)
 | pen:ArOk pa G (.ref pa) .pen
inductive ArsOk (pa:Addr) (G:Hp):List V->List Sl->Prop
 | nil:ArsOk pa G [] []
 | cons {v:V} {vs:List V} {s:Sl} {ss:List Sl}:ArOk pa G v s->ArsOk pa G vs ss->ArsOk pa G (v::vs) (s::ss)
theorem ArsOk.length {pa:Addr} {G:Hp} {vs:List V} {ss:List Sl} (h:ArsOk pa G vs ss):vs.length=ss.length:=by
 induction h with
 | nil=>rfl
 | cons h t ih=>exact congrArg (·+1) ih
noncomputable def TAa (PK:Pk) (i:List Sl->Tr (List Sl)):TA:=λσ H Q=>∃ pa G₀ H₀ m ρ G,Rl PK pa G₀ H₀ m σ ρ G H/\(i ρ).ok m λm' as=>∀ vs G' H',Stp pa G H G' H'->Wd PK pa m' G' H'->ArsOk pa G' vs as->Q vs H'
inductive Re where
 | d (x:PyData) | own (xs:List PyData)
noncomputable def Re.val:Re->PyData
 | .d x=>x
 | .own xs=>.list xs
@[simp] theorem Re.val_d (x:PyData):(Re.d x).val=x:=rfl
@[simp] theorem Re.val_own (xs:List PyData):(Re.own xs).val=.list xs:=rfl
inductive Ou where
 | next (ρ:List Sl) | ret (r:Re) | brk (ρ:List Sl) | cont (ρ:List Sl)
noncomputable def Zon (H₀ G H:Hp) (v:V):Re->Prop
 | .d x=>Dn G v x
 | .own xs=>∃ p vs,v=.ref p/\H p=some (.lst vs)/\G p=none/\H₀ p=none/\DnAll G vs xs
noncomputable def Kr (PK:Pk) (pa:Addr) (m:Nat) (G₀ H₀:Hp) (r:Re) (Q:VK):Prop:=∀ v G H,Stp pa G₀ H₀ G H->Wd PK pa m G H->Zon H₀ G H v r->Q v H
noncomputable def Ko (PK:Pk) (pa:Addr) (G₀ H₀ Gs:Hp) (D:Ends) (m:Nat):Ou->Prop
 | .next ρ=>∀ σ G H,Sub Gs G->Rl PK pa G₀ H₀ m σ ρ G H->D.nx σ H
 | .ret r=>Kr PK pa m G₀ H₀ r D.rt
 | .brk ρ=>∀ σ G H,Sub Gs G->Rl PK pa G₀ H₀ m σ ρ G H->D.bk σ H
 | .cont ρ=>∀ σ G H,Sub Gs G->Rl PK pa G₀ H₀ m σ ρ G H->D.ct σ H
noncomputable def bg (PK:Pk) (i:List Sl->Tr Ou):TS:=λD σ H=>∃ pa G₀ H₀ m ρ G,Rl PK pa G₀ H₀ m σ ρ G H/\(i ρ).ok m (Ko PK pa G₀ H₀ G D)
theorem PE.imp {X:Cx} {e:Expr} {t t':TE} (h:PE X e t) (q:∀ σ H Q,t' σ H Q->t σ H Q):PE X e t':=λpins s σ H Q I z=>h pins s σ H Q I (q σ H Q z)
theorem PT.imp {X:Cx} {e:Expr} {t t':TT} (h:PT X e t) (q:∀ σ H Q,t' σ H Q->t σ H Q):PT X e t':=λpins s σ H Q I z=>h pins s σ H Q I (q σ H Q z)
theorem PW.imp {X:Cx} {e:Expr} {t t':TT} (h:PW X e t) (q:∀ σ H Q,t' σ H Q->t σ H Q):PW X e t':=λwh pins s σ H Q I z=>h wh pins s σ H Q I (q σ H Q z)
theorem PA.imp {X:Cx} {e:List Expr} {t t':TA} (h:PA X e t) (q:∀ σ H Q,t' σ H Q->t σ H Q):PA X e t':=λpos pins s σ H Q I z=>h pos pins s σ H Q I (q σ H Q z)
theorem PS.imp {X:Cx} {e:Stmt} {t t':TS} (h:PS X e t) (q:∀ D σ H,t' D σ H->t D σ H):PS X e t':=λpins s σ H D I z=>h pins s σ H D I (q D σ H z)
theorem PSs.imp {X:Cx} {e:List Stmt} {t t':TS} (h:PSs X e t) (q:∀ D σ H,t' D σ H->t D σ H):PSs X e t':=λpins s σ H D I z=>h pins s σ H D I (q D σ H z)
variable {PK:Pk} {X:Cx} {a b c e:Expr} {es:List Expr} {pos:Pos} {i j l:List Sl->Tr PyData}
theorem TAe.then {σ:St} {H:Hp} {β:Type} {k:PyData->Tr β} {Z:Nat->β->Prop} {Q:VK} {pa:Addr} {G₀ H₀ G:Hp} {m:Nat} {ρ:List Sl} (R:Rl PK pa G₀ H₀ m σ ρ G H) (h:((i ρ).bind k).ok m Z)
  (hq:∀ m1 x v G1 H1,Stp pa G H G1 H1->Wd PK pa m1 G1 H1->Rl PK pa G₀ H₀ m1 σ ρ G1 H1->Dn G1 v x->(k x).ok m1 Z->Q v H1):TAe PK i σ H Q:=by
 refine ⟨pa,G₀,H₀,m,ρ,G,R,Tr.ok_mono (Tr.ok_bind.mp h) λm1 x hx v G1 H1 s1 w1 d1=>?_⟩
 exact hq m1 x v G1 H1 s1 w1 (R.step s1 w1) d1 hx
noncomputable def aa (k:Nat):List Sl->Tr PyData:=λρ=>match ρ[k]? with
 | some (.d x)=>.ret x
 | _=>.fail
noncomputable def aC (d:PyData):List Sl->Tr PyData:=λ_=>.ret d
theorem ac {k:Nat} (h:PE X e (cM k)):PE X e (TAe PK (aa k)):=h.imp λσ H Q hz0=>by
 obtain ⟨pa,G₀,H₀,m,ρ,G,R,q⟩:=hz0
 unfold aa at q
 split at q
 ·rename_i x hx
  obtain ⟨o,h1,h2⟩:=R.sl k _ hx
  cases h2 with
  | d z=>exact ⟨_,h1,Kn.here q R.wd z⟩
 ·exact q.elim
theorem ow {v:V} {d:PyData} (h:PE X e (tC v)) (hd:∀ G,Dn G v d):PE X e (TAe PK (aC d)):=h.imp λσ H Q hz0=>by
 obtain ⟨pa,G₀,H₀,m,ρ,G,R,q⟩:=hz0
 exact Kn.here q R.wd (hd G)
theorem ak {n:Int} {k pos}:PE X (.Constant (.int n) k pos) (TAe PK (aC (.int n))):=ow bK λ_=>.int n
theorem kS {n:Bool} {k pos}:PE X (.Constant (.bool n) k pos) (TAe PK (aC (.bool n))):=ow Zcc λ_=>.bl n
theorem ZeQ {k pos}:PE X (.Constant .none k pos) (TAe PK (aC .none)):=ow Zb9 λ_=>.non
theorem dX {x:Str} {n:Int} (hg:Gl X x) (h:∃ t,X.mg x=some (.int n t)) (hd:(x == ("__debug__":Str))=false:=by decide):PE X (.Name x pos) (TAe PK (aC (.int n))):=ow (Zhm hg h hd) λ_=>.int n
noncomputable def cG (r:R2) (f:PyData->PyData->Option PyData):Prop:=∀ (PK:Pk) (pa:Addr) (m:Nat) (G H:Hp) (x y:V) (dx dy dz:PyData) (Q:VK),Wd PK pa m G H->Dn G x dx->Dn G y dy->f dx dy=some dz->Kn PK pa m G H dz Q->r x y H Q
noncomputable def ad (f:PyData->PyData->Option PyData) (i j:List Sl->Tr PyData):List Sl->Tr PyData:=λρ=>(i ρ).bind λx=>(j ρ).bind λy=>Tr.of (f x y)
theorem oB {r:R2} {f:PyData->PyData->Option PyData} (hv:cG r f):∀ σ H Q,TAe PK (ad f i j) σ H Q->gR r (TAe PK i) (TAe PK j) σ H Q:=by
 rintro σ H Q ⟨pa,G₀,H₀,m,ρ,G,R,q⟩
 refine TAe.then R q λm1 x v G1 H1 s1 w1 R1 d1 q1=>?_
 refine TAe.then R1 q1 λm2 y u G2 H2 s2 w2 R2 d2 q2=>?_
 obtain ⟨z,hz,k⟩:=Tr.ok_of q2
 exact hv PK pa m2 G2 H2 v u x y z Q w2 (d1.mono s2.gs) d2 hz (Kn.later k (s1.trans s2 w1.some) w2.some)
theorem aj {op:Operator} {r:R2} {f:PyData->PyData->Option PyData} (ho:OpR X (binaryOp op) r) (hv:cG r f) (ha:PE X a (TAe PK i)) (hb:PE X b (TAe PK j)):PE X (.BinOp a op b pos) (TAe PK (ad f i j)) :=
 (cm ho ha hb).imp (oB hv)
theorem Zoe {op:CmpOp} {r:R2} {f:PyData->PyData->Option PyData} (ho:OpR X (compareOp op) r) (hv:cG r f) (ha:PE X a (TAe PK i)) (hb:PE X b (TAe PK j)) (hm:behindInMarks op b=false):PE X (.Compare a [op] [b] pos) (TAe PK (ad f i j)) :=
 (Zhq ho ha hb hm).imp (oB hv)
theorem bn {r:R2} {f:PyData->PyData->Option PyData} (hr:IxR X r) (hv:cG r f) (ha:PE X a (TAe PK i)) (hb:PE X b (TAe PK j)) (hs:sU b):PE X (.Subscript a b pos) (TAe PK (ad f i j)) :=
 (ff hr ha hb hs).imp (oB hv)
noncomputable def lD:PyData->Option Bool
 | .bool b=>some b
 | _=>none
@[simp] theorem ZoM (b:Bool):lD (.bool b)=some b:=rfl
noncomputable def ce (i:List Sl->Tr PyData):List Sl->Tr Bool:=λρ=>(i ρ).bind λx=>Tr.of (lD x)
theorem Zoi:∀ σ H Q,TAt PK (ce i) σ H Q->lG (TAe PK i) σ H Q:=by
 rintro σ H Q ⟨pa,G₀,H₀,m,ρ,G,R,q⟩
 refine TAe.then R q λm1 x v G1 H1 s1 w1 R1 d1 q1=>?_
 obtain ⟨b,hb,k⟩:=Tr.ok_of q1
 cases d1 <;> simp only [lD] at hb <;> cases hb
 exact ⟨_,rfl,k G1 H1 s1 w1⟩
theorem ZfF {t t':TE} (h:∀ σ H Q,t' σ H Q->t σ H Q):∀ σ H Q,lG t' σ H Q->lG t σ H Q:=λσ H Q z=>h σ H _ z
theorem cF {op:CmpOp} {r:R2} {f:PyData->PyData->Option PyData} (ho:OpR X (compareOp op) r) (hv:cG r f) (ha:PE X a (TAe PK i)) (hb:PE X b (TAe PK j)) (hm:behindInMarks op b=false):PT X (.Compare a [op] [b] pos) (TAt PK (ce (ad f i j))) :=
 (ka ho ha hb hm).imp λσ H Q z=>ZfF (oB hv) σ H Q (Zoi σ H Q z)
noncomputable def ZaC:PyData->Option Bool
 | .bool b=>some b
 | .int n=>some (n != 0)
 | .none=>some false
 | .list xs=>some (!xs.isEmpty)
 | .tuple xs=>some (!xs.isEmpty)
 | _=>none
noncomputable def kU (i:List Sl->Tr PyData):List Sl->Tr Bool:=λρ=>(i ρ).bind λx=>Tr.of (ZaC x)
theorem DnAll.isEmpty {H:Hp} {vs:List V} {ds:List PyData} (h:DnAll H vs ds):vs.isEmpty=ds.isEmpty:=by
 cases h <;> rfl
theorem sr (h:PE X e (TAe PK i)) (he:∀ whole,isTrue e X.env whole=(do let v <- whole; standAt e.pos; holding [v] (truthy v)):=by intro _; rfl):PT X e (TAt PK (kU i)):=(ZgY h he).imp λσ H Q hz0=>by
 obtain ⟨pa,G₀,H₀,m,ρ,G,R,q⟩:=hz0
 refine TAe.then R q λm1 x v G1 H1 s1 w1 R1 d1 q1=>?_
 obtain ⟨b,hb,k⟩:=Tr.ok_of q1
 have fin:=k G1 H1 s1 w1
 cases d1 with
 | non=>cases hb; exact ⟨_,rfl,fin⟩
 | bl b=>cases hb; exact ⟨_,rfl,fin⟩
 | int n=>cases hb; exact ⟨_,rfl,fin⟩
 | str _=>cases hb
 | tup h1 h2=>cases hb; exact ⟨_,.inr (.inl ⟨_,SqT.of (w1.sub _ _ h1),rfl⟩),by rw [h2.isEmpty]; exact fin⟩
 | lst h1 h2=>cases hb; exact ⟨_,.inl ⟨_,SqL.of (w1.sub _ _ h1),rfl⟩,by rw [h2.isEmpty]; exact fin⟩
 | dct _ _=>cases hb
noncomputable def sR (i j:List Sl->Tr Bool):List Sl->Tr Bool:=λρ=>(i ρ).bind λx=>if x=true then j ρ else .ret false
noncomputable def oy (i j:List Sl->Tr Bool):List Sl->Tr Bool:=λρ=>(i ρ).bind λx=>if x=true then .ret true else j ρ
noncomputable def oz (i:List Sl->Tr Bool):List Sl->Tr Bool:=λρ=>(i ρ).bind λx=>.ret (!x)
variable {p q:List Sl->Tr Bool} {rest:List Expr}
theorem TAt.then {σ:St} {H:Hp} {β:Type} {k:Bool->Tr β} {Z:Nat->β->Prop} {Q:Bool->Hp->Prop} {pa:Addr} {G₀ H₀ G:Hp} {m:Nat} {ρ:List Sl} (R:Rl PK pa G₀ H₀ m σ ρ G H) (h:((p ρ).bind k).ok m Z)
  (hq:∀ m1 x G1 H1,Stp pa G H G1 H1->Wd PK pa m1 G1 H1->Rl PK pa G₀ H₀ m1 σ ρ G1 H1->(k x).ok m1 Z->Q x H1):TAt PK p σ H Q:=by
 refine ⟨pa,G₀,H₀,m,ρ,G,R,Tr.ok_mono (Tr.ok_bind.mp h) λm1 x hx G1 H1 s1 w1=>?_⟩
 exact hq m1 x G1 H1 s1 w1 (R.step s1 w1) hx
theorem Zev {G₀ H₀ G H G1 H1:Hp} {m:Nat} {σ:St} {ρ:List Sl} {pa:Addr} {Q:Bool->Hp->Prop} (R1:Rl PK pa G₀ H₀ m σ ρ G1 H1) (s1:Stp pa G H G1 H1) (h:(q ρ).ok m λm' b=>∀ G' H',Stp pa G H G' H'->Wd PK pa m' G' H'->Q b H'):TAt PK q σ H1 Q :=
 ⟨pa,G₀,H₀,m,ρ,G1,R1,Tr.ok_mono h λm2 b k G2 H2 s2 w2=>k G2 H2 (s1.trans s2 R1.wd.some) w2⟩
theorem ZeR {G₀ H₀ G H G1 H1:Hp} {m:Nat} {σ:St} {ρ:List Sl} {pa:Addr} {Q:VK} (R1:Rl PK pa G₀ H₀ m σ ρ G1 H1) (s1:Stp pa G H G1 H1) (h:(i ρ).ok m λm' x=>Kn PK pa m' G H x Q):TAe PK i σ H1 Q :=
 ⟨pa,G₀,H₀,m,ρ,G1,R1,Tr.ok_mono h λm2 b k=>Kn.later k s1 R1.wd.some⟩
theorem ZnO (ha:PT X a (TAt PK p)):PW X (.BoolOp .And [a] pos) (TAt PK p):=ZbZ ha
theorem Zer (ha:PT X a (TAt PK p)):PW X (.BoolOp .Or [a] pos) (TAt PK p):=ZgU ha
theorem ZnP (ha:PT X a (TAt PK p)) (hb:PW X (.BoolOp .And (b::rest) pos) (TAt PK q)):PW X (.BoolOp .And (a::b::rest) pos) (TAt PK (sR p q)):=(Zb0 ha hb).imp λσ H Q hz0=>by
 obtain ⟨pa,G₀,H₀,m,ρ,G,R,z⟩:=hz0
 refine TAt.then R z λm1 x G1 H1 s1 w1 R1 q1=>?_
 cases x with
 | true=>rw [if_pos rfl] at q1 ⊢; exact Zev R1 s1 q1
 | false=>rw [if_neg Bool.false_ne_true] at q1 ⊢; exact q1 G1 H1 s1 w1
theorem Zes (ha:PT X a (TAt PK p)) (hb:PW X (.BoolOp .Or (b::rest) pos) (TAt PK q)):PW X (.BoolOp .Or (a::b::rest) pos) (TAt PK (oy p q)):=(ZgV ha hb).imp λσ H Q hz0=>by
 obtain ⟨pa,G₀,H₀,m,ρ,G,R,z⟩:=hz0
 refine TAt.then R z λm1 x G1 H1 s1 w1 R1 q1=>?_
 cases x with
 | true=>rw [if_pos rfl] at q1 ⊢; exact q1 G1 H1 s1 w1
 | false=>rw [if_neg Bool.false_ne_true] at q1 ⊢; exact Zev R1 s1 q1
theorem sm (h:PW X e (TAt PK p)):PT X e (TAt PK p):=h.pt
theorem Zeu (ha:PT X a (TAt PK p)):PT X (.UnaryOp .Not a pos) (TAt PK (oz p)):=(ZgZ ha).imp λσ H Q hz0=>by
 obtain ⟨pa,G₀,H₀,m,ρ,G,R,z⟩:=hz0
 refine TAt.then R z λm1 x G1 H1 s1 w1 R1 q1=>?_
 exact q1 G1 H1 s1 w1
noncomputable def sN (p:List Sl->Tr Bool) (i j:List Sl->Tr PyData):List Sl->Tr PyData:=λρ=>(p ρ).bind λx=>if x=true then i ρ else j ρ
theorem Zob (hc:PT X c (TAt PK p)) (ha:PE X a (TAe PK i)) (hb:PE X b (TAe PK j)):PE X (.IfExp c a b pos) (TAe PK (sN p i j)):=(Zhl hc ha hb).imp λσ H Q hz0=>by
 obtain ⟨pa,G₀,H₀,m,ρ,G,R,z⟩:=hz0
 refine TAt.then R z λm1 x G1 H1 s1 w1 R1 q1=>?_
 cases x with
 | true=>rw [if_pos rfl] at q1 ⊢; exact ZeR R1 s1 q1
 | false=>rw [if_neg Bool.false_ne_true] at q1 ⊢; exact ZeR R1 s1 q1
variable {is:List Sl->Tr (List PyData)}
noncomputable def al:List Sl->Tr (List PyData):=λ_=>.ret []
noncomputable def ae (i:List Sl->Tr PyData) (is:List Sl->Tr (List PyData)):List Sl->Tr (List PyData):=λρ=>(i ρ).bind λx=>(is ρ).bind λxs=>.ret (x::xs)
theorem am:PA X [] (TAd PK al):=cB.imp λσ H Q hz0=>by
 obtain ⟨pa,G₀,H₀,m,ρ,G,R,z⟩:=hz0
 exact z [] G H .refl R.wd .nil
theorem TAd.then {σ:St} {H:Hp} {β:Type} {k:List PyData->Tr β} {Z:Nat->β->Prop} {Q:List V->Hp->Prop} {pa:Addr} {G₀ H₀ G:Hp} {m:Nat} {ρ:List Sl} (R:Rl PK pa G₀ H₀ m σ ρ G H) (h:((is ρ).bind k).ok m Z)
  (hq:∀ m1 xs vs G1 H1,Stp pa G H G1 H1->Wd PK pa m1 G1 H1->Rl PK pa G₀ H₀ m1 σ ρ G1 H1->DnAll G1 vs xs->(k xs).ok m1 Z->Q vs H1):TAd PK is σ H Q:=by
 refine ⟨pa,G₀,H₀,m,ρ,G,R,Tr.ok_mono (Tr.ok_bind.mp h) λm1 x hx v G1 H1 s1 w1 d1=>?_⟩
 exact hq m1 x v G1 H1 s1 w1 (R.step s1 w1) d1 hx
theorem ag (ha:PE X e (TAe PK i)) (hr:PA X es (TAd PK is)) (hs:starEach (e::es) X.env=(false,eval e X.env)::starEach es X.env:=by rfl):PA X (e::es) (TAd PK (ae i is)):=(bx ha hr hs).imp λσ H Q hz0=>by
 obtain ⟨pa,G₀,H₀,m,ρ,G,R,z⟩:=hz0
 refine TAe.then R z λm1 x v G1 H1 s1 w1 R1 d1 q1=>?_
 refine TAd.then R1 q1 λm2 xs vs G2 H2 s2 w2 R2 d2 q2=>?_
 exact q2 _ _ _ (s1.trans s2 w1.some) w2 (.cons (d1.mono s2.gs) d2)
noncomputable def small (n:Nat):Bool:=decide (n<=sizeLine)
noncomputable def cb (is:List Sl->Tr (List PyData)):List Sl->Tr PyData:=λρ=>(is ρ).bind λxs=>if small xs.length=true then .ret (.tuple xs) else .fail
noncomputable def cg (is:List Sl->Tr (List PyData)):List Sl->Tr PyData:=λρ=>(is ρ).bind λxs=>.ret (.list xs)
noncomputable def eE (is:List Sl->Tr (List PyData)):List Sl->Tr (List PyData):=λρ=>(is ρ).bind λxs=>if small xs.length=true then .ret xs else .fail
theorem dA {α:Type} {c:Bool} {t:Tr α} {m:Nat} {Q:Nat->α->Prop} (h:(if c=true then t else .fail).ok m Q):c=true/\t.ok m Q:=by
 cases c with
 | true=>exact ⟨rfl,h⟩
 | false=>exact h.elim
theorem cP {x1} (h:PA X es (TAd PK is)):PE X (.Tuple es x1 pos) (TAe PK (cb is)):=(Zb7 h).imp λσ H Q hz0=>by
 obtain ⟨pa,G₀,H₀,m,ρ,G,R,z⟩:=hz0
 refine TAd.then R z λm1 xs vs G1 H1 s1 w1 R1 d1 q1=>?_
 obtain ⟨hs,k⟩:=dA q1
 exact ⟨by rw [d1.length]; exact of_decide_eq_true hs,λp hp=>(Kn.later k s1 w1.some).tup w1 d1 hp⟩
theorem Ko1.new {pa:Addr} {m:Nat} {G H:Hp} {xs:List PyData} {vs:List V} {Q:VK} {p:Addr} (k:Ko1 PK pa m G H xs Q) (w:Wd PK pa m G H) (d:DnAll G vs xs) (hp:H p=none):Q (.ref p) (upd H p (.lst vs)):=by
 obtain ⟨w1,s1⟩:=w.own (o:=.lst vs) hp
 exact k p vs G _ s1 w1 hp (w.gnone hp) bw d
theorem Ko1.later {pa:Addr} {m:Nat} {G H G1 H1:Hp} {xs:List PyData} {Q:VK} (k:Ko1 PK pa m G H xs Q) (s:Stp pa G H G1 H1) (hp:∃ o,H1 pa=some o):Ko1 PK pa m G1 H1 xs Q:=λp vs G' H' s' w' h1 h2 h3 h4=>by
 refine k p vs G' H' (s.trans s' hp) w' ?_ h2 h3 h4
 cases e:H p with
 | none=>rfl
 | some u =>
  by_cases hc:p=pa
  ·subst hc
   obtain ⟨o,z⟩:=hp
   rw [h1] at z; cases z
  ·rw [s.hk p u e hc] at h1; cases h1
theorem fr (h:PA X es (TAd PK is)):PE X (.List es pos) (fw PK (eE is)):=(Zca h).imp λσ H Q hz0=>by
 obtain ⟨pa,G₀,H₀,m,ρ,G,R,z⟩:=hz0
 refine TAd.then R z λm1 xs vs G1 H1 s1 w1 R1 d1 q1=>?_
 obtain ⟨hs,k⟩:=dA q1
 exact ⟨by rw [d1.length]; exact of_decide_eq_true hs,λp hp=>(Ko1.later k s1 w1.some).new w1 d1 hp⟩
theorem Ko1.of {pa:Addr} {m:Nat} {G H:Hp} {xs:List PyData} {Q:VK} (k:Kn PK pa m G H (.list xs) Q) (hp:∃ o,H pa=some o):Ko1 PK pa m G H xs Q:=λp vs G' H' s w h1 h2 h3 h4=>by
 have hne:pa≠p:=λe=>by
  obtain ⟨o,z⟩:=hp
  rw [e,h1] at z; cases z
 have sb:Sub G' (upd G' p (.lst vs)):=Sub.new h2
 refine k _ (upd G' p (.lst vs)) H' ⟨λb o h=>sb b o (s.gs b o h),λb o h=>?_,s.hk⟩ (w.freeze h3 h2 hne) (.lst bw (DnAll.mono sb h4))
 by_cases e:b=p
 ·subst e; exact .inr h1
 ·rw [au e] at h; exact s.gn b o h
theorem cQ (h:PE X e (fw PK is)):PE X e (TAe PK (cg is)):=h.imp λσ H Q hz0=>by
 obtain ⟨pa,G₀,H₀,m,ρ,G,R,z⟩:=hz0
 refine ⟨pa,G₀,H₀,m,ρ,G,R,Tr.ok_mono (Tr.ok_bind.mp z) λm1 xs k=>Ko1.of k R.wd.some⟩
noncomputable def e9 (r:List V->Hp->VK->Prop) (f:List PyData->Option PyData):Prop:=∀ (PK:Pk) (pa:Addr) (m:Nat) (G H:Hp) (vs:List V) (ds:List PyData) (d:PyData) (Q:VK),Wd PK pa m G H->DnAll G vs ds->f ds=some d->Kn PK pa m G H d Q->r vs H Q
noncomputable def ba (f:List PyData->Option PyData) (is:List Sl->Tr (List PyData)):List Sl->Tr PyData:=λρ=>(is ρ).bind λxs=>Tr.of (f xs)
theorem Zok {r:List V->Hp->VK->Prop} {f:List PyData->Option PyData} (hv:e9 r f):∀ σ H Q,TAe PK (ba f is) σ H Q->gl r (TAd PK is) σ H Q:=by
 rintro σ H Q ⟨pa,G₀,H₀,m,ρ,G,R,z⟩
 refine TAd.then R z λm1 xs vs G1 H1 s1 w1 R1 d1 q1=>?_
 obtain ⟨d,hd,k⟩:=Tr.ok_of q1
 exact hv PK pa m1 G1 H1 vs xs d Q w1 d1 hd (Kn.later k s1 w1.some)
theorem bh {t:TA} {r:List V->Hp->VK->Prop} {f:List PyData->Option PyData} (h:PE X e (gl r (TAd PK is))) (hv:e9 r f):PE X e (TAe PK (ba f is)):=h.imp (Zok hv)
variable {as:List Sl->Tr (List Sl)}
noncomputable def ay:List Sl->Tr (List Sl):=λ_=>.ret []
noncomputable def af (i:List Sl->Tr PyData) (as:List Sl->Tr (List Sl)):List Sl->Tr (List Sl):=λρ=>(i ρ).bind λx=>(as ρ).bind λxs=>.ret (.d x::xs)
noncomputable def bZ (k:Nat) (as:List Sl->Tr (List Sl)):List Sl->Tr (List Sl):=λρ=>match ρ[k]? with
 | some .pen=>(as ρ).bind λxs=>.ret (.pen::xs)
 | _=>.fail
theorem aI:PA X [] (TAa PK ay):=cB.imp λσ H Q hz0=>by
 obtain ⟨pa,G₀,H₀,m,ρ,G,R,z⟩:=hz0
 exact z [] G H .refl R.wd .nil
theorem TAa.then {σ:St} {H:Hp} {β:Type} {k:List Sl->Tr β} {Z:Nat->β->Prop} {Q:List V->Hp->Prop} {pa:Addr} {G₀ H₀ G:Hp} {m:Nat} {ρ:List Sl} (R:Rl PK pa G₀ H₀ m σ ρ G H) (h:((as ρ).bind k).ok m Z)
  (hq:∀ m1 xs vs G1 H1,Stp pa G H G1 H1->Wd PK pa m1 G1 H1->Rl PK pa G₀ H₀ m1 σ ρ G1 H1->ArsOk pa G1 vs xs->(k xs).ok m1 Z->Q vs H1):TAa PK as σ H Q:=by
 refine ⟨pa,G₀,H₀,m,ρ,G,R,Tr.ok_mono (Tr.ok_bind.mp h) λm1 x hx v G1 H1 s1 w1 d1=>?_⟩
 exact hq m1 x v G1 H1 s1 w1 (R.step s1 w1) d1 hx
theorem ah (ha:PE X e (TAe PK i)) (hr:PA X es (TAa PK as)) (hs:starEach (e::es) X.env=(false,eval e X.env)::starEach es X.env:=by rfl):PA X (e::es) (TAa PK (af i as)):=(bx ha hr hs).imp λσ H Q hz0=>by
 obtain ⟨pa,G₀,H₀,m,ρ,G,R,z⟩:=hz0
 refine TAe.then R z λm1 x v G1 H1 s1 w1 R1 d1 q1=>?_
 refine TAa.then R1 q1 λm2 xs vs G2 H2 s2 w2 R2 d2 q2=>?_
 exact q2 _ _ _ (s1.trans s2 w1.some) w2 (.cons (.d (d1.mono s2.gs)) d2)
theorem cx {k:Nat} (ha:PE X e (cM k)) (hr:PA X es (TAa PK as)) (hs:starEach (e::es) X.env=(false,eval e X.env)::starEach es X.env:=by rfl):PA X (e::es) (TAa PK (bZ k as)):=(bx ha hr hs).imp λσ H Q hz0=>by
 obtain ⟨pa,G₀,H₀,m,ρ,G,R,z⟩:=hz0
 unfold bZ at z
 split at z
 ·rename_i hk
  obtain ⟨o,h1,h2⟩:=R.sl k _ hk
  cases h2
  refine ⟨_,h1,?_⟩
  refine TAa.then R z λm2 xs vs G2 H2 s2 w2 R2 d2 q2=>?_
  exact q2 _ _ _ s2 w2 (.cons .pen d2)
 ·exact z.elim
noncomputable def sI (PK:Pk) (n:Nat) (f:List Sl->Tr Re):Sp:=λvs H Q _=>vs.length=n/\∃ pa m G as,Wd PK pa m G H/\ArsOk pa G vs as/\(f as).ok m λm' r=>Kr PK pa m' G H r Q
noncomputable def aH (f:List Sl->Tr Re) (as:List Sl->Tr (List Sl)):List Sl->Tr Re:=λρ=>(as ρ).bind f
noncomputable def aG (f:List Sl->Tr Re):List Sl->Tr PyData:=λρ=>(f ρ).bind λr=>.ret r.val
noncomputable def oE (PK:Pk) (i:List Sl->Tr Re):TE:=λσ H Q=>∃ pa G₀ H₀ m ρ G,Rl PK pa G₀ H₀ m σ ρ G H/\(i ρ).ok m λm' r=>Kr PK pa m' G H r Q
theorem Kr.later {pa:Addr} {m:Nat} {G H G1 H1:Hp} {r:Re} {Q:VK} (k:Kr PK pa m G H r Q) (s:Stp pa G H G1 H1) (hp:∃ o,H1 pa=some o):Kr PK pa m G1 H1 r Q:=λv G' H' s' w' d=>by
 refine k v G' H' (s.trans s' hp) w' ?_
 cases r with
 | d x=>exact d
 | own xs =>
  obtain ⟨p,vs,e,h1,h2,h3,h4⟩:=d
  refine ⟨p,vs,e,h1,h2,?_,h4⟩
  cases e:H p with
  | none=>rfl
  | some u =>
   by_cases hc:p=pa
   ·subst hc
    obtain ⟨o,z⟩:=hp
    rw [h3] at z; cases z
   ·rw [s.hk p u e hc] at h3; cases h3
theorem Kr.of {pa:Addr} {m:Nat} {G H:Hp} {r:Re} {Q:VK} (k:Kn PK pa m G H r.val Q) (hp:∃ o,H pa=some o):Kr PK pa m G H r Q:=λv G' H' s w d=>by
 cases r with
 | d x=>exact k v G' H' s w d
 | own xs =>
  obtain ⟨p,vs,rfl,h1,h2,h3,h4⟩:=d
  exact Ko1.of k hp p vs G' H' s w h3 h2 h1 h4
theorem aN {f:List Sl->Tr Re} (h:PE X e (oE PK f)):PE X e (TAe PK (aG f)):=h.imp (by
 intro σ H Q z
 obtain ⟨pa,G₀,H₀,m,ρ,G,R,z⟩:=z
 exact ⟨pa,G₀,H₀,m,ρ,G,R,Tr.ok_mono (Tr.ok_bind.mp z) λm1 r k=>Kr.of k R.wd.some⟩)
structure ACal (PK:Pk) (P:Program) (w:World) (K:PySem.W.Frag) (mg:Str->Option Value) (base:Heap) (x:Str) (k:Nat) (ps:List Str) (f:List Sl->Tr Re):Prop where
 cal:Callee P w K mg base x k ps (sI PK ps.length f)
 len:∀ as m Z,(f as).ok m Z->as.length=ps.length
theorem aJ {x:Str} {k:Nat} {ps:List Str} {f:List Sl->Tr Re} {pp:Pos} (C:ACal PK X.prog X.w X.K X.mg X.base x k ps f) (hr:Room k X.A) (hg:Gl X x) (ha:PA X (e::es) (TAa PK as))
  (hdb:(x == ("__debug__":Str))=false:=by decide)
  (he:starEach (e::es) X.env=(false,eval e X.env)::starEach es X.env:=by rfl) (hpl:(backTo pos (starEach es X.env)).any (·.1)=false:=by rfl):PE X (.Call (.Name x pp) (e::es) [] pos) (oE PK (aH f as)) :=
 (qd C.cal hr hg ha hdb he hpl).imp λσ H Q hz0=>by
  obtain ⟨pa,G₀,H₀,m,ρ,G,R,z⟩:=hz0
  refine TAa.then R z λm1 xs vs G1 H1 s1 w1 R1 d1 q1=>?_
  show sI PK ps.length f (vs++[]) H1 Q E0
  rw [List.append_nil]
  exact ⟨by rw [d1.length]; exact C.len _ _ _ q1,pa,m1,G1,xs,w1,d1,Tr.ok_mono q1 λm2 r k=>Kr.later k s1 w1.some⟩
end L2
set_option Elab.async false
set_option linter.all false
set_option maxRecDepth 100000
namespace L2
open PySem PySem.Spec PyProof.Rows
variable {PK:Pk} {X:Cx} {a b c e:Expr} {es:List Expr} {pos:Pos} {i j l:List Sl->Tr PyData} {is:List Sl->Tr (List PyData)} {as:List Sl->Tr (List Sl)} {f:List Sl->Tr Re} {p q:List Sl->Tr Bool} {st:Stmt} {sts:List Stmt} {s t u:List Sl->Tr Ou}
noncomputable def ao (s t:List Sl->Tr Ou):List Sl->Tr Ou:=λρ=>(s ρ).bind λo=>match o with
 | .next ρ'=>t ρ'
 | o=>.ret o
noncomputable def dh:List Sl->Tr Ou:=λρ=>.ret (.next ρ)
theorem Ko.later {pa:Addr} {G₀ H₀ Gs G:Hp} {D:Ends} {m:Nat} {o:Ou} (k:Ko PK pa G₀ H₀ Gs D m o) (sb:Sub Gs G):Ko PK pa G₀ H₀ G D m o:=by
 cases o with
 | next ρ=>exact λσ G' H s R=>k σ G' H (λb o h=>s b o (sb b o h)) R
 | ret r=>exact k
 | brk ρ=>exact λσ G' H s R=>k σ G' H (λb o h=>s b o (sb b o h)) R
 | cont ρ=>exact λσ G' H s R=>k σ G' H (λb o h=>s b o (sb b o h)) R
theorem Sub.refl {G:Hp}:Sub G G:=λ_ _ h=>h
theorem Sub.trans {G G1 G2:Hp} (a:Sub G G1) (b:Sub G1 G2):Sub G G2:=λc o h=>b c o (a c o h)
theorem dU:PSs X [] (bg PK dh):=gW.imp λD σ H hz0=>by
 obtain ⟨pa,G₀,H₀,m,ρ,G,R,z⟩:=hz0
 exact z σ G H .refl R
theorem Zoj:∀ D σ H,bg PK (ao s t) D σ H->jF (bg PK s) (bg PK t) D σ H:=by
 rintro D σ H ⟨pa,G₀,H₀,m,ρ,G,R,z⟩
 refine ⟨pa,G₀,H₀,m,ρ,G,R,Tr.ok_mono (Tr.ok_bind.mp z) λm1 o k=>?_⟩
 cases o with
 | next ρ'=>exact λσ' G' H' sb R'=>⟨pa,G₀,H₀,m1,ρ',G',R',Tr.ok_mono k λ_ _ k'=>Ko.later k' sb⟩
 | ret r=>exact k
 | brk ρ'=>exact k
 | cont ρ'=>exact k
theorem ap (h1:PS X st (bg PK s)) (h2:PSs X sts (bg PK t)):PSs X (st::sts) (bg PK (ao s t)):=(cY h1 h2).imp Zoj
theorem aK (h1:PS X st (bg PK s)):PSs X [st] (bg PK s):=eh h1
noncomputable def kZ:List Sl->Tr Ou:=λ_=>.fail
theorem ZeH:PS X st (bg PK kZ):=λ_ _ _ _ _ _ h=>by
 obtain ⟨pa,G₀,H₀,m,ρ,G,R,z⟩:=h
 exact z.elim
noncomputable def sQ (i:List Sl->Tr PyData):List Sl->Tr Ou:=λρ=>(i ρ).bind λ_=>.ret (.next ρ)
theorem ZnW (he:PE X e (TAe PK i)) (hs:swapsWith e none pos.line X.env=pure false:=by rfl):PS X (.Expr e pos) (bg PK (sQ i)):=(iT he hs).imp λD σ H hz0=>by
 obtain ⟨pa,G₀,H₀,m,ρ,G,R,z⟩:=hz0
 refine TAe.then R z λm1 x v G1 H1 s1 w1 R1 d1 q1=>?_
 exact q1 σ G1 H1 s1.gs R1
noncomputable def bX (i:List Sl->Tr PyData):List Sl->Tr Ou:=λρ=>(i ρ).bind λx=>.ret (.ret (.d x))
theorem b9 (he:PE X e (TAe PK i)):PS X (.Return (some e) pos) (bg PK (bX i)):=(fy he).imp λD σ H hz0=>by
 obtain ⟨pa,G₀,H₀,m,ρ,G,R,z⟩:=hz0
 refine TAe.then R z λm1 x v G1 H1 s1 w1 R1 d1 q1=>?_
 exact q1 v G1 H1 R1.st w1 d1
noncomputable def kY (f:List Sl->Tr Re):List Sl->Tr Ou:=λρ=>(f ρ).bind λr=>.ret (.ret r)
theorem sx (he:PE X e (oE PK f)):PS X (.Return (some e) pos) (bg PK (kY f)):=(fy he).imp (by
 intro D σ H z
 obtain ⟨pa,G₀,H₀,m,ρ,G,R,z⟩:=z
 exact ⟨pa,G₀,H₀,m,ρ,G,R,Tr.ok_mono (Tr.ok_bind.mp z) λm1 r k=>Kr.later k R.st R.wd.some⟩)
noncomputable def eD (k:Nat):List Sl->Tr Ou:=λρ=>match ρ[k]? with
 | some (.d x)=>.ret (.ret (.d x))
 | some (.own xs)=>.ret (.ret (.own xs))
 | _=>.fail
theorem il {k:Nat} (he:PE X e (cM k)):PS X (.Return (some e) pos) (bg PK (eD k)):=(fy he).imp λD σ H hz0=>by
 obtain ⟨pa,G₀,H₀,m,ρ,G,R,z⟩:=hz0
 unfold eD at z
 split at z
 ·rename_i x hx
  obtain ⟨o,h1,h2⟩:=R.sl k _ hx
  cases h2 with
  | d d1=>exact ⟨_,h1,z _ G H R.st R.wd d1⟩
 ·rename_i xs hx
  obtain ⟨o,h1,h2⟩:=R.sl k _ hx
  cases h2 with
  | own a1 a2 a3 a4=>exact ⟨_,h1,z _ G H R.st R.wd ⟨_,_,rfl,a1,a2,a3,a4⟩⟩
 ·exact z.elim
noncomputable def dk (p:List Sl->Tr Bool) (s t:List Sl->Tr Ou):List Sl->Tr Ou:=λρ=>(p ρ).bind λx=>if x=true then s ρ else t ρ
theorem dW {xs ys:List Stmt} (hc:PT X c (TAt PK p)) (ha:PSs X xs (bg PK s)) (hb:PSs X ys (bg PK t)):PS X (.If c xs ys pos) (bg PK (dk p s t)):=(gX hc ha hb).imp λD σ H hz0=>by
 obtain ⟨pa,G₀,H₀,m,ρ,G,R,z⟩:=hz0
 refine TAt.then R z λm1 x G1 H1 s1 w1 R1 q1=>?_
 cases x with
 | true=>rw [if_pos rfl] at q1 ⊢; exact ⟨pa,G₀,H₀,m1,ρ,G1,R1,Tr.ok_mono q1 λ_ _ k'=>Ko.later k' s1.gs⟩
 | false=>rw [if_neg Bool.false_ne_true] at q1 ⊢; exact ⟨pa,G₀,H₀,m1,ρ,G1,R1,Tr.ok_mono q1 λ_ _ k'=>Ko.later k' s1.gs⟩
noncomputable def aS (k:Nat) (i:List Sl->Tr PyData):List Sl->Tr Ou:=λρ=>(i ρ).bind λx=>.ret (.next (ρ.set k (.d x)))
theorem aZ {k:Nat} (h:PS X st (dM (TAe PK i) (eC k))):PS X st (bg PK (aS k i)):=h.imp λD σ H hz0=>by
 obtain ⟨pa,G₀,H₀,m,ρ,G,R,z⟩:=hz0
 refine TAe.then R z λm1 x v G1 H1 s1 w1 R1 d1 q1=>?_
 exact q1 _ G1 H1 s1.gs (R1.set d1 k)
noncomputable def gO (k:Nat) (is:List Sl->Tr (List PyData)):List Sl->Tr Ou:=λρ=>(is ρ).bind λx=>.ret (.next (ρ.set k (.own x)))
theorem kQ {k:Nat} (h:PS X st (dM (fw PK is) (eC k))):PS X st (bg PK (gO k is)):=h.imp λD σ H hz0=>by
 obtain ⟨pa,G₀,H₀,m,ρ,G,R,z⟩:=hz0
 refine ⟨pa,G₀,H₀,m,ρ,G,R,Tr.ok_mono (Tr.ok_bind.mp z) λm1 xs k' p vs G1 H1 s1 w1 h1 h2 h3 h4=>?_⟩
 exact k' _ G1 H1 s1.gs ((R.step s1 w1).setO h3 h2 (R.h0 h1) h4 (λn ys e=>R.apart h1 n ys e) k)
noncomputable def lg (f:PyData->PyData->Option PyData) (k:Nat) (i:List Sl->Tr PyData):List Sl->Tr Ou:=λρ=>(aa k ρ).bind λx=>(i ρ).bind λy=>(Tr.of (f x y)).bind λz=>.ret (.next (ρ.set k (.d z)))
theorem ZeI {k:Nat} {r:R2} {g:PyData->PyData->Option PyData} (hv:cG r g) (h:PS X st (ZaO k (TAe PK i) r)):PS X st (bg PK (lg g k i)):=h.imp λD σ H hz0=>by
 obtain ⟨pa,G₀,H₀,m,ρ,G,R,z⟩:=hz0
 unfold lg aa at z
 split at z
 ·rename_i x hx
  obtain ⟨o,h1,h2⟩:=R.sl k _ hx
  cases h2 with
  | d d0 =>
   refine ⟨_,h1,?_⟩
   refine TAe.then R z λm1 y v G1 H1 s1 w1 R1 d1 q1=>?_
   rw [Tr.ok_bind] at q1
   obtain ⟨w,hw,q1⟩:=Tr.ok_of q1
   refine hv PK pa m1 G1 H1 _ v x y w _ w1 (d0.mono s1.gs) d1 hw λu G2 H2 s2 w2 d2=>?_
   exact q1 _ G2 H2 (s1.gs.trans s2.gs) ((R1.step s2 w2).set d2 k)
 ·exact z.elim
noncomputable def jw (k:Nat) (i:List Sl->Tr PyData):List Sl->Tr Ou:=λρ=>match ρ[k]? with
 | some (.own xs)=>(i ρ).bind λx=>if small (xs.length+1)=true then .ret (.next (ρ.set k (.own (xs++[x])))) else .fail
 | _=>.fail
theorem DnAll.snoc {H:Hp} {vs:List V} {ds:List PyData} {v:V} {d:PyData} (h:DnAll H vs ds) (h1:Dn H v d):DnAll H (vs++[v]) (ds++[d]):=h.append (.cons h1 .nil)
theorem sA {k:Nat} {K:PySem.W.Frag} {st:Stmt} (h:PS X st (pe (tBM K "list" ZbT (cM k) (gS (TAe PK i) aW)))):PS X st (bg PK (jw k i)):=h.imp λD σ H hz0=>by
 obtain ⟨pa,G₀,H₀,m,ρ,G,R,z⟩:=hz0
 unfold jw at z
 split at z
 ·rename_i xs hx
  obtain ⟨o,h1,h2⟩:=R.sl k _ hx
  cases h2 with
  | @own p vs _ a1 a2 a3 a4 =>
   refine ⟨_,h1,.inl ⟨rfl,_,SqL.of a1⟩,?_⟩
   refine TAe.then R z λm1 x v G1 H1 s1 w1 R1 d1 q1=>?_
   obtain ⟨hs,q1⟩:=dA q1
   obtain ⟨o,h1',h2⟩:=R1.sl k _ hx
   rw [h1] at h1'
   cases h1'
   cases h2 with
   | @own _ vs1 _ b1 b2 b3 b4 =>
    have hs':xs.length+1<=sizeLine:=of_decide_eq_true hs
    refine ⟨p,vs1,v,rfl,rfl,b1,by rw [b4.length]; omega,?_⟩
    exact q1 σ G1 _ s1.gs (R1.change hx h1 (b4.snoc d1))
 ·exact z.elim
theorem DnAll.set {H:Hp}:∀ {vs:List V} {ds:List PyData} {v:V} {d:PyData} (n:Nat),DnAll H vs ds->Dn H v d->DnAll H (vs.set n v) (ds.set n d)
 | _,_,_,_,_,.nil,_=>.nil
 | _,_,_,_,0,.cons _ t,h=>.cons h t
 | _,_,_,_,n+1,.cons g t,h=>.cons g (DnAll.set n t h)
noncomputable def kW (k:Nat) (n i:List Sl->Tr PyData):List Sl->Tr Ou:=λρ=>(i ρ).bind λx=>match ρ[k]? with
 | some (.own xs)=>(n ρ).bind λy=>match y with
  | .int y=>(Tr.of (df xs.length y)).bind λt=>.ret (.next (ρ.set k (.own (xs.set t x))))
  | _=>.fail
 | _=>.fail
theorem ZeF {k:Nat} {n:List Sl->Tr PyData} (h:PS X st (dM (TAe PK i) (Zda (cM k) (TAe PK n) pQ))):PS X st (bg PK (kW k n i)):=h.imp λD σ H hz0=>by
 obtain ⟨pa,G₀,H₀,m,ρ,G,R,z⟩:=hz0
 refine TAe.then R z λm1 x v G1 H1 s1 w1 R1 d1 q1=>?_
 split at q1
 ·rename_i xs hx
  obtain ⟨o,h1,h2⟩:=R1.sl k _ hx
  cases h2 with
  | @own p vs _ a1 a2 a3 a4 =>
   refine ⟨_,h1,?_⟩
   refine TAe.then R1 q1 λm2 y u G2 H2 s2 w2 R2 d2 q2=>?_
   obtain ⟨o,h1',h2⟩:=R2.sl k _ hx
   rw [h1] at h1'
   cases h1'
   cases h2 with
   | @own _ vs2 _ b1 b2 b3 b4 =>
    cases d2 with
    | int y =>
     rw [Tr.ok_bind] at q2
     obtain ⟨n',hn,q2⟩:=Tr.ok_of q2
     refine ⟨p,vs2,y,n',rfl,rfl,b1,by rw [b4.length]; exact hn,?_⟩
     exact q2 σ G2 _ (s1.gs.trans s2.gs) (R2.change hx h1 (b4.set n' (d1.mono s2.gs)))
    | _=>exact q2.elim
 ·exact q1.elim
theorem DnAll.reverse {H:Hp} {vs:List V} {ds:List PyData} (h:DnAll H vs ds):DnAll H vs.reverse ds.reverse:=by
 induction vs generalizing ds with
 | nil=>cases h; exact .nil
 | cons v vs ih=>cases h with | cons r t=>rw [List.reverse_cons,List.reverse_cons]; exact DnAll.append (ih t) (.cons r .nil)
noncomputable def kX (k:Nat):List Sl->Tr Ou:=λρ=>match ρ[k]? with
 | some (.own xs)=>.ret (.next (ρ.set k (.own xs.reverse)))
 | _=>.fail
theorem ZeG {k:Nat} {K:PySem.W.Frag} (h:PS X st (pe (ZaL K "list" Zbz (cM k)))):PS X st (bg PK (kX k)):=h.imp λD σ H hz0=>by
 obtain ⟨pa,G₀,H₀,m,ρ,G,R,z⟩:=hz0
 unfold kX at z
 split at z
 ·rename_i xs hx
  obtain ⟨o,h1,h2⟩:=R.sl k _ hx
  cases h2 with
  | @own p vs _ a1 a2 a3 a4 =>
   refine ⟨_,h1,.inl ⟨rfl,_,SqL.of a1⟩,p,vs,rfl,rfl,a1,?_⟩
   exact z σ G _ .refl (R.change hx h1 a4.reverse)
 ·exact z.elim
noncomputable def la (k:Nat) (s:List Sl->Tr Ou):List Sl->Tr Ou:=λρ=>s (fz k ρ)
theorem sy {k:Nat} (h:PS X st (bg PK s)):PS X st (bg PK (la k s)):=h.imp λD σ H hz0=>by
 obtain ⟨pa,G₀,H₀,m,ρ,G,R,z⟩:=hz0
 obtain ⟨G',sb,R'⟩:=R.freeze k
 exact ⟨pa,G₀,H₀,m,_,G',R',Tr.ok_mono z λ_ _ k'=>Ko.later k' sb⟩
noncomputable def dY (PK:Pk) (g:PyData->List Sl->Option (List Sl)):TG:=λv σ H Q=>∃ pa G₀ H₀ m ρ G x ρ',Rl PK pa G₀ H₀ m σ ρ G H/\Dn G v x/\g x ρ=some ρ'/\∀ σ',Rl PK pa G₀ H₀ m σ' ρ' G H->Q σ' H
noncomputable def oF (PK:Pk) (g:List PyData->List Sl->Option (List Sl)):gj:=λvs σ H Q=>∃ pa G₀ H₀ m ρ G xs ρ',Rl PK pa G₀ H₀ m σ ρ G H/\DnAll G vs xs/\g xs ρ=some ρ'/\∀ σ',Rl PK pa G₀ H₀ m σ' ρ' G H->Q σ' H
theorem PG.imp {tg:Expr} {t t':TG} (h:PG X tg t) (q:∀ v σ H Q,t' v σ H Q->t v σ H Q):PG X tg t':=λpins s σ H v u Q I r z=>h pins s σ H v u Q I r (q v σ H Q z)
theorem PGs.imp {tg:List Expr} {t t':gj} (h:PGs X tg t) (q:∀ v σ H Q,t' v σ H Q->t v σ H Q):PGs X tg t':=λpins s σ H v u Q I r z=>h pins s σ H v u Q I r (q v σ H Q z)
noncomputable def ai (k:Nat):PyData->List Sl->Option (List Sl):=λx ρ=>some (ρ.set k (.d x))
theorem aU {k:Nat} (h:PG X e (eC k)):PG X e (dY PK (ai k)):=h.imp λv σ H Q hz0=>by
 obtain ⟨pa,G₀,H₀,m,ρ,G,x,ρ',R,d,e,q⟩:=hz0
 cases e
 exact q _ (R.set d k)
noncomputable def br:List PyData->List Sl->Option (List Sl):=λxs ρ=>match xs with
 | []=>some ρ
 | _=>none
noncomputable def av (g:PyData->List Sl->Option (List Sl)) (gs:List PyData->List Sl->Option (List Sl)):List PyData->List Sl->Option (List Sl):=λxs ρ=>match xs with
 | x::xs=>(g x ρ).bind λρ'=>gs xs ρ'
 | []=>none
theorem dF:PGs X [] (oF PK br):=Zhe.imp λvs σ H Q hz0=>by
 obtain ⟨pa,G₀,H₀,m,ρ,G,xs,ρ',R,d,e,q⟩:=hz0
 cases d with
 | nil=>cases e; exact ⟨rfl,q _ R⟩
 | cons _ _=>cases e
theorem bC {g:PyData->List Sl->Option (List Sl)} {gs:List PyData->List Sl->Option (List Sl)} (h1:PG X e (dY PK g)) (h2:PGs X es (oF PK gs))
  (hs:(assignEach (e::es) X.env).map (·.2)=assign e X.env::(assignEach es X.env).map (·.2):=by rfl):PGs X (e::es) (oF PK (av g gs)):=(Zhf h1 h2 hs).imp λvs σ H Q hz0=>by
 obtain ⟨pa,G₀,H₀,m,ρ,G,xs,ρ',R,d,e,q⟩:=hz0
 cases d with
 | nil=>cases e
 | cons d1 d2 =>
  have e':(g _ ρ).bind (λρ'=>gs _ ρ')=some ρ':=e
  cases h:g _ ρ with
  | none=>rw [h] at e'; cases e'
  | some ρ1 =>
   rw [h] at e'
   exact ⟨_,_,rfl,pa,G₀,H₀,m,ρ,G,_,ρ1,R,d1,h,λσ1 R1=>⟨pa,G₀,H₀,m,ρ1,G,_,ρ',R1,d2,e',q⟩⟩
noncomputable def bv (gs:List PyData->List Sl->Option (List Sl)):PyData->List Sl->Option (List Sl):=λx ρ=>match x with
 | .tuple xs=>gs xs ρ
 | _=>none
noncomputable def nW (n:Nat) (gs:List PyData->List Sl->Option (List Sl)):Prop:=∀ xs ρ ρ',gs xs ρ=some ρ'->xs.length=n
theorem dC:nW 0 br:=λxs ρ ρ' h=>by cases xs with | nil=>rfl | cons _ _=>cases h
theorem bA {n:Nat} {g:PyData->List Sl->Option (List Sl)} {gs:List PyData->List Sl->Option (List Sl)} (h:nW n gs):nW (n+1) (av g gs):=λxs ρ ρ' e=>by
 cases xs with
 | nil=>cases e
 | cons x xs =>
  have e':(g x ρ).bind (λρ'=>gs xs ρ')=some ρ':=e
  cases h1:g x ρ with
  | none=>rw [h1] at e'; cases e'
  | some ρ1 =>
   rw [h1] at e'
   exact congrArg (·+1) (h xs ρ1 ρ' e')
theorem dG {k:Nat} {gs:List PyData->List Sl->Option (List Sl)} {n:Nat} (hc:X.calm=true) (h:PGs X es (oF PK gs)) (hl:nW n gs)
  (hn:(assignEach es X.env).length=n:=by rfl) (hst:(assignEach es X.env).findIdx? (·.1)=none:=by rfl):PG X (.Tuple es k pos) (dY PK (bv gs)):=(Zhg hc h hn hst).imp λv σ H Q hz0=>by
 obtain ⟨pa,G₀,H₀,m,ρ,G,x,ρ',R,d,e,q⟩:=hz0
 cases d with
 | tup h1 h2=>exact ⟨_,_,rfl,SqT.of (R.wd.sub _ _ h1),by rw [h2.length]; exact hl _ _ _ e,pa,G₀,H₀,m,ρ,G,_,ρ',R,h2,e,q⟩
 | _=>cases e
noncomputable def iq (g:PyData->List Sl->Option (List Sl)) (i:List Sl->Tr PyData):List Sl->Tr Ou:=λρ=>(i ρ).bind λx=>(Tr.of (g x ρ)).bind λρ'=>.ret (.next ρ')
theorem kR {g:PyData->List Sl->Option (List Sl)} (h:PS X st (dM (TAe PK i) (dY PK g))):PS X st (bg PK (iq g i)):=h.imp λD σ H hz0=>by
 obtain ⟨pa,G₀,H₀,m,ρ,G,R,z⟩:=hz0
 refine TAe.then R z λm1 x v G1 H1 s1 w1 R1 d1 q1=>?_
 rw [Tr.ok_bind] at q1
 obtain ⟨ρ',hg,q1⟩:=Tr.ok_of q1
 exact ⟨pa,G₀,H₀,m1,ρ,G1,x,ρ',R1,d1,hg,λσ' R'=>q1 σ' G1 H1 s1.gs R'⟩
noncomputable def ip (k n:Nat) (is:List Sl->Tr (List PyData)):List Sl->Tr Ou:=λρ=>(is ρ).bind λxs=>match xs with
 | [x,y]=>.ret (.next ((ρ.set k (.d x)).set n (.d y)))
 | _=>.fail
theorem ot {k n:Nat} (h:PS X st (ZaG k n (TAd PK is))):PS X st (bg PK (ip k n is)):=h.imp λD σ H hz0=>by
 obtain ⟨pa,G₀,H₀,m,ρ,G,R,z⟩:=hz0
 refine TAd.then R z λm1 xs vs G1 H1 s1 w1 R1 d1 q1=>?_
 split at q1
 ·cases d1 with
  | cons e1 d1 =>
   cases d1 with
   | cons e2 d1 =>
    cases d1
    exact ⟨_,_,rfl,q1 _ G1 H1 s1.gs ((R1.set e1 k).set e2 n)⟩
 ·exact q1.elim
noncomputable def jB (PK:Pk) (pa:Addr) (J:It) (G:Hp) (xs:List PyData):Prop:=∀ m G2 H2,Sub G G2->Wd PK pa m G2 H2 ->
 (∀ (n:Nat) (d:PyData),xs[n]?=some d->J.go n H2/\∀ x H3,J.yld n H2 x H3->∃ G3,Stp pa G2 H2 G3 H3/\Wd PK pa m G3 H3/\Dn G3 x d)/\J.stop xs.length H2
noncomputable def dm (PK:Pk) (is:List Sl->Tr (List PyData)):TI:=λσ H R=>∃ pa G₀ H₀ m ρ G,Rl PK pa G₀ H₀ m σ ρ G H/\(is ρ).ok m λm' xs=>∀ J G' H',Stp pa G H G' H'->Wd PK pa m' G' H'->jB PK pa J G' xs->R J H'
theorem PI.imp {tg iter:Expr} {t t':TI} (h:PI X tg iter t) (q:∀ σ H R,t' σ H R->t σ H R):PI X tg iter t':=λpins s σ H R I z=>h pins s σ H R I (q σ H R z)
noncomputable def bW (g:PyData->List Sl->Option (List Sl)) (s:List Sl->Tr Ou):List PyData->List Sl->Tr Ou
 | [],ρ=>.ret (.next ρ)
 | x::xs,ρ=>(Tr.of (g x ρ)).bind λρ1=>(s ρ1).bind λo=>match o with
  | .next ρ2=>bW g s xs ρ2
  | .cont ρ2=>bW g s xs ρ2
  | .brk ρ2=>.ret (.next ρ2)
  | .ret r=>.ret (.ret r)
noncomputable def c9 (is:List Sl->Tr (List PyData)) (g:PyData->List Sl->Option (List Sl)) (s:List Sl->Tr Ou):List Sl->Tr Ou:=λρ=>(is ρ).bind λxs=>bW g s xs ρ
theorem dE {tg iter:Expr} {body:List Stmt} {g:PyData->List Sl->Option (List Sl)} (hp:PassesOwn (model X.prog X.w) X.A X.env X.xe) (hc:X.calm=true) (hi:PI X tg iter (dm PK is)) (hg:PG X tg (dY PK g)) (hb:PSs X body (bg PK s))
  (hs:∀ x,foldedSetIterable iter X.env x=pure x:=by intro _; rfl):PS X (.For tg iter body [] pos) (bg PK (c9 is g s)):=(Zg8 hp hc hi hg hb hs).imp λD σ H hz0=>by
 obtain ⟨pa,G₀,H₀,m,ρ,G,R,z⟩:=hz0
 refine ⟨pa,G₀,H₀,m,ρ,G,R,Tr.ok_mono (Tr.ok_bind.mp z) λm1 xs k J G1 H1 s1 w1 jo=>?_⟩
 let W:Nat->Nat->St->Hp->Prop:=λn mm σ H=>mm=xs.length - n/\n<=xs.length/\∃ m ρ G,Sub G1 G/\Rl PK pa G₀ H₀ m σ ρ G H/\(bW g s (xs.drop n) ρ).ok m (Ko PK pa G₀ H₀ G1 D)
 refine ⟨W,⟨xs.length,rfl,Nat.zero_le _,m1,ρ,G1,λ_ _ h=>h,R.step s1 w1,Tr.ok_mono k λ_ _ k'=>Ko.later k' s1.gs⟩,?_⟩
 rintro n mm σ2 H2 ⟨rfl,hn,m2,ρ2,G2,sb,R2,k2⟩
 obtain ⟨j1,j2⟩:=jo m2 G2 H2 sb R2.wd
 by_cases hlt:n < xs.length
 ·have hx:xs[n]?=some xs[n]:=by simp [hlt]
  obtain ⟨jg,jy⟩:=j1 n _ hx
  refine .inr ⟨jg,W (n+1) (xs.length - (n+1)),λσ' H' h'=>⟨_,by omega,h'⟩,λx H3 y=>?_⟩
  obtain ⟨G3,s3,w3,d3⟩:=jy x H3 y
  rw [List.drop_eq_getElem_cons hlt] at k2
  unfold bW at k2
  rw [Tr.ok_bind] at k2
  obtain ⟨ρ3,hg3,k3⟩:=Tr.ok_of k2
  refine ⟨pa,G₀,H₀,m2,ρ2,G3,_,ρ3,R2.step s3 w3,d3,hg3,λσ4 R4=>?_⟩
  refine ⟨pa,G₀,H₀,m2,ρ3,G3,R4,Tr.ok_mono (Tr.ok_bind.mp k3) λm5 o ko=>?_⟩
  have again:∀ ρ5,(bW g s (xs.drop (n+1)) ρ5).ok m5 (Ko PK pa G₀ H₀ G1 D)->∀ σ5 G5 H5,Sub G3 G5->Rl PK pa G₀ H₀ m5 σ5 ρ5 G5 H5->W (n+1) (xs.length - (n+1)) σ5 H5:=λρ5 k5 σ5 G5 H5 sb5 R5 =>
   ⟨rfl,hlt,m5,ρ5,G5,(sb.trans s3.gs).trans sb5,R5,k5⟩
  cases o with
  | next ρ5=>exact again ρ5 ko
  | cont ρ5=>exact again ρ5 ko
  | brk ρ5=>exact λσ5 G5 H5 sb5 R5=>ko σ5 G5 H5 ((sb.trans s3.gs).trans sb5) R5
  | ret r=>exact ko
 ·have e:n=xs.length:=by omega
  subst e
  refine .inl ⟨j2,?_⟩
  rw [List.drop_length] at k2
  exact k2 σ2 G2 H2 sb R2
end L2
set_option Elab.async false
set_option linter.all false
set_option maxRecDepth 100000
namespace L2
open PySem PySem.Spec PyProof.Rows
variable {PK:Pk} {X:Cx} {a b c e:Expr} {es:List Expr} {pos:Pos} {i j l:List Sl->Tr PyData} {is:List Sl->Tr (List PyData)} {as:List Sl->Tr (List Sl)} {f:List Sl->Tr Re} {p q:List Sl->Tr Bool} {st:Stmt} {sts:List Stmt} {s t u:List Sl->Tr Ou}
noncomputable def dL (p:List Sl->Tr Bool) (s:List Sl->Tr Ou):Nat->List Sl->Tr Ou
 | 0,_=>.fail
 | n+1,ρ=>(p ρ).bind λb=>if b=true then (s ρ).bind λo=>match o with
   | .next ρ2=>dL p s n ρ2
   | .cont ρ2=>dL p s n ρ2
   | .brk ρ2=>.ret (.next ρ2)
   | .ret r=>.ret (.ret r)
  else .ret (.next ρ)
theorem ZeD {body:List Stmt} (n:Nat) (hp:PassesOwn (model X.prog X.w) X.A X.env X.xe) (hc:PT X c (TAt PK p)) (hb:PSs X body (bg PK s)):PS X (.While c body [] pos) (bg PK (dL p s n)):=(Zg3 hp hc hb).imp λD σ H hz0=>by
 obtain ⟨pa,G₀,H₀,m,ρ,G,R,z⟩:=hz0
 let W:Nat->St->Hp->Prop:=λn σ H=>∃ m ρ G1,Sub G G1/\Rl PK pa G₀ H₀ m σ ρ G1 H/\(dL p s n ρ).ok m (Ko PK pa G₀ H₀ G D)
 refine ⟨W,⟨n,m,ρ,G,.refl,R,z⟩,?_⟩
 rintro n σ2 H2 ⟨m2,ρ2,G2,sb,R2,k2⟩
 cases n with
 | zero=>exact k2.elim
 | succ n =>
  unfold dL at k2
  refine TAt.then R2 k2 λm3 x G3 H3 s3 w3 R3 k3=>?_
  cases x with
  | false =>
   rw [if_neg Bool.false_ne_true] at k3 ⊢
   exact k3 σ2 G3 H3 (sb.trans s3.gs) R3
  | true =>
   rw [if_pos rfl] at k3 ⊢
   refine ⟨W n,λσ' H' h=>⟨n,by omega,h⟩,pa,G₀,H₀,m3,ρ2,G3,R3,Tr.ok_mono (Tr.ok_bind.mp k3) λm4 o ko=>?_⟩
   have again:∀ ρ5,(dL p s n ρ5).ok m4 (Ko PK pa G₀ H₀ G D)->∀ σ5 G5 H5,Sub G3 G5->Rl PK pa G₀ H₀ m4 σ5 ρ5 G5 H5->W n σ5 H5:=λρ5 k5 σ5 G5 H5 sb5 R5 =>
    ⟨m4,ρ5,G5,(sb.trans s3.gs).trans sb5,R5,k5⟩
   cases o with
   | next ρ5=>exact again ρ5 ko
   | cont ρ5=>exact again ρ5 ko
   | brk ρ5=>exact λσ5 G5 H5 sb5 R5=>ko σ5 G5 H5 ((sb.trans s3.gs).trans sb5) R5
   | ret r=>exact ko
noncomputable def sf:Sl->Sl
 | .own _=>.un
 | .dic _=>.un
 | s=>s
noncomputable def blk (n:Nat) (ix:List Nat) (ρ:List Sl):List Sl:=List.replicate n .un++ix.map λj=>sf ((ρ[j]?).getD .un)
theorem Rl.blk {pa:Addr} {G₀ H₀ G H:Hp} {m:Nat} {σ:St} {ρ:List Sl} (R:Rl PK pa G₀ H₀ m σ ρ G H) (n:Nat) (ix:List Nat):Rl PK pa G₀ H₀ m (cL n ix σ) (blk n ix ρ) G H:=by
 have key:∀ (k:Nat) (s:Sl),(L2.blk n ix ρ)[k]?=some s->(∃ o,(cL n ix σ)[k]?=some o/\SlOk pa H₀ G H o s)/\(∀ xs,s≠.own xs)/\∀ xs,s≠.dic xs:=λk s h=>by
  unfold L2.blk at h
  unfold cL
  by_cases hk:k < n
  ·rw [List.getElem?_append_left (by simpa using hk),List.getElem?_replicate,if_pos hk] at h
   rw [List.getElem?_append_left (by simpa using hk),List.getElem?_replicate,if_pos hk]
   cases h
   exact ⟨⟨_,rfl,.un⟩,(λxs h=>by cases h),λxs h=>by cases h⟩
  ·rw [List.getElem?_append_right (by simpa using Nat.le_of_not_lt hk),List.length_replicate,List.getElem?_map] at h
   rw [List.getElem?_append_right (by simpa using Nat.le_of_not_lt hk),List.length_replicate,List.getElem?_map]
   cases hj:ix[k - n]? with
   | none=>rw [hj] at h; cases h
   | some j =>
    rw [hj] at h
    have h':sf ((ρ[j]?).getD .un)=s:=Option.some.inj h
    subst h'
    show (∃ o,some ((σ[j]?).getD none)=some o/\_)/\_
    cases hr:ρ[j]? with
    | none=>exact ⟨⟨_,rfl,.un⟩,(λxs h=>by cases h),λxs h=>by cases h⟩
    | some s' =>
     obtain ⟨o,h1,h2⟩:=R.sl j s' hr
     rw [h1]
     cases h2 with
     | un=>exact ⟨⟨_,rfl,.un⟩,(λxs h=>by cases h),λxs h=>by cases h⟩
     | d z=>exact ⟨⟨_,rfl,.d z⟩,(λxs h=>by cases h),λxs h=>by cases h⟩
     | own _ _ _ _=>exact ⟨⟨_,rfl,.un⟩,(λxs h=>by cases h),λxs h=>by cases h⟩
     | dic _ _ _ _=>exact ⟨⟨_,rfl,.un⟩,(λxs h=>by cases h),λxs h=>by cases h⟩
     | pen=>exact ⟨⟨_,rfl,.pen⟩,(λxs h=>by cases h),λxs h=>by cases h⟩
 refine ⟨R.wd,R.st,R.p0,λk s h=>(key k s h).1,?_,λk n' xs ys _ h1 _=>absurd rfl ((key k _ h1).2.1 xs),λk n' xs ys _ h1 _=>absurd rfl ((key k _ h1).2.2 xs)⟩
 unfold L2.blk cL
 simp
noncomputable def fb (n:Nat) (g:PyData->List Sl->Option (List Sl)):Prop:=∀ x ρ ρ',g x ρ=some ρ'->ρ'.length=ρ.length/\∀ k,n<=k->ρ'[k]?=ρ[k]?
noncomputable def oG (n:Nat) (g:List PyData->List Sl->Option (List Sl)):Prop:=∀ x ρ ρ',g x ρ=some ρ'->ρ'.length=ρ.length/\∀ k,n<=k->ρ'[k]?=ρ[k]?
theorem cy {n k:Nat} (h:k < n):fb n (ai k):=λx ρ ρ' e=>by
 cases e
 exact ⟨List.length_set,λj hj=>List.getElem?_set_ne (by omega)⟩
theorem g5 {n:Nat}:oG n br:=λx ρ ρ' e=>by
 cases x with
 | nil=>cases e; exact ⟨rfl,λ_ _=>rfl⟩
 | cons _ _=>cases e
theorem dN {n:Nat} {g:PyData->List Sl->Option (List Sl)} {gs:List PyData->List Sl->Option (List Sl)} (h1:fb n g) (h2:oG n gs):oG n (av g gs):=λx ρ ρ' e=>by
 cases x with
 | nil=>cases e
 | cons x xs =>
  have e':(g x ρ).bind (λρ'=>gs xs ρ')=some ρ':=e
  cases h:g x ρ with
  | none=>rw [h] at e'; cases e'
  | some ρ1 =>
   rw [h] at e'
   obtain ⟨a1,a2⟩:=h1 x ρ ρ1 h
   obtain ⟨b1,b2⟩:=h2 xs ρ1 ρ' e'
   exact ⟨b1.trans a1,λk hk=>(b2 k hk).trans (a2 k hk)⟩
theorem gZ {n:Nat} {gs:List PyData->List Sl->Option (List Sl)} (h2:oG n gs):fb n (bv gs):=λx ρ ρ' e=>by
 cases x with
 | tuple xs=>exact h2 xs ρ ρ' e
 | _=>cases e
noncomputable def bL (h:PyData->Tr PyData):List PyData->Tr (List PyData)
 | []=>.ret []
 | x::xs=>(h x).bind λy=>(bL h xs).bind λys=>.ret (y::ys)
noncomputable def dJ (is:List Sl->Tr (List PyData)) (n:Nat) (ix:List Nat) (g:PyData->List Sl->Option (List Sl)) (el:List Sl->Tr PyData):List Sl->Tr (List PyData):=λρ =>
 (is ρ).bind λxs=>if small xs.length=true then bL (λx=>(Tr.of (g x (blk n ix ρ))).bind el) xs else .fail
theorem Rl.weak {pa:Addr} {G₀ H₀ G H:Hp} {m:Nat} {σ:St} {ρ ρ':List Sl} (R:Rl PK pa G₀ H₀ m σ ρ' G H) (hl:ρ'.length=ρ.length) (h:∀ (k:Nat) (s:Sl),ρ[k]?=some s->s=.un\/ρ'[k]?=some s):Rl PK pa G₀ H₀ m σ ρ G H:=by
 refine ⟨R.wd,R.st,R.p0,λk s hk=>?_,hl.symm.trans R.len,λk n xs ys hkn h1 h2=>?_,λk n xs ys hkn h1 h2=>?_⟩
 ·rcases h k s hk with e | e
  ·subst e
   have hlt:k < σ.length:=by
    rw [<- R.len,hl]
    exact (List.getElem?_eq_some_iff.mp hk).1
   exact ⟨σ[k],by simp [hlt],.un⟩
  ·exact R.sl k s e
 ·rcases h k _ h1 with e | e
  ·cases e
  ·rcases h n _ h2 with e' | e'
   ·cases e'
   ·exact R.dj k n xs ys hkn e e'
 ·rcases h k _ h1 with e | e
  ·cases e
  ·rcases h n _ h2 with e' | e'
   ·cases e'
   ·exact R.dj2 k n xs ys hkn e e'
theorem qM {n:Nat} {ix:List Nat} {g:PyData->List Sl->Option (List Sl)} (hn:fb n g):∀ σ H Q,fw PK (dJ is n ix g i) σ H Q->iC (dm PK is) n ix (λ_=>dY PK g) (λ_=>TAe PK i) σ H Q:=by
 rintro σ H Q ⟨pa,G₀,H₀,m,ρ,G,R,z⟩
 refine ⟨pa,G₀,H₀,m,ρ,G,R,Tr.ok_mono (Tr.ok_bind.mp z) λm1 xs k J G1 H1 s1 w1 jo=>λB=>?_⟩
 obtain ⟨hs,k⟩:=dA k
 have hs:xs.length<=sizeLine:=of_decide_eq_true hs
 let el:PyData->Tr PyData:=λx=>(Tr.of (g x (blk n ix ρ))).bind i
 let W:Nat->Nat->St->List V->Hp->Prop:=λk mm τ ys H2=>mm=xs.length - k/\k<=xs.length/\ys.length=k/\∃ m G2 ds,Sub G1 G2/\Stp pa G H G2 H2/\Rl PK pa G₀ H₀ m τ (blk n ix ρ) G2 H2 /\
  DnAll G2 ys ds/\(bL el (xs.drop k)).ok m λm' zs=>Ko1 PK pa m' G H (ds++zs) Q
 refine ⟨W,⟨xs.length,rfl,Nat.zero_le _,rfl,m1,G1,[],.refl,s1,(R.step s1 w1).blk n ix,.nil,k⟩,?_⟩
 rintro k mm τ ys H2 ⟨rfl,hk,hy,m2,G2,ds,sb,st2,R2,dn,k2⟩
 obtain ⟨j1,j2⟩:=jo m2 G2 H2 sb R2.wd
 by_cases hlt:k < xs.length
 ·have hx:xs[k]?=some xs[k]:=by simp [hlt]
  obtain ⟨jg,jy⟩:=j1 k _ hx
  refine .inr ⟨jg,by omega,λx H3 y=>?_⟩
  obtain ⟨G3,s3,w3,d3⟩:=jy x H3 y
  rw [List.drop_eq_getElem_cons hlt] at k2
  unfold bL at k2
  rw [Tr.ok_bind,Tr.ok_bind] at k2
  obtain ⟨ρ3,hg3,k3⟩:=Tr.ok_of k2
  refine ⟨pa,G₀,H₀,m2,_,G3,_,ρ3,R2.step s3 w3,d3,hg3,λτ4 R4=>?_⟩
  refine ⟨pa,G₀,H₀,m2,ρ3,G3,R4,Tr.ok_mono k3 λm5 yd k5=>?_⟩
  intro v G5 H5 s5 w5 d5
  have s35:=s3.trans s5 w3.some
  obtain ⟨pl,pk⟩:=hn _ _ _ hg3
  refine ⟨xs.length - (k+1),by omega,rfl,hlt,by rw [List.length_append,hy]; rfl,m5,G5,ds++[yd],sb.trans s35.gs,st2.trans s35 R2.wd.some,?_,(DnAll.mono s35.gs dn).snoc d5,?_⟩
  ·refine (R4.step s5 w5).weak pl λq sl hq=>?_
   by_cases hqn:q < n
   ·left
    unfold blk at hq
    rw [List.getElem?_append_left (by simpa using hqn),List.getElem?_replicate,if_pos hqn] at hq
    cases hq
    rfl
   ·right
    rw [pk q (Nat.le_of_not_lt hqn)]
    exact hq
  ·refine Tr.ok_mono (Tr.ok_bind.mp k5) λm6 zs k6=>?_
   rw [List.append_assoc]
   exact k6
 ·have e:k=xs.length:=by omega
  subst e
  refine .inl ⟨j2,λp v H' hp ev eH=>?_⟩
  subst ev eH
  rw [List.drop_length] at k2
  have k2':Ko1 PK pa m2 G H (ds++[]) Q:=k2
  rw [List.append_nil] at k2'
  exact (Ko1.later k2' st2 R2.wd.some).new R2.wd dn hp
theorem im {n:Nat} {ix:List Nat} {g:PyData->List Sl->Option (List Sl)} (h:PE X e (iC (dm PK is) n ix (λ_=>dY PK g) (λ_=>TAe PK i))) (hn:fb n g):PE X e (fw PK (dJ is n ix g i)):=h.imp (qM hn)
theorem pf {te te':TE} {g:TG} (h:∀ σ H Q,te' σ H Q->te σ H Q):∀ D σ H,dM te' g D σ H->dM te g D σ H:=λD σ H z=>h σ H _ z
theorem ZnT {n k:Nat} {ix:List Nat} {g:PyData->List Sl->Option (List Sl)} (h:PS X st (dM (iC (dm PK is) n ix (λ_=>dY PK g) (λ_=>TAe PK i)) (eC k))) (hn:fb n g):PS X st (bg PK (gO k (dJ is n ix g i))) :=
 kQ (h.imp (pf (qM hn)))
noncomputable def nY:Ou->Tr Re
 | .next _=>.ret (.d .none)
 | .ret r=>.ret r
 | _=>.fail
noncomputable def bp (n k:Nat) (s:List Sl->Tr Ou):List Sl->Tr Re:=λas=>if decide (as.length=n)=true then (s (as++List.replicate k .un)).bind nY else .fail
theorem Rl.start {pa:Addr} {G H:Hp} {m:Nat} {N:List Str} {vs:List V} {as:List Sl} {k:Nat} (w:Wd PK pa m G H) (ar:ArsOk pa G vs as) (hk:N.length - vs.length=k):Rl PK pa G H m (L2.start N vs) (as++List.replicate k .un) G H:=by
 have key:∀ {vs:List V} {as:List Sl},ArsOk pa G vs as->∀ (q:Nat) (s:Sl),as[q]?=some s->(∃ o,(vs.map some)[q]?=some o/\SlOk pa H G H o s)/\(∀ xs,s≠.own xs)/\∀ xs,s≠.dic xs:=by
  intro vs as h
  induction h with
  | nil=>intro q s h; simp at h
  | cons h1 h2 ih =>
   intro q s h
   cases q with
   | zero =>
    simp at h
    subst h
    cases h1 with
    | d z=>exact ⟨⟨_,rfl,.d z⟩,(λxs h=>by cases h),λxs h=>by cases h⟩
    | pen=>exact ⟨⟨_,rfl,.pen⟩,(λxs h=>by cases h),λxs h=>by cases h⟩
   | succ q =>
    obtain ⟨⟨o,p1,p2⟩,p3⟩:=ih q s (by simpa using h)
    exact ⟨⟨o,by simpa using p1,p2⟩,p3⟩
 have hl:=ar.length
 have key2:∀ (q:Nat) (s:Sl),(as++List.replicate k .un)[q]?=some s->(∃ o,(L2.start N vs)[q]?=some o/\SlOk pa H G H o s)/\(∀ xs,s≠.own xs)/\∀ xs,s≠.dic xs:=λq s h=>by
  unfold L2.start
  by_cases hq:q < as.length
  ·rw [List.getElem?_append_left hq] at h
   rw [List.getElem?_append_left (by rw [List.length_map,hl]; exact hq)]
   exact key ar q s h
  ·rw [List.getElem?_append_right (by omega),List.getElem?_replicate] at h
   rw [List.getElem?_append_right (by rw [List.length_map]; omega),List.getElem?_replicate,List.length_map,hl]
   split at h
   ·rename_i hq2
    cases h
    rw [if_pos (by omega)]
    exact ⟨⟨_,rfl,.un⟩,(λxs h=>by cases h),λxs h=>by cases h⟩
   ·cases h
 refine ⟨w,.refl,w.some,λq s h=>(key2 q s h).1,?_,λq n xs ys _ h1 _=>absurd rfl ((key2 q _ h1).2.1 xs),λq n xs ys _ h1 _=>absurd rfl ((key2 q _ h1).2.2 xs)⟩
 unfold L2.start
 simp [hl,hk]
 omega
theorem bQ {P:Program} {w:World} {K:PySem.W.Frag} {mg:Str->Option Value} {base:Heap} {x:Str} {N ps:List Str} {kk k:Nat} (D:Def K mg x st ps) (S:FnScope N ps (az st)) (hk:N.length - ps.length=k)
  (hbody:∀ (f:Addr) (cdv:Value) (A:Around) (outer:List Env) (sh:Shared) (H:Hp) (E:XK),Room kk (A.deeper (envOfC x (az st) sh.heap.objs.size f cdv)) ->
   PSs (cD gk P w K mg base N x (az st) f cdv A outer sh H E).nox (fo st) (bg PK s)):ACal PK P w K mg base x (kk+1) ps (bp ps.length k s):=by
 have len:∀ as m Z,(bp ps.length k s as).ok m Z->as.length=ps.length:=λas m Z h=>by
  unfold bp at h
  exact of_decide_eq_true (dA h).1
 refine ⟨D.ok S (λvs H Q E h=>h.1) λf cdv A outer sh H vs Q E hr hsp=>?_,len⟩
 obtain ⟨hv,pa,m,G,as,wd,ar,z⟩:=hsp
 refine ⟨_,hbody f cdv A outer sh H E hr,?_⟩
 unfold bp at z
 obtain ⟨_,z⟩:=dA z
 refine ⟨pa,G,H,m,_,G,Rl.start wd ar (by rw [hv]; exact hk),Tr.ok_mono (Tr.ok_bind.mp z) λm1 o ko=>?_⟩
 cases o with
 | next ρ=>exact λσ G1 H1 sb R1=>ko .non G1 H1 R1.st R1.wd .non
 | ret r=>exact ko
 | brk ρ=>exact ko.elim
 | cont ρ=>exact ko.elim
theorem Zhd {tg l:Expr} {tl:TE} (hl:PE X l tl):PI X tg l (λσ H R=>tl σ H λx H1=>∃ a,x=.ref a/\((∃ xs,SqL X.K H1 a xs/\R (sY X.K a) H1)\/(∃ xs,SqT X.K H1 a xs/\R (sX X.K a) H1))):=by
 intro pins s σ H R I h
 refine thn (hl pins s σ H _ I h) λv s1 hz0=>?_
 obtain ⟨x,H1,I1,r1,q1⟩:=hz0
 obtain ⟨a,e,q⟩:=q1
 subst e
 cases r1
 rcases q with ⟨xs,hq,q⟩ | ⟨xs,hq,q⟩
 ·obtain ⟨its,rv,p,hz⟩:=I1.list hq
  refine wpAny_pyIter_list p.isList ?_
  refine ⟨s1.heap.objs.size,[s1.heap.objs.size],_,_,H1,rfl,I1.kept (t':=s1.toks) λb o e=>Heap.get?_push_of_some _ e,Zfx a _,⟨_,Heap.get?_push_size _ rfl,rfl,rfl⟩,λb hb=>?_,q⟩
  have e:b=s1.heap.objs.size:=by simpa using hb
  subst e
  exact I1.fpOk (Nat.le_refl _) (I1.hok.fresh (Nat.le_refl _))
 ·obtain ⟨its,rv,p,hz⟩:=I1.tuple hq
  refine wpAny_pyIter_tuple (show s1.heap.IsTuple a its.toArray from p) ?_
  refine ⟨s1.heap.objs.size,[s1.heap.objs.size],_,_,H1,rfl,I1.kept (t':=s1.toks) λb o e=>Heap.get?_push_of_some _ e,Zfu a _,⟨_,Heap.get?_push_size _ rfl,rfl,rfl⟩,λb hb=>?_,q⟩
  have e:b=s1.heap.objs.size:=by simpa using hb
  subst e
  exact I1.fpOk (Nat.le_refl _) (I1.hok.fresh (Nat.le_refl _))
theorem DnAll.get {H:Hp}:∀ {vs:List V} {ds:List PyData} (n:Nat) {d:PyData},DnAll H vs ds->ds[n]?=some d->∃ v,vs[n]?=some v/\Dn H v d
 | _,_,_,_,.nil,e=>by simp at e
 | _,_,0,_,.cons g t,e=>by simp at e; subst e; exact ⟨_,rfl,g⟩
 | _,_,n+1,_,.cons g t,e=>by
  obtain ⟨v,h1,h2⟩:=DnAll.get n t (by simpa using e)
  exact ⟨v,by simpa using h1,h2⟩
theorem ZiQ {K:PySem.W.Frag} {pa a:Addr} {G:Hp} {vs:List V} {xs:List PyData} (h:G a=some (.lst vs)) (d:DnAll G vs xs):jB PK pa (sY K a) G xs:=λm G2 H2 sb w=>by
 have hq:SqL K H2 a vs:=SqL.of (w.sub _ _ (sb _ _ h))
 refine ⟨λn x hx=>?_,vs,hq,by rw [d.length]; exact Nat.le_refl _⟩
 obtain ⟨v,hv,dv⟩:=d.get n hx
 refine ⟨⟨vs,v,hq,hv⟩,λy H3 hz0=>?_⟩
 obtain ⟨e,hy⟩:=hz0
 subst e
 have:=hy vs hq
 rw [hv] at this
 cases this
 exact ⟨G2,.refl,w,dv.mono sb⟩
theorem ZiP {K:PySem.W.Frag} {pa a:Addr} {G:Hp} {vs:List V} {xs:List PyData} (h:G a=some (.tup vs)) (d:DnAll G vs xs):jB PK pa (sX K a) G xs:=λm G2 H2 sb w=>by
 have hq:SqT K H2 a vs:=SqT.of (w.sub _ _ (sb _ _ h))
 refine ⟨λn x hx=>?_,vs,hq,by rw [d.length]; exact Nat.le_refl _⟩
 obtain ⟨v,hv,dv⟩:=d.get n hx
 refine ⟨⟨vs,v,hq,hv⟩,λy H3 hz0=>?_⟩
 obtain ⟨e,hy⟩:=hz0
 subst e
 have:=hy vs hq
 rw [hv] at this
 cases this
 exact ⟨G2,.refl,w,dv.mono sb⟩
noncomputable def gG:PyData->Option (List PyData)
 | .list xs=>some xs
 | .tuple xs=>some xs
 | _=>none
@[simp] theorem ZoP (xs:List PyData):gG (.list xs)=some xs:=rfl
@[simp] theorem ZoO (xs:List PyData):gG (.tuple xs)=some xs:=rfl
noncomputable def e8 (i:List Sl->Tr PyData):List Sl->Tr (List PyData):=λρ=>(i ρ).bind λx=>Tr.of (gG x)
theorem fP {tg l:Expr} (hl:PE X l (TAe PK i)):PI X tg l (dm PK (e8 i)):=(Zhd hl).imp λσ H R0 hz0=>by
 obtain ⟨pa,G₀,H₀,m,ρ,G,R,z⟩:=hz0
 refine TAe.then R z λm1 x v G1 H1 s1 w1 R1 d1 q1=>?_
 obtain ⟨xs,hx,q1⟩:=Tr.ok_of q1
 cases d1 with
 | lst h1 h2=>cases hx; exact ⟨_,rfl,.inl ⟨_,SqL.of (w1.sub _ _ h1),q1 _ G1 H1 s1 w1 (ZiQ h1 h2)⟩⟩
 | tup h1 h2=>cases hx; exact ⟨_,rfl,.inr ⟨_,SqT.of (w1.sub _ _ h1),q1 _ G1 H1 s1 w1 (ZiP h1 h2)⟩⟩
 | _=>cases hx
noncomputable def aV (lo hi:Int):List PyData:=(aB lo (hi - lo).toNat).map PyData.int
theorem ZcS {pa:Addr} {G:Hp} {lo:Int} {n:Nat}:jB PK pa (ir lo n) G ((aB lo n).map PyData.int):=λm G2 H2 sb w=>by
 refine ⟨λk x hx=>?_,by show n<=_; rw [List.length_map,gu]; exact Nat.le_refl _⟩
 have hk:k < n:=by
  have:=(List.getElem?_eq_some_iff.mp hx).1
  rwa [List.length_map,gu] at this
 refine ⟨hk,λy H3 hz0=>?_⟩
 obtain ⟨e1,e2⟩:=hz0
 subst e1 e2
 have:x=.int (lo+k):=by
  unfold aB at hx
  simp [hk] at hx
  exact hx.symm
 subst this
 exact ⟨G2,.refl,w,.int _⟩
noncomputable def dB (n:Int):Bool:=decide (-(2 ^ 62)<=n/\n < 2 ^ 62)
noncomputable def iP:List PyData->Option (List PyData)
 | [.int n]=>if dB n=true then some (aV 0 n) else none
 | _=>none
noncomputable def iO:List PyData->Option (List PyData)
 | [.int k,.int n]=>if (dB k && dB n)=true then some (aV k n) else none
 | _=>none
noncomputable def gg (is:List Sl->Tr (List PyData)):List Sl->Tr (List PyData):=λρ=>(is ρ).bind λxs=>Tr.of (iP xs)
noncomputable def ju (is:List Sl->Tr (List PyData)):List Sl->Tr (List PyData):=λρ=>(is ρ).bind λxs=>Tr.of (iO xs)
theorem Zbm {G:Hp} {vs:List V} {xs ys:List PyData} (d:DnAll G vs xs) (h:iP xs=some ys):∃ n:Int,vs=[.int n]/\-(2 ^ 62)<=n/\n < 2 ^ 62/\ys=aV 0 n:=by
 unfold iP at h
 split at h
 ·rename_i n
  split at h
  ·rename_i hn
   cases h
   cases d with
   | cons d1 d2 =>
    cases d2
    cases d1
    have:=of_decide_eq_true hn
    exact ⟨n,rfl,this.1,this.2,rfl⟩
  ·cases h
 ·cases h
theorem Zbl {G:Hp} {vs:List V} {xs ys:List PyData} (d:DnAll G vs xs) (h:iO xs=some ys):∃ k n:Int,vs=[.int k,.int n]/\(-(2 ^ 62)<=k/\k < 2 ^ 62/\-(2 ^ 62)<=n/\n < 2 ^ 62)/\ys=aV k n:=by
 unfold iO at h
 split at h
 ·rename_i k n
  split at h
  ·rename_i hn
   cases h
   cases d with
   | cons d1 d2 =>
    cases d2 with
    | cons d2 d3 =>
     cases d3
     cases d1
     cases d2
     rw [Bool.and_eq_true] at hn
     have h1:=of_decide_eq_true hn.1
     have h2:=of_decide_eq_true hn.2
     exact ⟨k,n,rfl,⟨h1.1,h1.2,h2.1,h2.2⟩,rfl⟩
  ·cases h
 ·cases h
theorem io {tg e:Expr} (h:PI X tg e (Zc3 (TAd PK is))):PI X tg e (dm PK (gg is)):=h.imp λσ H R0 hz0=>by
 obtain ⟨pa,G₀,H₀,m,ρ,G,R,z⟩:=hz0
 refine TAd.then R z λm1 xs vs G1 H1 s1 w1 R1 d1 q1=>?_
 obtain ⟨ys,hy,q1⟩:=Tr.ok_of q1
 obtain ⟨n,e,h1,h2,rfl⟩:=Zbm d1 hy
 refine ⟨n,e,h1,h2,?_⟩
 have q:=q1 (ir 0 n.toNat) G1 H1 s1 w1
 unfold aV at q
 rw [Int.sub_zero] at q
 exact q ZcS
theorem sE {tg e:Expr} (h:PI X tg e (Zc2 (TAd PK is))):PI X tg e (dm PK (ju is)):=h.imp λσ H R0 hz0=>by
 obtain ⟨pa,G₀,H₀,m,ρ,G,R,z⟩:=hz0
 refine TAd.then R z λm1 xs vs G1 H1 s1 w1 R1 d1 q1=>?_
 obtain ⟨ys,hy,q1⟩:=Tr.ok_of q1
 obtain ⟨k,n,e,h1,rfl⟩:=Zbl d1 hy
 exact ⟨k,n,e,h1,q1 (ir k (n - k).toNat) G1 H1 s1 w1 ZcS⟩
end L2
set_option Elab.async false
set_option linter.all false
set_option maxRecDepth 100000
namespace L2
open PySem PySem.Spec PyProof.Rows
variable {PK:Pk} {X:Cx} {a b c e:Expr} {es:List Expr} {pos:Pos} {i j l:List Sl->Tr PyData} {is:List Sl->Tr (List PyData)}
noncomputable def fit (n:Int):Bool:=decide (n.natAbs < 2 ^ 8000)
noncomputable def aO:PyData->PyData->Option PyData
 | .int m,.int n=>some (.int (m+n))
 | .tuple xs,.tuple ys=>if (!xs.isEmpty && small (xs.length+ys.length))=true then some (.tuple (xs++ys)) else none
 | .list xs,.list ys=>if small (xs.length+ys.length)=true then some (.list (xs++ys)) else none
 | _,_=>none
noncomputable def pU (K:PySem.W.Frag):R2:=λx y H Q=>eJ (λi j=>.int (i+j)) x y H Q\/ZbQ K x y H Q\/ZbS x y H Q
theorem bc:OpR X (binaryOp .Add) (pU X.K):=g9.or (ZhK.or ZhM)
theorem bb {K:PySem.W.Frag}:cG (pU K) aO:=λPK pa m G H x y dx dy dz Q w hx hy hz k=>by
 unfold aO at hz
 split at hz
 ·cases hz; cases hx; cases hy
  exact .inl ⟨_,_,rfl,rfl,k.here w (.int _)⟩
 ·rename_i xs ys
  split at hz
  ·rename_i hc
   rw [Bool.and_eq_true] at hc
   have h1:xs.isEmpty=false:=by simpa using hc.1
   have h2:xs.length+ys.length<=sizeLine:=of_decide_eq_true hc.2
   cases hz
   cases hx with
   | tup a1 a2 =>
    cases hy with
    | tup b1 b2 =>
     refine .inr (.inl ⟨_,_,_,_,rfl,rfl,SqT.of (w.sub _ _ a1),SqT.of (w.sub _ _ b1),?_,by rw [a2.length,b2.length]; exact h2,λe=>?_,λe p hp=>k.tup w (a2.append b2) hp⟩)
     ·intro e
      rw [<- a2.isEmpty,e] at h1
      cases h1
     ·subst e
      cases b2
      refine k.here w ?_
      rw [List.append_nil]
      exact .tup a1 a2
  ·cases hz
 ·rename_i xs ys
  split at hz
  ·rename_i hc
   have h2:xs.length+ys.length<=sizeLine:=of_decide_eq_true hc
   cases hz
   cases hx with
   | lst a1 a2 =>
    cases hy with
    | lst b1 b2=>exact .inr (.inr ⟨_,_,_,_,rfl,rfl,w.sub _ _ a1,w.sub _ _ b1,by rw [a2.length,b2.length]; exact h2,λp hp=>k.lst w (a2.append b2) hp⟩)
  ·cases hz
 ·cases hz
noncomputable def bI:PyData->PyData->Option PyData
 | .int m,.int n=>some (.int (m - n))
 | _,_=>none
theorem bR:cG (eJ λi j=>.int (i - j)) bI:=λPK pa m G H x y dx dy dz Q w hx hy hz k=>by
 unfold bI at hz
 split at hz
 ·cases hz; cases hx; cases hy
  exact ⟨_,_,rfl,rfl,k.here w (.int _)⟩
 ·cases hz
theorem DnAll.rep {H:Hp} {vs:List V} {ds:List PyData} (h:DnAll H vs ds):∀ k:Nat,DnAll H (List.replicate k vs).flatten (List.replicate k ds).flatten
 | 0=>.nil
 | k+1=>by
  rw [List.replicate_succ,List.replicate_succ,List.flatten_cons,List.flatten_cons]
  exact h.append (h.rep k)
noncomputable def ZbG (K:PySem.W.Frag):R2:=λx y H Q=>rI CMulG (λi j=>.int (i * j)) x y H Q\/pR K x y H Q\/pS x y H Q
theorem bV:OpR X (binaryOp .Mult) (ZbG X.K):=ZhF.or (Zch.or Zci)
noncomputable def bz:PyData->PyData->Option PyData
 | .int m,.int n=>if (fit m && fit n)=true then some (.int (m * n)) else none
 | .tuple xs,.int n=>if (decide (1 < n) && decide (n<=1000) && !xs.isEmpty && decide (xs.length<=1000))=true then some (.tuple (List.replicate n.toNat xs).flatten) else none
 | .list xs,.int n=>if (decide (-(2 ^ 63)<=n) && decide (n < 2 ^ 63) && small (xs.length * n.toNat))=true then some (.list (List.replicate n.toNat xs).flatten) else none
 | _,_=>none
theorem bS {K:PySem.W.Frag}:cG (ZbG K) bz:=λPK pa m G H x y dx dy dz Q w hx hy hz k=>by
 unfold bz at hz
 split at hz
 ·split at hz
  ·rename_i hc
   rw [Bool.and_eq_true] at hc
   cases hz; cases hx; cases hy
   exact .inl ⟨_,_,rfl,rfl,⟨of_decide_eq_true hc.1,of_decide_eq_true hc.2⟩,k.here w (.int _)⟩
  ·cases hz
 ·split at hz
  ·rename_i hc
   simp only [Bool.and_eq_true,decide_eq_true_eq,Bool.not_eq_true'] at hc
   cases hz; cases hy
   cases hx with
   | tup a1 a2 =>
    refine .inr (.inl ⟨_,_,_,rfl,rfl,SqT.of (w.sub _ _ a1),hc.1.1.1,hc.1.1.2,?_,by rw [a2.length]; exact hc.2,λp hp=>k.tup w (a2.rep _) hp⟩)
    intro e
    have:=hc.1.2
    rw [<- a2.isEmpty,e] at this
    cases this
  ·cases hz
 ·split at hz
  ·rename_i hc
   simp only [Bool.and_eq_true,decide_eq_true_eq] at hc
   cases hz; cases hy
   cases hx with
   | lst a1 a2=>exact .inr (.inr ⟨_,_,_,rfl,rfl,w.sub _ _ a1,hc.1.1,hc.1.2,by rw [a2.length]; exact of_decide_eq_true hc.2,λp hp=>k.lst w (a2.rep _) hp⟩)
  ·cases hz
 ·cases hz
noncomputable def gJ:PyData->PyData->Option PyData
 | .int m,.int n=>if (decide (n≠0) && fit n)=true then some (.int (m.fdiv n)) else none
 | _,_=>none
theorem lz:cG (rI Ze6 λi j=>.int (i.fdiv j)) gJ:=λPK pa m G H x y dx dy dz Q w hx hy hz k=>by
 unfold gJ at hz
 split at hz
 ·split at hz
  ·rename_i hc
   rw [Bool.and_eq_true] at hc
   cases hz; cases hx; cases hy
   exact ⟨_,_,rfl,rfl,⟨of_decide_eq_true hc.1,of_decide_eq_true hc.2⟩,k.here w (.int _)⟩
  ·cases hz
 ·cases hz
noncomputable def gA:PyData->PyData->Option PyData
 | .int m,.int n=>if decide (n≠0)=true then some (.int (m.fmod n)) else none
 | _,_=>none
theorem o0:cG (rI (λ_ j=>j≠0) λi j=>.int (i.fmod j)) gA:=λPK pa m G H x y dx dy dz Q w hx hy hz k=>by
 unfold gA at hz
 split at hz
 ·split at hz
  ·rename_i hc
   cases hz; cases hx; cases hy
   exact ⟨_,_,rfl,rfl,of_decide_eq_true hc,k.here w (.int _)⟩
  ·cases hz
 ·cases hz
noncomputable def mM:PyData->PyData->Option PyData
 | .int m,.int n=>if (decide (0<=n) && decide (n<=1000000) && decide (m.natAbs < 2 ^ 64))=true then some (.int (m ^ n.toNat)) else none
 | _,_=>none
theorem Zfi:cG (rI Ze5 λi j=>.int (i ^ j.toNat)) mM:=λPK pa m G H x y dx dy dz Q w hx hy hz k=>by
 unfold mM at hz
 split at hz
 ·split at hz
  ·rename_i hc
   simp only [Bool.and_eq_true,decide_eq_true_eq] at hc
   cases hz; cases hx; cases hy
   exact ⟨_,_,rfl,rfl,⟨hc.1.1,hc.1.2,hc.2⟩,k.here w (.int _)⟩
  ·cases hz
 ·cases hz
noncomputable def gh (i:List Sl->Tr PyData):List Sl->Tr PyData:=λρ=>(i ρ).bind λx=>match x with
 | .int n=>.ret (.int (-n))
 | _=>.fail
theorem jq (ha:PE X a (TAe PK i)):PE X (.UnaryOp .USub a pos) (TAe PK (gh i)):=(Zhi Zfr ha).imp λσ H Q hz0=>by
 obtain ⟨pa,G₀,H₀,m,ρ,G,R,z⟩:=hz0
 refine TAe.then R z λm1 x v G1 H1 s1 w1 R1 d1 q1=>?_
 cases d1 with
 | int n=>exact ⟨n,rfl,(Kn.later q1 s1 w1.some).here w1 (.int _)⟩
 | _=>exact q1.elim
noncomputable def cO (f:Int->Int->Bool):PyData->PyData->Option PyData
 | .int m,.int n=>some (.bool (f m n))
 | _,_=>none
theorem dt {f:Int->Int->Bool}:cG (eJ λi j=>.bl (f i j)) (cO f):=λPK pa m G H x y dx dy dz Q w hx hy hz k=>by
 unfold cO at hz
 split at hz
 ·cases hz; cases hx; cases hy
  exact ⟨_,_,rfl,rfl,k.here w (.bl _)⟩
 ·cases hz
noncomputable def ii:PyData->PyData->Option PyData
 | .str m,.str n=>some (.bool (m == n))
 | x,y=>if (SeqAt.shaped x && SeqAt.shaped y)=true then some (.bool (PyData.eqv x y)) else none
noncomputable def kh:PyData->PyData->Option PyData
 | .str m,.str n=>some (.bool (!(m == n)))
 | x,y=>if (SeqAt.shaped x && SeqAt.shaped y)=true then some (.bool (!PyData.eqv x y)) else none
noncomputable def ZbO:R2:=λx y H Q=>rEq x y H Q\/∃ d e,Dn H x d/\Dn H y e/\SeqAt.shaped d=true/\SeqAt.shaped e=true/\Q (.bl (PyData.eqv d e)) H
noncomputable def ZbE:R2:=λx y H Q=>rNe x y H Q\/∃ d e,Dn H x d/\Dn H y e/\SeqAt.shaped d=true/\SeqAt.shaped e=true/\Q (.bl (!PyData.eqv d e)) H
theorem mV {k:Nat} (hr:Room k X.A):OpR X (compareOp .Eq) ZbO:=ZhJ.or (ZhI hr)
theorem Zcj {k:Nat} (hr:Room k X.A):OpR X (compareOp .NotEq) ZbE:=ZhE.or (ZhD hr)
theorem lA:cG ZbO ii:=λPK pa m G H x y dx dy dz Q w hx hy hz k=>by
 unfold ii at hz
 split at hz
 ·cases hz; cases hx; cases hy
  exact .inl ⟨rfl,by rw [og]; exact k.here w (.bl _)⟩
 ·split at hz
  ·rename_i hc
   rw [Bool.and_eq_true] at hc
   cases hz
   exact .inr ⟨_,_,hx.mono w.sub,hy.mono w.sub,hc.1,hc.2,k.here w (.bl _)⟩
  ·cases hz
theorem Zan:cG ZbE kh:=λPK pa m G H x y dx dy dz Q w hx hy hz k=>by
 unfold kh at hz
 split at hz
 ·cases hz; cases hx; cases hy
  exact .inl ⟨rfl,by rw [og]; exact k.here w (.bl _)⟩
 ·split at hz
  ·rename_i hc
   rw [Bool.and_eq_true] at hc
   cases hz
   exact .inr ⟨_,_,hx.mono w.sub,hy.mono w.sub,hc.1,hc.2,k.here w (.bl _)⟩
  ·cases hz
noncomputable def nT:PyData->Bool
 | .none=>true
 | _=>false
noncomputable def kD:PyData->PyData->Option PyData:=λx y=>if nT y=true then some (.bool (nT x)) else none
theorem Dn.no {G:Hp} {v:V} {x:PyData} (h:Dn G v x):decide (v=.non)=nT x:=by
 cases h <;> simp [nT]
theorem Zfj:cG (λx y H Q=>y=.non/\Q (.bl (decide (x=.non))) H) kD:=λPK pa m G H x y dx dy dz Q w hx hy hz k=>by
 unfold kD at hz
 split at hz
 ·rename_i hc
  cases hz
  refine ⟨?_,by rw [hx.no]; exact k.here w (.bl _)⟩
  rw [<- hy.no] at hc
  exact of_decide_eq_true hc
 ·cases hz
noncomputable def aE:PyData->PyData->Option PyData
 | .list xs,.int n=>bf xs n
 | .tuple xs,.int n=>bf xs n
 | _,_=>none
theorem DnAll.at {H:Hp} {vs:List V} {ds:List PyData} {n:Int} {d:PyData} (h:DnAll H vs ds) (e:bf ds n=some d):∃ v,bf vs n=some v/\Dn H v d:=by
 unfold bf at e ⊢
 rw [<- h.length] at e
 cases hn:df vs.length n with
 | none=>rw [hn] at e; cases e
 | some j =>
  rw [hn] at e
  exact h.get j e
theorem bi {K:PySem.W.Frag}:cG (rIx K) aE:=λPK pa m G H x y dx dy dz Q w hx hy hz k=>by
 unfold aE at hz
 split at hz
 ·cases hy
  cases hx with
  | lst a1 a2 =>
   obtain ⟨v,h1,h2⟩:=a2.at hz
   exact .inl ⟨_,_,_,v,rfl,rfl,SqL.of (w.sub _ _ a1),h1,k.here w h2⟩
 ·cases hy
  cases hx with
  | tup a1 a2 =>
   obtain ⟨v,h1,h2⟩:=a2.at hz
   exact .inr (.inl ⟨_,_,_,v,rfl,rfl,SqT.of (w.sub _ _ a1),h1,k.here w h2⟩)
 ·cases hz
noncomputable def cK:List PyData->Option PyData
 | [.list xs]=>some (.int xs.length)
 | [.tuple xs]=>some (.int xs.length)
 | _=>none
theorem fR {K:PySem.W.Frag}:e9 (λxs H Q=>∃ p ys,xs=[.ref p]/\(SqL K H p ys\/SqT K H p ys)/\Q (.int ys.length) H) cK:=λPK pa m G H vs ds d Q w hv hd k=>by
 unfold cK at hd
 split at hd
 ·cases hd
  cases hv with
  | cons h1 h2 =>
   cases h2
   cases h1 with
   | lst a1 a2=>exact ⟨_,_,rfl,.inl (SqL.of (w.sub _ _ a1)),by rw [a2.length]; exact k.here w (.int _)⟩
 ·cases hd
  cases hv with
  | cons h1 h2 =>
   cases h2
   cases h1 with
   | tup a1 a2=>exact ⟨_,_,rfl,.inr (SqT.of (w.sub _ _ a1)),by rw [a2.length]; exact k.here w (.int _)⟩
 ·cases hd
noncomputable def ox (n:Int):Int:=if n < 0 then -n else n
noncomputable def jt:List PyData->Option PyData
 | [.int n]=>some (.int (ox n))
 | _=>none
theorem o4:e9 (λxs H Q=>∃ i,xs=[.int i]/\Q (.int (if i < 0 then -i else i)) H) jt:=λPK pa m G H vs ds d Q w hv hd k=>by
 unfold jt at hd
 split at hd
 ·cases hd
  cases hv with
  | cons h1 h2=>cases h2; cases h1; exact ⟨_,rfl,k.here w (.int _)⟩
 ·cases hd
noncomputable def cv (m n:Int):Int:=if n > m then n else m
noncomputable def fh (m n:Int):Int:=if n < m then n else m
noncomputable def gC:List PyData->Option PyData
 | [.int m,.int n]=>some (.int (cv m n))
 | _=>none
noncomputable def kl:List PyData->Option PyData
 | [.int m,.int n]=>some (.int (fh m n))
 | _=>none
theorem jD:e9 (λxs H Q=>∃ i j,xs=[.int i,.int j]/\Q (.int (if j > i then j else i)) H) gC:=λPK pa m G H vs ds d Q w hv hd k=>by
 unfold gC at hd
 split at hd
 ·cases hd
  cases hv with
  | cons h1 h2=>cases h2 with | cons h2 h3=>cases h3; cases h1; cases h2; exact ⟨_,_,rfl,k.here w (.int _)⟩
 ·cases hd
theorem Zap:e9 (λxs H Q=>∃ i j,xs=[.int i,.int j]/\Q (.int (if j < i then j else i)) H) kl:=λPK pa m G H vs ds d Q w hv hd k=>by
 unfold kl at hd
 split at hd
 ·cases hd
  cases hv with
  | cons h1 h2=>cases h2 with | cons h2 h3=>cases h3; cases h1; cases h2; exact ⟨_,_,rfl,k.here w (.int _)⟩
 ·cases hd
noncomputable def nU:List PyData->Option PyData
 | [.int n]=>some (.int n)
 | [.bool n]=>some (.int (if n then 1 else 0))
 | _=>none
theorem Zfn:e9 (λxs H Q=>(∃ i,xs=[.int i]/\Q (.int i) H)\/∃ k,xs=[.bl k]/\Q (.int (if k then 1 else 0)) H) nU:=λPK pa m G H vs ds d Q w hv hd k=>by
 unfold nU at hd
 split at hd
 ·cases hd
  cases hv with
  | cons h1 h2=>cases h2; cases h1; exact .inl ⟨_,rfl,k.here w (.int _)⟩
 ·cases hd
  cases hv with
  | cons h1 h2=>cases h2; cases h1; exact .inr ⟨_,rfl,k.here w (.int _)⟩
 ·cases hd
noncomputable def gQ:List PyData->Option PyData
 | [.list xs]=>some (.tuple xs)
 | [.tuple xs]=>some (.tuple xs)
 | _=>none
theorem lB {K:PySem.W.Frag}:e9 (λxs H Q=>∃ p ys,xs=[.ref p]/\((SqL K H p ys/\∀ l,H l=none->Q (.ref l) (upd H l (.tup ys)))\/(SqT K H p ys/\Q (.ref p) H))) gQ:=λPK pa m G H vs ds d Q w hv hd k=>by
 unfold gQ at hd
 split at hd
 ·cases hd
  cases hv with
  | cons h1 h2 =>
   cases h2
   cases h1 with
   | lst a1 a2=>exact ⟨_,_,rfl,.inl ⟨SqL.of (w.sub _ _ a1),λp hp=>k.tup w a2 hp⟩⟩
 ·cases hd
  cases hv with
  | cons h1 h2 =>
   cases h2
   cases h1 with
   | tup a1 a2=>exact ⟨_,_,rfl,.inr ⟨SqT.of (w.sub _ _ a1),k.here w (.tup a1 a2)⟩⟩
 ·cases hd
noncomputable def eV (xs:List PyData) (lo hi:Option Int):List PyData:=(xs.drop (HT.aA xs.length 0 lo)).take (HT.aA xs.length xs.length hi - HT.aA xs.length 0 lo)
theorem DnAll.take {H:Hp}:∀ {vs:List V} {ds:List PyData} (n:Nat),DnAll H vs ds->DnAll H (vs.take n) (ds.take n)
 | _,_,0,_=>.nil
 | _,_,_+1,.nil=>.nil
 | _,_,n+1,.cons r t=>.cons r (DnAll.take n t)
theorem DnAll.drop {H:Hp}:∀ {vs:List V} {ds:List PyData} (n:Nat),DnAll H vs ds->DnAll H (vs.drop n) (ds.drop n)
 | _,_,0,r=>r
 | _,_,_+1,.nil=>.nil
 | _,_,n+1,.cons r t=>DnAll.drop n t
theorem DnAll.cut {H:Hp} {vs:List V} {ds:List PyData} (h:DnAll H vs ds) (lo hi:Option Int):DnAll H (eU vs lo hi) (eV ds lo hi):=by
 unfold eU eV
 rw [h.length]
 exact (h.drop _).take _
noncomputable abbrev fu:=List Sl->Tr (Option Int)
noncomputable def dI:fu:=λ_=>.ret none
noncomputable def di (i:List Sl->Tr PyData):fu:=λρ=>(i ρ).bind λx=>match x with
 | .int n=>.ret (some n)
 | _=>.fail
noncomputable def TAp (PK:Pk) (i:fu):TO:=λσ H Q=>∃ pa G₀ H₀ m ρ G,Rl PK pa G₀ H₀ m σ ρ G H/\(i ρ).ok m λm' x=>∀ G' H',Stp pa G H G' H'->Wd PK pa m' G' H'->Q x H'
theorem PO.imp {e:Option Expr} {t t':TO} (h:PO X e t) (q:∀ σ H Q,t' σ H Q->t σ H Q):PO X e t':=λpins s σ H Q I z=>h pins s σ H Q I (q σ H Q z)
theorem eZ:PO X none (TAp PK dI):=Zb4.imp λσ H Q hz0=>by
 obtain ⟨pa,G₀,H₀,m,ρ,G,R,z⟩:=hz0
 exact z G H .refl R.wd
theorem eY (h:PE X e (TAe PK i)):PO X (some e) (TAp PK (di i)):=(Zb3 h).imp λσ H Q hz0=>by
 obtain ⟨pa,G₀,H₀,m,ρ,G,R,z⟩:=hz0
 refine TAe.then R z λm1 x v G1 H1 s1 w1 R1 d1 q1=>?_
 cases d1 with
 | int n=>exact ⟨n,rfl,q1 G1 H1 s1 w1⟩
 | _=>exact q1.elim
theorem Zi7 {prog:Program} {w:World} {A:Around} {E:Value->Shared->Prop} {s:Shared} {t sl:Addr} {items:Array Value} {vl vu:Value} {lo hi:Option Int} {Q:Value->Shared->Prop} (ht:IsTup s.heap t items) (hs:s.heap.IsSliceOf sl vl vu .none) (pl:IsPart vl lo) (pu:IsPart vu hi)
  (hw:HT.aA items.size 0 lo=0/\HT.aA items.size items.size hi=items.size) (h:Q (.ref t) s):wpAny (model prog w) A (getItem (.ref t) (.ref sl)) Q E s:=by
 obtain ⟨os,hos,hcs,hds⟩:=id hs
 have hTs:s.TypeIs (.ref sl) "slice":=⟨os,hos,hcs⟩
 unfold getItem
 try with_reducible refine wpAny_holding ?_
 first | refine wpAny_bind (wpAny_pure ?_) | skip
 refine wpAny_bind (wpAny_sequenceKey ht.typeIs (by decide) ?_)
 refine wpAny_bind (wpAny_callSpecial?_slot (name:=Str.ofString "__getitem__") ht.typeIs PyProof.Rows.slot_tuple_getitem
  (wpAny_call_entry PyProof.Rows.slot_tuple_getitem ht.typeIs entry_tuple_getitem ?_ (args_tuple_getitem _ _)))
 show wpAny _ _ (Builtin.Tuple.tupleItemsOf (.ref t) >>= _) _ _ s
 refine wpAny_bind (tupleItemsOf_ ht ?_)
 refine wpAny_bind (wpAny_typeOf hTs ?_)
 rw [if_pos (by decide)]
 refine wpAny_bind (HT.Za1 hs pl pu ?_)
 have hyes:(((HT.aA items.size 0 lo:Nat):Int) == 0 && (1:Int) == 1 && (HT.aA items.size items.size hi - HT.aA items.size 0 lo) == items.size)=true:=by
  rw [hw.1,hw.2]
  simp
 show wpAny _ _ (if (((HT.aA items.size 0 lo:Nat):Int) == 0 && (1:Int) == 1 && (HT.aA items.size items.size hi - HT.aA items.size 0 lo) == items.size)=true then _ else _) _ _ s
 rw [if_pos hyes]
 refine wpAny_bind (m:=Builtin.Tuple.tupleIsExact (.ref t)) ?_
 unfold Builtin.Tuple.tupleIsExact
 refine wpAny_bind (wpAny_typeOf ht.typeIs ?_)
 refine wpAny_pure ?_
 rw [if_pos (by decide)]
 refine wpAny_bind (wpAny_rule ?_)
 exact wpAny_pure ⟨_,rfl,wpAny_pure h⟩
noncomputable def Zbw (K:PySem.W.Frag):V->Option Int->Option Int->Hp->VK->Prop:=λx lo hi H Q=>∃ a xs,x=.ref a/\SqT K H a xs/\(HT.aA xs.length 0 lo=0/\HT.aA xs.length xs.length hi=xs.length)/\Q (.ref a) H
theorem Zf4:SlR X (Zbw X.K):=by
 intro pins s σ H x v vl vu lo hi sl Q I rx hs pl pu h
 obtain ⟨a,xs,rfl,hx,hw,q⟩:=h
 cases rx
 obtain ⟨its,r,ht,hz⟩:=I.tuple hx
 have hlen:its.toArray.size=xs.length:=by rw [List.size_toArray]; exact r.length.symm
 refine ⟨"tuple",_,PyProof.Rows.slot_tuple_getitem.lookup,ht.typeIs,?_⟩
 exact Zi7 ht hs pl pu (by rw [hlen]; exact hw) ⟨.ref a,H,I,rfl,q⟩
noncomputable def ZgR (K:PySem.W.Frag):V->Option Int->Option Int->Hp->VK->Prop:=λx lo hi H Q=>Zby K x lo hi H Q\/Zbx K x lo hi H Q\/Zbw K x lo hi H Q
theorem Zf6:SlR X (ZgR X.K):=Za2.or (Zf5.or Zf4)
noncomputable def Za0 (x:PyData) (lo hi:Option Int):Option PyData:=match x with
 | .list xs=>some (.list (eV xs lo hi))
 | .tuple xs=>some (.tuple (eV xs lo hi))
 | _=>none
noncomputable def dH (i:List Sl->Tr PyData) (p q:fu):List Sl->Tr PyData:=λρ=>(i ρ).bind λx=>(p ρ).bind λlo=>(q ρ).bind λhi=>Tr.of (Za0 x lo hi)
theorem TAp.then {p:fu} {σ:St} {H:Hp} {β:Type} {k:Option Int->Tr β} {Z:Nat->β->Prop} {Q:Option Int->Hp->Prop} {pa:Addr} {G₀ H₀ G:Hp} {m:Nat} {ρ:List Sl} (R:Rl PK pa G₀ H₀ m σ ρ G H) (h:((p ρ).bind k).ok m Z)
  (hq:∀ m1 x G1 H1,Stp pa G H G1 H1->Wd PK pa m1 G1 H1->Rl PK pa G₀ H₀ m1 σ ρ G1 H1->(k x).ok m1 Z->Q x H1):TAp PK p σ H Q:=by
 refine ⟨pa,G₀,H₀,m,ρ,G,R,Tr.ok_mono (Tr.ok_bind.mp h) λm1 x hx G1 H1 s1 w1=>?_⟩
 exact hq m1 x G1 H1 s1 w1 (R.step s1 w1) hx
theorem e7 {p q:fu} {lo hi:Option Expr} {p2:Pos} (he:PE X e (TAe PK i)) (hl:PO X lo (TAp PK p)) (hu:PO X hi (TAp PK q)):PE X (.Subscript e (.Slice lo hi none p2) pos) (TAe PK (dH i p q)):=(Zb8 Zf6 he hl hu).imp λσ H Q hz0=>by
 obtain ⟨pa,G₀,H₀,m,ρ,G,R,z⟩:=hz0
 refine TAe.then R z λm1 x v G1 H1 s1 w1 R1 d1 q1=>?_
 refine TAp.then R1 q1 λm2 lo G2 H2 s2 w2 R2 q2=>?_
 refine TAp.then R2 q2 λm3 hi G3 H3 s3 w3 R3 q3=>?_
 obtain ⟨d,hd,k⟩:=Tr.ok_of q3
 have s13:=(s1.trans s2 w1.some).trans s3 w2.some
 have k':=Kn.later k s13 w3.some
 have d3:=d1.mono (s2.gs.trans s3.gs)
 cases d3 with
 | lst a1 a2=>cases hd; exact .inl ⟨_,_,rfl,SqL.of (w3.sub _ _ a1),λp hp=>k'.lst w3 (a2.cut lo hi) hp⟩
 | @tup a xs ds a1 a2 =>
  cases hd
  by_cases hw:HT.aA xs.length 0 lo=0/\HT.aA xs.length xs.length hi=xs.length
  ·refine .inr (.inr ⟨_,_,rfl,SqT.of (w3.sub _ _ a1),hw,k'.here w3 ?_⟩)
   have e:eV ds lo hi=ds:=by
    unfold eV
    rw [<- a2.length,hw.1,hw.2]
    simp
    rw [a2.length]
    exact List.take_length
   rw [e]
   exact .tup a1 a2
  ·exact .inr (.inl ⟨_,_,rfl,SqT.of (w3.sub _ _ a1),hw,λp hp=>k'.tup w3 (a2.cut lo hi) hp⟩)
 | _=>cases hd
theorem DnAll.range {H:Hp} (lo:Int) (n:Nat):DnAll H (gt lo n) ((aB lo n).map PyData.int):=by
 rw [ZgO]
 exact DnAll.ints _
noncomputable def mz (lo hi:Int):Bool:=dB lo && dB hi && decide ((hi - lo).toNat<=1000)
noncomputable def jY:List PyData->Option (List PyData)
 | [.int lo,.int hi]=>if mz lo hi=true then some (aV lo hi) else none
 | _=>none
theorem ZgF {G:Hp} {vs:List V} {xs ys:List PyData} (d:DnAll G vs xs) (h:jY xs=some ys):∃ k n:Int,vs=[.int k,.int n]/\(-(2 ^ 62)<=k/\k < 2 ^ 62/\-(2 ^ 62)<=n/\n < 2 ^ 62/\(n - k).toNat<=1000)/\ys=aV k n:=by
 unfold jY at h
 split at h
 ·split at h
  ·rename_i hn
   cases h
   cases d with
   | cons d1 d2 =>
    cases d2 with
    | cons d2 d3 =>
     cases d3
     cases d1
     cases d2
     unfold mz at hn
     rw [Bool.and_eq_true,Bool.and_eq_true] at hn
     have h1:=of_decide_eq_true hn.1.1
     have h2:=of_decide_eq_true hn.1.2
     exact ⟨_,_,rfl,⟨h1.1,h1.2,h2.1,h2.2,of_decide_eq_true hn.2⟩,rfl⟩
  ·cases h
 ·cases h
noncomputable def ZfH (t:TA):TE:=gl (λxs H Q=>∃ a lo hi,xs=[.ref a]/\H a=some (.rng lo hi)/\-(2 ^ 62)<=lo/\lo < 2 ^ 62/\-(2 ^ 62)<=hi/\hi < 2 ^ 62/\(hi - lo).toNat<=1000/\∀ p,H p=none->Q (.ref p) (upd H p (.lst (gt lo (hi - lo).toNat))))
 (gS (gl (λxs H Q=>∃ i j:Int,xs=[.int i,.int j]/\∀ p,H p=none->Q (.ref p) (upd H p (.rng i j))) t) aW)
noncomputable def sM (is:List Sl->Tr (List PyData)):List Sl->Tr (List PyData):=λρ=>(is ρ).bind λxs=>Tr.of (jY xs)
theorem Zn2 (h:PE X e (ZfH (TAd PK is))):PE X e (fw PK (sM is)):=h.imp λσ H Q hz0=>by
 obtain ⟨pa,G₀,H₀,m,ρ,G,R,z⟩:=hz0
 refine TAd.then R z λm1 xs vs G1 H1 s1 w1 R1 d1 q1=>?_
 obtain ⟨ys,hy,k⟩:=Tr.ok_of q1
 obtain ⟨lo,hi,rfl,⟨b1,b2,b3,b4,b5⟩,rfl⟩:=ZgF d1 hy
 refine ⟨lo,hi,rfl,λp hp=>?_⟩
 obtain ⟨w2,s2⟩:=w1.own (o:=.rng lo hi) hp
 refine ⟨p,lo,hi,rfl,bw,b1,b2,b3,b4,b5,λq hq=>?_⟩
 exact (Ko1.later k (s1.trans s2 w1.some) w2.some).new w2 (DnAll.range _ _) hq
noncomputable def ints?:List PyData->Option (List Int)
 | []=>some []
 | .int n::xs=>(ints? xs).bind λns=>some (n::ns)
 | _=>none
@[simp] theorem ints?_map:∀ ns:List Int,ints? (ns.map PyData.int)=some ns
 | []=>rfl
 | n::ns=>by rw [List.map_cons,ints?,ints?_map ns]; rfl
theorem DnAll.ints_inv {H:Hp} {vs:List V} {ds:List PyData} {ns:List Int} (a:DnAll H vs ds) (h:ints? ds=some ns):vs=ns.map V.int/\ds=ns.map PyData.int:=by
 induction vs generalizing ds ns with
 | nil=>cases a; cases h; exact ⟨rfl,rfl⟩
 | cons v vs ih =>
  cases a with
  | cons g t =>
   cases g with
   | int n =>
    unfold ints? at h
    rename_i ds
    cases e:ints? ds with
    | none=>rw [e] at h; cases h
    | some ms =>
     rw [e] at h
     cases h
     obtain ⟨h1,h2⟩:=ih t e
     exact ⟨by rw [h1]; rfl,by rw [h2]; rfl⟩
   | _=>unfold ints? at h; cases h
end L2
set_option Elab.async false
set_option linter.all false
set_option maxRecDepth 100000
namespace L2
open PySem PySem.Spec PyProof.Rows
section
variable {prog:Program} {w:World} {A:Around} {E:Value->Shared->Prop} {s:Shared}
noncomputable def ItAt (b:Bool) (h:Heap) (it a:Addr) (k:Nat):Prop:=match b with
 | true=>h.IsListIter it a k
 | false=>h.IsTupleIter it a k
noncomputable def SqAt (b:Bool) (h:Heap) (a:Addr) (items:Array Value):Prop:=match b with
 | true=>h.IsList a items
 | false=>h.IsTuple a items
theorem ItAt.at {b:Bool} {h h':Heap} {it a:Addr} {k:Nat} (x:ItAt b h it a k) (e:∀ o,h.get? it=some o->h'.get? it=some o):ItAt b h' it a k:=by
 cases b with
 | true=>exact Heap.IsListIter.at x e
 | false=>obtain ⟨o,ho,r⟩:=(show h.IsTupleIter it a k from x); exact ⟨o,e o ho,r⟩
theorem SqAt.at {b:Bool} {h h':Heap} {a:Addr} {items:Array Value} (x:SqAt b h a items) (e:∀ o,h.get? a=some o->h'.get? a=some o):SqAt b h' a items:=by
 cases b with
 | true=>exact Heap.IsList.at x e
 | false=>exact Heap.IsTuple.at x e
theorem ItAt.there {b:Bool} {h:Heap} {it a:Addr} {k:Nat} (x:ItAt b h it a k):∃ o,h.get? it=some o/\∀ v,o.data≠.cell v:=by
 cases b with
 | true=>obtain ⟨o,ho,_,hd⟩:=(show h.IsListIter it a k from x); exact ⟨o,ho,λv z=>by rw [hd] at z; cases z⟩
 | false=>obtain ⟨o,ho,_,hd⟩:=(show h.IsTupleIter it a k from x); exact ⟨o,ho,λv z=>by rw [hd] at z; cases z⟩
theorem ZhY {it l:Addr} {i:Nat} {items:Array Value} {x:Value} {Q:Value->Shared->Prop} (hit:s.heap.IsTupleIter it l i) (hl:s.heap.IsTuple l items) (hx:items[i]?=some x)
  (hQ:∀ h',h'.IsTupleIter it l (i+1)->Heap.SameBut it s.heap h'->Q x { s with heap:=h' }):wpAny (model prog w) A (Builtin.SmallTypes.nextOf (.ref it)) Q E s:=by
 obtain ⟨o,ho,hc,hd⟩:=id hit; obtain ⟨ol,hol,_,nl,hdl⟩:=hl
 unfold Builtin.SmallTypes.nextOf
 refine wpAny_bind (wpAny_callSpecial?_slot (name:=Str.ofString "__next__") hit.typeIs F.slot_tuple_iterator_next (wpAny_call_entry F.slot_tuple_iterator_next hit.typeIs F.entry_tuple_iterator_next ?_ (F.args_tuple_iterator_next_1 _)))
 show wpAny _ _ (field (.ref it) 0 >>= _) _ _ s; refine wpAny_bind (wpAny_field ho hd (x:=.ref l) rfl ?_)
 show wpAny _ _ (if (Value.ref l == Value.none)=true then _ else _) _ _ s; rw [if_neg (show ¬ ((Value.ref l == Value.none)=true) from Bool.false_ne_true)]
 show wpAny _ _ (field (.ref it) 1 >>= _) _ _ s; refine wpAny_bind (wpAny_field ho hd (x:=.int i 0) rfl ?_)
 show wpAny _ _ (seqItems? (.ref l) >>= _) _ _ s; refine wpAny_bind (wpAny_seqItems hol hdl ?_); simp only [Int.toNat_natCast,hx]
 refine wpAny_bind (wpAny_setField ho hd (by simp) (wpAny_pure ⟨x,rfl,wpAny_pure (hQ _ ⟨_,Heap.get?_update_self _ ho (Obj.isFreed_of_fields (Obj.data_mapFields hd _)),(Obj.cls_mapFields ..).trans hc,?_⟩ (Heap.SameBut.update ..))⟩))
 rw [Obj.data_mapFields hd]; simp [rawInt]
theorem ZhZ {it l:Addr} {i:Nat} {items:Array Value} {Q:Value->Shared->Prop} (hh:A.handled=none) (hit:s.heap.IsTupleIter it l i) (hl:s.heap.IsTuple l items) (hx:items[i]?=none)
  (hE:∀ h' e,Heap.ExtBut it s.heap h'->(∃ o,h'.get? e=some o/\o.cls=.type "StopIteration")->E (.ref e) { s with heap:=h' }):wpAny (model prog w) A (Builtin.SmallTypes.nextOf (.ref it)) Q E s:=by
 obtain ⟨o,ho,hc,hd⟩:=id hit; obtain ⟨ol,hol,_,nl,hdl⟩:=hl
 unfold Builtin.SmallTypes.nextOf
 refine wpAny_bind (wpAny_callSpecial?_slot (name:=Str.ofString "__next__") hit.typeIs F.slot_tuple_iterator_next (wpAny_call_entry F.slot_tuple_iterator_next hit.typeIs F.entry_tuple_iterator_next ?_ (F.args_tuple_iterator_next_1 _)))
 show wpAny _ _ (field (.ref it) 0 >>= _) _ _ s; refine wpAny_bind (wpAny_field ho hd (x:=.ref l) rfl ?_)
 show wpAny _ _ (if (Value.ref l == Value.none)=true then _ else _) _ _ s; rw [if_neg (show ¬ ((Value.ref l == Value.none)=true) from Bool.false_ne_true)]
 show wpAny _ _ (field (.ref it) 1 >>= _) _ _ s; refine wpAny_bind (wpAny_field ho hd (x:=.int i 0) rfl ?_)
 show wpAny _ _ (seqItems? (.ref l) >>= _) _ _ s; refine wpAny_bind (wpAny_seqItems hol hdl ?_); simp only [Int.toNat_natCast,hx]
 refine wpAny_bind (wpAny_rule (wpAny_bind (wpAny_setField ho hd (by simp) ?_))); show wpAny _ _ (newExc (.type "StopIteration") [] >>= _) _ _ _
 refine wpAny_bind ?_; simp only [newExc,newTuple]; refine wpAny_bind (wpAny_newObj_type ?_ (by size_fits))
 refine wpAny_bind (m:=firstArgMember _ _) (wpAny_of_eq (a:=Value.none) (by first | rfl | (simp only [firstArgMember]; rfl)) ?_); refine wpAny_newObj_type ?_ (by size_fits); simp only [raiseNew]
 refine wpAny_bind (wpAny_handled ?_); first | rw [show A.in1.handled=none from hh] | rw [hh]
 refine wpAny_bind (wpAny_pure (wpAny_throw (hE _ _ (((Heap.SameBut.update ..).extBut.push _).push _) ⟨_,Heap.get?_push_size _ rfl,rfl⟩)))
theorem Zh0 {b:Bool} {it l:Addr} {i:Nat} {items:Array Value} {x:Value} {Q:Value->Shared->Prop} (hit:ItAt b s.heap it l i) (hl:SqAt b s.heap l items) (hx:items[i]?=some x)
  (hQ:∀ h',ItAt b h' it l (i+1)->Heap.SameBut it s.heap h'->Q x { s with heap:=h' }):wpAny (model prog w) A (Builtin.SmallTypes.nextOf (.ref it)) Q E s:=by
 cases b with
 | true=>exact wpAny_nextOf_list_item hit hl hx hQ
 | false=>exact ZhY hit hl hx hQ
theorem Zh1 {b:Bool} {it l:Addr} {i:Nat} {items:Array Value} {Q:Value->Shared->Prop} (hh:A.handled=none) (hit:ItAt b s.heap it l i) (hl:SqAt b s.heap l items) (hx:items[i]?=none)
  (hE:∀ h' e,Heap.ExtBut it s.heap h'->(∃ o,h'.get? e=some o/\o.cls=.type "StopIteration")->E (.ref e) { s with heap:=h' }):wpAny (model prog w) A (Builtin.SmallTypes.nextOf (.ref it)) Q E s:=by
 cases b with
 | true=>exact wpAny_nextOf_list_end hh hit hl hx hE
 | false=>exact ZhZ hh hit hl hx hE
theorem SqAt.bt {b:Bool} {h h':Heap} {a c:Addr} {items:Array Value} (x:SqAt b h a items) (e:Heap.ExtBut c h h') (n:a≠c):SqAt b h' a items:=x.at λo q=>e a o n q
noncomputable def ge (b:Bool) (l:Addr):Obj:=match b with
 | true=>{ cls:=.type "list_iterator",data:=.fields #[.ref l,.int 0 0] }
 | false=>{ cls:=.type "tuple_iterator",data:=.fields #[.ref l,.int 0 0] }
theorem j9 {b:Bool} {l:Addr} {items:Array Value} {Q:Value->Shared->Prop} (hl:SqAt b s.heap l items) (hQ:Q (.ref s.heap.objs.size) { s with heap:=s.heap.push (ge b l) }):wpAny (model prog w) A (pyIter (.ref l)) Q E s:=by
 cases b with
 | true=>exact wpAny_pyIter_list hl hQ
 | false=>exact wpAny_pyIter_tuple hl hQ
theorem SqAt.push {b:Bool} {h:Heap} {l:Addr} {items:Array Value} (x:SqAt b h l items) (o:Obj):SqAt b (h.push o) l items:=x.at λ_ q=>Heap.get?_push_of_some _ q
theorem qY {b:Bool} {h:Heap} {it l:Addr} (e:h.get? it=some (ge b l)):ItAt b h it l 0:=by
 cases b with
 | true=>exact ⟨_,e,rfl,rfl⟩
 | false=>exact ⟨_,e,rfl,rfl⟩
end
section
variable {X:Cx} {pins:List (Addr×Obj)} {σ:St} {H:Hp} {s:Shared} {h':Heap}
theorem Inv.turns {t':Nat} {ch:List Addr} (I:Inv X pins σ H s) (k:∀ b o,b ∉ ch->s.heap.get? b=some o->h'.get? b=some o) (hf:∀ b∈ch,fc X pins H b):Inv X pins σ H { s with heap:=h',toks:=t' }:=by
 have nit:∀ b u,H b=some u->b ∉ ch:=λb u e z=>by rw [(hf b z).1] at e; cases e
 refine I.step (g':=s.gens) (d':=s.drawn) (ch:=ch) (λb hb=>?_) (λb o _ _ hc e _=>k b o hc e) (λb o _ _ hc e _=>⟨o.slots,k b o hc e⟩) (λ_ _ _ _ n=>n)
  (λb o hc e=>⟨o,k b o hc e⟩) (λ_ _ e=>e) (λ_ _ _ e=>e) (λb ps e=>⟨#[],by rw [e]; simp⟩) (λm hm=>?_) (λb u e=>?_) I.bare
 ·obtain ⟨_,f1,_,f3,f4,f5⟩:=hf b hb
  exact ⟨f3,f1,f4,f5⟩
 ·obtain ⟨o,es,ep,ho,r⟩:=hm
  exact ⟨o,es,ep,k _ o (λz=>(hf _ z).2.1 rfl) ho,r⟩
 ·refine (I.hok b u e).stay (λc v hc q=>k c v ?_ q) (λ_ q=>q) λ_ _ q=>q
  rcases hc with z | z
  ·rw [z]; exact nit b u e
  ·exact nit c _ z
theorem Inv.pair {T:Addr} {x y:V} {u v:Value} (I:Inv X pins σ H s) (hT:H T=none) (ho:IsPair s.heap T u v) (r1:RelV x u) (r2:RelV y v)
  (hL:T≠X.env.locals) (hs0:X.s₀.heap.objs.size<=T) (hc:∀ x c,X.env.cells.lookup x=some c->c≠T) (hp:∀ p∈X.pn++pins,p.1≠T):Inv X pins σ (upd H T (.tup [x,y])) s:=by
 have ne:∀ {b:Addr} {o:HO},H b=some o->b≠T:=λe=>de e hT
 refine I.step (g':=s.gens) (d':=s.drawn) (t':=s.toks) (h':=s.heap) (ch:=[T]) (λb hb=>?_) (λb o _ _ _ e _=>e) (λb o _ _ _ e _=>⟨o.slots,e⟩) (λb o hb e n=>?_) (λb o _ e=>⟨o,e⟩)
  (λb xs e=>by rw [au (ne e)]; exact e) (λb o u e=>by rw [au (ne e)]; exact e) (λb ps e=>⟨#[],by rw [au (ne e),e]; simp⟩) (λm hm=>hm) (λb u e=>?_) I.bare
 ·have e:b=T:=by simpa using hb
  subst e
  exact ⟨.inr hs0,hL,hc,hp⟩
 ·have hb':b≠T:=by simpa using hb
  rw [au hb']
  exact n
 ·by_cases hb:b=T
  ·subst hb
   rw [bw] at e
   cases e
   exact ⟨by show 2<=sizeLine; decide,[_,_],.cons r1 (.cons r2 .nil),⟨_,ho,rfl,_,rfl⟩⟩
  ·rw [au hb] at e
   exact (I.hok b u e).stay (λc v _ q=>q) (λc q=>by rw [au (ne q)]; exact q) λc xs q=>by rw [au (ne q)]; exact q
end
noncomputable def cq (b:Bool) (xs:List V):HO:=match b with
 | true=>.lst xs
 | false=>.tup xs
theorem fS {P:Program} {w:World} {H:Hp} {h:Heap} (ok:HOk P w H h) {b:Bool} {a:Addr} {xs:List V} (e:H a=some (cq b xs)):∃ its:List Value,Vals xs its/\SqAt b h a its.toArray:=by
 cases b with
 | true=>obtain ⟨_,its,n,r,q⟩:=ok a _ e; exact ⟨its,r,⟨_,q,rfl,n,rfl⟩⟩
 | false=>obtain ⟨_,its,r,q⟩:=ok a _ e; exact ⟨its,r,q⟩
end L2
set_option Elab.async false
set_option linter.all false
set_option maxRecDepth 100000
namespace L2
open PySem PySem.Spec PyProof.Rows
open AutoSeq1 (wpAny_loadPart')
section
variable {X:Cx} {tg:Expr} {PK:Pk} {a b:Expr} {i j:List Sl->Tr PyData} {p pos:Pos}
theorem Zc5 {G:Hp} {v:V} {x:PyData} {xs:List PyData} (d:Dn G v x) (h:gG x=some xs):∃ b a vs,v=.ref a/\G a=some (cq b vs)/\DnAll G vs xs:=by
 cases d with
 | lst h1 h2=>cases h; exact ⟨true,_,_,rfl,h1,h2⟩
 | tup h1 h2=>cases h; exact ⟨false,_,_,rfl,h1,h2⟩
 | _=>cases h
theorem Zi0 {b:Bool} {xs ys:List V} (h:some (cq b xs)=some (cq b ys)):xs=ys:=by
 cases b <;> (cases h; rfl)
end
theorem ZdC {prog:Program} {w:World} {A:Around} (hh:A.handled=none) (b:Bool) (it l:Addr) (hne:l≠it) (items:Array Value):Draws prog w A it [it,l] items.size (λi v=>items[i]?=some v) (λi h=>ItAt b h it l i/\SqAt b h l items) where
 live:=λ_ _ st=>let ⟨o,ho,_⟩:=st.1.there; ⟨o,ho⟩
 frame:=λ_ _ _ st hk=>⟨st.1.at λo e=>hk it (by simp) o e,st.2.at λo e=>hk l (by simp) o e⟩
 item:=λi s Q E hi st hQ=>Zh0 st.1 st.2 (x:=items[i]) (by simp [hi]) λh' hit' hs'=>hQ _ h' s.toks (by simp [hi]) ⟨hit',st.2.bt hs'.extBut hne⟩ hs'
 done:=λs Q E st hE=>Zh1 hh st.1 st.2 (by simp) hE
theorem Zih (b:Bool) (l:Addr) (items:Array Value) :
  Meets (Builtin.«enumerate.__new__» ⟨[.type "enumerate",.ref l],[]⟩) (λ_ R s=>SqAt b s.heap l items /\
   R (.ok (.ret (.ref (s.heap.push (ge b l)).objs.size))) { s with heap:=(s.heap.push (ge b l)).push { cls:=.type "enumerate",data:=.fields #[.none,.bool false,.ref s.heap.objs.size,rawInt 0,.none,.none] } }) :=
 .of_wp λprog w A R s h=>by
  obtain ⟨hp,g,d,tk,os⟩:=s
  obtain ⟨hl,h⟩:=h
  have hsub:=sub_enumerate
  have q:SqAt b (Shared.heap ⟨hp,g,d,tk,os⟩) l items:=hl
  have ho:∃ ob,hp.get? l=some ob:=by
   cases b with
   | true=>obtain ⟨ob,e,_⟩:=hl; exact ⟨ob,e⟩
   | false=>obtain ⟨ob,e,_⟩:=hl; exact ⟨ob,e⟩
  obtain ⟨ob,ho⟩:=ho
  wp_walk using wpAny_loadPart' ho
  refine wpAny_stack_any λst=>wpAny_pure ?_
  split
  ·rename_i c _ _ _ _ _
   cases (c == Value.type "enumerate")
   ·wp_walk using wpAny_loadPart' ho,j9 q
    exact ⟨_,rfl,h⟩
   ·wp_walk using wpAny_loadPart' ho,j9 q
    exact ⟨_,rfl,h⟩
  ·wp_walk using wpAny_loadPart' ho,j9 q
   exact ⟨_,rfl,h⟩
section
variable {prog:Program} {w:World} {A:Around} {E:Value->Shared->Prop} {s:Shared}
theorem Znl {b:Bool} {l:Addr} {items:Array Value} {Q:Value->Shared->Prop} (hl:SqAt b s.heap l items)
  (h:∀ h',IsEnum h' (s.heap.objs.size+1) s.heap.objs.size 0 .none->ItAt b h' s.heap.objs.size l 0->(∀ c o,s.heap.get? c=some o->h'.get? c=some o)->Q (.ref (s.heap.objs.size+1)) { s with heap:=h' }) :
  wpAny (model prog w) A (call (.type "enumerate") [.ref l]) Q E s:=by
 refine callType_new F.called_enumerate (by decide) (F.typeCall_enumerate_1 _) (F.newCall_enumerate_1 _) (λobj=>F.args_object_init_2 obj _) F.entry_enumerate_new (Zih b l items) ⟨hl,?_⟩
 have n1:(s.heap.push (ge b l)).objs.size=s.heap.objs.size+1:=Heap.size_push ..
 have a2:IsEnum ((s.heap.push (ge b l)).push { cls:=.type "enumerate",data:=.fields #[.none,.bool false,.ref s.heap.objs.size,rawInt 0,.none,.none] }) (s.heap.push (ge b l)).objs.size s.heap.objs.size 0 .none:=Heap.get?_push_size _ rfl
 have a1:((s.heap.push (ge b l)).push { cls:=.type "enumerate",data:=.fields #[.none,.bool false,.ref s.heap.objs.size,rawInt 0,.none,.none] }).get? s.heap.objs.size=some (ge b l):=Heap.get?_push_of_some _ (Heap.get?_push_size _ (by cases b <;> rfl))
 rw [n1] at a2
 show _/\_
 rw [n1]
 exact ⟨⟨_,a2,rfl⟩,h _ a2 (qY a1) λc o x=>Heap.get?_push_of_some _ (Heap.get?_push_of_some _ x)⟩
end
noncomputable def iu (b:Bool) (l:Addr):It :=
 ⟨λi H=>∃ xs x,H l=some (cq b xs)/\xs[i]?=some x,
  λi H v H'=>∃ xs x p,H l=some (cq b xs)/\xs[i]?=some x/\H p=none/\v=.ref p/\H'=upd H p (.tup [.int i,x]),
  λi H=>∃ xs,H l=some (cq b xs)/\xs.length=i⟩
theorem Zfy {P:Program} {w:World} {K:PySem.W.Frag} {elts:List Expr} {x1:Nat} {pos:Pos} {b:Bool} {l:Addr} (e it:Addr) (hne:e≠it) :
  Turn P w K (.Tuple elts x1 pos) (iu b l) [e,it] e (λi h=>(∃ old,IsEnum h e it i old)/\ItAt b h it l i) where
 mem:=by simp
 obj:=λi h st c hb=>by
  obtain ⟨⟨old,he⟩,h1⟩:=st
  simp at hb
  rcases hb with rfl | rfl
  ·exact ⟨_,he,λv q=>by cases q⟩
  ·exact h1.there
 keep:=λi h h' st k=>by
  obtain ⟨⟨old,he⟩,h1⟩:=st
  exact ⟨⟨old,k _ (by simp) _ he⟩,h1.at λo q=>k _ (by simp) o q⟩
 item:=by
  intro X hP hw hK hc i pins s σ H E I hf st hg
  subst hP hw hK
  obtain ⟨xs,x,e1,hx⟩:=hg
  obtain ⟨⟨old,he⟩,h1⟩:=st
  obtain ⟨us,r1,q1⟩:=fS I.hok e1
  obtain ⟨u,hu,ru⟩:=r1.get hx
  have nl:∀ c∈[e,it],l≠c:=λc hc=>de e1 (hf c hc).1
  have hlt:i < us.toArray.size:=by
   have:=(List.getElem?_eq_some_iff.mp hu).1
   simpa using this
  refine wpAny_pyNext_enum_itemD (ZdC (A:=X.A.in1) (show X.A.in1.handled=none from I.ok.hd hc) b it l (nl it (by simp)) us.toArray) he ⟨h1,q1⟩ hlt hne (by simp only [List.mem_cons,List.not_mem_nil,or_false,not_or]; exact ⟨hne,(nl e (by simp)).symm⟩) λx' h' tk hP' ho st' hT hsz kk=>?_
  have hxu:x'=u:=by
   have q:us[i]?=some x':=by simpa using hP'
   rw [hu] at q
   cases q
   rfl
  subst hxu
  refine ⟨_,rfl,wpAny_letOwnedTupleGo_enum ho λh2' z2 sb=>?_⟩
  have lt:∀ {c:Addr} {o:Obj},s.heap.get? c=some o->s.heap.objs.size≠c:=λq=>Nat.ne_of_gt (Heap.lt_size q)
  have I1:Inv X pins σ H { s with heap:=h2',toks:=tk+1 }:=I.turns (ch:=[e,it]) (λc o hb q=>by
   simp at hb
   exact sb.extBut _ _ hb.1 (kk c o hb.1 hb.2 q)) hf
  have hTn:H s.heap.objs.size=none:=I.hok.fresh (Nat.le_refl _)
  have I2:=I1.pair (T:=s.heap.objs.size) (x:=.int i) (y:=x) hTn (sb.extBut _ _ (lt he) hT) ⟨tk,rfl⟩ ru (Nat.ne_of_gt I.lt) I.sz
   (λq cc ee hq=>by obtain ⟨vv,zz⟩:=I.cell q cc ee; exact absurd zz.lt (by rw [hq]; exact Nat.lt_irrefl _)) (λp hp hq=>absurd (Heap.lt_size (I.pin p hp).1) (by rw [hq]; exact Nat.lt_irrefl _))
  refine ⟨.ref s.heap.objs.size,_,I2,rfl,⟨xs,x,_,e1,hx,hTn,rfl,rfl⟩,⟨⟨_,z2⟩,st'.1.at λo q=>sb.extBut _ _ (Ne.symm hne) q⟩,λc hb=>?_⟩
  have hbn:c≠s.heap.objs.size:=by
   simp at hb
   obtain ⟨o1,g1,_⟩:=h1.there
   rcases hb with rfl | rfl
   ·exact (lt he).symm
   ·exact (lt g1).symm
  rw [au hbn]
  exact (hf c hb).1
 done:=by
  intro X hP hw hK hc i pins s σ H E I hf st hg
  subst hP hw hK
  obtain ⟨xs,e1,hend⟩:=hg
  obtain ⟨⟨old,he⟩,h1⟩:=st
  obtain ⟨us,r1,q1⟩:=fS I.hok e1
  have nl:∀ c∈[e,it],l≠c:=λc hc=>de e1 (hf c hc).1
  have hsz:us.toArray.size=i:=by rw [List.size_toArray,<- r1.length]; exact hend
  subst hsz
  refine wpAny_pyNext_enum_endD (ZdC (A:=X.A.in1) (show X.A.in1.handled=none from I.ok.hd hc) b it l (nl it (by simp)) us.toArray) he ⟨h1,q1⟩ λh' eb=>⟨rfl,?_⟩
  exact I.turns (ch:=[e,it]) (t':=s.toks) (λc o hb q=>by
   simp at hb
   exact eb c o hb.2 q) hf
 self:=λ_ _ _ _ _ st h=>by
  obtain ⟨⟨old,he⟩,_⟩:=st
  exact wpAny_pyIter_enum he h
section
variable {X:Cx} {tg:Expr} {PK:Pk} {a b:Expr} {i j:List Sl->Tr PyData} {p pos:Pos}
noncomputable def Zc4 (ta:TE):TI:=λσ H R=>ta σ H λx H1=>∃ b l xs,x=.ref l/\H1 l=some (cq b xs)/\R (iu b l) H1
theorem gv {elts:List Expr} {x1:Nat} {tpos:Pos} {ta:TE} (hc:X.calm=true) (hg:Gl X "enumerate") (hm:X.mg "enumerate"=none) (ha:PE X a ta)
  (hs:starEach [a] X.env=[(false,eval a X.env)]:=by rfl):PI X (.Tuple elts x1 tpos) (.Call (.Name "enumerate" p) [a] [] pos) (Zc4 ta):=by
 intro pins s σ H R I h
 have hab:PA X [a] (gS ta aW):=bx ha cB (by rw [hs]; rfl)
 have h':gS ta aW σ H λvs H1=>∃ x,vs=[x]/\∃ b l xs,x=.ref l/\H1 l=some (cq b xs)/\R (iu b l) H1:=by
  have e:(λ(x:V) (H1:Hp)=>∃ b l xs,x=.ref l/\H1 l=some (cq b xs)/\R (iu b l) H1)=λx H1=>aW σ H1 λxs H2=>∃ y,x::xs=[y]/\∃ b l xs,y=.ref l/\H2 l=some (cq b xs)/\R (iu b l) H2:=by
   funext x H1
   apply propext
   constructor
   ·exact λq=>⟨x,rfl,q⟩
   ·rintro ⟨y,e,q⟩
    have e':x=y:=by simpa using e
    subst e'
    exact q
  have h0:ta σ H λx H1=>∃ b l xs,x=.ref l/\H1 l=some (cq b xs)/\R (iu b l) H1:=h
  rw [e] at h0
  exact h0
 refine Call_ (hX I hg hm boot_enumerate (PyProof.Rows.callWith_type1 (thn (hab pos pins s σ H _ I h') λus s1 hz0=>?_) (by rw [hs]; rfl) rfl))
 obtain ⟨vs,H1,I1,r1,q1⟩:=hz0
 obtain ⟨x,rfl,b,l,xs,rfl,e1,q⟩:=q1
 obtain ⟨u,rfl,ru⟩:=eG r1
 cases ru
 obtain ⟨us,ru,q1⟩:=fS I1.hok e1
 refine Znl q1 λh' z t1 kk=>?_
 have I2:Inv X pins σ H1 { s1 with heap:=h' }:=I1.kept (t':=s1.toks) kk
 refine wpAny_pyIter_enum z ⟨s1.heap.objs.size+1,[s1.heap.objs.size+1,s1.heap.objs.size],_,_,H1,rfl,I2,Zfy _ _ (λq=>absurd (show (s1.heap.objs.size+1:Nat)=s1.heap.objs.size from q) (by omega)),⟨⟨_,z⟩,t1⟩,λc hb=>?_,q⟩
 have hle:s1.heap.objs.size<=c:=by
  simp at hb
  rcases hb with rfl | rfl <;> first | exact Nat.le_add_right _ _ | exact Nat.le_refl _
 exact I1.fpOk hle (I1.hok.fresh hle)
noncomputable def cC (xs:List PyData):List PyData:=(List.range xs.length).zipWith (λ(n:Nat) x=>.tuple [.int n,x]) xs
theorem ZiR {pa:Addr} {G:Hp} {b:Bool} {l:Addr} {us:List V} {xs:List PyData} (h1:G l=some (cq b us)) (d1:DnAll G us xs):jB PK pa (iu b l) G (cC xs):=λm G2 H2 sb w=>by
 have e1:H2 l=some (cq b us):=w.sub _ _ (sb _ _ h1)
 have hlen:(cC xs).length=xs.length:=by unfold cC; simp
 refine ⟨λn d hd=>?_,us,e1,by rw [hlen,d1.length]⟩
 have hn:n < xs.length:=by rw [<- hlen]; exact (List.getElem?_eq_some_iff.mp hd).1
 have hd':d=.tuple [.int n,xs[n]]:=by
  unfold cC at hd
  rw [List.getElem?_zipWith] at hd
  simp [hn] at hd
  exact hd.symm
 subst hd'
 obtain ⟨u,hu,du⟩:=d1.get n (show xs[n]?=some xs[n] by simp [hn])
 refine ⟨⟨us,u,e1,hu⟩,λx H3 hz0=>?_⟩
 obtain ⟨us',u',p,f1,hu',hp,ex,eH⟩:=hz0
 rw [e1] at f1
 have:=Zi0 f1
 subst us'
 rw [hu] at hu'
 cases hu'
 subst ex eH
 obtain ⟨w3,s3⟩:=w.new (o:=.tup [.int n,u]) hp
 exact ⟨_,s3,w3,.tup bw (.cons (.int n) (.cons ((du.mono sb).mono s3.gs) .nil))⟩
noncomputable def fv (i:List Sl->Tr PyData):List Sl->Tr (List PyData):=λρ=>(i ρ).bind λx=>(Tr.of (gG x)).bind λxs=>.ret (cC xs)
theorem gN {iter:Expr} (h:PI X tg iter (Zc4 (TAe PK i))):PI X tg iter (dm PK (fv i)):=h.imp λσ H R0 hz0=>by
 obtain ⟨pa,G₀,H₀,m,ρ,G,R,z⟩:=hz0
 refine TAe.then R z λm1 x v G1 H1 s1 w1 R1 d1 q1=>?_
 rw [Tr.ok_bind] at q1
 obtain ⟨xs,hx,q1⟩:=Tr.ok_of q1
 obtain ⟨b1,l1,us,rfl,e1,f1⟩:=Zc5 d1 hx
 exact ⟨b1,l1,us,rfl,w1.sub _ _ e1,q1 _ G1 H1 s1 w1 (ZiR e1 f1)⟩
end
end L2
set_option Elab.async false
set_option linter.all false
set_option maxRecDepth 100000
namespace L2
open PySem PySem.Spec PyProof.Rows
section
variable {prog:Program} {w:World} {A:Around}
theorem Zam (hh:A.handled=none) (b:Bool) (I ax:Addr) (hne:ax≠I) (items:Array Value):Walks prog w A I [I,ax] [I] items.size (λi v=>items[i]?=some v) (λi h=>ItAt b h I ax i/\SqAt b h ax items):=by
 cases b with
 | true=>exact Walks.list hh I ax hne items
 | false=>exact Walks.tuple hh I ax hne items
end
theorem rb {ns:List Int} {us:List Value} (r:Vals (ns.map V.int) us) {i:Nat} {v:Value} (h:us[i]?=some v):∃ t,v=.int ((ns[i]?).getD 0) t:=by
 have hi:i < us.length:=(List.getElem?_eq_some_iff.mp h).1
 have hl:us.length=ns.length:=by rw [<- r.length,List.length_map]
 obtain ⟨u,e1,e2⟩:=r.get (i:=i) (x:=V.int ns[i]) (by simp [show i < ns.length by omega])
 rw [h] at e1
 cases e1
 obtain ⟨t,e2⟩:=e2
 exact ⟨t,by simp [show i < ns.length by omega,e2]⟩
theorem Zha (ns:List Int):preSum (λi=>(ns[i]?).getD 0) ns.length=ns.sum:=by
 have key:∀ k,k<=ns.length->preSum (λi=>(ns[i]?).getD 0) k=(ns.take k).sum:=by
  intro k
  induction k with
  | zero=>intro _; simp [preSum]
  | succ k ih =>
   intro hk
   rw [preSum,ih (by omega),List.take_add_one,List.sum_append]
   simp [show k < ns.length by omega]
 rw [key _ (Nat.le_refl _),List.take_length]
section
variable {X:Cx} {PK:Pk}
theorem eW (hc:X.calm=true):cR X (.builtin "sum") (λxs H Q=>∃ (b:Bool) (l:Addr) (ns:List Int),xs=[.ref l]/\H l=some (cq b (ns.map V.int))/\Q (.int ns.sum) H):=by
 intro pins s σ H xs us Q I r h
 obtain ⟨b,l,ns,rfl,e1,q⟩:=h
 obtain ⟨u,rfl,ru⟩:=eG r
 cases ru
 obtain ⟨vs,rv,sq⟩:=fS I.hok e1
 have hlt:l < s.heap.objs.size:=I.hok.lt e1
 refine call_sum_walkG (j9 sq ?_)
 refine ⟨s.heap.objs.size,[s.heap.objs.size,l],[s.heap.objs.size],vs.toArray.size,_,_,λi=>(ns[i]?).getD 0,rfl,Zam (A:=X.A.in1) (I.ok.hd hc) b _ l (Nat.ne_of_lt hlt) vs.toArray,
  ⟨qY (Heap.get?_push_size _ (by cases b <;> rfl)),sq.push _⟩,λc hc=>?_,λi v hv=>rb rv (by simpa using hv),λh' tk t' hk=>?_⟩
 ·rw [Heap.size_push]
  simp at hc
  rcases hc with rfl | rfl
  ·exact Nat.lt_succ_self _
  ·exact Nat.lt_succ_of_lt hlt
 ·refine ⟨.int ns.sum,H,I.kept (t':=tk) λc o e=>hk c o (λz=>?_) (Heap.get?_push_of_some _ e),⟨t',?_⟩,q⟩
  ·have:c=s.heap.objs.size:=by simpa using z
   subst this
   exact Nat.lt_irrefl _ (Heap.lt_size e)
  ·have e:vs.toArray.size=ns.length:=by rw [List.size_toArray,<- rv.length,List.length_map]
   rw [e,Zha]
noncomputable def eN:List Int->Int
 | []=>0
 | [n]=>n
 | n::m::r=>cv (eN (m::r)) n
theorem iY:∀ {ns:List Int},ns≠[]->eN ns∈ns/\∀ m∈ns,m<=eN ns
 | [],h=>absurd rfl h
 | [n],_=>⟨by simp [eN],by simp [eN]⟩
 | n::m::r,_=>by
  obtain ⟨h1,h2⟩:=iY (ns:=m::r) (by simp)
  unfold eN cv
  split
  ·refine ⟨by simp,λk hk=>?_⟩
   rcases List.mem_cons.mp hk with rfl | hk
   ·exact Int.le_refl _
   ·have:=h2 k hk; omega
  ·refine ⟨List.mem_cons_of_mem _ h1,λk hk=>?_⟩
   rcases List.mem_cons.mp hk with rfl | hk
   ·omega
   ·exact h2 k hk
theorem Zeq (f:Nat->Int):∀ k,argBest (λi j=>decide (f i > f j)) k<=k/\∀ j,j<=k->f j<=f (argBest (λi j=>decide (f i > f j)) k)
 | 0=>⟨Nat.le_refl _,λj hj=>by
  have:j=0:=by omega
  subst this
  exact Int.le_refl _⟩
 | k+1=>by
  obtain ⟨h1,h2⟩:=Zeq f k
  unfold argBest
  by_cases hc:f (k+1) > f (argBest (λi j=>decide (f i > f j)) k)
  ·rw [if_pos (by simpa using hc)]
   refine ⟨Nat.le_refl _,λj hj=>?_⟩
   rcases Nat.lt_or_eq_of_le hj with h | h
   ·have:=h2 j (by omega); omega
   ·subst h; exact Int.le_refl _
  ·rw [if_neg (by simpa using hc)]
   refine ⟨by omega,λj hj=>?_⟩
   rcases Nat.lt_or_eq_of_le hj with h | h
   ·exact h2 j (by omega)
   ·subst h; omega
theorem Zeb (hc:X.calm=true):cR X (.builtin "max") (λxs H Q=>∃ (b:Bool) (l:Addr) (ns:List Int),xs=[.ref l]/\H l=some (cq b (ns.map V.int))/\ns≠[]/\Q (.int (eN ns)) H):=by
 intro pins s σ H xs us Q I r h
 obtain ⟨b,l,ns,rfl,e1,hne,q⟩:=h
 obtain ⟨u,rfl,ru⟩:=eG r
 cases ru
 obtain ⟨vs,rv,sq⟩:=fS I.hok e1
 have hlt:l < s.heap.objs.size:=I.hok.lt e1
 have hsz:vs.toArray.size=ns.length:=by rw [List.size_toArray,<- rv.length,List.length_map]
 have hpos:0 < ns.length:=List.length_pos_iff.mpr hne
 refine call_max_walk (j9 sq ?_)
 refine ⟨s.heap.objs.size,[s.heap.objs.size,l],[s.heap.objs.size],vs.toArray.size,_,_,λi j=>decide ((ns[i]?).getD 0 > (ns[j]?).getD 0),rfl,Zam (A:=X.A.in1) (I.ok.hd hc) b _ l (Nat.ne_of_lt hlt) vs.toArray,
  ⟨qY (Heap.get?_push_size _ (by cases b <;> rfl)),sq.push _⟩,λc hc=>?_,by omega,CmpOf.ints_gt (λi=>(ns[i]?).getD 0) (λi v hv=>rb rv (by simpa using hv)),λv h' tk hv hk=>?_⟩
 ·rw [Heap.size_push]
  simp at hc
  rcases hc with rfl | rfl
  ·exact Nat.lt_succ_self _
  ·exact Nat.lt_succ_of_lt hlt
 ·obtain ⟨t,rfl⟩:=rb rv (by rw [<- List.getElem?_toArray]; exact hv)
  obtain ⟨b1,b2⟩:=Zeq (λi=>(ns[i]?).getD 0) (vs.toArray.size - 1)
  obtain ⟨m1,m2⟩:=iY hne
  refine ⟨.int (eN ns),H,I.kept (t':=tk) λc o e=>hk c o (λz=>?_) (Heap.get?_push_of_some _ e),⟨t,?_⟩,q⟩
  ·have:c=s.heap.objs.size:=by simpa using z
   subst this
   exact Nat.lt_irrefl _ (Heap.lt_size e)
  ·congr 1
   obtain ⟨i,hi,ei⟩:=List.getElem_of_mem m1
   have h1:=b2 i (by omega)
   simp only [hi,List.getElem?_eq_getElem,Option.getD_some,ei] at h1
   have hb:argBest (λi j=>decide ((ns[i]?).getD 0 > (ns[j]?).getD 0)) (vs.toArray.size - 1) < ns.length:=by omega
   have h2:=m2 _ (List.getElem_mem hb)
   simp only [hb,List.getElem?_eq_getElem,Option.getD_some] at h1 ⊢
   omega
noncomputable def bools?:List PyData->Option (List Bool)
 | []=>some []
 | .bool n::xs=>(bools? xs).bind λns=>some (n::ns)
 | _=>none
@[simp] theorem bools?_map:∀ ns:List Bool,bools? (ns.map PyData.bool)=some ns
 | []=>rfl
 | n::ns=>by rw [List.map_cons,bools?,bools?_map ns]; rfl
noncomputable def hI {α:Type} (p:List PyData->Option α) (f:α->Option PyData):List PyData->Option PyData
 | [x]=>(gG x).bind λxs=>(p xs).bind f
 | _=>none
noncomputable def cr:List PyData->Option PyData:=hI ints? λns=>some (.int ns.sum)
noncomputable def iZ:List PyData->Option PyData:=hI ints? λns=>if (!ns.isEmpty)=true then some (.int (eN ns)) else none
theorem Zcl {α:Type} {p:List PyData->Option α} {f:α->Option PyData} {G:Hp} {vs:List V} {ds:List PyData} {d:PyData} (hv:DnAll G vs ds) (h:hI p f ds=some d):∃ b l us xs y,vs=[.ref l]/\G l=some (cq b us)/\DnAll G us xs/\p xs=some y/\f y=some d:=by
 unfold hI at h
 split at h
 ·rename_i x
  cases hx:gG x with
  | none=>rw [hx] at h; cases h
  | some xs =>
   rw [hx] at h
   have h':(p xs).bind f=some d:=h
   cases hp:p xs with
   | none=>rw [hp] at h'; cases h'
   | some y =>
    rw [hp] at h'
    cases hv with
    | cons h1 h2 =>
     cases h2
     obtain ⟨b,l,us,rfl,e1,e2⟩:=Zc5 h1 hx
     exact ⟨b,l,us,xs,y,rfl,e1,e2,hp,h'⟩
 ·cases h
theorem eF:e9 (λxs H Q=>∃ (b:Bool) (l:Addr) (ns:List Int),xs=[.ref l]/\H l=some (cq b (ns.map V.int))/\Q (.int ns.sum) H) cr:=λPK pa m G H vs ds d Q w hv hd k=>by
 obtain ⟨b,l,us,xs,ns,rfl,e1,e2,hp,hf⟩:=Zcl hv hd
 obtain ⟨rfl,rfl⟩:=e2.ints_inv hp
 cases hf
 exact ⟨b,l,ns,rfl,w.sub _ _ e1,k.here w (.int _)⟩
theorem Zaq:e9 (λxs H Q=>∃ (b:Bool) (l:Addr) (ns:List Int),xs=[.ref l]/\H l=some (cq b (ns.map V.int))/\ns≠[]/\Q (.int (eN ns)) H) iZ:=λPK pa m G H vs ds d Q w hv hd k=>by
 obtain ⟨b,l,us,xs,ns,rfl,e1,e2,hp,hf⟩:=Zcl hv hd
 obtain ⟨rfl,rfl⟩:=e2.ints_inv hp
 split at hf
 ·rename_i hc
  cases hf
  exact ⟨b,l,ns,rfl,w.sub _ _ e1,(λz=>by subst z; cases hc),k.here w (.int _)⟩
 ·cases hf
variable {a b c e:Expr} {pos:Pos} {i j l:List Sl->Tr PyData}
theorem ZiX:OpR X (inplaceOp .Mult) (rI CMulG λi j=>.int (i * j)):=gx λ_ _ _ _ _ _ _ hc q=>imul_int q hc.ok
theorem pip {op:Operator} {r:R2} (h:OpR X (inplaceOp op) r):oH X op r:=h
noncomputable def nV:PyData->PyData->Option PyData
 | .int m,.int n=>some (.int (m+n))
 | _,_=>none
theorem Zfl:cG (eJ λi j=>.int (i+j)) nV:=λPK pa m G H x y dx dy dz Q w hx hy hz k=>by
 unfold nV at hz
 split at hz
 ·cases hz; cases hx; cases hy
  exact ⟨_,_,rfl,rfl,k.here w (.int _)⟩
 ·cases hz
noncomputable def kE:PyData->PyData->Option PyData
 | .int m,.int n=>if (fit m && fit n)=true then some (.int (m * n)) else none
 | _,_=>none
theorem Zfk:cG (rI CMulG λi j=>.int (i * j)) kE:=λPK pa m G H x y dx dy dz Q w hx hy hz k=>by
 unfold kE at hz
 split at hz
 ·split at hz
  ·rename_i hc
   rw [Bool.and_eq_true] at hc
   cases hz; cases hx; cases hy
   exact ⟨_,_,rfl,rfl,⟨of_decide_eq_true hc.1,of_decide_eq_true hc.2⟩,k.here w (.int _)⟩
  ·cases hz
 ·cases hz
end
theorem ZhT {PK:Pk} {is:List Sl->Tr (List PyData)}:∀ σ H Q,TAe PK (cg is) σ H Q->fw PK is σ H Q:=by
 intro σ H Q z
 obtain ⟨pa,G₀,H₀,m,ρ,G,R,z⟩:=z
 exact ⟨pa,G₀,H₀,m,ρ,G,R,Tr.ok_mono (Tr.ok_bind.mp z) λm1 xs k=>Ko1.of k R.wd.some⟩
theorem ZeE {PK:Pk} {X:Cx} {st:Stmt} {is:List Sl->Tr (List PyData)} {i:List Sl->Tr PyData} {n k:Nat} {ix:List Nat} {g:PyData->List Sl->Option (List Sl)} (h:PS X st (dM (iC (dm PK is) n ix (λ_=>dY PK g) (λ_=>TAe PK i)) (eC k))) (hn:fb n g):PS X st (bg PK (aS k (cg (dJ is n ix g i)))) :=
 aZ (h.imp (pf λσ H Q z=>qM hn σ H Q (ZhT σ H Q z)))
end L2
set_option Elab.async false
set_option linter.all false
set_option maxRecDepth 100000
namespace L2
open PySem PySem.Spec PyProof.Rows
variable {ρ:List Sl} {s t:List Sl->Tr Ou} {i j l:List Sl->Tr PyData} {is:List Sl->Tr (List PyData)} {as:List Sl->Tr (List Sl)} {f:List Sl->Tr Re} {p q:List Sl->Tr Bool} {k n:Nat} {x y d:PyData} {xs ys:List PyData} {sl:Sl}
theorem Zjx:aa 0 (.d x::ρ)=.ret x:=rfl
theorem Zjw:aa (k+1) (sl::ρ)=aa k ρ:=rfl
theorem ZlP:aC d ρ=.ret d:=rfl
noncomputable def aQ (g:PyData->PyData->Option PyData) (x y:PyData):Tr PyData:=Tr.of (g x y)
noncomputable def Zep (g:PyData->PyData->Option PyData) (j:List Sl->Tr PyData) (ρ:List Sl) (x:PyData):Tr PyData:=(j ρ).bind (aQ g x)
theorem Zlr {g:PyData->PyData->Option PyData}:ad g i j ρ=(i ρ).bind (Zep g j ρ):=rfl
theorem Zlq {g:PyData->PyData->Option PyData}:Zep g j ρ x=(j ρ).bind (aQ g x):=rfl
theorem ZlH (m n:Int):aQ aO (.int m) (.int n)=.ret (.int (m+n)):=rfl
theorem rG (h1:xs.isEmpty=false) (h2:small (xs.length+ys.length)=true):aQ aO (.tuple xs) (.tuple ys)=.ret (.tuple (xs++ys)):=by
 simp [aQ,aO,h1,h2]
theorem rH (h2:small (xs.length+ys.length)=true):aQ aO (.list xs) (.list ys)=.ret (.list (xs++ys)):=by
 simp [aQ,aO,h2]
theorem ZjG (m n:Int):aQ bI (.int m) (.int n)=.ret (.int (m - n)):=rfl
theorem Zkv {m n:Int} (h1:fit m=true) (h2:fit n=true):aQ bz (.int m) (.int n)=.ret (.int (m * n)):=by
 simp [aQ,bz,h1,h2]
theorem rF {m n:Int} (h1:n≠0) (h2:fit n=true):aQ gJ (.int m) (.int n)=.ret (.int (m.fdiv n)):=by
 simp [aQ,gJ,h1,h2]
theorem rD {m n:Int} (h1:n≠0):aQ gA (.int m) (.int n)=.ret (.int (m.fmod n)):=by
 simp [aQ,gA,h1]
theorem Zll {g:Int->Int->Bool} (m n:Int):aQ (cO g) (.int m) (.int n)=.ret (.bool (g m n)):=rfl
theorem Zk9 (m n:Int):aQ ii (.int m) (.int n)=.ret (.bool (m == n)):=rfl
theorem Zku (m n:Str):aQ kh (.str m) (.str n)=.ret (.bool (!(m == n))):=rfl
theorem Zdm (n:Int):aQ aE (.list xs) (.int n)=Tr.of (bf xs n):=rfl
theorem dR (n:Int):aQ aE (.tuple xs) (.int n)=Tr.of (bf xs n):=rfl
theorem jp {α:Type} {xs:List α} {n:Int} {v:α} (h0:0<=n) (h:xs[n.toNat]?=some v):bf xs n=some v:=by
 have e:(n.toNat:Int)=n:=Int.toNat_of_nonneg h0
 rw [<- e]
 exact fq h
section
variable {α:Type} {a0 a1 a2 a3 a4 a5 a6 a7 a8:α} {r:List α}
theorem kP:bf (a0::r) 0=some a0:=fq (j:=0) rfl
theorem sw:bf (a0::a1::r) 1=some a1:=fq (j:=1) rfl
theorem su:bf (a0::a1::a2::r) 2=some a2:=fq (j:=2) rfl
theorem ZeB:bf (a0::a1::a2::a3::r) 3=some a3:=fq (j:=3) rfl
theorem ZeA:bf (a0::a1::a2::a3::a4::r) 4=some a4:=fq (j:=4) rfl
theorem Zez:bf (a0::a1::a2::a3::a4::a5::r) 5=some a5:=fq (j:=5) rfl
theorem Zey:bf (a0::a1::a2::a3::a4::a5::a6::r) 6=some a6:=fq (j:=6) rfl
theorem Zex:bf (a0::a1::a2::a3::a4::a5::a6::a7::r) 7=some a7:=fq (j:=7) rfl
theorem Zew:bf (a0::a1::a2::a3::a4::a5::a6::a7::a8::r) 8=some a8:=fq (j:=8) rfl
end
noncomputable def Zcq:PyData->Tr PyData
 | .int n=>.ret (.int (-n))
 | _=>.fail
theorem Zkt:gh i ρ=(i ρ).bind Zcq:=by
 unfold gh
 refine congrArg (Tr.bind (i ρ)) (funext λx=>?_)
 cases x <;> rfl
theorem Zks (n:Int):Zcq (.int n)=.ret (.int (-n)):=rfl
noncomputable def ZaB (x:PyData):Tr Bool:=Tr.of (lD x)
theorem ZjF:ce i ρ=(i ρ).bind ZaB:=rfl
theorem ZjB (b:Bool):ZaB (.bool b)=.ret b:=rfl
noncomputable def o8 (x:PyData):Tr Bool:=Tr.of (ZaC x)
theorem ZjE:kU i ρ=(i ρ).bind o8:=rfl
theorem ZjD (b:Bool):o8 (.bool b)=.ret b:=rfl
theorem ZjC (n:Int):o8 (.int n)=.ret (n != 0):=rfl
noncomputable def sC (q:List Sl->Tr Bool) (ρ:List Sl) (b:Bool):Tr Bool:=if b=true then q ρ else .ret false
noncomputable def qh (q:List Sl->Tr Bool) (ρ:List Sl) (b:Bool):Tr Bool:=if b=true then .ret true else q ρ
noncomputable def Zco (b:Bool):Tr Bool:=.ret (!b)
theorem ZlD:sR p q ρ=(p ρ).bind (sC q ρ):=rfl
theorem Zkn:oy p q ρ=(p ρ).bind (qh q ρ):=rfl
theorem Zkq:oz p ρ=(p ρ).bind Zco:=rfl
theorem ZlB:sC q ρ true=q ρ:=rfl
theorem ZlC:sC q ρ false=.ret false:=rfl
theorem Zkl:qh q ρ true=.ret true:=rfl
theorem Zkm:qh q ρ false=q ρ:=rfl
theorem Zkp (b:Bool):Zco b=.ret (!b):=rfl
noncomputable def rg (i j:List Sl->Tr PyData) (ρ:List Sl) (b:Bool):Tr PyData:=if b=true then i ρ else j ρ
theorem Zk2:sN p i j ρ=(p ρ).bind (rg i j ρ):=rfl
theorem Zk0:rg i j ρ true=i ρ:=rfl
theorem Zk1:rg i j ρ false=j ρ:=rfl
noncomputable def rX (x:PyData) (xs:List PyData):Tr (List PyData):=.ret (x::xs)
noncomputable def Zd3 (is:List Sl->Tr (List PyData)) (ρ:List Sl) (x:PyData):Tr (List PyData):=(is ρ).bind (rX x)
theorem Zkr:al ρ=.ret []:=rfl
theorem Zlk:ae i is ρ=(i ρ).bind (Zd3 is ρ):=rfl
theorem Zlj:Zd3 is ρ x=(is ρ).bind (rX x):=rfl
theorem Zli:rX x xs=.ret (x::xs):=rfl
noncomputable def o7 (xs:List PyData):Tr PyData:=if small xs.length=true then .ret (.tuple xs) else .fail
theorem ZjA:cb is ρ=(is ρ).bind o7:=rfl
theorem Zjz (h:small xs.length=true):o7 xs=.ret (.tuple xs):=by unfold o7; rw [if_pos h]
noncomputable def ZcF (xs:List PyData):Tr PyData:=.ret (.list xs)
theorem ZkB:cg is ρ=(is ρ).bind ZcF:=rfl
theorem ZkA:ZcF xs=.ret (.list xs):=rfl
noncomputable def qF (xs:List PyData):Tr (List PyData):=if small xs.length=true then .ret xs else .fail
theorem ZkD:eE is ρ=(is ρ).bind qF:=rfl
theorem ZkC (h:small xs.length=true):qF xs=.ret xs:=by unfold qF; rw [if_pos h]
theorem ck {n:Nat} (h:n<=10000):small n=true:=decide_eq_true (Nat.le_trans h (by decide))
noncomputable def bF (g:List PyData->Option PyData) (xs:List PyData):Tr PyData:=Tr.of (g xs)
theorem Zlm {g:List PyData->Option PyData}:ba g is ρ=(is ρ).bind (bF g):=rfl
theorem ZkE:bF cK [.list xs]=.ret (.int xs.length):=rfl
theorem ig:bF cK [.tuple xs]=.ret (.int xs.length):=rfl
theorem ZlI (n:Int):bF jt [.int n]=.ret (.int (ox n)):=rfl
theorem Zky (m n:Int):bF gC [.int m,.int n]=.ret (.int (cv m n)):=rfl
theorem Zkw (m n:Int):bF kl [.int m,.int n]=.ret (.int (fh m n)):=rfl
theorem ZkR (b:Bool):bF nU [.bool b]=.ret (.int (if b then 1 else 0)):=rfl
theorem Zjy:bF gQ [.list xs]=.ret (.tuple xs):=rfl
theorem n5 (ns:List Int):bF cr [.list (ns.map .int)]=.ret (.int ns.sum):=by
 unfold bF cr hI
 simp
theorem n4 (ns:List Int):bF cr [.tuple (ns.map .int)]=.ret (.int ns.sum):=by
 unfold bF cr hI
 simp
noncomputable def d8 (x:PyData) (lo:Option Int) (hi:Option Int):Tr PyData:=Tr.of (Za0 x lo hi)
noncomputable def cV (q:fu) (ρ:List Sl) (x:PyData) (lo:Option Int):Tr PyData:=(q ρ).bind (d8 x lo)
noncomputable def sl1 (p q:fu) (ρ:List Sl) (x:PyData):Tr PyData:=(p ρ).bind (cV q ρ x)
theorem ZjJ {p q:fu}:dH i p q ρ=(i ρ).bind (sl1 p q ρ):=rfl
theorem ZjI {p q:fu}:sl1 p q ρ x=(p ρ).bind (cV q ρ x):=rfl
theorem ZjH {q:fu} {lo:Option Int}:cV q ρ x lo=(q ρ).bind (d8 x lo):=rfl
theorem Zki:dI ρ=.ret none:=rfl
noncomputable def pa1:PyData->Tr (Option Int)
 | .int n=>.ret (some n)
 | _=>.fail
theorem Zkh:di i ρ=(i ρ).bind pa1:=by
 unfold di
 refine congrArg (Tr.bind (i ρ)) (funext λx=>?_)
 cases x <;> rfl
theorem Zkg (n:Int):pa1 (.int n)=.ret (some n):=rfl
noncomputable def nD (xs:List PyData):Tr (List PyData):=Tr.of (jY xs)
theorem Zkz:sM is ρ=(is ρ).bind nD:=rfl
theorem Zdl {lo hi:Int} (h:mz lo hi=true):nD [.int lo,.int hi]=.ret (aV lo hi):=by
 simp [nD,jY,h]
theorem ZlL:ay ρ=.ret []:=rfl
noncomputable def kT (x:Sl) (xs:List Sl):Tr (List Sl):=.ret (x::xs)
noncomputable def aa1 (as:List Sl->Tr (List Sl)) (ρ:List Sl) (x:PyData):Tr (List Sl):=(as ρ).bind (kT (.d x))
theorem ZlM:af i as ρ=(i ρ).bind (aa1 as ρ):=rfl
theorem ZlO:aa1 as ρ x=(as ρ).bind (kT (.d x)):=rfl
theorem ZlN {xs:List Sl}:kT sl xs=.ret (sl::xs):=rfl
noncomputable def iU:Nat->List Sl->Tr Unit
 | 0,.pen::_=>.ret ()
 | k+1,_::ρ=>iU k ρ
 | _,_=>.fail
theorem Zkd:iU 0 (.pen::ρ)=.ret ():=rfl
theorem Zkc:iU (k+1) (sl::ρ)=iU k ρ:=rfl
noncomputable def aap (as:List Sl->Tr (List Sl)) (ρ:List Sl) (_:Unit):Tr (List Sl):=(as ρ).bind (kT .pen)
theorem ZlK:bZ k as ρ=(iU k ρ).bind (aap as ρ):=by
 have key:∀ (k:Nat) (σ:List Sl) (as:List Sl->Tr (List Sl)) (ρ:List Sl),(match σ[k]? with | some Sl.pen=>(as ρ).bind λxs=>Tr.ret (Sl.pen::xs) | _=>Tr.fail)=(iU k σ).bind (aap as ρ):=by
  intro k
  induction k with
  | zero =>
   intro σ as ρ
   cases σ with
   | nil=>rfl
   | cons s r=>cases s <;> rfl
  | succ k ih =>
   intro σ as ρ
   cases σ with
   | nil=>rfl
   | cons s r=>exact ih r as ρ
 exact key k ρ as ρ
theorem ZlJ (u:Unit):aap as ρ u=(as ρ).bind (kT .pen):=rfl
theorem Zln:aH f as ρ=(as ρ).bind f:=rfl
noncomputable def re1 (r:Re):Tr PyData:=.ret r.val
theorem Zkb:aG f ρ=(f ρ).bind re1:=rfl
theorem Zka (r:Re):re1 r=.ret r.val:=rfl
theorem Zlh {as:List Sl} (h:as.length=n):bp n k s as=(s (as++List.replicate k .un)).bind nY:=by
 unfold bp
 rw [if_pos (decide_eq_true h)]
theorem Zk8:nY (.next ρ)=.ret (.d .none):=rfl
theorem Zk7 (r:Re):nY (.ret r)=.ret r:=rfl
noncomputable def pD (t:List Sl->Tr Ou):Ou->Tr Ou
 | .next ρ=>t ρ
 | o=>.ret o
theorem Zdk:ao s t ρ=(s ρ).bind (pD t):=by
 unfold ao
 refine congrArg (Tr.bind (s ρ)) (funext λo=>?_)
 cases o <;> rfl
theorem ZjT:pD t (.next ρ)=t ρ:=rfl
theorem ZjS (r:Re):pD t (.ret r)=.ret (.ret r):=rfl
theorem ZjK:dh ρ=.ret (.next ρ):=rfl
noncomputable def rc (s t:List Sl->Tr Ou) (ρ:List Sl) (b:Bool):Tr Ou:=if b=true then s ρ else t ρ
theorem ZkV:dk p s t ρ=(p ρ).bind (rc s t ρ):=rfl
theorem ZkT:rc s t ρ true=s ρ:=rfl
theorem ZkU:rc s t ρ false=t ρ:=rfl
noncomputable def Zbp (x:PyData):Tr Ou:=.ret (.ret (.d x))
theorem Zj9:bX i ρ=(i ρ).bind Zbp:=rfl
theorem Zj8:Zbp x=.ret (.ret (.d x)):=rfl
noncomputable def Zbo (r:Re):Tr Ou:=.ret (.ret r)
theorem Zj7:kY f ρ=(f ρ).bind Zbo:=rfl
theorem Zj6 (r:Re):Zbo r=.ret (.ret r):=rfl
theorem Zj5:eD 0 (.d x::ρ)=.ret (.ret (.d x)):=rfl
theorem Zj4:eD 0 (.own xs::ρ)=.ret (.ret (.own xs)):=rfl
theorem Zj3:eD (k+1) (sl::ρ)=eD k ρ:=rfl
noncomputable def lM (k:Nat) (ρ:List Sl) (x:PyData):Tr Ou:=.ret (.next (ρ.set k (.d x)))
theorem ZjR:aS k i ρ=(i ρ).bind (lM k ρ):=rfl
theorem ZjQ:lM k ρ x=.ret (.next (ρ.set k (.d x))):=rfl
noncomputable def Zba (k:Nat) (ρ:List Sl) (x:List PyData):Tr Ou:=.ret (.next (ρ.set k (.own x)))
theorem ZjP:gO k is ρ=(is ρ).bind (Zba k ρ):=rfl
theorem ZjO:Zba k ρ xs=.ret (.next (ρ.set k (.own xs))):=rfl
theorem Zin {α:Type} {a b:α} {r:List α}:(a::r).set 0 b=b::r:=rfl
theorem Zim {α:Type} {a b:α} {r:List α}:(a::r).set (k+1) b=a::r.set k b:=rfl
noncomputable def sj (g:PyData->PyData->Option PyData) (k:Nat) (ρ:List Sl) (x y:PyData):Tr Ou:=(aQ g x y).bind (lM k ρ)
noncomputable def Zet (g:PyData->PyData->Option PyData) (k:Nat) (i:List Sl->Tr PyData) (ρ:List Sl) (x:PyData):Tr Ou:=(i ρ).bind (sj g k ρ x)
theorem Zlv {g:PyData->PyData->Option PyData}:lg g k i ρ=(aa k ρ).bind (Zet g k i ρ):=rfl
theorem Zlu {g:PyData->PyData->Option PyData}:Zet g k i ρ x=(i ρ).bind (sj g k ρ x):=rfl
theorem Zlt {g:PyData->PyData->Option PyData}:sj g k ρ x y=(aQ g x y).bind (lM k ρ):=rfl
theorem Zk3 (m n:Int):aQ nV (.int m) (.int n)=.ret (.int (m+n)):=rfl
theorem ZkS {m n:Int} (h1:fit m=true) (h2:fit n=true):aQ kE (.int m) (.int n)=.ret (.int (m * n)):=by
 simp [aQ,kE,h1,h2]
noncomputable def fZ:Nat->List Sl->Tr (List PyData)
 | 0,.own xs::_=>.ret xs
 | k+1,_::ρ=>fZ k ρ
 | _,_=>.fail
theorem Zkk:fZ 0 (.own xs::ρ)=.ret xs:=rfl
theorem Zkj:fZ (k+1) (sl::ρ)=fZ k ρ:=rfl
theorem mT {β:Type} {g:List PyData->Tr β}:∀ (k:Nat) (σ:List Sl),(match σ[k]? with | some (Sl.own xs)=>g xs | _=>Tr.fail)=(fZ k σ).bind g
 | 0,[]=>rfl
 | 0,s::r=>by cases s <;> rfl
 | k+1,[]=>rfl
 | k+1,s::r=>mT k r
noncomputable def ou (k:Nat) (ρ:List Sl) (xs:List PyData) (x:PyData):Tr Ou:=if small (xs.length+1)=true then .ret (.next (ρ.set k (.own (xs++[x])))) else .fail
noncomputable def ZeM (k:Nat) (i:List Sl->Tr PyData) (ρ:List Sl) (xs:List PyData):Tr Ou:=(i ρ).bind (ou k ρ xs)
theorem ZlA:jw k i ρ=(fZ k ρ).bind (ZeM k i ρ):=mT k ρ
theorem Zlz:ZeM k i ρ xs=(i ρ).bind (ou k ρ xs):=rfl
theorem Zly (h:small (xs.length+1)=true):ou k ρ xs x=.ret (.next (ρ.set k (.own (xs++[x])))):=by unfold ou; rw [if_pos h]
noncomputable def Zbn (k:Nat) (ρ:List Sl) (xs:List PyData):Tr Ou:=.ret (.next (ρ.set k (.own xs.reverse)))
theorem Zj2:kX k ρ=(fZ k ρ).bind (Zbn k ρ):=mT k ρ
theorem Zj1:Zbn k ρ xs=.ret (.next (ρ.set k (.own xs.reverse))):=rfl
theorem Zk4:la k s ρ=s (fz k ρ):=rfl
theorem Zjo:fz 0 (.own xs::ρ)=.d (.list xs)::ρ:=rfl
theorem Zjp:fz (k+1) (sl::ρ)=sl::fz k ρ:=by
 unfold fz
 rw [List.getElem?_cons_succ]
 cases h:ρ[k]? with
 | none=>rfl
 | some s=>cases s <;> rfl
noncomputable def qu (ρ:List Sl):Tr Ou:=.ret (.next ρ)
noncomputable def ZeC (g:PyData->List Sl->Option (List Sl)) (ρ:List Sl) (x:PyData):Tr Ou:=(Tr.of (g x ρ)).bind qu
theorem Zlx {g:PyData->List Sl->Option (List Sl)}:iq g i ρ=(i ρ).bind (ZeC g ρ):=rfl
theorem Zlw {g:PyData->List Sl->Option (List Sl)}:ZeC g ρ x=(Tr.of (g x ρ)).bind qu:=rfl
theorem Zko:qu ρ=.ret (.next ρ):=rfl
theorem Zjc:ai k x ρ=some (ρ.set k (.d x)):=rfl
theorem Zja {gs:List PyData->List Sl->Option (List Sl)}:bv gs (.tuple xs) ρ=gs xs ρ:=rfl
theorem Zjd:br [] ρ=some ρ:=rfl
theorem Zje {g:PyData->List Sl->Option (List Sl)} {gs:List PyData->List Sl->Option (List Sl)}:av g gs (x::xs) ρ=(g x ρ).bind (gs xs):=rfl
theorem Zjb {α β:Type} {a:α} {g:α->Option β}:(some a).bind g=g a:=rfl
noncomputable def Zce (k n:Nat) (ρ:List Sl):List PyData->Tr Ou
 | [x,y]=>.ret (.next ((ρ.set k (.d x)).set n (.d y)))
 | _=>.fail
theorem Zkf:ip k n is ρ=(is ρ).bind (Zce k n ρ):=by
 unfold ip
 refine congrArg (Tr.bind (is ρ)) (funext λxs=>?_)
 match xs with
 | []=>rfl
 | [_]=>rfl
 | [_,_]=>rfl
 | _::_::_::_=>rfl
theorem Zke:Zce k n ρ [x,y]=.ret (.next ((ρ.set k (.d x)).set n (.d y))):=rfl
noncomputable def fK (x:PyData):Tr (List PyData):=Tr.of (gG x)
theorem ZkQ:e8 i ρ=(i ρ).bind fK:=rfl
theorem ZkP:fK (.list xs)=.ret xs:=rfl
theorem ZkO:fK (.tuple xs)=.ret xs:=rfl
noncomputable def d9 (xs:List PyData):Tr (List PyData):=Tr.of (iP xs)
noncomputable def iQ (xs:List PyData):Tr (List PyData):=Tr.of (iO xs)
theorem ZjY:gg is ρ=(is ρ).bind d9:=rfl
theorem ZjX:ju is ρ=(is ρ).bind iQ:=rfl
theorem c7 {n:Int} (h1:-1000000000000<=n) (h2:n<=1000000000000):dB n=true:=decide_eq_true (by omega)
theorem gK {n:Int} (h:dB n=true):d9 [.int n]=.ret (aV 0 n):=by
 simp [d9,iP,h]
theorem n6 {m n:Int} (h1:dB m=true) (h2:dB n=true):iQ [.int m,.int n]=.ret (aV m n):=by
 simp [iQ,iO,h1,h2]
noncomputable def rJ (xs:List PyData):Tr (List PyData):=.ret (cC xs)
noncomputable def Zdq (x:PyData):Tr (List PyData):=(fK x).bind rJ
theorem Zla:fv i ρ=(i ρ).bind Zdq:=rfl
theorem Zlc:Zdq x=(fK x).bind rJ:=rfl
theorem Zlb:rJ xs=.ret (cC xs):=rfl
noncomputable def Zde (g:PyData->List Sl->Option (List Sl)) (s:List Sl->Tr Ou) (ρ:List Sl) (xs:List PyData):Tr Ou:=bW g s xs ρ
theorem Zk6 {g:PyData->List Sl->Option (List Sl)}:c9 is g s ρ=(is ρ).bind (Zde g s ρ):=rfl
theorem Zk5 {g:PyData->List Sl->Option (List Sl)}:Zde g s ρ xs=bW g s xs ρ:=rfl
noncomputable def rA (g:PyData->List Sl->Option (List Sl)) (s:List Sl->Tr Ou) (xs:List PyData):Ou->Tr Ou
 | .next ρ=>bW g s xs ρ
 | .cont ρ=>bW g s xs ρ
 | .brk ρ=>.ret (.next ρ)
 | .ret r=>.ret (.ret r)
noncomputable def kG (g:PyData->List Sl->Option (List Sl)) (s:List Sl->Tr Ou) (xs:List PyData) (ρ:List Sl):Tr Ou:=(s ρ).bind (rA g s xs)
theorem Zdb {g:PyData->List Sl->Option (List Sl)}:bW g s [] ρ=.ret (.next ρ):=rfl
theorem dg {g:PyData->List Sl->Option (List Sl)}:bW g s (x::xs) ρ=(Tr.of (g x ρ)).bind (kG g s xs):=by
 rw [bW]
 refine congrArg (Tr.bind (Tr.of (g x ρ))) (funext λρ1=>?_)
 unfold kG
 refine congrArg (Tr.bind (s ρ1)) (funext λo=>?_)
 cases o <;> rfl
theorem eP {g:PyData->List Sl->Option (List Sl)}:kG g s xs ρ=(s ρ).bind (rA g s xs):=rfl
theorem dS {g:PyData->List Sl->Option (List Sl)}:rA g s xs (.next ρ)=bW g s xs ρ:=rfl
noncomputable def dO (g:PyData->List Sl->Option (List Sl)) (el:List Sl->Tr PyData) (τ:List Sl) (x:PyData):Tr PyData:=(Tr.of (g x τ)).bind el
noncomputable def qO (n:Nat) (ix:List Nat) (g:PyData->List Sl->Option (List Sl)) (el:List Sl->Tr PyData) (ρ:List Sl) (xs:List PyData):Tr (List PyData):=if small xs.length=true then bL (dO g el (blk n ix ρ)) xs else .fail
theorem ZkK {ix:List Nat} {g:PyData->List Sl->Option (List Sl)}:dJ is n ix g i ρ=(is ρ).bind (qO n ix g i ρ):=rfl
theorem ZkJ {ix:List Nat} {g:PyData->List Sl->Option (List Sl)} (h:small xs.length=true):qO n ix g i ρ xs=bL (dO g i (blk n ix ρ)) xs:=by unfold qO; rw [if_pos h]
theorem ZkI {τ:List Sl} {g:PyData->List Sl->Option (List Sl)}:dO g i τ x=(Tr.of (g x τ)).bind i:=rfl
theorem Zcy {h:PyData->Tr PyData} {n:Nat} {P:PyData->Prop}:∀ {xs:List PyData},(∀ x∈xs,(h x).all n P)->(bL h xs).all (xs.length * n) λys=>ys.length=xs.length/\∀ y∈ys,P y
 | [],_=>⟨rfl,λy hy=>by cases hy⟩
 | x::xs,hx=>by
  have e:(x::xs).length * n=n+(xs.length * n+0):=by rw [List.length_cons,Nat.succ_mul]; omega
  rw [e,bL]
  refine Tr.all_bind (hx x (by simp)) λy hy=>Tr.all_bind (Zcy λz hz=>hx z (List.mem_cons_of_mem _ hz)) λys hys=>?_
  exact ⟨by simp [hys.1],λz hz=>by
   rcases List.mem_cons.mp hz with rfl | hz
   ·exact hy
   ·exact hys.2 z hz⟩
theorem Zdd {g:PyData->List Sl->Option (List Sl)} {n:Nat} (I:List PyData->List Sl->Prop) {Q:Ou->Prop} :
  ∀ {xs pre:List PyData} {ρ:List Sl},I pre ρ->(∀ pre x post ρ,pre++x::post=pre++x::post->I pre ρ->x∈xs->∃ ρ1,g x ρ=some ρ1/\(s ρ1).all n λo=>∃ ρ2,o=.next ρ2/\I (pre++[x]) ρ2)->(∀ ρ,I (pre++xs) ρ->Q (.next ρ))->(bW g s xs ρ).all (xs.length * n) Q
 | [],pre,ρ,h0,_,hq=>hq ρ (by rw [List.append_nil]; exact h0)
 | x::xs,pre,ρ,h0,ht,hq=>by
  obtain ⟨ρ1,e,ha⟩:=ht pre x xs ρ rfl h0 (by simp)
  have en:(x::xs).length * n=n+xs.length * n:=by rw [List.length_cons,Nat.succ_mul]; omega
  rw [en,dg,e,Tr.of_some,Tr.ret_bind]
  unfold kG
  refine Tr.all_bind ha λo ⟨ρ2,eo,h2⟩=>?_
  subst eo
  rw [dS]
  exact Zdd I h2 (λpre y post ρ e h hy=>ht pre y post ρ e h (List.mem_cons_of_mem _ hy)) (λρ h=>hq ρ (by rw [List.append_assoc] at h; exact h))
theorem Zmg {α:Type} {w:Int} {k:Int->Tr α} {n:Nat} {P:α->Prop} (h1:0 < w) (h2:w < 1073741824) (h:∀ r,0<=r->r < w->(k r).all n P):(Tr.draw w k).all (n+1) P:=⟨h1,h2,h⟩
theorem pick {α:Type} {xs:List α} {r:Int} (h0:0<=r) (h1:r < xs.length):∃ v,bf xs r=some v/\v∈xs:=by
 have h:r.toNat < xs.length:=by omega
 exact ⟨xs[r.toNat],jp h0 (by simp [h]),List.getElem_mem h⟩
theorem ZcJ {α:Type} {xs:List α} (h:xs.length=7):∃ a b c d e f g,xs=[a,b,c,d,e,f,g]:=by
 rcases xs with _ | ⟨a,_ | ⟨b,_ | ⟨c,_ | ⟨d,_ | ⟨e,_ | ⟨f,_ | ⟨g,_ | ⟨k,xs⟩⟩⟩⟩⟩⟩⟩⟩
 ·cases h
 ·cases h
 ·cases h
 ·cases h
 ·cases h
 ·cases h
 ·cases h
 ·exact ⟨a,b,c,d,e,f,g,rfl⟩
 ·exact absurd h (by simp)
end L2
namespace L2
open PySem
@[irreducible] noncomputable def Al {α:Type} (t:Tr α) (n:Nat) (P:α->Prop):Prop:=t.all n P
section
variable {α β:Type} {t:Tr α} {n n' N:Nat} {P:α->Prop} {P':β->Prop}
theorem Al.of (h:t.all n P):Al t n P:=by unfold Al; exact h
theorem Al.out (h:Al t n P):t.all n P:=by unfold Al at h; exact h
theorem cT {a:α} (h:P a):Al (.ret a) n P:=.of h
theorem cU {w:Int} {k:Int->Tr α} (h1:0 < w) (h2:w < 1073741824) (hN:n+1<=N) (h:∀ r,0<=r->r < w->Al (k r) n P):Al (.draw w k) N P:=.of (Tr.all_mono (Zmg h1 h2 λr a b=>(h r a b).out) hN λ_ h=>h)
theorem ft {f:α->Tr β} (h:Al t n P) (hN:n+n'<=N) (hf:∀ a,P a->Al (f a) n' P'):Al (t.bind f) N P':=.of (Tr.all_mono (Tr.all_bind h.out λa ha=>(hf a ha).out) hN λ_ h=>h)
theorem Zn5 {Q:α->Prop} (h:Al t n P) (hN:n<=N) (hq:∀ a,P a->Q a):Al t N Q:=.of (Tr.all_mono h.out hN hq)
theorem ZeO {g:PyData->List Sl->Option (List Sl)} {s:List Sl->Tr Ou} {xs:List PyData} {ρ:List Sl} {Q:Ou->Prop} (I:List Sl->Prop) (h0:I ρ) (hN:xs.length * n<=N) (ht:∀ x ρ,x∈xs->I ρ->∃ ρ1,g x ρ=some ρ1/\Al (s ρ1) n λo=>∃ ρ2,o=.next ρ2/\I ρ2) (hq:∀ ρ,I ρ->Q (.next ρ)):Al (bW g s xs ρ) N Q :=
 .of (Tr.all_mono (Zdd (λ_ ρ=>I ρ) (pre:=[]) h0 (λpre x post ρ _ h hx=>let ⟨ρ1,e,a⟩:=ht x ρ hx h; ⟨ρ1,e,a.out⟩) λρ h=>hq ρ h) hN λ_ h=>h)
theorem sD {h:PyData->Tr PyData} {P:PyData->Prop} {xs:List PyData} {Q:List PyData->Prop} (hN:xs.length * n<=N) (hx:∀ x∈xs,Al (h x) n P) (hq:∀ ys,ys.length=xs.length->(∀ y∈ys,P y)->Q ys):Al (bL h xs) N Q :=
 .of (Tr.all_mono (Zcy λx m=>(hx x m).out) hN λys ⟨a,b⟩=>hq ys a b)
end
noncomputable def ic (lo hi:Int) (x:PyData):Prop:=∃ z:Int,x=.int z/\lo<=z/\z<=hi
theorem q9 {lo hi:Int}:∀ {xs:List PyData},(∀ x∈xs,ic lo hi x)->∃ ns:List Int,xs=ns.map PyData.int/\∀ n∈ns,lo<=n/\n<=hi
 | [],_=>⟨[],rfl,λn hn=>by cases hn⟩
 | x::xs,h=>by
  obtain ⟨ns,e,hn⟩:=q9 (xs:=xs) λy hy=>h y (List.mem_cons_of_mem _ hy)
  obtain ⟨z,rfl,h1,h2⟩:=h x (by simp)
  exact ⟨z::ns,by rw [e]; rfl,λn hn'=>by
   rcases List.mem_cons.mp hn' with rfl | hn'
   ·exact ⟨h1,h2⟩
   ·exact hn n hn'⟩
theorem cX {lo hi:Int}:(aV lo hi).length=(hi - lo).toNat:=by unfold aV; rw [List.length_map,gu]
theorem qa {xs:List PyData} {lo hi r:Int} (h:∀ x∈xs,ic lo hi x) (h0:0<=r) (h1:r < xs.length):∃ z:Int,bf xs r=some (.int z)/\lo<=z/\z<=hi:=by
 obtain ⟨v,e,m⟩:=pick h0 h1
 obtain ⟨z,rfl,a,b⟩:=h v m
 exact ⟨z,e,a,b⟩
end L2
set_option Elab.async false
set_option linter.all false
set_option maxRecDepth 100000
namespace L2
open PySem PySem.Spec PyProof.Rows
variable {PK:Pk} {X:Cx} {a b c e:Expr} {es:List Expr} {pos:Pos} {i j l:List Sl->Tr PyData} {is:List Sl->Tr (List PyData)} {p q:List Sl->Tr Bool} {st:Stmt}
end L2
set_option Elab.async false
set_option linter.all false
set_option maxRecDepth 100000
namespace L2
open PySem PySem.Spec PyProof.Rows
variable {PK:Pk} {X:Cx} {a b c e:Expr} {es:List Expr} {pos:Pos} {i j l:List Sl->Tr PyData} {as:List Sl->Tr (List Sl)}
variable {ρ:List Sl} {k:Nat} {xs:List PyData} {x:PyData} {sl:Sl} {f:List Sl->Tr Re}
end L2
set_option Elab.async false
set_option linter.all false
set_option maxRecDepth 100000
namespace L2
open PySem PySem.Spec PyProof.Rows
theorem Zm4 {prog:Program} {w:World} {A:Around} {R:Result->Shared->Prop} {s:Shared} {elt target iter cnd:Expr} {scope:Scope} {pos:Pos} {it acc:Value} {env:Env} (J:Nat->Shared->Prop)
  (step:∀ k s0,J k s0->wpAny (model prog w) A (pyNext it) (λgot s1=>match got with
   | none=>R (.ok .next) s1
   | some v=>wpAny (model prog w) A (letOwnedTupleGo target it v) (λ_ s2=>wpAny (model prog w) A (assign target env v) (λ_ s3=>wpAny (model prog w) A (isTrue cnd env (eval cnd env)) (λok s3'=>if ok=true then wpAny (model prog w) A (eval elt env) (λy s4 =>
     wpAny (model prog w) A (call (.builtin "list.append") [acc,y]) (λ_ s5=>∃ j,j < k/\J j s5) (λ_ _=>False) s4) (λ_ _=>False) s3' else ∃ j,j < k/\J j s3') (λ_ _=>False) s3) (λ_ _=>False) s2) (λ_ _=>False) s1) (λ_ _=>False) s0)
  (k:Nat) (h:J k s):codeAny (model prog w) A (.compLoop (.ListComp elt [⟨target,iter,[cnd],0⟩] scope pos) 0 it acc env) R s:=by
 refine codeAny_loop rfl J (λk0 s0 hJ=>?_) k h
 show wpAny _ _ ((compTurn (.ListComp elt [⟨target,iter,[cnd],0⟩] scope pos) 0 it acc env).onRaise (λx=>do noteFrame x env; theTreesLotGoes x)) _ _ s0
 apply wpAny_noted
 rw [compTurn_list]
 refine wpAny_bind (wpAny_standAt (wpAny_bind (wpAny_mono (step k0 s0 hJ) (λgot s1 h1=>?_) λ_ _ z=>z.elim)))
 cases got with
 | none=>exact wpAny_pure h1
 | some v =>
  refine wpAny_bind (wpAny_mono h1 (λ_ s2 h2=>?_) λ_ _ z=>z.elim)
  refine wpAny_bind (wpAny_mono h2 (λ_ s3 h3=>?_) λ_ _ z=>z.elim)
  refine wpAny_bind (wpAny_mono (wpAny_tests_one h3) (λok s3' h3'=>?_) λ_ _ z=>z.elim)
  cases ok with
  | false=>exact wpAny_pure ⟨rfl,h3'⟩
  | true =>
   refine wpAny_bind (wpAny_bind (wpAny_mono h3' (λy s4 h4=>?_) λ_ _ z=>z.elim))
   exact wpAny_bind (wpAny_mono h4 (λ_ s5 h5=>wpAny_pure (wpAny_pure ⟨rfl,h5⟩)) λ_ _ z=>z.elim)
noncomputable def o9 (wi:TI) (n:Nat) (ix:List Nat) (g:Blk->TG) (tc:Blk->TT) (te:Blk->TE):TE:=λσ H Q=>wi σ H λJ H1=>∀ b:Blk,∃ W:Nat->Nat->St->List V->Hp->Prop,(∃ m,W 0 m (cL n ix σ) [] H1)/\∀ i m τ ys H2,W i m τ ys H2 ->
 (J.stop i H2/\∀ p v H',H2 p=none->v=V.ref p->H'=upd H2 p (.lst ys)->Q v H') \/
 (J.go i H2/\ys.length < sizeLine/\∀ x H3,J.yld i H2 x H3->g b x τ H3 λτ2 H4=>tc b τ2 H4 λok H4'=>if ok=true then te b τ2 H4' λy H5=>∃ m',m' < m/\W (i+1) m' τ2 (ys++[y]) H5 else ∃ m',m' < m/\W (i+1) m' τ2 ys H4')
section
variable {X:Cx} {pins:List (Addr×Obj)} {σ:St} {H:Hp} {s:Shared}
theorem Ziw {elt target iter cnd:Expr} {scope:Scope} {pos:Pos} {Nx ts:List Str} {ix:List Nat} {g:Blk->TG} {tc:Blk->TT} {te:Blk->TE} {cl:List (Str×Addr)} {s2:Shared} {itv:Value} {R:Value->Addr->Result->Shared->Prop}
  {E:Value->Shared->Prop} {Q:VK}
  (hc:X.calm=true) (hg:∀ b,PG (aY X (bN Nx ts ix) scope b) target (g b)) (hcn:∀ b,PT (aY X (bN Nx ts ix) scope b) cnd (tc b)) (he:∀ b,PE (aY X (bN Nx ts ix) scope b) elt (te b))
  (hNx:X.N=Nx) (ok:BlkOk Nx X.env.scope scope ix) (cl1:∀ x c,cl.lookup x=some c->X.env.cells.lookup x=some c) (cl2:∀ y∈scope.names,y.2=.free->∃ c,cl.lookup y.1=some c)
  (h2:li X pins σ target (λJ H1=>∀ b:Blk,∃ W:Nat->Nat->St->List V->Hp->Prop,(∃ m,W 0 m (cL ts.length ix σ) [] H1)/\∀ i m τ ys H2,W i m τ ys H2 ->
   (J.stop i H2/\∀ p v H',H2 p=none->v=V.ref p->H'=upd H2 p (.lst ys)->Q v H') \/
   (J.go i H2/\ys.length < sizeLine/\∀ x H3,J.yld i H2 x H3->g b x τ H3 λτ2 H4=>tc b τ2 H4 λok H4'=>if ok=true then te b τ2 H4' λy H5=>∃ m',m' < m/\W (i+1) m' τ2 (ys++[y]) H5 else ∃ m',m' < m/\W (i+1) m' τ2 ys H4')) itv s2)
  (hR:∀ (D C:Addr) (H':Hp) (s':Shared) (v:V),Inv X pins σ H' s'->v=.ref D->Q v H'->(∃ m,s'.heap.Ns C m)->H' C=none->C≠X.env.locals->X.s₀.heap.objs.size<=C->(∀ x c,X.env.cells.lookup x=some c->c≠C)->(∀ p∈X.pn++pins,p.1≠C) ->
   R (.ref D) C (.ok .next) s') :
  wpAny (model X.prog X.w) X.A (newList []) (λacc s₃=>wpAny (model X.prog X.w) X.A (newFunctionEnv scope X.env.globals cl [] X.env.qual none .none (some X.env)) (λcenv s₄ =>
   codeAny (model X.prog X.w) X.A (.compStart (.ListComp elt [⟨target,iter,[cnd],0⟩] scope pos) 0 itv acc { cenv with scope:=relabel scope X.env }) (R acc cenv.locals) s₄) E s₃) E s2:=by
 obtain ⟨it,fp,tn,J,H1,e,I2,T,st2,f2,q2⟩:=h2
 subst e
 refine wpAny_newObj_type (oX ?_)
 dsimp only
 generalize hG:s2.heap.push { cls:=.type "list",dict:=none,data:=.seq ([]:List Value).toArray }=G
 have hGs:G.objs.size=s2.heap.objs.size+1:=by rw [<- hG,Heap.size_push]
 have hfs:∀ b∈fp,b < s2.heap.objs.size:=λb hb=>let ⟨o,e,_⟩:=T.obj _ _ st2 b hb; Heap.lt_size e
 have kpG:∀ b o,G.get? b=some o->(pushCells (G.push { cls:=.type "dict",data:=.dict #[] }) scope.names).get? b=some o:=λb o e=>pushCells_keeps _ _ _ _ (Heap.get?_push_of_some _ e)
 have hns3:(pushCells (G.push { cls:=.type "dict",data:=.dict #[] }) scope.names).Ns G.objs.size (λ_=>none):=(Heap.Ns.new G (.type "dict")).keeps (pushCells_keeps _ _)
 obtain ⟨sp1,sp2,sp4,sp3⟩:=rY scope.names (G.push { cls:=.type "dict",data:=.dict #[] }) cl
 rw [Heap.size_push] at sp1 sp2 sp3 sp4
 generalize hh3:pushCells (G.push { cls:=.type "dict",data:=.dict #[] }) scope.names=h3 at kpG hns3 sp1 ⊢
 have kp:∀ b o,s2.heap.get? b=some o->h3.get? b=some o:=λb o e=>kpG b o (by rw [<- hG]; exact Heap.get?_push_of_some _ e)
 have hD3:h3.get? s2.heap.objs.size=some { cls:=.type "list",data:=.seq ([]:List Value).toArray }:=kpG _ _ (by rw [<- hG]; exact Heap.get?_push_size _ rfl)
 have clB:∀ x c,cl.lookup x=some c->c < G.objs.size+1:=λx c e=>by
  obtain ⟨v,q⟩:=I2.cell x c (cl1 x c e)
  exact Nat.lt_succ_of_lt (Nat.lt_of_lt_of_le q.lt (by rw [hGs]; exact Nat.le_succ _))
 have csI:=sp3 clB λx y c e1 e2=>I2.ok.inj x y c (cl1 x c e1) (cl1 y c e2)
 have cs1:∀ x c,(cellsFrom (G.objs.size+1) scope.names cl).lookup x=some c->X.env.cells.lookup x=some c\/(G.objs.size < c/\h3.IsCell c none/\(x,NameKind.cell)∈scope.names):=λx c e=>by
  rcases sp1 x c e with z | ⟨z1,z2,z3⟩
  ·exact .inl (cl1 x c z)
  ·exact .inr ⟨by omega,z2,z3⟩
 have cs2:∀ y∈scope.names,(y.2=.free\/y.2=.cell)->∃ c,(cellsFrom (G.objs.size+1) scope.names cl).lookup y.1=some c:=λy hy hk=>by
  refine sp2 y.1 ?_
  rcases hk with z | z
  ·exact .inr (cl2 y hy z)
  ·exact .inl (by rw [<- z]; exact hy)
 have csA:∀ x c,(x,NameKind.cell)∈scope.names->(cellsFrom (G.objs.size+1) scope.names cl).lookup x=some c->G.objs.size<=c:=λx c e1 e2=>Nat.le_of_succ_le (sp4 x c e1 e2)
 generalize hcs:cellsFrom (G.objs.size+1) scope.names cl=cs at csI cs1 cs2 csA ⊢
 generalize hCe:G.objs.size=C at hns3 cs1 csA ⊢
 have hC:s2.heap.objs.size<=C:=by omega
 have hDC:s2.heap.objs.size≠C:=by omega
 let B:Blk:=⟨cs,C,s2,H1,fp,X.pn++pins⟩
 have I3:Inv (aY X (bN Nx ts ix) scope B) [] (cL ts.length ix σ) H1 { s2 with heap:=h3 }:=qZ I2 hNx ok cs1 csI cs2 csA f2 hfs hC kp hns3
 have fC:H1 s2.heap.objs.size=none:=I2.hok.fresh (Nat.le_refl _)
 have cellIn:∀ x c,cs.lookup x=some c->c≠s2.heap.objs.size:=λx c e=>by
  rcases cs1 x c e with z | ⟨z,_,_⟩
  ·obtain ⟨v,q⟩:=I2.cell x c z
   exact Nat.ne_of_lt q.lt
  ·exact Nat.ne_of_gt (Nat.lt_of_le_of_lt hC z)
 have pinIn:∀ p∈X.pn++pins,p.1 < s2.heap.objs.size:=λp hp=>Heap.lt_size (I2.pin p hp).1
 have nofrs:s2.heap.objs.size ∉ frs X.stack:=λhb=>by
  rcases List.mem_cons.mp (I2.stkSub _ hb) with z | z
  ·exact absurd I2.lt (by rw [<- z]; exact Nat.lt_irrefl _)
  ·exact I2.nofs (Nat.le_refl _) z
 -- a state with the list at its place,pinned
 have pinD:∀ {τ:St} {H':Hp} {s':Shared} {ob:Obj},Inv (aY X (bN Nx ts ix) scope B) [] τ H' s'->s'.heap.get? s2.heap.objs.size=some ob->H' s2.heap.objs.size=none->(∀ v,ob.data≠.cell v)->Inv (aY X (bN Nx ts ix) scope B) [(s2.heap.objs.size,ob)] τ H' s' :=
  λ{τ H' s' ob} I' ho hn hd=>I'.pins_of λp hp=>by
   have e:p=(s2.heap.objs.size,ob):=by simpa using hp
   subst e
   exact ⟨ho,hn,hDC,nofrs,hd⟩
 obtain ⟨W,⟨m0,w0⟩,turn⟩:=q2 B
 have stat:∀ {H':Hp} {ob:Obj},(∀ b∈fp,H' b=none)->∀ b∈fp,fc (aY X (bN Nx ts ix) scope B) [(s2.heap.objs.size,ob)] H' b:=λ{H' ob} hn b hb=>by
  refine ⟨hn b hb,Nat.ne_of_lt (Nat.lt_of_lt_of_le (hfs b hb) hC),λz=>?_,.inl hb,λx c e=>by
   rcases cs1 x c e with z | ⟨z,_,_⟩
   ·exact (f2 b hb).2.2.2.2.1 x c z
   ·exact Nat.ne_of_gt (Nat.lt_of_lt_of_le (hfs b hb) (Nat.le_trans hC (Nat.le_of_lt z))),λp hp=>?_⟩
  ·rcases List.mem_cons.mp (I2.stkSub _ z) with q | q
   ·exact (f2 b hb).2.1 q
   ·exact (f2 b hb).2.2.1 q
  ·rcases List.mem_append.mp hp with z | z
   ·exact (f2 b hb).2.2.2.2.2 p z
   ·have e:p=(s2.heap.objs.size,ob):=by simpa using z
    subst e
    exact Nat.ne_of_gt (hfs b hb)
 have loop:∀ s4:Shared,s4={ s2 with heap:=h3 } ->
   codeAny (model X.prog X.w) X.A (.compLoop (.ListComp elt [⟨target,iter,[cnd],0⟩] scope pos) 0 (.ref it) (.ref s2.heap.objs.size) (compEnvC scope cs C X.env)) (R (.ref s2.heap.objs.size) C) s4:=by
  rintro s4 rfl
  refine Zm4 (λk s'=>∃ i τ ys its n H',Inv (aY X (bN Nx ts ix) scope B) [(s2.heap.objs.size,({ cls:=.type "list",data:=.seq (List.toArray its) n }:Obj))] τ H' s'/\tn i s'.heap/\(∀ b∈fp,H' b=none)/\Vals ys its/\ys.length<=sizeLine/\W i k τ ys H') ?_ m0
   ⟨0,_,[],[],_,H1,pinD I3 hD3 fC (λv z=>by cases z),T.keep _ _ _ st2 λb hb o e=>kp b o e,λb hb=>(f2 b hb).1,.nil,Nat.zero_le _,w0⟩
  rintro k s5 ⟨i,τ,ys,its,n,H5,I5,st5,fr5,rv,hz,w5⟩
  rcases turn i k τ ys H5 w5 with ⟨stop,qn⟩ | ⟨go,hlt,step⟩
  ·refine thn (T.done (aY X (bN Nx ts ix) scope B) rfl rfl rfl hc i _ s5 τ H5 _ I5 (stat fr5) st5 stop) λgot s6 hz0=>?_
   obtain ⟨hr,I6⟩:=hz0
   subst hr
   obtain ⟨ho,hn,_,_,_⟩:=I6.pin (s2.heap.objs.size,({ cls:=.type "list",data:=.seq (List.toArray its) n }:Obj)) (List.mem_append_right _ (by simp))
   have I7:Inv X pins σ H5 s6:=I2.call' (ch:=fp) (H':=H5) (by exact I6.os) I6.base I6.hok I6.bare λb hb=>⟨(f2 b hb).2.2.2.1,(f2 b hb).2.1,(f2 b hb).2.2.2.2.1,(f2 b hb).2.2.2.2.2⟩
   have hs0:X.s₀.heap.objs.size<=s2.heap.objs.size:=I2.sz
   have I8:=I7.track hn ho rv hz (Nat.ne_of_gt I2.lt) hs0 (λx c e z=>by
    obtain ⟨v,q⟩:=I2.cell x c e
    exact absurd q.lt (by rw [z]; exact Nat.lt_irrefl _)) (λp hp=>Nat.ne_of_lt (pinIn p hp))
   obtain ⟨m6,hm6,_⟩:=I6.loc
   refine hR _ C _ s6 _ I8 rfl (qn _ _ _ hn rfl rfl) ⟨m6,hm6⟩ ?_ (λz=>?_) (Nat.le_trans hs0 hC) (λx c e z=>?_) λp hp=>Nat.ne_of_lt (Nat.lt_of_lt_of_le (pinIn p hp) hC)
   ·rw [au (Ne.symm hDC)]
    exact I6.free
   ·exact absurd (Nat.lt_of_lt_of_le I2.lt hC) (by rw [z]; exact Nat.lt_irrefl _)
   ·obtain ⟨v,q⟩:=I2.cell x c e
    exact absurd (Nat.lt_of_lt_of_le q.lt hC) (by rw [z]; exact Nat.lt_irrefl _)
  ·refine thn (T.item (aY X (bN Nx ts ix) scope B) rfl rfl rfl hc i _ s5 τ H5 _ I5 (stat fr5) st5 go) λgot s6 hz0=>?_
   obtain ⟨u,hr,h6⟩:=hz0
   subst hr
   refine thn h6 λ_ s7 hz0=>?_
   obtain ⟨x,H7,I7,r7,y7,st7,fr7⟩:=hz0
   have I7':=I7.pinned (stat fr7) (T.obj _ _ st7)
   refine thn (hg B _ s7 τ H7 x u _ I7' r7 (step x H7 y7)) λ_ s8 hz0=>?_
   obtain ⟨τ8,H8,I8,q8⟩:=hz0
   refine thn (hcn B _ s8 τ8 H8 _ I8 q8) λokk s8' hz0=>?_
   obtain ⟨H8',I8',q8'⟩:=hz0
   cases okk with
   | false =>
    obtain ⟨m',hm',w9⟩:=q8'
    obtain ⟨ho,hn,_,_,_⟩:=I8'.pin (s2.heap.objs.size,({ cls:=.type "list",data:=.seq (List.toArray its) n }:Obj)) (List.mem_append_right _ (List.mem_append_left _ (by simp)))
    have I9':Inv (aY X (bN Nx ts ix) scope B) [] τ8 H8' s8':=I8'.pins_of λp hp=>absurd hp (by simp)
    refine ⟨m',hm',i+1,τ8,ys,its,n,H8',pinD I9' ho hn (λv z=>by cases z),?_,λb hb=>?_,rv,hz,w9⟩
    ·refine T.keep _ _ _ st7 λb hb o e=>?_
     exact (I8'.pin (b,o) (List.mem_append_right _ (List.mem_append_right _ (fG hb e)))).1
    ·obtain ⟨o,e,d⟩:=T.obj _ _ st7 b hb
     exact (I8'.pin (b,o) (List.mem_append_right _ (List.mem_append_right _ (fG hb e)))).2.1
   | true =>
   refine thn (he B _ s8' τ8 H8' _ I8' q8') λy s9 hz0=>?_
   obtain ⟨vy,H9,I9,r9,m',hm',w9⟩:=hz0
   obtain ⟨ho,hn,_,_,_⟩:=I9.pin (s2.heap.objs.size,({ cls:=.type "list",data:=.seq (List.toArray its) n }:Obj)) (List.mem_append_right _ (List.mem_append_left _ (by simp)))
   have lenv:=rv.length
   refine wpAny_list_append_plain (l:=s2.heap.objs.size) ⟨n,ho⟩ (λh' hpl hsb=>?_) (by rw [List.size_toArray]; omega)
   obtain ⟨n',ho'⟩:=hpl
   have eobj:(its.toArray.push y)=List.toArray (its++[y]):=by simp
   rw [eobj] at ho'
   have I9':Inv (aY X (bN Nx ts ix) scope B) [] τ8 H9 s9:=I9.pins_of λp hp=>absurd hp (by simp)
   have I10:Inv (aY X (bN Nx ts ix) scope B) [] τ8 H9 { s9 with heap:=h' }:=I9'.turned (it:=s2.heap.objs.size) (t':=s9.toks) (λb o hb e=>(hsb.2 b hb).trans e) hn hDC (.inr (Nat.le_refl _)) cellIn (λp hp=>by
    have hp':p∈(X.pn++pins)++[]:=hp
    rw [List.append_nil] at hp'
    exact Nat.ne_of_lt (pinIn p hp'))
   refine ⟨m',hm',i+1,τ8,ys++[vy],its++[y],n',H9,pinD I10 ho' hn (λv z=>by cases z),?_,λb hb=>?_,rv.append (.cons r9 .nil),by rw [List.length_append]; show ys.length+1<=_; omega,w9⟩
   ·refine T.keep _ _ _ st7 λb hb o e=>?_
    have q:=(I9.pin (b,o) (List.mem_append_right _ (List.mem_append_right _ (fG hb e)))).1
    exact (hsb.2 b (Nat.ne_of_lt (hfs b hb))).trans q
   ·obtain ⟨o,e,d⟩:=T.obj _ _ st7 b hb
    exact (I9.pin (b,o) (List.mem_append_right _ (List.mem_append_right _ (fG hb e)))).2.1
 exact codeAny_compStart_list (loop _ rfl) (T.self X.A 0 _ _ _ (T.keep _ _ _ st2 λb hb o e=>kp b o e) (loop _ rfl))
theorem qc {elt target iter cnd:Expr} {scope:Scope} {pos:Pos} {wi:TI} {g:Blk->TG} {tc:Blk->TT} {te:Blk->TE} (Nx:List Str) (ts:List Str) (ix:List Nat)
  (hc:X.calm=true) (hi:PI X target iter wi) (hg:∀ b,PG (aY X (bN Nx ts ix) scope b) target (g b)) (hcn:∀ b,PT (aY X (bN Nx ts ix) scope b) cnd (tc b)) (he:∀ b,PE (aY X (bN Nx ts ix) scope b) elt (te b))
  (hNx:X.N=Nx) (ok:BlkOk Nx X.env.scope scope ix) (hs:∀ x,foldedSetIterable iter X.env x=pure x:=by intro _; rfl) :
  PE X (.ListComp elt [⟨target,iter,[cnd],0⟩] scope pos) (o9 wi ts.length ix g tc te):=by
 intro pins s σ H Q I h
 obtain ⟨cl,hcl,cl1,cl2⟩:=kL (scope:=scope) (env:=X.env) λy hy hf=>I.ok.has y.1 (ok.frees y hy hf)
 rw [eval_ListComp]
 refine wpAny_comprehension_free (use:=none) rfl hs hcl ok.kind ok.locs (thn (hi pins s σ H _ I h) λv s1 h1=>thn h1 λitv s2 h2=>?_)
 refine Ziw (R:=λacc C=>compPost (model X.prog X.w) X.A X.xe none (EP X pins σ Q) acc C) hc hg hcn he hNx ok cl1 cl2 h2 ?_
 rintro D C H' s' v I' rfl q ⟨m,hm⟩ hn hL h0 hcl' hp
 exact ⟨m,hm,λh' hsb=>⟨.ref D,H',I'.turned (it:=C) (t':=s'.toks) (λb o hb e=>(hsb.2 b hb).trans e) hn hL (.inr h0) hcl' hp,rfl,q⟩⟩
end
section
variable {PK:Pk} {X:Cx} {e:Expr} {st:Stmt} {i:List Sl->Tr PyData} {is:List Sl->Tr (List PyData)} {p:List Sl->Tr Bool}
noncomputable def km (y:Option PyData) (ys:List PyData):Tr (List PyData):=.ret (match y with
 | some y=>y::ys
 | none=>ys)
noncomputable def c6 (h:PyData->Tr (Option PyData)):List PyData->Tr (List PyData)
 | []=>.ret []
 | x::xs=>(h x).bind λy=>(c6 h xs).bind (km y)
noncomputable def jd (p:List Sl->Tr Bool) (i:List Sl->Tr PyData) (τ:List Sl):Tr (Option PyData):=(p τ).bind λok=>if ok=true then (i τ).bind λy=>.ret (some y) else .ret none
noncomputable def jv (is:List Sl->Tr (List PyData)) (n:Nat) (ix:List Nat) (g:PyData->List Sl->Option (List Sl)) (p:List Sl->Tr Bool) (el:List Sl->Tr PyData):List Sl->Tr (List PyData):=λρ =>
 (is ρ).bind λxs=>if small xs.length=true then c6 (λx=>(Tr.of (g x (blk n ix ρ))).bind (jd p el)) xs else .fail
theorem Ziv {n:Nat} {ix:List Nat} {g:PyData->List Sl->Option (List Sl)} (hn:fb n g):∀ σ H Q,fw PK (jv is n ix g p i) σ H Q->o9 (dm PK is) n ix (λ_=>dY PK g) (λ_=>TAt PK p) (λ_=>TAe PK i) σ H Q:=by
 rintro σ H Q ⟨pa,G₀,H₀,m,ρ,G,R,z⟩
 refine ⟨pa,G₀,H₀,m,ρ,G,R,Tr.ok_mono (Tr.ok_bind.mp z) λm1 xs k J G1 H1 s1 w1 jo=>λB=>?_⟩
 obtain ⟨hs,k⟩:=dA k
 have hs:xs.length<=sizeLine:=of_decide_eq_true hs
 let el:PyData->Tr (Option PyData):=λx=>(Tr.of (g x (blk n ix ρ))).bind (jd p i)
 let W:Nat->Nat->St->List V->Hp->Prop:=λk mm τ ys H2=>mm=xs.length - k/\k<=xs.length/\ys.length<=k/\∃ m G2 ds,Sub G1 G2/\Stp pa G H G2 H2/\Rl PK pa G₀ H₀ m τ (blk n ix ρ) G2 H2 /\
  DnAll G2 ys ds/\(c6 el (xs.drop k)).ok m λm' zs=>Ko1 PK pa m' G H (ds++zs) Q
 refine ⟨W,⟨xs.length,rfl,Nat.zero_le _,Nat.le_refl _,m1,G1,[],.refl,s1,(R.step s1 w1).blk n ix,.nil,k⟩,?_⟩
 rintro k mm τ ys H2 ⟨rfl,hk,hy,m2,G2,ds,sb,st2,R2,dn,k2⟩
 obtain ⟨j1,j2⟩:=jo m2 G2 H2 sb R2.wd
 by_cases hlt:k < xs.length
 ·have hx:xs[k]?=some xs[k]:=by simp [hlt]
  obtain ⟨jg,jy⟩:=j1 k _ hx
  refine .inr ⟨jg,by omega,λx H3 y=>?_⟩
  obtain ⟨G3,s3,w3,d3⟩:=jy x H3 y
  rw [List.drop_eq_getElem_cons hlt] at k2
  unfold c6 at k2
  rw [Tr.ok_bind,Tr.ok_bind] at k2
  obtain ⟨ρ3,hg3,k3⟩:=Tr.ok_of k2
  refine ⟨pa,G₀,H₀,m2,_,G3,_,ρ3,R2.step s3 w3,d3,hg3,λτ4 R4=>?_⟩
  obtain ⟨pl,pk⟩:=hn _ _ _ hg3
  have hback:∀ (q:Nat) (sl:Sl),(blk n ix ρ)[q]?=some sl->sl=.un\/ρ3[q]?=some sl:=λq sl hq=>by
   by_cases hqn:q < n
   ·left
    unfold blk at hq
    rw [List.getElem?_append_left (by simpa using hqn),List.getElem?_replicate,if_pos hqn] at hq
    cases hq
    rfl
   ·right
    rw [pk q (Nat.le_of_not_lt hqn)]
    exact hq
  unfold jd at k3
  rw [Tr.ok_bind] at k3
  refine ⟨pa,G₀,H₀,m2,ρ3,G3,R4,Tr.ok_mono k3 λm4 ok k4 G4 H4 s4 w4=>?_⟩
  have R4':=R4.step s4 w4
  have s34:=s3.trans s4 w3.some
  cases ok with
  | false =>
   have k4':((c6 el (xs.drop (k+1))).bind (km none)).ok m4 λm' zs=>Ko1 PK pa m' G H (ds++zs) Q:=k4
   refine ⟨xs.length - (k+1),by omega,rfl,hlt,by omega,m4,G4,ds,sb.trans s34.gs,st2.trans s34 R2.wd.some,R4'.weak pl hback,DnAll.mono s34.gs dn,?_⟩
   exact Tr.ok_mono (Tr.ok_bind.mp k4') λm6 zs k6=>k6
  | true =>
   have k4':((i ρ3).bind λy=>.ret (some y)).ok m4 λm' y=>((c6 el (xs.drop (k+1))).bind (km y)).ok m' λm' zs=>Ko1 PK pa m' G H (ds++zs) Q:=k4
   rw [Tr.ok_bind] at k4'
   refine ⟨pa,G₀,H₀,m4,ρ3,G4,R4',Tr.ok_mono k4' λm5 yd k5=>?_⟩
   intro v G5 H5 s5 w5 d5
   have s35:=s34.trans s5 w4.some
   refine ⟨xs.length - (k+1),by omega,rfl,hlt,by rw [List.length_append]; show ys.length+1<=_; omega,m5,G5,ds++[yd],sb.trans s35.gs,st2.trans s35 R2.wd.some,(R4'.step s5 w5).weak pl hback,(DnAll.mono s35.gs dn).snoc d5,?_⟩
   have k5':((c6 el (xs.drop (k+1))).bind (km (some yd))).ok m5 λm' zs=>Ko1 PK pa m' G H (ds++zs) Q:=k5
   refine Tr.ok_mono (Tr.ok_bind.mp k5') λm6 zs k6=>?_
   rw [List.append_assoc]
   exact k6
 ·have e:k=xs.length:=by omega
  subst e
  refine .inl ⟨j2,λp v H' hp ev eH=>?_⟩
  subst ev eH
  rw [List.drop_length] at k2
  have k2':Ko1 PK pa m2 G H (ds++[]) Q:=k2
  rw [List.append_nil] at k2'
  exact (Ko1.later k2' st2 R2.wd.some).new R2.wd dn hp
theorem sB {n:Nat} {ix:List Nat} {g:PyData->List Sl->Option (List Sl)} (h:PE X e (o9 (dm PK is) n ix (λ_=>dY PK g) (λ_=>TAt PK p) (λ_=>TAe PK i))) (hn:fb n g):PE X e (fw PK (jv is n ix g p i)):=h.imp (Ziv hn)
end
end L2
set_option Elab.async false
set_option linter.all false
set_option maxRecDepth 100000
namespace L2
open PySem PySem.Spec PyProof.Rows
section
variable {X:Cx}
theorem Zh7 (x:Int) (t:Tok) (l:Addr) (items:Array Value) (n:Nat) (dd:Option Addr) (sl:Array (Option Value)) (h1:x<=0) (h2:-1000<=x) (h3:items.isEmpty=false) :
  Meets (Builtin.«tuple.__mul__» ⟨[.ref l,.int x t],[]⟩) (λ_ R s=>s.heap.get? l=some { cls:=.type "tuple",dict:=dd,data:=.seq items n,slots:=sl } /\
   R (.ok (.ret (.ref s.heap.objs.size))) { s with heap:=s.heap.push { cls:=.type "tuple",data:=.seq #[] } }):=by
 refine .of_wp λprog w A R s h=>?_
 obtain ⟨hp,g,d,tk,os⟩:=s
 obtain ⟨hl,h⟩:=h
 wp_walk
 refine wpAny_ite_split (λz=>absurd z (by simp; omega)) (λ_=>?_)
 refine wpAny_bind ?_
 unfold Builtin.Tuple.tupleItemsOf
 refine wpAny_bind (wpAny_seqItems hl rfl (wpAny_pure ?_))
 refine wpAny_ite_split (λz=>absurd z (by rw [h3]; simp; omega)) (λ_=>?_)
 refine wpAny_ite_split (λ_=>?_) (λz=>absurd (by simp; exact .inl h1) z)
 unfold Builtin.Tuple.tupleExact
 exact wpAny_bind (wpAny_newObj_type (wpAny_pure ⟨_,rfl,h⟩) (by size_fits))
theorem Zh6 (t:Tok) (l:Addr) (items:Array Value) (n:Nat) (dd:Option Addr) (sl:Array (Option Value)) :
  Meets (Builtin.«tuple.__mul__» ⟨[.ref l,.int 1 t],[]⟩) (λ_ R s=>s.heap.get? l=some { cls:=.type "tuple",dict:=dd,data:=.seq items n,slots:=sl }/\R (.ok (.ret (.ref l))) s):=by
 refine .of_wp λprog w A R s h=>?_
 obtain ⟨hp,g,d,tk,os⟩:=s
 obtain ⟨hl,h⟩:=h
 wp_walk
 exact ⟨_,rfl,h⟩
noncomputable def ZbD (K:PySem.W.Frag):R2:=λx y H Q=>∃ a k xs,x=.ref a/\y=.int k/\SqT K H a xs/\k<=0/\-1000<=k/\xs≠[]/\∀ p,H p=none->Q (.ref p) (upd H p (.tup []))
noncomputable def ZbC (K:PySem.W.Frag):R2:=λx y H Q=>∃ a xs,x=.ref a/\y=.int 1/\SqT K H a xs/\Q (.ref a) H
theorem ZhC:OpR X (binaryOp .Mult) (ZbD X.K):=by
 intro pins s σ H x y v u Q I rx ry h
 obtain ⟨a,k,xs,rfl,rfl,hq,h1,h2,hne,q⟩:=h
 cases rx
 obtain ⟨t,rfl⟩:=ry
 obtain ⟨its,rv,p,hz⟩:=I.tuple hq
 obtain ⟨o,ho,hc,n,hd⟩:=p
 obtain ⟨oc,od,odd,osl⟩:=o
 have hc':oc=.type "tuple":=hc
 have hd':odd=.seq its.toArray n:=hd
 subst hc' hd'
 have hemp:its.toArray.isEmpty=false:=by
  cases its with
  | nil=>cases rv; exact absurd rfl hne
  | cons i r=>rfl
 refine wpAny_binaryOp_repeat_ref (T:="tuple") (U:="int") (by decide) ⟨_,ho,rfl⟩ (λs'=>typeIs_int s' k t) qx PySem.F.fills_int_mul PySem.F.slot_int_rmul pO PySem.F.slot_int_index.lookup ?_
 refine call_meets PySem.F.slot_int_rmul (typeIs_int s k t) PySem.F.entry_int_rmul (PySem.F.args_int_rmul_2 _ _) (pN k t a its.toArray n od osl) ⟨ho,rfl,⟨_,ho,rfl⟩,?_⟩
 refine call_meets PySem.F.slot_tuple_mul ⟨_,ho,rfl⟩ PySem.F.entry_tuple_mul (PySem.F.args_tuple_mul_2 _ _) (Zh7 k t a its.toArray n od osl h1 h2 hemp) ⟨ho,?_⟩
 exact ⟨.ref s.heap.objs.size,_,I.laid (t':=s.toks) (λb o e=>Heap.get?_push_of_some _ e) (Nat.le_refl _) (show ObjOk X.prog X.w _ _ _ (.tup []) from ⟨Nat.zero_le _,[],.nil,IsTup.new _ _⟩),rfl,q _ (I.hok.fresh (Nat.le_refl _))⟩
theorem ZhB:OpR X (binaryOp .Mult) (ZbC X.K):=by
 intro pins s σ H x y v u Q I rx ry h
 obtain ⟨a,xs,rfl,rfl,hq,q⟩:=h
 cases rx
 obtain ⟨t,rfl⟩:=ry
 obtain ⟨its,rv,p,hz⟩:=I.tuple hq
 obtain ⟨o,ho,hc,n,hd⟩:=p
 obtain ⟨oc,od,odd,osl⟩:=o
 have hc':oc=.type "tuple":=hc
 have hd':odd=.seq its.toArray n:=hd
 subst hc' hd'
 refine wpAny_binaryOp_repeat_ref (T:="tuple") (U:="int") (by decide) ⟨_,ho,rfl⟩ (λs'=>typeIs_int s' 1 t) qx PySem.F.fills_int_mul PySem.F.slot_int_rmul pO PySem.F.slot_int_index.lookup ?_
 refine call_meets PySem.F.slot_int_rmul (typeIs_int s 1 t) PySem.F.entry_int_rmul (PySem.F.args_int_rmul_2 _ _) (pN 1 t a its.toArray n od osl) ⟨ho,rfl,⟨_,ho,rfl⟩,?_⟩
 refine call_meets PySem.F.slot_tuple_mul ⟨_,ho,rfl⟩ PySem.F.entry_tuple_mul (PySem.F.args_tuple_mul_2 _ _) (Zh6 t a its.toArray n od osl) ⟨ho,?_⟩
 exact ⟨.ref a,H,I,rfl,q⟩
noncomputable def ZbB (K:PySem.W.Frag):R2:=λx y H Q=>pR K x y H Q\/ZbD K x y H Q\/ZbC K x y H Q
theorem ZhA:OpR X (binaryOp .Mult) (ZbB X.K):=Zch.or (ZhC.or ZhB)
noncomputable def iS:PyData->PyData->Option PyData
 | .tuple xs,.int n=>if (decide (-1000<=n) && decide (n<=1000) && !xs.isEmpty && decide (xs.length<=1000))=true then some (.tuple (List.replicate n.toNat xs).flatten) else none
 | _,_=>none
theorem Zfh {K:PySem.W.Frag}:cG (ZbB K) iS:=λPK pa m G H x y dx dy dz Q w hx hy hz k=>by
 unfold iS at hz
 split at hz
 ·rename_i xs n
  split at hz
  ·rename_i hc
   simp only [Bool.and_eq_true,decide_eq_true_eq,Bool.not_eq_true'] at hc
   cases hz; cases hy
   cases hx with
   | tup a1 a2 =>
    have hne:∀ vs:List V,DnAll G vs xs->vs≠[]:=λvs a2 e=>by
     have:=hc.1.2
     rw [<- a2.isEmpty,e] at this
     cases this
    by_cases h1:1 < n
    ·exact .inl ⟨_,_,_,rfl,rfl,SqT.of (w.sub _ _ a1),h1,hc.1.1.2,hne _ a2,by rw [a2.length]; exact hc.2,λp hp=>k.tup w (a2.rep _) hp⟩
    ·by_cases h0:n<=0
     ·refine .inr (.inl ⟨_,_,_,rfl,rfl,SqT.of (w.sub _ _ a1),h0,hc.1.1.1,hne _ a2,λp hp=>?_⟩)
      have e:(List.replicate n.toNat xs).flatten=[]:=by rw [show n.toNat=0 by omega]; rfl
      rw [e] at k
      exact k.tup w .nil hp
     ·have e1:n=1:=by omega
      subst e1
      refine .inr (.inr ⟨_,_,rfl,rfl,SqT.of (w.sub _ _ a1),?_⟩)
      have e:(List.replicate (1:Int).toNat xs).flatten=xs:=by simp
      rw [e] at k
      exact k.here w (.tup a1 a2)
  ·cases hz
 ·cases hz
section
variable {ρ:List Sl} {is:List Sl->Tr (List PyData)} {n:Nat} {i:List Sl->Tr PyData} {p:List Sl->Tr Bool} {xs:List PyData} {x:PyData}
noncomputable def gF (g:PyData->List Sl->Option (List Sl)) (p:List Sl->Tr Bool) (el:List Sl->Tr PyData) (τ:List Sl) (x:PyData):Tr (Option PyData):=(Tr.of (g x τ)).bind (jd p el)
noncomputable def qL (n:Nat) (ix:List Nat) (g:PyData->List Sl->Option (List Sl)) (p:List Sl->Tr Bool) (el:List Sl->Tr PyData) (ρ:List Sl) (xs:List PyData):Tr (List PyData):=if small xs.length=true then c6 (gF g p el (blk n ix ρ)) xs else .fail
theorem ZkF {ix:List Nat} {g:PyData->List Sl->Option (List Sl)}:jv is n ix g p i ρ=(is ρ).bind (qL n ix g p i ρ):=rfl
theorem ZkH {ix:List Nat} {g:PyData->List Sl->Option (List Sl)} (h:small xs.length=true):qL n ix g p i ρ xs=c6 (gF g p i (blk n ix ρ)) xs:=by unfold qL; rw [if_pos h]
theorem ZkG {τ:List Sl} {g:PyData->List Sl->Option (List Sl)}:gF g p i τ x=(Tr.of (g x τ)).bind (jd p i):=rfl
noncomputable def re (y:PyData):Tr (Option PyData):=.ret (some y)
noncomputable def rf (i:List Sl->Tr PyData) (τ:List Sl) (b:Bool):Tr (Option PyData):=if b=true then (i τ).bind re else .ret none
theorem ZkW {τ:List Sl}:jd p i τ=(p τ).bind (rf i τ):=rfl
theorem ZkY {τ:List Sl}:rf i τ true=(i τ).bind re:=rfl
theorem ZkZ {τ:List Sl}:rf i τ false=.ret none:=rfl
theorem ZkX:re x=.ret (some x):=rfl
end
end
end L2
set_option Elab.async false
set_option linter.all false
set_option maxRecDepth 100000
namespace L2
open PySem PySem.Spec PyProof.Rows
section
variable {PK:Pk} {X:Cx} {e:Expr} {as:List Sl->Tr (List Sl)}
end
section
variable {ρ:List Sl} {as:List Sl->Tr (List Sl)} {f:List PyData->Option PyData} {x:PyData} {xs:List PyData} {i j:List Sl->Tr PyData} {k:Nat} {p:List Sl->Tr Bool} {s:List Sl->Tr Ou}
noncomputable def jL (k:Nat) (ρ:List Sl) (x:PyData) (xs:List PyData):PyData->Tr Ou
 | .int y=>(Tr.of (df xs.length y)).bind λt=>.ret (.next (ρ.set k (.own (xs.set t x))))
 | _=>.fail
noncomputable def pA (k:Nat) (n:List Sl->Tr PyData) (ρ:List Sl) (x:PyData) (xs:List PyData):Tr Ou:=(n ρ).bind (jL k ρ x xs)
noncomputable def pB (k:Nat) (n:List Sl->Tr PyData) (ρ:List Sl) (x:PyData):Tr Ou:=(fZ k ρ).bind (pA k n ρ x)
theorem ZjN:kW k j i ρ=(i ρ).bind (pB k j ρ):=by
 unfold kW
 refine congrArg (Tr.bind (i ρ)) (funext λx=>?_)
 rw [pB,<- mT k ρ]
 cases ρ[k]? with
 | none=>rfl
 | some sl =>
  cases sl with
  | own xs =>
   show ((j ρ).bind _:Tr Ou)=(j ρ).bind (jL k ρ x xs)
   refine congrArg (Tr.bind (j ρ)) (funext λy=>?_)
   cases y <;> rfl
  | _=>rfl
theorem ZjM {n:List Sl->Tr PyData}:pB k n ρ x=(fZ k ρ).bind (pA k n ρ x):=rfl
theorem ZjL {n:List Sl->Tr PyData}:pA k n ρ x xs=(n ρ).bind (jL k ρ x xs):=rfl
theorem rB {y:Int} {t:Nat} (h:df xs.length y=some t):jL k ρ x xs (.int y)=.ret (.next (ρ.set k (.own (xs.set t x)))):=by
 simp only [jL,h]
 rfl
end
end L2
set_option Elab.async false
set_option linter.all false
set_option maxRecDepth 100000
namespace L2
open PySem PySem.Spec PyProof.Rows
open AutoSeq1 (wpAny_loadPart')
noncomputable def iw (hi:Int) (n:Nat):It:=⟨λi _=>i < n,λi H x H'=>H'=H/\x=.int (hi - i),λi _=>n<=i⟩
theorem Zfv {P:Program} {w:World} {K:PySem.W.Frag} {tg:Expr} (it:Addr) (hi:Int) (n:Nat):Turn P w K tg (iw hi n) [it] it (λi h=>IsRangeIter h it (hi+(i:Nat) * (-1)) ((n:Int) - (i:Nat)) (-1)) where
 mem:=by simp
 obj:=λi h st b hb=>by
  have e:b=it:=by simpa using hb
  subst e
  exact ⟨_,st,λv z=>by
   have z':Data.fields _=Data.cell v:=z
   cases z'⟩
 keep:=λi h h' st k=>k it (by simp) _ st
 item:=by
  intro X hP hw hK hc i pins s σ H E I hf st hg
  subst hP hw hK
  obtain ⟨f0,f1,f2,f3,f4,f5⟩:=hf it (by simp)
  have W:=Walks.range (prog:=X.prog) (w:=X.w) (I.ok.hd hc) it hi (-1) n
  refine W.item i s _ _ hg st λv h' tk hv st' kk=>?_
  obtain ⟨t,rfl⟩:=hv
  have I1:Inv X pins σ H { s with heap:=h',toks:=tk }:=I.turned (λb o hb e=>kk b o (by simpa using hb) e) f0 f1 f3 f4 f5
  refine ⟨_,rfl,kF (s:={ s with heap:=h',toks:=tk }) (n:="range_iterator") st' rfl rfl (by decide) ⟨.int (hi - i),H,I1,⟨t,?_⟩,⟨rfl,rfl⟩,st',λb hb=>(hf b hb).1⟩⟩
  have e:hi+(i:Int) * -1=hi - i:=by omega
  rw [e]
 done:=by
  intro X hP hw hK hc i pins s σ H E I hf st hg
  subst hP hw hK
  obtain ⟨f0,f1,f2,f3,f4,f5⟩:=hf it (by simp)
  exact wpAny_pyNext_range_end (I.ok.hd hc) st (by have:n<=i:=hg; omega) λh' eb=>⟨rfl,I.turned (t':=s.toks) (λb o hb e=>eb b o hb e) f0 f1 f3 f4 f5⟩
 self:=λ_ _ _ _ _ st h=>wpAny_pyIter_rangeiter st h
theorem Zig (r:Addr) (a b c:Int) (t u v:Tok) (hs:¬ (!(Builtin.Range.rangeFitsLong a && Builtin.Range.rangeFitsLong b && Builtin.Range.rangeFitsLong c && Builtin.Range.rangeFitsLong (-c) && Builtin.Range.rangeFitsLong (a - c) && Builtin.Range.rangeFitsLong (Builtin.Range.rangeSize a b c)))=true) :
  Meets (Builtin.«range.__reversed__» ⟨[.ref r],[]⟩) (λ_ R s=>s.heap.get? r=some { cls:=.type "range",dict:=none,data:=.fields #[.int a t,.int b u,.int c v],slots:=#[] } /\
   R (.ok (.ret (.ref s.heap.objs.size))) { s with heap:=s.heap.push { cls:=.type "range_iterator",data:=.fields #[rawInt (a+(Builtin.Range.rangeSize a b c - 1) * c),rawInt (Builtin.Range.rangeSize a b c),rawInt (-c)] },toks:=s.toks }) :=
 .of_wp λprog w A R s h=>by
  obtain ⟨hp,g,d,tk,os⟩:=s
  obtain ⟨hl,h⟩:=h
  have hs':=hs
  rw [Bool.not_eq_true',Bool.not_eq_false] at hs'
  wp_walk
  rw [if_pos hs']
  exact ⟨_,rfl,h⟩
theorem jf {n:Int} (h1:-(2 ^ 63)<=n) (h2:n < 2 ^ 63):Builtin.Range.rangeFitsLong n=true:=by
 unfold Builtin.Range.rangeFitsLong
 simp
 omega
section
variable {prog:Program} {w:World} {A:Around} {E:Value->Shared->Prop} {s:Shared}
theorem Zm7 {r:Addr} {a b:Int} {t u v:Tok} {Q₁:Value->Shared->Prop} (hr:IsRange s.heap r a b 1 t u v) (ha:-(2 ^ 62)<=a) (ha':a < 2 ^ 62) (hb:-(2 ^ 62)<=b) (hb':b < 2 ^ 62)
  (h:Q₁ (.ref s.heap.objs.size) { s with heap:=s.heap.push { cls:=.type "range_iterator",data:=.fields #[rawInt (a+(Builtin.Range.rangeSize a b 1 - 1) * 1),rawInt (Builtin.Range.rangeSize a b 1),rawInt (-1)] } }) :
  codeAny (model prog w) A (.call (.builtin "reversed.__new__") ⟨[.type "reversed",.ref r],[]⟩) (wants Q₁ E) s:=by
 have hT:s.TypeIs (.ref r) "range":=⟨_,hr,rfl⟩
 refine codeAny_of_tree ?_
 show wpAny _ A.in1 (do checkBuiltinCall "reversed.__new__" ⟨[.type "reversed",.ref r],[]⟩; again (.builtin "reversed.__new__" ⟨[.type "reversed",.ref r],[]⟩)) _ _ s
 refine wpAny_bind (wpAny_of_eq (F.newCall_reversed_1 _) (wpAny_pure ⟨plainId_quiet F.plain_reversed_new _,codeAny_builtin F.entry_reversed_new ?_⟩))
 rw [Around.under_plainId F.plain_reversed_new _]
 unfold Builtin.«reversed.__new__»
 refine wpAny_bind (wpAny_of_eq (newClass_reversed _) ?_)
 try dsimp only
 refine wpAny_bind (wpAny_of_eq (a:=()) (by first | rfl | kernel_rfl) ?_)
 refine wpAny_bind (wpAny_of_eq (a:=()) (by first | rfl | kernel_rfl) ?_)
 try dsimp only
 refine wpAny_bind (wpAny_specialOf hT F.slot_range_reversed.lookup ?_)
 try dsimp only
 refine wpAny_bind (wpAny_of_eq (F.slot_range_reversed.bind _) ?_)
 try dsimp only
 first
 | rw [if_neg (show ¬ ((Value.builtin "range.__reversed__" == Value.none)=true) from Bool.false_ne_true)]
 | (show wpAny _ _ (if (Value.builtin "range.__reversed__" == Value.none)=true then _ else _) _ _ _; rw [if_neg (show ¬ ((Value.builtin "range.__reversed__" == Value.none)=true) from Bool.false_ne_true)])
 refine wpAny_bind (wpAny_rule ?_)
 have hsz:Builtin.Range.rangeSize a b 1=if a < b then b - a else 0:=rangeSize_one a b
 refine wpAny_bind (m:=runValue (.call (.builtin "range.__reversed__") ⟨[.ref r],[]⟩)) (show wpAny _ _ (call (.builtin "range.__reversed__") [.ref r]) _ _ _ from
  call_meets F.slot_range_reversed hT F.entry_range_reversed (F.args_range_reversed_1 _) (Zig r a b 1 t u v ?_) ⟨hr,?_⟩)
 ·rw [Bool.not_eq_true',Bool.not_eq_false,jf (by omega) (by omega),jf (by omega) (by omega),jf (by decide) (by decide),jf (by decide) (by decide),jf (n:=a - 1) (by omega) (by omega),jf (n:=Builtin.Range.rangeSize a b 1) (by rw [hsz]; split <;> omega) (by rw [hsz]; split <;> omega)]
  rfl
 ·first
  | exact wpAny_pure h
  | exact wpAny_bind (wpAny_pure (wpAny_pure h))
theorem ZfY:isSubtype (.type "range_iterator") (.type "reversed")=pure false:=by rw [isSubtype_type]; kernel_rfl
theorem Znd {r:Addr} {a b:Int} {t u v:Tok} {Q:Value->Shared->Prop} (hr:IsRange s.heap r a b 1 t u v) (ha:-(2 ^ 62)<=a) (ha':a < 2 ^ 62) (hb:-(2 ^ 62)<=b) (hb':b < 2 ^ 62)
  (h:Q (.ref s.heap.objs.size) { s with heap:=s.heap.push { cls:=.type "range_iterator",data:=.fields #[rawInt (a+(Builtin.Range.rangeSize a b 1 - 1) * 1),rawInt (Builtin.Range.rangeSize a b 1),rawInt (-1)] } }):wpAny (model prog w) A (call (.type "reversed") [.ref r]) Q E s:=by
 refine callType_other (U:="range_iterator") (Q₁:=λobj s₁=>obj=.ref s.heap.objs.size/\s₁={ s with heap:=s.heap.push { cls:=.type "range_iterator",data:=.fields #[rawInt (a+(Builtin.Range.rangeSize a b 1 - 1) * 1),rawInt (Builtin.Range.rangeSize a b 1),rawInt (-1)] } }) (by decide +kernel) F.create_reversed ⟨_,_,F.mro_reversed⟩ F.made_reversed ZfY (F.typeCall_reversed_1 _) (Zm7 hr ha ha' hb hb' ⟨rfl,rfl⟩) ?_
 rintro obj s₁ ⟨rfl,rfl⟩
 exact ⟨⟨_,Heap.get?_push_size _ rfl,rfl⟩,h⟩
end
theorem Zcg:Manifest.owners.lookup (String.ofList ['d','e','s','r','e','v','e','r'].reverse)=some Manifest.sig_reversed:=by kernel_rfl
theorem Zf1:Slot "reversed" "__init__" "object.__init__" :=
 .of (owner:="object") (n:="__init__") (by rw [typeLookup_type,builtinLookup_eq_fast]; kernel_rfl) (by decide +kernel) (by decide +kernel) (by decide +kernel)
  (by first | exact .inl (by decide +kernel) | exact .inr (by decide +kernel)) (by rw [isSubtype_type]; kernel_rfl)
theorem jK:Slot "reversed" "__next__" "reversed.__next__" :=
 .of (owner:="reversed") (n:="__next__") (by rw [typeLookup_type,builtinLookup_eq_fast]; kernel_rfl) (by decide +kernel) (by decide +kernel) (by decide +kernel)
  (by first | exact .inl (by decide +kernel) | exact .inr (by decide +kernel)) (by rw [isSubtype_type]; kernel_rfl)
theorem Zds:entryFor table "reversed.__next__"=some Builtin.«reversed.__next__»:=entryFor_of_tree (by kernel_rfl)
theorem ZeK (a:Value):argsOk "reversed.__next__" ⟨[a],[]⟩:=by
 unfold argsOk; rw [signature?_of (id:="reversed.__next__") (n:=['_','_','t','x','e','n','_','_']) (o:=['d','e','s','r','e','v','e','r']) (by kernel_rfl) Zcg]; kernel_rfl
theorem ZaY:Slot "reversed" "__iter__" "reversed.__iter__" :=
 .of (owner:="reversed") (n:="__iter__") (by rw [typeLookup_type,builtinLookup_eq_fast]; kernel_rfl) (by decide +kernel) (by decide +kernel) (by decide +kernel)
  (by first | exact .inl (by decide +kernel) | exact .inr (by decide +kernel)) (by rw [isSubtype_type]; kernel_rfl)
theorem ZnZ (a:Value):argsOk "reversed.__iter__" ⟨[a],[]⟩:=by
 unfold argsOk; rw [signature?_of (id:="reversed.__iter__") (n:=['_','_','r','e','t','i','_','_']) (o:=['d','e','s','r','e','v','e','r']) (by kernel_rfl) Zcg]; kernel_rfl
theorem ZlT:entryFor table "reversed.__iter__"=some Builtin.«dict_keyiterator.__iter__» :=
 entryFor_alias (id':="dict_keyiterator.__iter__") (by kernel_rfl) (by first | rfl | decide +kernel | (unfold String.splitOn; simp +decide [String.splitOnAux])) (by decide +kernel) (by kernel_rfl)
theorem Znb:TypeCalled "reversed" "reversed.__new__" "object.__init__" :=
 ⟨by decide +kernel,by decide +kernel,⟨_,_,F.mro_reversed⟩,F.made_reversed,by decide +kernel,by rw [isSubtype_type]; kernel_rfl,Zf1⟩
theorem ZhW:typeLookup (.type "tuple") "__reversed__"=pure none:=by rw [typeLookup_type,builtinLookup_eq_fast]; kernel_rfl
theorem Zif (l:Addr) (items:Array Value) (hfit:(items.size:Int) < 2 ^ 63) :
  Meets (Builtin.«reversed.__new__» ⟨[.type "reversed",.ref l],[]⟩) (λ_ R s=>IsTup s.heap l items /\
   R (.ok (.ret (.ref s.heap.objs.size))) { s with heap:=s.heap.push { cls:=.type "reversed",data:=.fields #[.ref l,rawInt ((items.size:Int) - 1)] },toks:=s.toks+1+1 }) :=
 .of_wp λprog w A R s h=>by
  obtain ⟨hp,g,d,tk,os⟩:=s
  obtain ⟨hl,h⟩:=h
  have hl':(Shared.mk hp g d tk os).heap.IsTuple l items:=hl
  unfold Builtin.«reversed.__new__»
  refine wpAny_bind (wpAny_of_eq (newClass_reversed _) ?_)
  try dsimp only
  refine wpAny_bind (wpAny_of_eq (a:=()) (by first | rfl | kernel_rfl) ?_)
  refine wpAny_bind (wpAny_of_eq (a:=()) (by first | rfl | kernel_rfl) ?_)
  try dsimp only
  refine wpAny_bind (wpAny_specialOf hl'.typeIs ZhW ?_)
  try dsimp only
  refine wpAny_bind ?_
  show wpAny _ _ (isInstance (Value.ref l) (.type "dict") >>= _) _ _ _
  refine wpAny_bind (wpAny_isInstance (T:="tuple") (b:=false) hl'.typeIs (by rw [isSubtype_type]; kernel_rfl) ?_)
  show wpAny _ _ (specialOf (Value.ref l) "__getitem__" >>= _) _ _ _
  refine wpAny_bind (wpAny_specialOf hl'.typeIs F.slot_tuple_getitem.lookup ?_)
  refine wpAny_pure ?_
  show wpAny _ _ (call (Value.builtin "len") [Value.ref l] >>= _) _ _ _
  refine wpAny_bind (len_tuple hl hfit ?_)
  refine wpAny_bind (wpAny_of_eq (a:=some (items.size:Int)) rfl ?_)
  show wpAny _ _ (newObj (.type "reversed") (.fields #[.ref l,rawInt ((items.size:Int) - 1)]) >>= _) _ _ _
  refine wpAny_bind (wpAny_newObj_type ?_)
  exact wpAny_pure ⟨_,rfl,h⟩
noncomputable def IsTRev (h:Heap) (a l:Addr) (i:Int):Prop:=∃ o,h.get? a=some o/\o.cls=.type "reversed"/\o.data=.fields #[.ref l,rawInt i]
theorem IsTRev.at {h h':Heap} {a l:Addr} {i:Int} (x:IsTRev h a l i) (e:∀ o,h.get? a=some o->h'.get? a=some o):IsTRev h' a l i:=let ⟨o,ho,r⟩:=x; ⟨o,e _ ho,r⟩
section
variable {prog:Program} {w:World} {A:Around} {E:Value->Shared->Prop} {s:Shared}
theorem Znc {l:Addr} {items:Array Value} {Q:Value->Shared->Prop} (hl:IsTup s.heap l items) (hfit:(items.size:Int) < 2 ^ 63)
  (h:Q (.ref s.heap.objs.size) { s with heap:=s.heap.push { cls:=.type "reversed",data:=.fields #[.ref l,rawInt ((items.size:Int) - 1)] },toks:=s.toks+1+1 }) :
  wpAny (model prog w) A (call (.type "reversed") [.ref l]) Q E s :=
 callType_new Znb (by decide) (F.typeCall_reversed_1 _) (F.newCall_reversed_1 _) (λobj=>F.args_object_init_2 obj _) F.entry_reversed_new (Zif l items hfit) ⟨hl,⟨_,Heap.get?_push_size _ rfl,rfl⟩,h⟩
theorem ZgS {it l:Addr} {i:Nat} {items:Array Value} {x:Value} {Q:Option Value->Shared->Prop} (hit:IsTRev s.heap it l (i:Int)) (hl:IsTup s.heap l items) (hne:l≠it) (hx:items[i]?=some x) (hfit:(items.size:Int) < 2 ^ 63)
  (hQ:∀ h',IsTRev h' it l ((i:Int) - 1)->Heap.SameBut it s.heap h'->Q (some x) { s with heap:=h',toks:=s.toks+1 }):wpAny (model prog w) A (pyNext (.ref it)) Q E s:=by
 obtain ⟨o,ho,hc,hd⟩:=id hit
 have hT:s.TypeIs (.ref it) "reversed":=⟨o,ho,hc⟩
 have hl':s.heap.IsTuple l items:=hl
 have hlt:i < items.size:=(Array.getElem?_eq_some_iff.mp hx).1
 unfold pyNext
 refine wpAny_bind (wpAny_attempt (wpAny_callSpecial?_slot (name:=Str.ofString "__next__") hT jK
  (wpAny_call_entry jK hT Zds ?_ (ZeK _))))
 unfold Builtin.«reversed.__next__»
 refine wpAny_bind (wpAny_of_eq (a:=(Value.ref it,[])) rfl ?_)
 try dsimp only
 refine wpAny_bind (wpAny_field ho hd (x:=.ref l) rfl ?_)
 refine wpAny_bind (wpAny_field ho hd (x:=rawInt (i:Int)) rfl ?_)
 show wpAny _ _ (if (i:Int) < 0 then _ else _) _ _ s
 rw [if_neg (by omega)]
 refine wpAny_bind (wpAny_specialOf hl'.typeIs F.slot_tuple_getitem.lookup ?_)
 show wpAny _ _ (mkInt (i:Int) >>= _) _ _ s
 refine wpAny_bind (wpAny_mkInt ?_)
 refine wpAny_bind (wpAny_attempt (getItem_tuple (j:=i) (x:=x) hl (by omega) (by omega) ?_ hx ?_))
 ·unfold seqIndex?
  simp
  omega
 ·dsimp only
  refine wpAny_bind (wpAny_field ho hd (x:=rawInt (i:Int)) rfl ?_)
  show wpAny _ _ (setField (.ref it) 1 (rawInt ((i:Int) - 1)) >>= _) _ _ _
  refine wpAny_bind (wpAny_setField ho hd (by simp) ?_)
  refine wpAny_pure ⟨x,rfl,wpAny_pure (hQ _ ?_ (Heap.SameBut.update ..))⟩
  exact ⟨_,Heap.get?_update_self _ ho (Obj.isFreed_of_fields (Obj.data_mapFields hd _)),(Obj.cls_mapFields ..).trans hc,by
   rw [Obj.data_mapFields hd]; simp⟩
theorem ZgT {it l:Addr} {Q:Option Value->Shared->Prop} (hh:A.handled=none) (hit:IsTRev s.heap it l (-1))
  (hQ:∀ h',Heap.ExtBut it s.heap h'->Q none { s with heap:=h' }):wpAny (model prog w) A (pyNext (.ref it)) Q E s:=by
 obtain ⟨o,ho,hc,hd⟩:=id hit
 have hT:s.TypeIs (.ref it) "reversed":=⟨o,ho,hc⟩
 unfold pyNext
 refine wpAny_bind (wpAny_attempt (wpAny_callSpecial?_slot (name:=Str.ofString "__next__") hT jK
  (wpAny_call_entry jK hT Zds ?_ (ZeK _))))
 unfold Builtin.«reversed.__next__»
 refine wpAny_bind (wpAny_of_eq (a:=(Value.ref it,[])) rfl ?_)
 try dsimp only
 refine wpAny_bind (wpAny_field ho hd (x:=.ref l) rfl ?_)
 refine wpAny_bind (wpAny_field ho hd (x:=rawInt (-1)) rfl ?_)
 show wpAny _ _ (if (-1:Int) < 0 then _ else _) _ _ s
 rw [if_pos (by decide)]
 refine wpAny_bind (wpAny_rule ?_)
 refine wpAny_bind ?_
 show wpAny _ _ (setField (.ref it) 1 (rawInt (-1)) >>= _) _ _ _
 refine wpAny_bind (wpAny_setField ho hd (by simp) ?_)
 have ho2:=Heap.get?_update_self (Obj.mapFields λx_1=>x_1.setIfInBounds 1 (rawInt (-1))) ho (Obj.isFreed_of_fields (Obj.data_mapFields hd _))
 refine wpAny_setField ho2 (Obj.data_mapFields hd _) (by simp) ?_
 have eb:Heap.ExtBut it s.heap ((s.heap.update it (Obj.mapFields λx_1=>x_1.setIfInBounds 1 (rawInt (-1)))).update it (Obj.mapFields λx_1=>x_1.setIfInBounds 0 Value.none)):=λb o' hb e=>(Heap.SameBut.update _ _ _).extBut b o' hb ((Heap.SameBut.update _ _ _).extBut b o' hb e)
 show wpAny _ _ (newExc (.type "StopIteration") [] >>= _ >>= _) _ _ _
 refine wpAny_bind ?_
 refine wpAny_bind ?_
 simp only [newExc,newTuple]
 refine wpAny_bind (wpAny_newObj_type ?_ (by size_fits))
 refine wpAny_bind (m:=firstArgMember _ _) (wpAny_of_eq (a:=Value.none) (by first | rfl | (simp only [firstArgMember]; rfl)) ?_)
 refine wpAny_newObj_type ?_ (by size_fits)
 simp only [raiseNew]
 refine wpAny_bind (wpAny_handled ?_)
 first | rw [show A.in1.handled=none from hh] | rw [hh]
 refine wpAny_bind (wpAny_pure (wpAny_throw ?_))
 refine wpAny_bind (wpAny_isInstance (T:="StopIteration") (b:=true) ⟨_,Heap.get?_push_size _ rfl,rfl⟩ isSubtype_stop ?_)
 exact wpAny_pure (hQ _ ((eb.push _).push _))
theorem ZbY {it l:Addr} {i:Int} {Q:Value->Shared->Prop} (hit:IsTRev s.heap it l i) (h:Q (.ref it) s):wpAny (model prog w) A (pyIter (.ref it)) Q E s:=by
 obtain ⟨o,ho,hc,hd⟩:=id hit
 have hT:s.TypeIs (.ref it) "reversed":=⟨o,ho,hc⟩
 refine wpAny_pyIter_slot hT ZaY (wpAny_call_entry ZaY hT ZlT ?_ (ZnZ _))
 show wpAny _ _ (ret (.ref it)) _ _ s
 exact wpAny_pure ⟨_,rfl,"reversed",_,hT,jK.lookup,h⟩
end
noncomputable def lr (b:Bool) (l:Addr) (n:Nat):It :=
 ⟨λi H=>i < n/\∃ xs,H l=some (cq b xs)/\xs.length=n,λi H x H'=>H'=H/\∃ xs,H l=some (cq b xs)/\xs[n - 1 - i]?=some x,λi _=>i=n⟩
noncomputable def RvAt (b:Bool) (h:Heap) (it l:Addr) (i:Int):Prop:=match b with
 | true=>h.IsRevIter it l i
 | false=>IsTRev h it l i
theorem RvAt.there {b:Bool} {h:Heap} {it l:Addr} {i:Int} (x:RvAt b h it l i):∃ o n vs,h.get? it=some o/\o.cls=.type n/\o.data=.fields vs/\["enumerate","zip","dict_itemiterator","dict_reverseitemiterator","odict_iterator","itertools.zip_longest","itertools.pairwise"].contains n=false:=by
 cases b with
 | true=>obtain ⟨o,h1,h2,h3⟩:=x; exact ⟨o,_,_,h1,h2,h3,by decide⟩
 | false=>obtain ⟨o,h1,h2,h3⟩:=x; exact ⟨o,_,_,h1,h2,h3,by decide⟩
theorem RvAt.at {b:Bool} {h h':Heap} {it l:Addr} {i:Int} (x:RvAt b h it l i) (e:∀ o,h.get? it=some o->h'.get? it=some o):RvAt b h' it l i:=by
 cases b with
 | true=>exact Heap.IsRevIter.at x e
 | false=>exact IsTRev.at x e
theorem ZaA {P:Program} {w:World} {K:PySem.W.Frag} {tg:Expr} {b:Bool} {l:Addr} {n:Nat} (it:Addr) (hn:(n:Int) < 2 ^ 63):Turn P w K tg (lr b l n) [it] it (λi h=>RvAt b h it l ((n:Int) - 1 - (i:Nat))) where
 mem:=by simp
 obj:=λi h st c hb=>by
  have e:c=it:=by simpa using hb
  subst e
  obtain ⟨o,_,_,h1,_,h3,_⟩:=st.there
  exact ⟨o,h1,λv z=>by rw [h3] at z; cases z⟩
 keep:=λi h h' st k=>st.at λo e=>k it (by simp) o e
 item:=by
  intro X hP hw hK hc i pins s σ H E I hf st hg
  subst hP hw hK
  obtain ⟨hi,xs,e1,hlen⟩:=hg
  obtain ⟨us,r1,q1⟩:=fS I.hok e1
  obtain ⟨f0,f1,f2,f3,f4,f5⟩:=hf it (by simp)
  have hxl:n - 1 - i < xs.length:=by omega
  have hx:xs[n - 1 - i]?=some xs[n - 1 - i]:=List.getElem?_eq_getElem hxl
  obtain ⟨u,hu,ru⟩:=r1.get hx
  have ne:l≠it:=de e1 f0
  have ei:(n:Int) - 1 - (i:Nat)=((n - 1 - i:Nat):Int):=by omega
  have ei2:((n - 1 - i:Nat):Int) - 1=(n:Int) - 1 - ((i+1:Nat):Int):=by omega
  rw [ei] at st
  have usz:us.toArray.size=n:=by rw [List.size_toArray,<- r1.length]; exact hlen
  have fin:∀ (h':Heap) (tk:Nat),RvAt b h' it l ((n:Int) - 1 - ((i+1:Nat):Int))->Heap.SameBut it s.heap h'->∃ u',some u=some u'/\wpAny (model X.prog X.w) X.A (letOwnedTupleGo tg (.ref it) u') (λ_ s2=>∃ x H',Inv X pins σ H' s2/\RelV x u'/\(lr b l n).yld i H x H'/\RvAt b s2.heap it l ((n:Int) - 1 - ((i+1:Nat):Int))/\∀ b∈[it],H' b=none) E { s with heap:=h',toks:=tk }:=λh' tk st' sb=>by
   have I1:Inv X pins σ H { s with heap:=h',toks:=tk }:=I.turned (λb o hb e=>(sb.2 b hb).trans e) f0 f1 f3 f4 f5
   obtain ⟨o,nm,vs,g1,g2,g3,g4⟩:=st'.there
   exact ⟨u,rfl,kF (s:={ s with heap:=h',toks:=tk }) g1 g2 g3 g4 ⟨_,H,I1,ru,⟨rfl,xs,e1,hx⟩,st',λb hb=>(hf b hb).1⟩⟩
  cases b with
  | true =>
   refine wpAny_pyNext_rev_item (i:=n - 1 - i) st q1 (x:=u) (by simpa using hu) λh' st' sb=>?_
   rw [ei2] at st'
   exact fin h' s.toks st' sb
  | false =>
   refine ZgS (i:=n - 1 - i) st q1 ne (x:=u) (by simpa using hu) (by rw [usz]; exact hn) λh' st' sb=>?_
   rw [ei2] at st'
   exact fin h' (s.toks+1) st' sb
 done:=by
  intro X hP hw hK hc i pins s σ H E I hf st hg
  subst hP hw hK
  obtain ⟨f0,f1,f2,f3,f4,f5⟩:=hf it (by simp)
  have hi:i=n:=hg
  subst hi
  have e:(i:Int) - 1 - (i:Nat)=-1:=by omega
  rw [e] at st
  cases b with
  | true=>exact wpAny_pyNext_rev_end (I.ok.hd hc) st λh' eb=>⟨rfl,I.turned (t':=s.toks) (λb o hb e=>eb b o hb e) f0 f1 f3 f4 f5⟩
  | false=>exact ZgT (I.ok.hd hc) st λh' eb=>⟨rfl,I.turned (t':=s.toks) (λb o hb e=>eb b o hb e) f0 f1 f3 f4 f5⟩
 self:=λ_ _ _ _ _ st h=>by
  cases b with
  | true=>exact wpAny_pyIter_revIter st h
  | false=>exact ZbY st h
section
variable {X:Cx} {tg:Expr} {PK:Pk} {a b:Expr} {i j:List Sl->Tr PyData} {p pos:Pos}
noncomputable def rh (ta:TE):TI:=λσ H R=>ta σ H λx H1=>(∃ b l xs,x=.ref l/\H1 l=some (cq b xs)/\R (lr b l xs.length) H1) \/
 (∃ l lo hi,x=.ref l/\H1 l=some (.rng lo hi)/\-(2 ^ 62)<=lo/\lo < 2 ^ 62/\-(2 ^ 62)<=hi/\hi < 2 ^ 62/\R (iw (lo+(hi - lo).toNat - 1) (hi - lo).toNat) H1)
theorem Zb5 {ta:TE} (hg:Gl X "reversed") (hm:X.mg "reversed"=none) (ha:PE X a ta)
  (hs:starEach [a] X.env=[(false,eval a X.env)]:=by rfl):PI X tg (.Call (.Name "reversed" p) [a] [] pos) (rh ta):=by
 intro pins s σ H R I h
 have hab:PA X [a] (gS ta aW):=bx ha cB (by rw [hs]; rfl)
 have h':gS ta aW σ H λvs H1=>∃ x,vs=[x]/\((∃ b l xs,x=.ref l/\H1 l=some (cq b xs)/\R (lr b l xs.length) H1) \/
   (∃ l lo hi,x=.ref l/\H1 l=some (.rng lo hi)/\-(2 ^ 62)<=lo/\lo < 2 ^ 62/\-(2 ^ 62)<=hi/\hi < 2 ^ 62/\R (iw (lo+(hi - lo).toNat - 1) (hi - lo).toNat) H1)):=by
  have h0:ta σ H λx H1=>(∃ b l xs,x=.ref l/\H1 l=some (cq b xs)/\R (lr b l xs.length) H1) \/
   (∃ l lo hi,x=.ref l/\H1 l=some (.rng lo hi)/\-(2 ^ 62)<=lo/\lo < 2 ^ 62/\-(2 ^ 62)<=hi/\hi < 2 ^ 62/\R (iw (lo+(hi - lo).toNat - 1) (hi - lo).toNat) H1):=h
  refine cast (congrArg (ta σ H) ?_) h0
  funext x H1
  apply propext
  constructor
  ·exact λq=>⟨x,rfl,q⟩
  ·rintro ⟨y,e,q⟩
   have e':x=y:=by simpa using e
   subst e'
   exact q
 refine Call_ (hX I hg hm boot_reversed (PyProof.Rows.callWith_type1 (thn (hab pos pins s σ H _ I h') λus s1 hz0=>?_) (by rw [hs]; rfl) rfl))
 obtain ⟨vs,H1,I1,r1,q1⟩:=hz0
 obtain ⟨x,rfl,q1⟩:=q1
 obtain ⟨u,rfl,ru⟩:=eG r1
 have fp:∀ c∈[s1.heap.objs.size],fc X pins H1 c:=λc hb=>by
  have e:c=s1.heap.objs.size:=by simpa using hb
  subst e
  exact I1.fpOk (Nat.le_refl _) (I1.hok.fresh (Nat.le_refl _))
 have hn:=gE
 rcases q1 with ⟨b,l,xs,rfl,e1,q⟩ | ⟨l,lo,hi,rfl,e1,b1,b2,b3,b4,q⟩
 ·cases ru
  obtain ⟨us,r2,q2⟩:=fS I1.hok e1
  have usz:us.toArray.size=xs.length:=by rw [List.size_toArray,<- r2.length]
  have hz:xs.length<=sizeLine:=by
   cases b with
   | true=>exact (I1.hok _ _ e1).1
   | false=>exact (I1.hok _ _ e1).1
  cases b with
  | true =>
   refine call_reversed_list q2 (wpAny_pyIter_revIter ⟨_,Heap.get?_push_size _ rfl,rfl,rfl⟩ ?_)
   refine ⟨_,_,_,_,H1,rfl,I1.kept (t':=s1.toks) λb o e=>Heap.get?_push_of_some _ e,ZaA (b:=true) (l:=l) (n:=xs.length) s1.heap.objs.size (by omega),?_,fp,q⟩
   refine ⟨_,Heap.get?_push_size _ rfl,rfl,?_⟩
   rw [usz]
   show Data.fields #[_,rawInt ((xs.length:Int) - 1)]=Data.fields #[_,rawInt ((xs.length:Int) - 1 - ((0:Nat):Int))]
   simp
  | false =>
   refine Znc q2 (by rw [usz]; omega) (ZbY ⟨_,Heap.get?_push_size _ rfl,rfl,rfl⟩ ?_)
   refine ⟨_,_,_,_,H1,rfl,I1.kept (t':=s1.toks+1+1) λb o e=>Heap.get?_push_of_some _ e,ZaA (b:=false) (l:=l) (n:=xs.length) s1.heap.objs.size (by omega),?_,fp,q⟩
   refine ⟨_,Heap.get?_push_size _ rfl,rfl,?_⟩
   rw [usz]
   show Data.fields #[_,rawInt ((xs.length:Int) - 1)]=Data.fields #[_,rawInt ((xs.length:Int) - 1 - ((0:Nat):Int))]
   simp
 ·cases ru
  obtain ⟨t,u,v,e⟩:=I1.hok _ _ e1
  have hsz:Builtin.Range.rangeSize lo hi 1=((hi - lo).toNat:Int):=by rw [rangeSize_one]; split <;> omega
  refine Znd e b1 b2 b3 b4 (wpAny_pyIter_rangeiter (Heap.get?_push_size _ rfl) ?_)
  refine ⟨_,_,_,_,H1,rfl,I1.kept (t':=s1.toks) λb o e=>Heap.get?_push_of_some _ e,Zfv s1.heap.objs.size (lo+(hi - lo).toNat - 1) (hi - lo).toNat,?_,fp,q⟩
  rw [hsz]
  have e1:lo+(((hi - lo).toNat:Int) - 1) * 1=lo+(hi - lo).toNat - 1+((0:Nat):Int) * (-1):=by simp; omega
  have e2:((hi - lo).toNat:Int)=((hi - lo).toNat:Int) - ((0:Nat):Int):=by simp
  rw [e1]
  show IsRangeIter _ _ _ (((hi - lo).toNat:Int) - ((0:Nat):Int)) (-1)
  rw [<- e2]
  exact Heap.get?_push_size _ rfl
end
end L2
set_option Elab.async false
set_option linter.all false
set_option maxRecDepth 100000
namespace L2
open PySem PySem.Spec PyProof.Rows
section
variable {X:Cx} {tg:Expr} {PK:Pk} {e:Expr} {i j:List Sl->Tr PyData} {is:List Sl->Tr (List PyData)} {p pos:Pos}
theorem Zne:cR X (.type "range") (λxs H Q=>∃ j:Int,xs=[.int j]/\∀ p,H p=none->Q (.ref p) (upd H p (.rng 0 j))):=by
 intro pins s σ H xs us Q I r h
 obtain ⟨j,rfl,q⟩:=h
 cases r with
 | cons r1 rr =>
  cases rr
  obtain ⟨t,rfl⟩:=r1
  refine call_range_1 ?_
  exact ⟨.ref s.heap.objs.size,_,I.laid (t':=s.toks+1+1) (λb o e=>Heap.get?_push_of_some _ e) (Nat.le_refl _) (show ObjOk X.prog X.w _ _ _ (.rng 0 j) from ⟨s.toks,t,s.toks+1,Heap.get?_push_size _ rfl⟩),rfl,q _ (I.hok.fresh (Nat.le_refl _))⟩
theorem ZcR {pa:Addr} {G:Hp} {lo:Int} {n:Nat}:jB PK pa (iw (lo+n - 1) n) G ((aB lo n).map PyData.int).reverse:=λm G2 H2 sb w=>by
 have hl:((aB lo n).map PyData.int).length=n:=by rw [List.length_map,gu]
 refine ⟨λk x hx=>?_,by show n<=_; rw [List.length_reverse,hl]; exact Nat.le_refl _⟩
 have hk:k < n:=by
  have:=(List.getElem?_eq_some_iff.mp hx).1
  rwa [List.length_reverse,hl] at this
 refine ⟨hk,λy H3 hz0=>?_⟩
 obtain ⟨e1,e2⟩:=hz0
 subst e1 e2
 have:x=.int (lo+n - 1 - k):=by
  rw [List.getElem?_reverse (by rw [hl]; exact hk),hl] at hx
  unfold aB at hx
  rw [List.map_map,List.getElem?_map,List.getElem?_range (by omega)] at hx
  cases hx
  show PyData.int (lo+((n - 1 - k:Nat):Int))=_
  congr 1
  omega
 subst this
 exact ⟨G2,.refl,w,.int _⟩
noncomputable def sL (is:List Sl->Tr (List PyData)):List Sl->Tr (List PyData):=λρ=>(is ρ).bind λxs=>(Tr.of (iP xs)).bind λys=>.ret ys.reverse
noncomputable def sK (is:List Sl->Tr (List PyData)):List Sl->Tr (List PyData):=λρ=>(is ρ).bind λxs=>(Tr.of (iO xs)).bind λys=>.ret ys.reverse
noncomputable def ZfJ (t:TA):TE:=gl (λxs H Q=>∃ j:Int,xs=[.int j]/\∀ p,H p=none->Q (.ref p) (upd H p (.rng 0 j))) t
noncomputable def ZfI (t:TA):TE:=gl (λxs H Q=>∃ i j:Int,xs=[.int i,.int j]/\∀ p,H p=none->Q (.ref p) (upd H p (.rng i j))) t
theorem Zn8 {iter:Expr} (h:PI X tg iter (rh (ZfJ (TAd PK is)))):PI X tg iter (dm PK (sL is)):=h.imp λσ H R0 hz0=>by
 obtain ⟨pa,G₀,H₀,m,ρ,G,R,z⟩:=hz0
 refine TAd.then R z λm1 xs vs G1 H1 s1 w1 R1 d1 q1=>?_
 rw [Tr.ok_bind] at q1
 obtain ⟨ys,hy,q1⟩:=Tr.ok_of q1
 obtain ⟨n,e,h1,h2,rfl⟩:=Zbm d1 hy
 refine ⟨n,e,λp hp=>?_⟩
 obtain ⟨w2,s2⟩:=w1.own (o:=.rng 0 n) hp
 refine .inr ⟨p,0,n,rfl,bw,by decide,by decide,h1,h2,?_⟩
 have q:=q1 (iw (0+(n - 0).toNat - 1) (n - 0).toNat) G1 _ (s1.trans s2 w1.some) w2
 unfold aV at q
 exact q ZcR
theorem Zn7 {iter:Expr} (h:PI X tg iter (rh (ZfI (TAd PK is)))):PI X tg iter (dm PK (sK is)):=h.imp λσ H R0 hz0=>by
 obtain ⟨pa,G₀,H₀,m,ρ,G,R,z⟩:=hz0
 refine TAd.then R z λm1 xs vs G1 H1 s1 w1 R1 d1 q1=>?_
 rw [Tr.ok_bind] at q1
 obtain ⟨ys,hy,q1⟩:=Tr.ok_of q1
 obtain ⟨k,n,e,⟨h1,h2,h3,h4⟩,rfl⟩:=Zbl d1 hy
 refine ⟨k,n,e,λp hp=>?_⟩
 obtain ⟨w2,s2⟩:=w1.own (o:=.rng k n) hp
 refine .inr ⟨p,k,n,rfl,bw,h1,h2,h3,h4,?_⟩
 exact q1 (iw (k+(n - k).toNat - 1) (n - k).toNat) G1 _ (s1.trans s2 w1.some) w2 ZcR
end
section
variable {X:Cx} {PK:Pk} {i n:List Sl->Tr PyData}
end
section
variable {prog:Program} {w:World} {A:Around} {E:Value->Shared->Prop} {s:Shared}
end
section
variable {X:Cx} {PK:Pk} {e st:Expr} {te ts:TE} {i j:List Sl->Tr PyData} {p2 pos:Pos}
end
end L2
set_option Elab.async false
set_option linter.all false
set_option maxRecDepth 100000
namespace L2
open PySem PySem.Spec PyProof.Rows
noncomputable abbrev gP (h0 h:Heap):Prop:=∀ c o,h0.get? c=some o->h.get? c=some o
noncomputable def Ze4 (prog:Program) (w:World) (A:Around) (h0:Heap) (P:Nat->Value->Prop) (bt:Nat->Nat->Bool):Prop :=
 ∀ i j vi vj (s:Shared) (Q:Value->Shared->Prop) (E:Value->Shared->Prop),j < i->gP h0 s.heap->P i vi->P j vj->Q (.bool (bt i j)) s->wpAny (model prog w) A (richCompare .Lt vi vj) Q E s
theorem ZeL (bt:Nat->Nat->Bool):∀ j,argBest bt j<=j
 | 0=>Nat.le_refl _
 | j+1=>by
  have:=ZeL bt j
  unfold argBest
  split <;> omega
section
variable {prog:Program} {w:World} {A:Around} {R:Result->Shared->Prop} {I S:Addr} {fp wr:List Addr} {n:Nat} {P:Nat->Value->Prop} {St:Nat->Heap->Prop} {h0:Heap}
theorem m8:(toString "min"++toString ".loop":String)="min.loop":=by decide
theorem Zib (W:Walks prog w A.in1 I fp wr n P St) (bt:Nat->Nat->Bool) (hcmp:Ze4 prog w A.in1 h0 P bt) (hSf:S ∉ fp) (h0w:∀ c o,h0.get? c=some o->c ∉ wr/\c≠S) :
  ∀ (k j:Nat) (s:Shared) (vb:Value) (c:Nat),n - (j+1)=k->j+1<=n->gP h0 s.heap->St (j+1) s.heap->P (argBest bt j) vb ->
  s.heap.get? S=some { cls:=.type "list",data:=.seq #[vb,vb] c } ->
  (∀ v h' tk,P (argBest bt (n - 1)) v->(∀ b o,b ∉ wr->b≠S->s.heap.get? b=some o->h'.get? b=some o)->R (.ok (.ret v)) { s with heap:=h',toks:=tk }) ->
  codeAny (model prog w) A (.builtin "min.loop" ⟨[.ref I,.none,.ref S],[]⟩) R s:=by
 have hSw:S ∉ wr:=λh=>hSf (W.sub _ h)
 intro k
 induction k with
 | zero =>
  intro j s vb c hk hj kp hst hPb hS hR
  have hin:j+1=n:=by omega
  refine codeAny_builtin F.entry_min_loop (by
   rw [Around.under_plainId F.plain_min_loop _]
   show wpAny _ A.in1 (seqItems? (.ref S) >>= _) _ _ s
   refine wpAny_bind (wpAny_seqItems hS rfl ?_)
   show wpAny _ A.in1 (tryCatch (pyNext (.ref I)) _ >>= _) _ _ s
   refine wpAny_bind (wpAny_tryCatch (W.done s _ _ (hin ▸ hst) λh' tk hk'=>?_))
   have hS':=hk' S _ hSw hS
   show wpAny _ A.in1 (updateSeq S (λ_=>#[]) >>= _) _ _ _
   refine wpAny_bind (wpAny_updateSeq hS' rfl (wpAny_bind (wpAny_letGo (wpAny_pure ?_))))
   exact hR vb _ tk (by rw [<- hin]; exact hPb) λb o hbw hbS e=>(Heap.get?_update_other _ _ (Ne.symm hbS)).trans (hk' b o hbw e))
 | succ k ih =>
  intro j s vb c hk hj kp hst hPb hS hR
  have hlt:j+1 < n:=by omega
  refine codeAny_builtin F.entry_min_loop (by
   rw [Around.under_plainId F.plain_min_loop _]
   show wpAny _ A.in1 (seqItems? (.ref S) >>= _) _ _ s
   refine wpAny_bind (wpAny_seqItems hS rfl ?_)
   show wpAny _ A.in1 (tryCatch (pyNext (.ref I)) _ >>= _) _ _ s
   refine wpAny_bind (wpAny_tryCatch (W.item (j+1) s _ _ hlt hst λv h' tk hP hst' hk'=>?_))
   have hS':=hk' S _ hSw hS
   have kp':gP h0 h':=λc o e=>hk' c o (h0w c o e).1 (kp c o e)
   show wpAny _ A.in1 (tryCatch (holding [v,v] (richCompare .Lt v vb >>= _)) _ >>= _) _ _ _
   refine wpAny_bind (wpAny_tryCatch (wpAny_holding (wpAny_bind (hcmp (j+1) (argBest bt j) v vb _ _ _ (Nat.lt_succ_of_le (ZeL bt j)) kp' hP hPb (wpAny_bind (wpAny_holding (wpAny_truthy_bool (wpAny_bind (wpAny_letGo (wpAny_pure ?_))))))))))
   cases hb:bt (j+1) (argBest bt j) with
   | true =>
    simp only [if_true]
    refine wpAny_bind (wpAny_updateSeq hS' rfl (wpAny_bind (wpAny_letGo ?_)))
    rw [m8]
    refine wpAny_pure ⟨plainId_quiet F.plain_min_loop _,ih (j+1) _ v _ (by omega) hlt (λc o e=>(Heap.get?_update_other _ _ (Ne.symm (h0w c o e).2)).trans (kp' c o e)) (W.frame _ _ _ hst' λb hbf o e=>?_) (by simp only [argBest,hb,if_true]; exact hP) (Heap.get?_update_self _ hS' rfl)
     λv' h'' tk'' hP' hk''=>hR v' h'' tk'' hP' λb o hbw hbS e=>hk'' b o hbw hbS ((Heap.get?_update_other _ _ (Ne.symm hbS)).trans (hk' b o hbw e))⟩
    exact (Heap.get?_update_other _ _ (λh:S=b=>hSf (by rw [h]; exact hbf))).trans e
   | false =>
    simp only [Bool.false_eq_true,if_false]
    refine wpAny_bind (wpAny_letGo ?_)
    rw [m8]
    exact wpAny_pure ⟨plainId_quiet F.plain_min_loop _,ih (j+1) _ vb c (by omega) hlt kp' hst' (by simp only [argBest,hb,Bool.false_eq_true,if_false]; exact hPb) hS' λv' h'' tk'' hP' hk'' =>
     hR v' h'' tk'' hP' λb o hbw hbS e=>hk'' b o hbw hbS (hk' b o hbw e)⟩)
theorem Zic (W:Walks prog w A.in1 I fp wr n P St) (bt:Nat->Nat->Bool) (hcmp:Ze4 prog w A.in1 h0 P bt) (hSf:S ∉ fp) (h0w:∀ c o,h0.get? c=some o->c ∉ wr/\c≠S) (hn:0 < n) {s:Shared} {c:Nat} (kp:gP h0 s.heap) (hst:St 0 s.heap)
  (hS:s.heap.get? S=some { cls:=.type "list",data:=.seq #[] c })
  (hR:∀ v h' tk,P (argBest bt (n - 1)) v->(∀ b o,b ∉ wr->b≠S->s.heap.get? b=some o->h'.get? b=some o)->R (.ok (.ret v)) { s with heap:=h',toks:=tk }) :
  codeAny (model prog w) A (.builtin "min.loop" ⟨[.ref I,.none,.ref S],[]⟩) R s:=by
 have hSw:S ∉ wr:=λh=>hSf (W.sub _ h)
 refine codeAny_builtin F.entry_min_loop (by
  rw [Around.under_plainId F.plain_min_loop _]
  show wpAny _ A.in1 (seqItems? (.ref S) >>= _) _ _ s
  refine wpAny_bind (wpAny_seqItems hS rfl ?_)
  show wpAny _ A.in1 (tryCatch (pyNext (.ref I)) _ >>= _) _ _ s
  refine wpAny_bind (wpAny_tryCatch (W.item 0 s _ _ hn hst λv h' tk hP hst' hk'=>?_))
  have hS':=hk' S _ hSw hS
  have kp':gP h0 h':=λc o e=>hk' c o (h0w c o e).1 (kp c o e)
  show wpAny _ A.in1 (updateSeq S (λ_=>#[v,v]) >>= _) _ _ _
  refine wpAny_bind (wpAny_updateSeq hS' rfl ?_)
  rw [m8]
  refine wpAny_pure ⟨plainId_quiet F.plain_min_loop _,Zib W bt hcmp hSf h0w _ 0 _ v _ rfl hn (λc o e=>(Heap.get?_update_other _ _ (Ne.symm (h0w c o e).2)).trans (kp' c o e)) (W.frame _ _ _ hst' λb hbf o e=>?_) hP (Heap.get?_update_self _ hS' rfl)
   λv' h'' tk'' hP' hk''=>hR v' h'' tk'' hP' λb o hbw hbS e=>hk'' b o hbw hbS ((Heap.get?_update_other _ _ (Ne.symm hbS)).trans (hk' b o hbw e))⟩
  exact (Heap.get?_update_other _ _ (λh:S=b=>hSf (by rw [h]; exact hbf))).trans e)
end
section
variable {prog:Program} {w:World} {A:Around} {E:Value->Shared->Prop} {s:Shared}
theorem Zia {a b:Value} {Q:Value->Shared->Prop} {c:Bool} (hh:A.handled=none) (hcmp:∀ (s':Shared) (Q:Value->Shared->Prop) (E:Value->Shared->Prop),gP s.heap s'.heap->Q (.bool c) s'->wpAny (model prog w) A.in1 (richCompare .Lt b a) Q E s')
  (h:∀ h' tk,gP s.heap h'->Q (if c=true then b else a) { s with heap:=h',toks:=tk }):wpAny (model prog w) A (call (.builtin "min") [a,b]) Q E s:=by
 refine call_function_tree F.kind_min F.plain_min F.entry_min (F.args_min2 _ _) (by
  show wpAny _ A.in1 (Builtin.Builtins.bindParams "min" ["key","default"] 0 ⟨[],[]⟩ >>= _) _ _ s
  refine wpAny_bind (wpAny_of_eq (a:=[none,none]) rfl ?_)
  show wpAny _ A.in1 (newTuple [a,b] >>= _) _ _ s
  refine wpAny_bind (wpAny_newObj_type ?_)
  have hT:(s.heap.push { cls:=.type "tuple",data:=.seq #[a,b] }).IsTuple s.heap.objs.size #[a,b]:=⟨_,Heap.get?_push_size _ rfl,rfl,0,rfl⟩
  have hsz:(s.heap.push { cls:=.type "tuple",data:=.seq #[a,b] }).objs.size=s.heap.objs.size+1:=Heap.size_push ..
  have hgk:gP s.heap (s.heap.push { cls:=.type "tuple",data:=.seq #[a,b] }):=λc o e=>Heap.get?_push_of_some _ e
  generalize (s.heap.push { cls:=.type "tuple",data:=.seq #[a,b] })=g at hT hsz hgk ⊢
  refine wpAny_bind (wpAny_pyIter_tuple hT (wpAny_bind (wpAny_newObj_type ?_)))
  rw [m8]
  have hlt:∀ {c:Nat} {o:Obj},s.heap.get? c=some o->c < s.heap.objs.size:=λe=>Heap.lt_size e
  have hsz2:∀ ob:Obj,(g.push ob).objs.size=s.heap.objs.size+2:=λob=>by rw [Heap.size_push,hsz]
  have W:=Walks.tuple (prog:=prog) (w:=w) (A:=A.in1) hh g.objs.size s.heap.objs.size (by rw [hsz]; exact Nat.ne_of_lt (Nat.lt_succ_self _)) #[a,b]
  refine wpAny_pure ⟨plainId_quiet F.plain_min_loop _,Zic (A:=A) (h0:=s.heap) W (λi j=>if i=1/\j=0 then c else false) ?_ ?_ ?_ (show 0 < 2 by decide) ?_ ⟨?_,?_⟩ (Heap.get?_push_size _ rfl) ?_⟩
  ·intro i j vi vj s' Q' E' hji kp hi hj hq
   have hi2:i < 2:=by
    have:=(Array.getElem?_eq_some_iff.mp hi).1
    simpa using this
   have e1:i=1:=by omega
   have e2:j=0:=by omega
   subst e1 e2
   have e3:b=vi:=by simpa using hi
   have e4:a=vj:=by simpa using hj
   subst e3 e4
   exact hcmp s' Q' E' kp (by simpa using hq)
  ·intro hm
   have hm':(g.push { cls:=.type "tuple_iterator",data:=.fields #[.ref s.heap.objs.size,.int 0 0] }).objs.size∈[g.objs.size,s.heap.objs.size]:=hm
   rw [hsz2,hsz] at hm'
   simp at hm'
  ·intro (c:Nat) o e
   have hc:=hlt e
   refine ⟨λhm=>?_,?_⟩
   ·have hm':c=g.objs.size:=by simpa using hm
    rw [hm',hsz] at hc
    omega
   ·show c≠(g.push { cls:=.type "tuple_iterator",data:=.fields #[.ref s.heap.objs.size,.int 0 0] }).objs.size
    rw [hsz2]
    omega
  ·exact λc o e=>Heap.get?_push_of_some _ (Heap.get?_push_of_some _ (hgk c o e))
  ·exact ⟨_,Heap.get?_push_of_some _ (Heap.get?_push_size _ rfl),rfl,rfl⟩
  ·exact hT.at λo e=>Heap.get?_push_of_some _ (Heap.get?_push_of_some _ e)
  ·intro v h' tk hP hk
   have hv:v=if c=true then b else a:=by
    cases c with
    | true =>
     have e:argBest (λi j=>if i=1/\j=0 then true else false) ((#[a,b]:Array Value).size - 1)=1:=rfl
     rw [e] at hP
     simpa using hP.symm
    | false =>
     have e:argBest (λi j=>if i=1/\j=0 then false else false) ((#[a,b]:Array Value).size - 1)=0:=rfl
     rw [e] at hP
     simpa using hP.symm
   rw [hv]
   refine h h' tk λ(c:Nat) o e=>hk c o (λhm=>?_) ?_ (Heap.get?_push_of_some _ (Heap.get?_push_of_some _ (hgk c o e)))
   ·have hc:=hlt e
    have hm':c=g.objs.size:=by simpa using hm
    rw [hm',hsz] at hc
    omega
   ·have hc:=hlt e
    show c≠(g.push { cls:=.type "tuple_iterator",data:=.fields #[.ref s.heap.objs.size,.int 0 0] }).objs.size
    rw [hsz2]
    omega)
end
section
variable {X:Cx}
noncomputable def ZbH:List V->Hp->VK->Prop:=λxs H Q=>∃ a b ns ms,xs=[.ref a,.ref b]/\H a=some (.tup (ns.map V.int))/\H b=some (.tup (ms.map V.int))/\Q (if HT.cJ ms ns=true then .ref b else .ref a) H
theorem Zd9 {k:Nat} (hr:Room k X.A) (hc:X.calm=true):cR X (.builtin "min") ZbH:=by
 intro pins s σ H xs us Q I r h
 obtain ⟨a,b,ns,ms,rfl,ha,hb,q⟩:=h
 obtain ⟨u,w',rfl,ru,rw'⟩:=iz r
 cases ru
 cases rw'
 obtain ⟨u1,r1,p1⟩:=fS (b:=false) I.hok ha
 obtain ⟨u2,r2,p2⟩:=fS (b:=false) I.hok hb
 have i1:IntsAre u1.toArray.toList ns:=Zc0 r1
 have i2:IntsAre u2.toArray.toList ms:=Zc0 r2
 refine Zia (c:=HT.cJ ms ns) (I.ok.hd hc) (λs' Q' E' kp hq=>?_) λh' tk kp=>⟨_,H,I.kept kp,?_,q⟩
 ·have q1:IsTup s'.heap a u1.toArray:=SqAt.at (b:=false) p1 λo e=>kp a o e
  have q2:IsTup s'.heap b u2.toArray:=SqAt.at (b:=false) p2 λo e=>kp b o e
  exact HT.Zil q2 q1 i2 i1 (show X.A.units+1 < cLine from by have:=hr.units; omega) hq
 ·cases HT.cJ ms ns
  ·exact rfl
  ·exact rfl
noncomputable def gB:List PyData->Option PyData
 | [.tuple xs,.tuple ys]=>(ints? xs).bind λns=>(ints? ys).bind λms=>some (if HT.cJ ms ns=true then .tuple (ms.map PyData.int) else .tuple (ns.map PyData.int))
 | _=>none
theorem Zao:e9 ZbH gB:=λPK pa m G H vs ds d Q w hv hd k=>by
 unfold gB at hd
 split at hd
 ·rename_i xs ys
  cases e1:ints? xs with
  | none=>rw [e1] at hd; cases hd
  | some ns =>
   cases e2:ints? ys with
   | none=>rw [e1,e2] at hd; cases hd
   | some ms =>
    rw [e1,e2] at hd
    have hd':(if HT.cJ ms ns=true then PyData.tuple (ms.map PyData.int) else .tuple (ns.map PyData.int))=d:=Option.some.inj hd
    cases hv with
    | cons h1 h2 =>
     cases h2 with
     | cons h2 h3 =>
      cases h3
      cases h1 with
      | @tup a us _ a1 a2 =>
       cases h2 with
       | @tup b ws _ b1 b2 =>
        obtain ⟨rfl,rfl⟩:=a2.ints_inv e1
        obtain ⟨rfl,rfl⟩:=b2.ints_inv e2
        refine ⟨a,b,ns,ms,rfl,w.sub _ _ a1,w.sub _ _ b1,?_⟩
        subst hd'
        cases hl:HT.cJ ms ns
        ·rw [hl] at k
         exact k.here w (.tup a1 (DnAll.ints _))
        ·rw [hl] at k
         exact k.here w (.tup b1 (DnAll.ints _))
 ·cases hd
end
section
variable {X:Cx} {PK:Pk} {e:Expr} {is:List Sl->Tr (List PyData)}
end
end L2
set_option Elab.async false
set_option linter.all false
set_option maxRecDepth 100000
namespace L2
open PySem PySem.Spec PyProof.Rows
section
variable {prog:Program} {w:World} {A:Around} {E:Value->Shared->Prop} {s:Shared}
end
noncomputable def ZnL:List (List Int)->List Int
 | []=>[]
 | x::r=>r.foldl (λb y=>if HT.cJ y b=true then y else b) x
section
variable {X:Cx}
noncomputable def tups?:List PyData->Option (List (List Int))
 | []=>some []
 | .tuple x::xs=>(ints? x).bind λns=>(tups? xs).bind λr=>some (ns::r)
 | _=>none
noncomputable def ZoN:List PyData->Option PyData
 | [.list xs]=>(tups? xs).bind λnss=>if nss.isEmpty=true then none else some (.tuple ((ZnL nss).map PyData.int))
 | _=>none
end
section
variable {X:Cx} {PK:Pk} {a b:Expr} {pos:Pos} {j:List Sl->Tr PyData}
noncomputable def ib (xs:List PyData):PyData->Tr PyData
 | .int i=>Tr.of (bf xs i)
 | _=>.fail
noncomputable def k9 (k:Nat) (j:List Sl->Tr PyData):List Sl->Tr PyData:=λρ=>(j ρ).bind λy=>match ρ[k]? with
 | some (.own xs)=>ib xs y
 | some (.d (.list xs))=>ib xs y
 | _=>.fail
theorem ZnR {G:Hp} {vs:List V} {xs:List PyData} {i:Int} {d:PyData} (h:DnAll G vs xs) (e:bf xs i=some d):∃ v,bf vs i=some v/\Dn G v d:=by
 unfold bf at e ⊢
 rw [h.length]
 cases hi:df xs.length i with
 | none=>rw [hi] at e; cases e
 | some n =>
  rw [hi] at e
  exact h.get n e
theorem nZ {α β:Type}:∀ {t:Tr α} {m:Nat} {Z:Nat->β->Prop},(t.bind λ_=>(Tr.fail:Tr β)).ok m Z->False
 | .ret a,m,Z,h=>h
 | .draw n k,m,Z,h=>nZ (t:=k 0) (h.2.2.2 0 (Int.le_refl _) h.2.1)
 | .fail,m,Z,h=>h
theorem Zoa {k:Nat} (hb:PE X b (TAe PK j)) (ha:PE X a (cM k)) (hs:sU b):PE X (.Subscript a b pos) (TAe PK (k9 k j)):=(ff fj ha hb hs).imp λσ H Q hz0=>by
 obtain ⟨pa,G₀,H₀,m,ρ,G,R,z⟩:=hz0
 have key:∀ xs:List PyData,(∃ (sl:Sl),ρ[k]?=some sl/\(sl=.own xs\/sl=.d (.list xs)))->((j ρ).bind λy=>ib xs y).ok m (λm1 x=>Kn PK pa m1 G H x Q)->gR (pT X.K) (cM k) (TAe PK j) σ H Q:=λxs ⟨sl,hsl,hx⟩ z=>by
  obtain ⟨o,h1,h2⟩:=R.sl k _ hsl
  have hp:∃ p,o=some (.ref p):=by
   rcases hx with rfl | rfl
   ·cases h2; exact ⟨_,rfl⟩
   ·cases h2 with
    | d q=>cases q; exact ⟨_,rfl⟩
  obtain ⟨p,rfl⟩:=hp
  refine ⟨_,h1,?_⟩
  refine TAe.then R z λm1 y u G1 H1 s1 w1 R1 d1 q1=>?_
  obtain ⟨o',h1',h2'⟩:=R1.sl k _ hsl
  rw [h1] at h1'
  cases h1'
  have hl:∃ vs,H1 p=some (.lst vs)/\DnAll G1 vs xs:=by
   rcases hx with rfl | rfl
   ·cases h2' with
    | own a1 a2 a3 a4=>exact ⟨_,a1,a4⟩
   ·cases h2' with
    | d q=>cases q with
     | lst b1 b2=>exact ⟨_,w1.sub _ _ b1,b2⟩
  obtain ⟨vs,e1,e2⟩:=hl
  cases d1 with
  | int i =>
   obtain ⟨d,hd,kq⟩:=Tr.ok_of q1
   obtain ⟨v,hv,dv⟩:=ZnR e2 hd
   exact ⟨p,vs,i,v,rfl,rfl,SqL.of e1,hv,kq v G1 H1 s1 w1 dv⟩
  | _=>exact q1.elim
 unfold k9 at z
 cases hk:ρ[k]? with
 | none=>rw [hk] at z; exact (nZ (t:=j ρ) z).elim
 | some sl =>
  rw [hk] at z
  cases sl with
  | own xs=>exact key xs ⟨_,hk,.inl rfl⟩ z
  | d x =>
   cases x with
   | list xs=>exact key xs ⟨_,hk,.inr rfl⟩ z
   | _=>exact (nZ (t:=j ρ) z).elim
  | _=>exact (nZ (t:=j ρ) z).elim
end
end L2
set_option Elab.async false
set_option linter.all false
set_option maxRecDepth 100000
namespace L2
open PySem PySem.Spec PyProof.Rows
section
variable {prog:Program} {w:World} {A:Around} {E:Value->Shared->Prop} {s:Shared}
theorem Zna {t b:Addr} {ws:List Value} {Q:Value->Shared->Prop} (ht:IsTup s.heap t ([]:List Value).toArray) (hb:IsTup s.heap b ws.toArray) (h1:Q (.ref b) s):wpAny (model prog w) A (binaryOp .Add (.ref t) (.ref b)) Q E s:=by
 obtain ⟨⟨cls,dd,data,sl⟩,ho,hc,n,hd⟩:=id ht
 obtain ⟨⟨cls2,dd2,data2,cV⟩,ho2,hc2,n2,hd2⟩:=id hb
 simp only at hc hd hc2 hd2
 subst hc hd hc2 hd2
 exact concat_meets ⟨_,ho,rfl⟩ ⟨_,ho2,rfl⟩ noFill_tuple_add seq_tuple_add PySem.F.slot_tuple_add PySem.F.entry_tuple_add (PySem.F.args_tuple_add_2 _ _) (tuple_addW0 t b _ ws.toArray n n2 dd dd2 sl cV rfl) ⟨ho,ho2,h1⟩
end
section
variable {X:Cx}
noncomputable def ZbR (K:PySem.W.Frag):R2:=λx y H Q=>∃ a b ys,x=.ref a/\y=.ref b/\SqT K H a []/\SqT K H b ys/\Q (.ref b) H
theorem ZhL:OpR X (binaryOp .Add) (ZbR X.K):=by
 intro pins s σ H x y v u Q I rx ry h
 obtain ⟨a,b,ys,rfl,rfl,ha,hb,q⟩:=h
 cases rx
 cases ry
 obtain ⟨its,r1,p1,_⟩:=I.tuple ha
 obtain ⟨its2,r2,p2,_⟩:=I.tuple hb
 cases r1
 exact Zna p1 p2 ⟨.ref b,H,I,rfl,q⟩
noncomputable def jr:PyData->PyData->Option PyData
 | .tuple [],.tuple ys=>some (.tuple ys)
 | x,y=>aO x y
noncomputable def ZbU (K:PySem.W.Frag):R2:=λx y H Q=>pU K x y H Q\/ZbR K x y H Q
theorem ZhN:OpR X (binaryOp .Add) (ZbU X.K):=bc.or ZhL
theorem Zfm {K:PySem.W.Frag}:cG (ZbU K) jr:=λPK pa m G H x y dx dy dz Q w hx hy hz k=>by
 unfold jr at hz
 split at hz
 ·cases hz
  cases hx with
  | tup a1 a2 =>
   cases a2
   cases hy with
   | tup b1 b2=>exact .inr ⟨_,_,_,rfl,rfl,SqT.of (w.sub _ _ a1),SqT.of (w.sub _ _ b1),k.here w (.tup b1 b2)⟩
 ·exact .inl (bb PK pa m G H x y _ _ dz Q w hx hy hz k)
theorem Zdo {x:PyData} {xs ys:List PyData} (h:small ((x::xs).length+ys.length)=true):aQ jr (.tuple (x::xs)) (.tuple ys)=.ret (.tuple (x::xs++ys)):=by
 show Tr.of (aO (.tuple (x::xs)) (.tuple ys))=_
 unfold aO
 simp only [List.isEmpty_cons,Bool.not_false,Bool.true_and,h,if_true]
 rfl
theorem Zog {xs ys:List PyData} (h:small (xs.length+ys.length)=true):aQ jr (.tuple xs) (.tuple ys)=.ret (.tuple (xs++ys)):=by
 cases xs with
 | nil=>rfl
 | cons x xs=>exact Zdo h
end
end L2
set_option Elab.async false
set_option linter.all false
set_option maxRecDepth 100000
namespace L2
open PySem PySem.Spec PyProof.Rows
section
variable {PK:Pk} {X:Cx} {a b:Expr} {pos:Pos} {i j:List Sl->Tr PyData}
noncomputable def sS (r:R2) (f:PyData->PyData->Option (List PyData)):Prop:=∀ (PK:Pk) (pa:Addr) (m:Nat) (G H:Hp) (x y:V) (dx dy:PyData) (dz:List PyData) (Q:VK),Wd PK pa m G H->Dn G x dx->Dn G y dy->f dx dy=some dz->Ko1 PK pa m G H dz Q->r x y H Q
noncomputable def oC (f:PyData->PyData->Option (List PyData)) (i j:List Sl->Tr PyData):List Sl->Tr (List PyData):=λρ=>(i ρ).bind λx=>(j ρ).bind λy=>Tr.of (f x y)
theorem Zol {r:R2} {f:PyData->PyData->Option (List PyData)} (hv:sS r f):∀ σ H Q,fw PK (oC f i j) σ H Q->gR r (TAe PK i) (TAe PK j) σ H Q:=by
 rintro σ H Q ⟨pa,G₀,H₀,m,ρ,G,R,q⟩
 refine TAe.then R q λm1 x v G1 H1 s1 w1 R1 d1 q1=>?_
 refine TAe.then R1 q1 λm2 y u G2 H2 s2 w2 R2 d2 q2=>?_
 obtain ⟨z,hz,k⟩:=Tr.ok_of q2
 exact hv PK pa m2 G2 H2 v u x y z Q w2 (d1.mono s2.gs) d2 hz (Ko1.later k (s1.trans s2 w1.some) w2.some)
theorem Zn1 {op:Operator} {r:R2} {f:PyData->PyData->Option (List PyData)} (ho:OpR X (binaryOp op) r) (hv:sS r f) (ha:PE X a (TAe PK i)) (hb:PE X b (TAe PK j)):PE X (.BinOp a op b pos) (fw PK (oC f i j)) :=
 (cm ho ha hb).imp (Zol hv)
noncomputable def iR:PyData->PyData->Option (List PyData)
 | .list xs,.int k=>if (decide (-1000<=k) && decide (k<=1000) && decide (xs.length<=1000))=true then some (List.replicate k.toNat xs).flatten else none
 | _,_=>none
theorem ZdG {G:Hp}:∀ {vs:List V} {ds:List PyData} {us:List V} {es:List PyData},DnAll G vs ds->DnAll G us es->DnAll G (vs++us) (ds++es)
 | _,_,_,_,.nil,h=>h
 | _,_,_,_,.cons a b,h=>.cons a (ZdG b h)
theorem ZdF {G:Hp} {vs:List V} {ds:List PyData} (h:DnAll G vs ds):∀ k:Nat,DnAll G (List.replicate k vs).flatten (List.replicate k ds).flatten
 | 0=>.nil
 | k+1=>by
  rw [List.replicate_succ,List.replicate_succ,List.flatten_cons,List.flatten_cons]
  exact ZdG h (ZdF h k)
theorem Zfg:sS pS iR:=λPK pa m G H x y dx dy dz Q w hx hy hz k=>by
 unfold iR at hz
 split at hz
 ·split at hz
  ·rename_i hc
   cases hz
   simp only [Bool.and_eq_true,decide_eq_true_eq] at hc
   cases hx with
   | lst a1 a2 =>
    cases hy
    refine ⟨_,_,_,rfl,rfl,w.sub _ _ a1,by omega,by omega,?_,λp hp=>?_⟩
    ·rw [a2.length]
     have h0:∀ z:Int,z<=1000->z.toNat<=1000:=λz hz=>by omega
     exact Nat.le_trans (Nat.mul_le_mul hc.2 (h0 _ hc.1.2)) (show 1000 * 1000<=sizeLine by decide)
    ·exact k.new w (ZdF a2 _) hp
  ·cases hz
 ·cases hz
noncomputable def kO (f:PyData->PyData->Option (List PyData)) (x y:PyData):Tr (List PyData):=Tr.of (f x y)
noncomputable def Zek (f:PyData->PyData->Option (List PyData)) (j:List Sl->Tr PyData) (ρ:List Sl) (x:PyData):Tr (List PyData):=(j ρ).bind (kO f x)
theorem Zlp {f:PyData->PyData->Option (List PyData)} {ρ:List Sl}:oC f i j ρ=(i ρ).bind (Zek f j ρ):=rfl
theorem Zlo {f:PyData->PyData->Option (List PyData)} {ρ:List Sl} {x:PyData}:Zek f j ρ x=(j ρ).bind (kO f x):=rfl
theorem ZgH {xs:List PyData} {k:Int} (h:(decide (-1000<=k) && decide (k<=1000) && decide (xs.length<=1000))=true):kO iR (.list xs) (.int k)=.ret (List.replicate k.toNat xs).flatten:=by
 simp only [kO,iR,h,if_true]
 rfl
end
theorem kC {α:Type} {n:Nat}:∀ {us:List α},us.length=n+1->∃ (a:α) (t:List α),us=a::t/\t.length=n
 | a::t,h=>⟨a,t,rfl,Nat.succ.inj h⟩
theorem Zit {α:Type} {us:List α} (h:us.length=0):us=[]:=List.eq_nil_of_length_eq_zero h
theorem gc {α:Type} {us:List α} (h:us.length=1):∃ a,us=[a]:=by
 obtain ⟨a,t,rfl,h2⟩:=kC h
 exact ⟨a,by rw [Zit h2]⟩
theorem fi {α:Type} {us:List α} (h:us.length=2):∃ a0 a1,us=[a0,a1]:=by
 obtain ⟨a0,t,rfl,h2⟩:=kC h
 obtain ⟨a1,rfl⟩:=gc h2
 exact ⟨a0,a1,rfl⟩
theorem fI {α:Type} {us:List α} (h:us.length=3):∃ a0 a1 a2,us=[a0,a1,a2]:=by
 obtain ⟨a0,t,rfl,h2⟩:=kC h
 obtain ⟨a1,a2,rfl⟩:=fi h2
 exact ⟨a0,a1,a2,rfl⟩
theorem hW {α:Type} {us:List α} (h:us.length=4):∃ a0 a1 a2 a3,us=[a0,a1,a2,a3]:=by
 obtain ⟨a0,t,rfl,h2⟩:=kC h
 obtain ⟨a1,a2,a3,rfl⟩:=fI h2
 exact ⟨a0,a1,a2,a3,rfl⟩
theorem qI {α:Type} {us:List α} (h:us.length=5):∃ a0 a1 a2 a3 a4,us=[a0,a1,a2,a3,a4]:=by
 obtain ⟨a0,t,rfl,h2⟩:=kC h
 obtain ⟨a1,a2,a3,a4,rfl⟩:=hW h2
 exact ⟨a0,a1,a2,a3,a4,rfl⟩
end L2
set_option Elab.async false
set_option linter.all false
set_option maxRecDepth 100000
namespace L2
open PySem PySem.Spec PyProof.Rows
noncomputable def FS (K:PySem.W.Frag) (n:Nat) (σ:St) (H:Hp):Prop:=∃ a xs,σ[0]?=some (some (V.ref a))/\SqL K H a xs/\xs.length=n
section
variable {PK:Pk} {X:Cx} {pos:Pos} {n:Nat} {is:List Sl->Tr (List PyData)} {s t:List Sl->Tr Ou}
theorem ZnS {sts:List Stmt}:PSs X sts (bg PK kZ):=λ_ _ _ _ _ _ h=>by
 obtain ⟨pa,G₀,H₀,m,ρ,G,R,z⟩:=h
 exact z.elim
end
end L2
set_option Elab.async false
set_option linter.all false
set_option maxRecDepth 100000
namespace L2
open PySem PySem.Spec PyProof.Rows
section
variable {PK:Pk} {X:Cx} {a b c d e:Expr} {pos:Pos} {i j l n:List Sl->Tr PyData}
end
end L2
set_option Elab.async false
set_option linter.all false
set_option maxRecDepth 100000
set_option exponentiation.threshold 9000
namespace Tw
open PySem L2
noncomputable def nb (k:Nat) (n:Int):Prop:=n.natAbs < 2 ^ k
theorem aP {k:Nat} {n:Int} (h:nb k n) (hk:k<=8000):fit n=true:=decide_eq_true (Nat.lt_of_lt_of_le h (Nat.pow_le_pow_right (by decide) hk))
theorem aX {k l:Nat} {n:Int} (h:nb k n) (hk:k<=l):nb l n:=Nat.lt_of_lt_of_le h (Nat.pow_le_pow_right (by decide) hk)
theorem bG {k l:Nat} {m n:Int} (h:nb k m) (h':nb l n):nb (k+l) (m * n):=by
 unfold nb at *
 rw [Int.natAbs_mul,Nat.pow_add]
 exact Nat.mul_lt_mul'' h h'
theorem cZ {k l:Nat} {m n:Int} (h:nb k m) (h':nb l n):nb (max k l+1) (m+n):=by
 have h1:=aX h (Nat.le_max_left k l)
 have h2:=aX h' (Nat.le_max_right k l)
 unfold nb at *
 rw [Nat.pow_succ,Nat.mul_two]
 exact Nat.lt_of_le_of_lt (Int.natAbs_add_le m n) (Nat.add_lt_add h1 h2)
theorem f9 {k:Nat} {n:Int} (h:nb k n):nb k (-n):=by
 unfold nb at *
 omega
theorem fF {k l:Nat} {m n:Int} (h:nb k m) (h':nb l n):nb (max k l+1) (m - n):=by
 rw [Int.sub_eq_add_neg]
 exact cZ h (f9 h')
theorem bP {k:Nat} {n:Int} (h1:-(2 ^ k:Nat) < n) (h2:n < (2 ^ k:Nat)):nb k n:=by
 unfold nb
 omega
theorem iV {k:Nat} {c:Prop} [Decidable c] {m n:Int} (h:nb k m) (h':nb k n):nb k (if c then m else n):=by split <;> assumption
noncomputable def ws (f:Int->Int):Nat->List Int->Int
 | _,[]=>0
 | k,w::l=>w * f k+ws f (k+1) l
theorem oV {f:Int->Int} {a b:Nat} (hf:∀ x:Int,0<=x->nb b (f x)):∀ {l:List Int} {k:Nat},(∀ w∈l,nb a w)->nb (a+b+l.length) (ws f k l)
 | [],k,h=>by unfold ws nb; exact Nat.pos_of_ne_zero (by simp)
 | w::l,k,h=>by
  unfold ws
  have h1:=bG (h w (by simp)) (hf k (by omega))
  have h2:=oV hf (l:=l) (k:=k+1) λv hv=>h v (List.mem_cons_of_mem _ hv)
  refine aX (cZ h1 h2) ?_
  rw [List.length_cons]
  omega
theorem dr {f g:Int->Int}:∀ {l:List Int} {k:Nat},(∀ x:Int,0<=x->f x=g x)->ws f k l=ws g k l
 | [],k,h=>rfl
 | w::l,k,h=>by
  unfold ws
  rw [h k (by omega),dr h]
theorem ZaQ {a:Nat}:∀ {l:List Int},(∀ w∈l,nb a w)->nb (a+l.length) l.sum
 | [],h=>by unfold nb; simp; exact Nat.pos_of_ne_zero (by simp)
 | w::l,h=>by
  rw [List.sum_cons]
  refine aX (cZ (h w (by simp)) (ZaQ (l:=l) λv hv=>h v (List.mem_cons_of_mem _ hv))) ?_
  rw [List.length_cons]
  omega
structure Shp where
 top:Int
 depth:Int
 start:Int
 piece:Int
 keep:Int
 lack:Int
 lost:Int
 back:Int
 late:Int
noncomputable def Shp.l (s:Shp):List Int:=[s.top,s.depth,s.start,s.piece,s.keep,s.lack,s.lost,s.back,s.late]
@[irreducible] noncomputable def Shp.d (s:Shp):PyData:=.tuple (s.l.map PyData.int)
structure Shp.Ok (s:Shp):Prop where
 t0:0<=s.top
 d0:0<=s.depth
 td:s.top+s.depth<=100
 start0:0<=s.start
 start:nb 45 s.start
 piece:nb 45 s.piece
 keep:nb 45 s.keep
 lack:nb 45 s.lack
 lost:nb 45 s.lost
 back:nb 45 s.back
 late:nb 45 s.late
theorem Za7 (s:Shp):aQ aE s.d (.int 0)=.ret (.int s.top):=by unfold Shp.d; rw [dR]; exact congrArg Tr.of kP
theorem Za6 (s:Shp):aQ aE s.d (.int 1)=.ret (.int s.depth):=by unfold Shp.d; rw [dR]; exact congrArg Tr.of sw
theorem Zgc (s:Shp):aQ aE s.d (.int 2)=.ret (.int s.start):=by unfold Shp.d; rw [dR]; exact congrArg Tr.of su
theorem Za5 (s:Shp):aQ aE s.d (.int 3)=.ret (.int s.piece):=by unfold Shp.d; rw [dR]; exact congrArg Tr.of ZeB
theorem Zgb (s:Shp):aQ aE s.d (.int 4)=.ret (.int s.keep):=by unfold Shp.d; rw [dR]; exact congrArg Tr.of ZeA
theorem Zga (s:Shp):aQ aE s.d (.int 5)=.ret (.int s.lack):=by unfold Shp.d; rw [dR]; exact congrArg Tr.of Zez
theorem Zf9 (s:Shp):aQ aE s.d (.int 6)=.ret (.int s.lost):=by unfold Shp.d; rw [dR]; exact congrArg Tr.of Zey
theorem Zf8 (s:Shp):aQ aE s.d (.int 7)=.ret (.int s.back):=by unfold Shp.d; rw [dR]; exact congrArg Tr.of Zex
theorem Zf7 (s:Shp):aQ aE s.d (.int 8)=.ret (.int s.late):=by unfold Shp.d; rw [dR]; exact congrArg Tr.of Zew
section
variable (s:Shp)
noncomputable def Shp.nx (y f:Int):Int:=cv (y - f) (-s.depth)
noncomputable def Shp.day (y f:Int):Int:=(if s.nx y f > 0 then s.keep * s.nx y f else s.lack * -s.nx y f)+s.lost * (s.nx y f - (y - f))
noncomputable def Shp.fin (x:Int):Int:=if x > 0 then -s.back * x else s.late * -x
end
noncomputable def lI (l:List Int):PyData:=.list (l.map PyData.int)
noncomputable def tI (l:List Int):PyData:=.tuple (l.map PyData.int)
noncomputable def fD (fs:List (List Int)):PyData:=.tuple (fs.map tI)
end Tw
set_option Elab.async false
set_option linter.all false
set_option maxRecDepth 100000
namespace L2
open PySem PySem.Spec PyProof.Rows
variable {ρ:List Sl} {s t:List Sl->Tr Ou} {i j l:List Sl->Tr PyData} {is:List Sl->Tr (List PyData)} {k n:Nat} {x y d:PyData} {xs ys:List PyData} {sl:Sl}
theorem rb2 {α β:Type} {a:α} {f:α->Tr β}:(Tr.ret a).bind f=f a:=Eq.trans (Tr.ret_bind a f) (Eq.refl _)
noncomputable def iM (xs:List PyData):Tr (List PyData):=.ret xs.reverse
theorem ZjW:iM xs=.ret xs.reverse:=rfl
noncomputable def Zbg (xs:List PyData):Tr (List PyData):=(d9 xs).bind iM
noncomputable def Zbf (xs:List PyData):Tr (List PyData):=(iQ xs).bind iM
theorem Zj0:sL is ρ=(is ρ).bind Zbg:=rfl
theorem ZjZ:sK is ρ=(is ρ).bind Zbf:=rfl
theorem ZjV:Zbg xs=(d9 xs).bind iM:=rfl
theorem ZjU:Zbf xs=(iQ xs).bind iM:=rfl
noncomputable def ZoQ (k:Nat) (ρ:List Sl) (xs:List PyData):PyData->Tr Ou
 | .list ys=>if small (xs.length+ys.length)=true then .ret (.next (ρ.set k (.own (xs++ys)))) else .fail
 | _=>.fail
theorem rE (a b c d:Int):bF gB [.tuple [.int a,.int b],.tuple [.int c,.int d]]=.ret (if c < a\/c=a/\d < b then .tuple [.int c,.int d] else .tuple [.int a,.int b]):=by
 have h1:ints? [PyData.int a,.int b]=some [a,b]:=ints?_map [a,b]
 have h2:ints? [PyData.int c,.int d]=some [c,d]:=ints?_map [c,d]
 unfold bF gB
 simp only [h1,h2]
 show Tr.of (some _)=_
 rw [Tr.of_some]
 have e:HT.cJ [c,d] [a,b]=true ↔ (c < a\/c=a/\d < b):=by
  simp only [HT.ZcL,HT.ZcK]
  by_cases hca:c=a
  ·subst hca
   by_cases hdb:d=b
   ·simp [hdb]
   ·simp [hdb]
  ·simp [hca]
 by_cases hc:(c < a\/c=a/\d < b)
 ·rw [if_pos (e.mpr hc),if_pos hc]; rfl
 ·rw [if_neg (λz=>hc (e.mp z)),if_neg hc]; rfl
theorem Zii (ns:List Int) (h:ns≠[]):bF iZ [.list (ns.map PyData.int)]=.ret (.int (eN ns)):=by
 unfold bF iZ hI
 simp [h]
noncomputable def jc:Nat->List Sl->PyData->Tr PyData
 | 0,.own xs::_,y=>ib xs y
 | 0,.d (.list xs)::_,y=>ib xs y
 | k+1,_::ρ,y=>jc k ρ y
 | _,_,_=>.fail
theorem ZkN:k9 k j ρ=(j ρ).bind (jc k ρ):=by
 have key:∀ (k:Nat) (σ:List Sl) (y:PyData),(match σ[k]? with | some (Sl.own xs)=>ib xs y | some (Sl.d (.list xs))=>ib xs y | _=>Tr.fail)=jc k σ y:=by
  intro k
  induction k with
  | zero =>
   intro σ y
   cases σ with
   | nil=>rfl
   | cons s r =>
    cases s with
    | d x=>cases x <;> rfl
    | _=>rfl
  | succ k ih =>
   intro σ y
   cases σ with
   | nil=>rfl
   | cons s r=>exact ih r y
 unfold k9
 exact congrArg (Tr.bind (j ρ)) (funext λy=>key k ρ y)
theorem ZkM (n:Int):jc 0 (.own xs::ρ) (.int n)=Tr.of (bf xs n):=rfl
theorem ZkL:jc (k+1) (sl::ρ) y=jc k ρ y:=rfl
theorem Zn6 {α:Type} {t:Tr α} {P:α->Prop} (h:Al t 0 P):∃ a,t=.ret a/\P a:=by
 have h':=h.out
 cases t with
 | ret a=>exact ⟨a,rfl,h'⟩
 | draw w k=>exact h'.elim
 | fail=>exact h'.elim
theorem ZeP {α:Type} {t:Tr α} {a:α} (h:Al t 0 λb=>b=a):t=.ret a:=by
 obtain ⟨b,e,rfl⟩:=Zn6 h
 exact e
theorem Zn4 {α:Type} {t:Tr α} {a:α} {P:α->Prop} {N:Nat} (h:t=.ret a) (hp:P a):Al t N P:=by rw [h]; exact cT hp
theorem Zdc {s:List Sl->Tr Ou} {g:PyData->List Sl->Option (List Sl)} {n:Nat} {full:List PyData} (I:List PyData->List Sl->Prop) {Q:Ou->Prop} (ht:∀ pre x post ρ,full=pre++x::post->I pre ρ->∃ ρ1,g x ρ=some ρ1/\(s ρ1).all n λo=>∃ ρ2,o=.next ρ2/\I (pre++[x]) ρ2) (hq:∀ ρ,I full ρ->Q (.next ρ)) :
  ∀ {xs pre:List PyData} {ρ:List Sl},full=pre++xs->I pre ρ->(bW g s xs ρ).all (xs.length * n) Q
 | [],pre,ρ,e,h0=>hq ρ (by rw [e,List.append_nil]; exact h0)
 | x::xs,pre,ρ,e0,h0=>by
  obtain ⟨ρ1,e,ha⟩:=ht pre x xs ρ e0 h0
  have en:(x::xs).length * n=n+xs.length * n:=by rw [List.length_cons,Nat.succ_mul]; omega
  rw [en,dg,e,Tr.of_some,Tr.ret_bind]
  unfold kG
  refine Tr.all_bind ha λo ⟨ρ2,eo,h2⟩=>?_
  subst eo
  rw [dS]
  exact Zdc I ht hq (by rw [e0,List.append_assoc]; rfl) h2
theorem ZeN {n N:Nat} {g:PyData->List Sl->Option (List Sl)} {s:List Sl->Tr Ou} {xs:List PyData} {ρ:List Sl} {Q:Ou->Prop} (I:List PyData->List Sl->Prop) (h0:I [] ρ) (hN:xs.length * n<=N) (ht:∀ pre x post ρ,xs=pre++x::post->I pre ρ->∃ ρ1,g x ρ=some ρ1/\Al (s ρ1) n λo=>∃ ρ2,o=.next ρ2/\I (pre++[x]) ρ2) (hq:∀ ρ,I xs ρ->Q (.next ρ)):Al (bW g s xs ρ) N Q :=
 .of (Tr.all_mono (Zdc (full:=xs) I (λpre x post ρ e h=>let ⟨ρ1,e,a⟩:=ht pre x post ρ e h; ⟨ρ1,e,a.out⟩) hq (pre:=[]) rfl h0) hN λ_ h=>h)
theorem Zbk {lo hi:Int} {pre post:List PyData} {x:PyData} (h:(aV lo hi).reverse=pre++x::post):x=.int (hi - 1 - pre.length)/\(pre.length:Int) < hi - lo:=by
 have h1:((aV lo hi).reverse)[pre.length]?=some x:=by rw [h]; simp
 have hl:pre.length < ((aV lo hi).reverse).length:=(List.getElem?_eq_some_iff.mp h1).1
 rw [List.length_reverse,cX] at hl
 rw [List.getElem?_reverse (by rw [cX]; exact hl),cX] at h1
 unfold aV aB at h1
 rw [List.map_map,List.getElem?_map,List.getElem?_range (by omega)] at h1
 refine ⟨?_,by omega⟩
 cases h1
 show PyData.int (lo+(((hi - lo).toNat - 1 - pre.length:Nat):Int))=_
 congr 1
 omega
theorem Zij {h:PyData->Tr PyData} {f:Int->PyData} {lo hi:Int} (hx:∀ z:Int,lo<=z->z < hi->h (.int z)=.ret (f z)):bL h (aV lo hi)=.ret ((aB lo (hi - lo).toNat).map f):=by
 have key:∀ l:List Int,(∀ z∈l,lo<=z/\z < hi)->bL h (l.map PyData.int)=.ret (l.map f):=by
  intro l
  induction l with
  | nil=>intro _; rfl
  | cons z l ih =>
   intro hz
   have hh:=hz z (by simp)
   rw [List.map_cons,bL,hx z hh.1 hh.2,Tr.ret_bind,ih λy hy=>hz y (List.mem_cons_of_mem _ hy)]
   rfl
 unfold aV
 refine key _ λz hz=>?_
 have:=Zbv hz
 omega
theorem ZlS (xs:List PyData):(cC xs).length=xs.length:=by unfold cC; simp
end L2
set_option Elab.async false
set_option linter.all false
set_option maxRecDepth 100000
namespace Tw
open PySem L2
noncomputable def bst (g:Int->Int) (top:Int):Nat->Int×Int
 | 0=>(g top,top)
 | n+1=>if (bst g top n).1 < g (top - ((n+1:Nat):Int)) then bst g top n else (g (top - ((n+1:Nat):Int)),top - ((n+1:Nat):Int))
theorem oo (g:Int->Int) (top:Int):∀ n:Nat,top - n<=(bst g top n).2/\(bst g top n).2<=top/\g (bst g top n).2=(bst g top n).1
 | 0=>by unfold bst; simp
 | n+1=>by
  have ih:=oo g top n
  unfold bst
  split
  ·exact ⟨by omega,ih.2.1,ih.2.2⟩
  ·exact ⟨Int.le_refl _,by omega,rfl⟩
theorem r8 (g:Int->Int) (top:Int):∀ (n:Nat) (y:Int),top - n<=y->y<=top->(bst g top n).1<=g y
 | 0,y,h1,h2=>by
  have:y=top:=by omega
  subst this
  unfold bst
  exact Int.le_refl _
 | n+1,y,h1,h2=>by
  by_cases hy:y=top - ((n+1:Nat):Int)
  ·unfold bst
   split
   ·subst hy; omega
   ·subst hy; exact Int.le_refl _
  ·have ih:=r8 g top n y (by omega) h2
   unfold bst
   split
   ·exact ih
   ·omega
noncomputable def pck (g:Int->Int) (top K x:Int):Int×Int :=
 match (top - x).toNat with
 | 0=>(g x,x)
 | n+1=>if K+(bst g top n).1 < g x then (K+(bst g top n).1,(bst g top n).2) else (g x,x)
noncomputable def cst (g:Int->Int) (top K P x:Int):Int:=(pck g top K x).1 - P * x
noncomputable def lvl (g:Int->Int) (top K x:Int):Int:=(pck g top K x).2
theorem qf (g:Int->Int) (top K:Int):pck g top K top=(g top,top):=by
 unfold pck
 rw [Int.sub_self]
 rfl
theorem qg (g:Int->Int) (top K:Int) (n:Nat):pck g top K (top - ((n+1:Nat):Int))=if K+(bst g top n).1 < g (top - ((n+1:Nat):Int)) then (K+(bst g top n).1,(bst g top n).2) else (g (top - ((n+1:Nat):Int)),top - ((n+1:Nat):Int)):=by
 unfold pck
 have e:(top - (top - ((n+1:Nat):Int))).toNat=n+1:=by omega
 rw [e]
theorem Zhv {g:Int->Int} {top K x:Int} (hx:x<=top):(pck g top K x).1<=g x/\∀ y,x < y->y<=top->(pck g top K x).1<=K+g y:=by
 by_cases ht:x=top
 ·subst ht
  rw [qf]
  exact ⟨Int.le_refl _,λy h1 h2=>by omega⟩
 ·obtain ⟨n,hn⟩:∃ n:Nat,x=top - ((n+1:Nat):Int):=⟨(top - x - 1).toNat,by omega⟩
  subst hn
  rw [qg]
  split
  ·rename_i hc
   exact ⟨by dsimp only; omega,λy h1 h2=>by have:=r8 g top n y (by omega) h2; dsimp only; omega⟩
  ·rename_i hc
   exact ⟨Int.le_refl _,λy h1 h2=>by have:=r8 g top n y (by omega) h2; dsimp only; omega⟩
theorem Zcd {g:Int->Int} {top K x:Int} (hx:x<=top):x<=(pck g top K x).2/\(pck g top K x).2<=top/\(((pck g top K x).2=x/\(pck g top K x).1=g x)\/(x < (pck g top K x).2/\(pck g top K x).1=K+g (pck g top K x).2/\(pck g top K x).1 < g x)):=by
 by_cases ht:x=top
 ·subst ht
  rw [qf]
  exact ⟨Int.le_refl _,Int.le_refl _,.inl ⟨rfl,rfl⟩⟩
 ·obtain ⟨n,hn⟩:∃ n:Nat,x=top - ((n+1:Nat):Int):=⟨(top - x - 1).toNat,by omega⟩
  subst hn
  rw [qg]
  have hb:=oo g top n
  split
  ·rename_i hc
   exact ⟨by dsimp only; omega,hb.2.1,.inr ⟨by dsimp only; omega,by dsimp only; rw [hb.2.2],hc⟩⟩
  ·exact ⟨Int.le_refl _,by dsimp only; omega,.inl ⟨rfl,rfl⟩⟩
theorem Zhu {g:Int->Int} {top K x:Int} {b:Nat} (hx:x<=top) (hg:∀ y,x<=y->y<=top->nb b (g y)) (hK:nb b K):nb (b+1) (pck g top K x).1:=by
 obtain ⟨h1,h2,h3⟩:=Zcd (g:=g) (K:=K) hx
 rcases h3 with ⟨e1,e2⟩ | ⟨e1,e2,e3⟩
 ·rw [e2]
  exact aX (hg x (Int.le_refl _) hx) (by omega)
 ·rw [e2]
  exact aX (cZ hK (hg _ h1 h2)) (by omega)
structure DayB (l:List Int):Prop where
 len:l.length<=16
 nb:∀ w∈l,nb 30 w
 w0:∀ w∈l,0<=w
 pos:0 < l.sum
theorem oh {s:Shp} (h:s.Ok) {y f:Int} (hy:nb 20 y) (hf:nb 40 f):nb 100 (s.day y f):=by
 have hd:nb 7 s.depth:=by have:=h.t0; have:=h.d0; have:=h.td; exact bP (by show -128 < _; omega) (by show _ < 128; omega)
 have hn:nb 50 (s.nx y f):=by
  unfold Shp.nx cv
  exact iV (aX (f9 hd) (by decide)) (aX (fF hy hf) (by decide))
 unfold Shp.day
 refine aX (cZ (iV (k:=95) (bG h.keep hn) (bG h.lack (f9 hn))) (bG h.lost (fF hn (fF hy hf)))) (by decide)
theorem lJ {day:List Int} (hd:DayB day):nb 46 day.sum:=aX (ZaQ hd.nb) (by have:=hd.len; omega)
end Tw
set_option Elab.async false
set_option linter.all false
set_option maxRecDepth 100000
namespace Tw
open PySem L2
noncomputable abbrev rng (lo hi:Int):List Int:=aB lo (hi - lo).toNat
variable {α:Type}
theorem mD (lo:Int) (a b:Nat):aB lo (a+b)=aB lo a++aB (lo+a) b:=by
 unfold aB
 rw [List.range_add,List.map_append,List.map_map]
 congr 1
 apply List.map_congr_left
 intro k _
 show lo+((a+k:Nat):Int)=lo+(a:Int)+(k:Int)
 omega
noncomputable def f3 (lo a b c:Int) (t:Int->Int->Int->Option α):Option α:=(rng lo a).findSome? λu=>(rng (u+1) b).findSome? λv=>(rng (v+1) c).findSome? λw=>t u v w
end Tw
set_option Elab.async false
set_option linter.all false
set_option maxRecDepth 100000
namespace Tw
open PySem L2
noncomputable def enu:Nat->List Int->List PyData
 | _,[]=>[]
 | k,n::ns=>.tuple [.int k,.int n]::enu (k+1) ns
theorem Zdp:∀ (ns:List Int) (k:Nat),(List.range' k (ns.map PyData.int).length).zipWith (λ(n:Nat) x=>PyData.tuple [.int n,x]) (ns.map PyData.int)=enu k ns
 | [],k=>rfl
 | n::ns,k=>by
  rw [List.map_cons,List.length_cons,List.range'_succ,List.zipWith_cons_cons,Zdp ns (k+1)]
  rfl
theorem ij (ns:List Int):cC (ns.map PyData.int)=enu 0 ns:=by
 unfold cC
 rw [List.range_eq_range',Zdp]
theorem kJ:∀ (ns:List Int) (k:Nat),(enu k ns).length=ns.length
 | [],k=>rfl
 | n::ns,k=>by rw [enu,List.length_cons,List.length_cons,kJ ns]
noncomputable def bJ:Nat->List Int->List Int
 | _,[]=>[]
 | k,n::ns=>if n > 0 then (k:Int)::bJ (k+1) ns else bJ (k+1) ns
theorem pr:∀ {ns:List Int} {k:Nat} {x:Int},x∈bJ k ns->(k:Int)<=x/\x < k+ns.length
 | [],k,x,h=>by cases h
 | n::ns,k,x,h=>by
  unfold bJ at h
  rw [List.length_cons]
  split at h
  ·rcases List.mem_cons.mp h with rfl | h
   ·omega
   ·have:=pr h
    omega
  ·have:=pr h
   omega
theorem lK:∀ {ns:List Int} {k:Nat},(∃ n∈ns,n > 0)->bJ k ns≠[]
 | [],k,h=>by obtain ⟨n,h,_⟩:=h; cases h
 | n::ns,k,h=>by
  unfold bJ
  split
  ·simp
  ·rename_i hn
   obtain ⟨m,hm,hp⟩:=h
   rcases List.mem_cons.mp hm with rfl | hm
   ·exact absurd hp hn
   ·exact lK ⟨m,hm,hp⟩
noncomputable def great (ls:List Int):Int:=eN (bJ 0 ls)
noncomputable def reach (fs:List (List Int)):Int:=(fs.map great).sum
structure DayOk (most:Nat) (ls:List Int):Prop where
 len:ls.length<=most
 pos:∃ n∈ls,n > 0
 le:∀ n∈ls,0<=n/\n<=1001
theorem jH {ls:List Int} (h:∀ n∈ls,0<=n):∀ n∈ls,n<=ls.sum:=by
 induction ls with
 | nil=>intro n hn; cases hn
 | cons a l ih =>
  intro n hn
  have h0:0<=l.sum:=by
   clear ih hn
   have h':∀ n∈l,0<=n:=λm hm=>h m (List.mem_cons_of_mem _ hm)
   clear h
   induction l with
   | nil=>decide
   | cons b l ih2 =>
    rw [List.sum_cons]
    have:=h' b (by simp)
    have:=ih2 λm hm=>h' m (List.mem_cons_of_mem _ hm)
    omega
  have ha:=h a (by simp)
  rw [List.sum_cons]
  rcases List.mem_cons.mp hn with rfl | hn
  ·omega
  ·have:=ih (λm hm=>h m (List.mem_cons_of_mem _ hm)) n hn
   omega
theorem DayOk.B {m:Nat} {ls:List Int} (h:DayOk m ls) (hm:m<=16):DayB ls:=by
 refine ⟨Nat.le_trans h.len hm,λw hw=>?_,λw hw=>(h.le w hw).1,?_⟩
 ·have:=h.le w hw
  exact bP (by show -1073741824 < _; omega) (by show _ < 1073741824; omega)
 ·obtain ⟨n,hn,hp⟩:=h.pos
  have:=jH (λn hn=>(h.le n hn).1) n hn
  omega
theorem Za4 {a b c d e f g h i:Int}:PyData.tuple [.int a,.int b,.int c,.int d,.int e,.int f,.int g,.int h,.int i]=(Shp.mk a b c d e f g h i).d:=by
 unfold Shp.d
 rfl
theorem ZcV (l:List Int):fK (tI l)=.ret (l.map PyData.int):=rfl
theorem nS (l:List (List Int)):fK (fD l)=.ret (l.map tI):=rfl
theorem iD (l:List Int):bF cr [tI l]=.ret (.int l.sum):=n4 l
end Tw
set_option Elab.async false
set_option linter.all false
set_option maxRecDepth 100000
set_option exponentiation.threshold 9000
namespace Tw
open PySem L2
structure Rp (d:PyData) (k n:Nat):Prop where
 hd:d.hasDict=false
 sh:d.showable=true
 dp:d.depth<=k
 ln:d.shown.length<=n
theorem jX {d:PyData} {k n k' n':Nat} (h:Rp d k n) (hk:k<=k') (hn:n<=n'):Rp d k' n':=⟨h.hd,h.sh,Nat.le_trans h.dp hk,Nat.le_trans h.ln hn⟩
theorem pL {i:Int} (h:nb 1900 i):Rp (.int i) 0 1901:=by
 have h1:=Za9 [i] λn hn=>by simp at hn; subst hn; exact h
 have h2:=(Za8 [i] λn hn=>by simp at hn; subst hn; exact h).1
 refine ⟨rfl,?_,Nat.zero_le _,?_⟩
 ·simp only [List.map_cons,List.map_nil,PyData.showableAll,Bool.and_true] at h1
  exact h1
 ·simp only [List.map_cons,List.map_nil,PyData.shownAll,List.sum_cons,List.sum_nil,List.length_cons,List.length_nil] at h2
  omega
theorem Zbi {k n:Nat}:∀ {xs:List PyData},(∀ x∈xs,Rp x k n)->PyData.hasDictAll xs=false/\PyData.showableAll xs=true/\PyData.depthAll xs<=k/\((PyData.shownAll xs).map (·.length)).sum<=xs.length * n/\(PyData.shownAll xs).length=xs.length
 | [],_=>⟨rfl,rfl,Nat.zero_le _,by simp [PyData.shownAll],rfl⟩
 | x::xs,h=>by
  obtain ⟨h1,h2,h3,h4,h5⟩:=Zbi (xs:=xs) λy hy=>h y (List.mem_cons_of_mem _ hy)
  have hx:=h x (by simp)
  refine ⟨?_,?_,?_,?_,?_⟩
  ·rw [PyData.hasDictAll,hx.hd,h1]; rfl
  ·rw [PyData.showableAll,hx.sh,h2]; rfl
  ·rw [PyData.depthAll]; have:=hx.dp; omega
  ·rw [PyData.shownAll,List.map_cons,List.sum_cons,List.length_cons,Nat.succ_mul]; have:=hx.ln; omega
  ·rw [PyData.shownAll,List.length_cons,List.length_cons,h5]
theorem mv {xs:List PyData} {k n:Nat} (h:∀ x∈xs,Rp x k n):Rp (.tuple xs) (k+1) (xs.length * n+2 * xs.length+10):=by
 obtain ⟨h1,h2,h3,h4,h5⟩:=Zbi h
 have c3:=tupleText_len_le (PyData.shownAll xs)
 refine ⟨?_,?_,?_,?_⟩
 ·rw [PyData.hasDict,h1]
 ·rw [PyData.showable,h2]
 ·rw [PyData.depth]; omega
 ·rw [PyData.shown]; omega
theorem Zbh {l:List Int} {m:Nat} (h:∀ n∈l,nb 1900 n) (hl:l.length<=m):Rp (tI l) 1 (m * 1903+10):=by
 refine jX (mv (k:=0) (n:=1901) λx hx=>?_) (Nat.le_refl _) ?_
 ·obtain ⟨i,hi,rfl⟩:=List.mem_map.mp hx
  exact pL (h i hi)
 ·rw [List.length_map]
  have:l.length * 1903<=m * 1903:=Nat.mul_le_mul_right _ hl
  omega
theorem ZgA {s:Shp} (h:s.Ok):Rp s.d 1 20000:=by
 have e:s.d=tI s.l:=by unfold Shp.d; rfl
 rw [e]
 refine jX (Zbh (m:=9) (λn hn=>?_) (Nat.le_refl _)) (Nat.le_refl _) (by decide)
 have:=h.t0
 have:=h.d0
 have:=h.td
 unfold Shp.l at hn
 simp only [List.mem_cons,List.not_mem_nil,or_false] at hn
 have k:∀ n:Int,nb 45 n->nb 1900 n:=λn hn=>aX hn (by decide)
 have k1:nb 1900 s.top:=k _ (bP (by show -35184372088832 < _; omega) (by show _ < 35184372088832; omega))
 have k2:nb 1900 s.depth:=k _ (bP (by show -35184372088832 < _; omega) (by show _ < 35184372088832; omega))
 rcases hn with rfl | rfl | rfl | rfl | rfl | rfl | rfl | rfl | rfl
 ·exact k1
 ·exact k2
 ·exact k _ h.start
 ·exact k _ h.piece
 ·exact k _ h.keep
 ·exact k _ h.lack
 ·exact k _ h.lost
 ·exact k _ h.back
 ·exact k _ h.late
theorem ZgC {l:List Int} (h:DayB l):Rp (tI l) 1 40000:=jX (Zbh (m:=16) (λn hn=>aX (h.nb n hn) (by decide)) h.len) (Nat.le_refl _) (by decide)
theorem ZgB {fs:List (List Int)} (h:∀ l∈fs,DayB l) (hl:fs.length<=10):Rp (fD fs) 2 500000:=by
 refine jX (mv (k:=1) (n:=40000) λx hx=>?_) (Nat.le_refl _) ?_
 ·obtain ⟨l,hm,rfl⟩:=List.mem_map.mp hx
  exact ZgC (h l hm)
 ·rw [List.length_map]
  have:fs.length * 40000<=10 * 40000:=Nat.mul_le_mul_right _ hl
  omega
theorem ZaS (x:Str):(x == x)=true:=by simp
end Tw
set_option Elab.async false
set_option linter.all false
set_option maxRecDepth 100000
set_option exponentiation.threshold 9000
namespace Tw
open PySem L2
theorem euclid {p:List Sl->Tr Bool} {s:List Sl->Tr Ou} {E:Nat->Nat->List Sl} (hp:∀ a b:Nat,p (E a b)=.ret (decide (b≠0))) (hs:∀ a b:Nat,b≠0->s (E a b)=.ret (.next (E b (a % b)))) :
  ∀ n k a b:Nat,b < 2 ^ n->dL p s (2 * n+1+k) (E a b)=.ret (.next (E (Nat.gcd a b) 0)):=by
 have stop:∀ k a:Nat,dL p s (k+1) (E a 0)=.ret (.next (E a 0)):=λk a=>by
  rw [dL,hp,Tr.ret_bind]
  rfl
 have go:∀ k a b:Nat,b≠0->dL p s (k+1) (E a b)=dL p s k (E b (a % b)):=λk a b hb=>by
  rw [dL,hp,Tr.ret_bind,decide_eq_true hb,if_pos rfl,hs a b hb,Tr.ret_bind]
 intro n
 induction n with
 | zero =>
  intro k a b hb
  have e:b=0:=by simp at hb; exact hb
  subst e
  rw [Nat.gcd_zero_right,Nat.add_comm (2 * 0+1) k]
  exact stop k a
 | succ n ih =>
  intro k a b hb
  by_cases h0:b=0
  ·subst h0
   have e:2 * (n+1)+1+k=(2 * (n+1)+k)+1:=by omega
   rw [Nat.gcd_zero_right,e]
   exact stop _ a
  ·have e:2 * (n+1)+1+k=(2 * n+2+k)+1:=by omega
   rw [e,go _ a b h0]
   have hr:a % b < b:=Nat.mod_lt _ (Nat.pos_of_ne_zero h0)
   by_cases h1:a % b=0
   ·rw [h1]
    have e2:2 * n+2+k=(2 * n+1+k)+1:=by omega
    have eg:Nat.gcd a b=b:=by rw [Nat.gcd_comm,Nat.gcd_rec,h1,Nat.gcd_zero_left]
    rw [e2,eg]
    exact stop _ b
   ·have e2:2 * n+2+k=(2 * n+1+k)+1:=by omega
    rw [e2,go _ b (a % b) h1]
    have hlt:b % (a % b) < 2 ^ n:=by
     have h2:b % (a % b) < a % b:=Nat.mod_lt _ (Nat.pos_of_ne_zero h1)
     have h3:b % (a % b)+a % b<=b:=by
      have h4:=Nat.div_add_mod b (a % b)
      have h5:1<=b / (a % b):=(Nat.le_div_iff_mul_le (Nat.pos_of_ne_zero h1)).mpr (by omega)
      have h6:a % b<=(a % b) * (b / (a % b)):=Nat.le_mul_of_pos_right _ h5
      omega
     rw [Nat.pow_succ] at hb
     omega
    rw [ih k (a % b) (b % (a % b)) hlt]
    have eg:Nat.gcd a b=Nat.gcd (a % b) (b % (a % b)):=by
     rw [Nat.gcd_comm a b,Nat.gcd_rec b a,Nat.gcd_rec (a % b) b,Nat.gcd_comm]
    rw [eg]
theorem Zdh (a b:Nat):(a:Int).fmod (b:Int)=((a % b:Nat):Int):=by
 rw [Int.fmod_eq_emod_of_nonneg _ (Int.natCast_nonneg b)]
 rfl
theorem ZeU (n:Int):ox n=(n.natAbs:Int):=by
 unfold ox
 split <;> omega
noncomputable def fT (t b:Int):PyData:=.tuple [.int (Gc.gb t b),.int (Gc.fH t b)]
theorem Zip {t b:Int} {k l:Nat} (ht:nb k t) (hb:nb l b) (h0:b≠0):nb k (Gc.gb t b)/\nb l (Gc.fH t b):=by
 obtain ⟨h1,h2⟩:=Gc.Ziq (t:=t) h0
 exact ⟨Nat.lt_of_le_of_lt h1 ht,Nat.lt_of_le_of_lt h2 hb⟩
theorem ZdJ {t b:Int} {l:Nat} (hb:nb l b) (h0:b≠0):nb l (Gc.den t b):=by
 unfold nb
 rw [Gc.rS]
 exact Nat.lt_of_le_of_lt (Nat.gcd_le_right _ (by omega)) hb
noncomputable def n8 (c sc l:Int):PyData:=.tuple [fT c sc,.int l]
end Tw
set_option Elab.async false
set_option linter.all false
set_option maxRecDepth 100000
namespace L2
open PySem PySem.Spec PyProof.Rows
noncomputable def f8 (h:Heap) (fs:List Addr):Heap:=⟨h.objs.mapIdx λi o=>if i∈fs then { o with data:=.freed } else o,h.life⟩
theorem mW {h:Heap} {fs:List Addr} {b:Addr} (hb:b∈fs):(f8 h fs).get? b=none:=by
 unfold f8 Heap.get?
 simp only [Array.getElem?_mapIdx]
 cases h.objs[b]? with
 | none=>rfl
 | some o=>simp [hb]
theorem gy {h:Heap} {fs:List Addr} {b:Addr} (hb:b ∉ fs):(f8 h fs).get? b=h.get? b:=by
 unfold f8 Heap.get?
 simp only [Array.getElem?_mapIdx]
 cases h.objs[b]? with
 | none=>rfl
 | some o=>simp [hb]
theorem Zcp (h:Heap) (fs:List Addr):(f8 h fs).StaysIn h:=λb o e=>by
 by_cases hb:b∈fs
 ·rw [mW hb] at e; cases e
 ·rw [gy hb] at e; exact e
theorem ffr {h base:Heap} {l:List Env} (hl:h.FunFrames base l) (fs:List Addr) (hf:∀ b∈frs l,b∈fs):h.FunFrames (f8 h fs) l:=by
 induction l with
 | nil=>trivial
 | cons env rest ih =>
  obtain ⟨hk,⟨L,o,he,hn,ho,hd⟩,hr⟩:=hl
  have hm:∀ b∈frs rest,b∈frs (env::rest):=λb hb=>by
   unfold frs at hb ⊢
   rw [List.filterMap_cons,he]
   exact List.mem_cons_of_mem _ hb
  refine ⟨hk,⟨L,o,he,mW (hf L ?_),ho,hd⟩,ih hr λb hb=>hf b (hm b hb)⟩
  unfold frs
  rw [List.filterMap_cons,he]
  exact List.mem_cons_self
theorem HOk.tracked {P:Program} {w:World} {H:Hp} {h h':Heap} (x:HOk P w H h) (k:∀ b u,H b≠none->h.get? b=some u->h'.get? b=some u):HOk P w H h':=λa o e =>
 (x a o e).stay (λb u hb q=>k b u (λz=>by rcases hb with r | r <;> (first | (subst r; rw [z] at e; cases e) | (rw [z] at r; cases r))) q) (λ_ q=>q) λ_ _ q=>q
theorem ObjOk.get {P:Program} {w:World} {H:Hp} {h:Heap} {a:Addr} {o:HO} (x:ObjOk P w H h a o):∃ u,h.get? a=some u:=by
 cases o with
 | lst xs=>obtain ⟨_,_,_,_,e⟩:=x; exact ⟨_,e⟩
 | tup xs=>obtain ⟨_,_,_,ob,e,_⟩:=x; exact ⟨_,e⟩
 | dK kvs=>obtain ⟨_,_,_,_,o,_,_,e,_⟩:=x; exact ⟨_,e⟩
 | dT kvs=>obtain ⟨_,_,_,_,o,_,_,e,_⟩:=x; exact ⟨_,e⟩
 | set S n=>obtain ⟨o,_,_,_,e,_⟩:=x; exact ⟨_,e⟩
 | ins C dx fs=>obtain ⟨_,_,_,e,_⟩:=x; exact ⟨_,e⟩
 | own y=>obtain ⟨_,e⟩:=x; exact ⟨_,e⟩
 | xd fs=>obtain ⟨_,⟨_,_,_,e,_⟩,_⟩:=x; exact ⟨_,e⟩
 | rng lo hi=>obtain ⟨_,_,_,e⟩:=x; exact ⟨_,e⟩
 | frz ob u=>obtain ⟨e,_⟩:=x; exact ⟨_,e⟩
 | tbl ps=>exact ⟨_,(show h.get? a=some _ from x)⟩
 | met f y=>exact ⟨_,(show h.get? a=some _ from x)⟩
 | ext φ=>obtain ⟨_,⟨_,e⟩,_⟩:=x; exact ⟨_,e⟩
noncomputable def cz (P:Program) (w:World):d4:=λouter H s E e s'=>∃ (ea t:Addr) (cls:Value) (b':Heap) (H':Hp),e=.ref ea/\s'.os=s.os/\AllBare s'.gens/\Un (frs outer) [] H H' s.heap s'.heap/\HOk P w H' s'.heap /\
 Heap.FlyingW b' outer ea cls (.ref t) s'.heap/\(∀ b o,s.heap.get? b=some o->b ∉ frs outer->∃ o',b'.get? b=some o')/\(∀ b,H' b≠none->∃ o',b'.get? b=some o')/\E cls none H'
theorem ZgQ {P:Program} {w:World} {K:PySem.W.Frag} {mg:Str->Option Value} {base:Heap} {N:List Str} {qual:Str} {scope:Scope} {f:Addr} {cd:Value} {A:Around} {outer:List Env} {s₀:Shared} {H₀:Hp} {E:XK}
  {pins:List (Addr×Obj)} {σ:St} {H:Hp} {s:Shared} {h':Heap} {e:Addr} {cls:Value} {args:List Value}
  (I:Inv (cD (cz P w) P w K mg base N qual scope f cd A outer s₀ H₀ E) pins σ H s) (hx:Heap.MadeExcOf s.heap h' e cls args) (hE:E cls none H) :
  (cD (cz P w) P w K mg base N qual scope f cd A outer s₀ H₀ E).xe (.ref e) { s with heap:=h' }:=by
 let X:=cD (cz P w) P w K mg base N qual scope f cd A outer s₀ H₀ E
 have hst:s.heap.FunFrames base (envOfC qual scope s₀.heap.objs.size f cd::outer):=I.stack
 have hfree:∀ b∈frs (envOfC qual scope s₀.heap.objs.size f cd::outer),H b=none:=I.stkFree
 have hfr:(A.deeper (envOfC qual scope s₀.heap.objs.size f cd)).frames=some (envOfC qual scope s₀.heap.objs.size f cd::outer):=I.ok.frames
 have hbase:Un (frs outer) [] H₀ H s₀.heap s.heap:=I.base
 obtain ⟨_,⟨L,oL,hL,_,hoL,_⟩,_⟩:=id hst
 have hLe:L=s₀.heap.objs.size:=(Option.some.inj hL).symm
 have hfs:∀ b,b∈frs (envOfC qual scope s₀.heap.objs.size f cd::outer) ↔ b=L\/b∈frs outer:=λb=>by
  unfold frs
  rw [List.filterMap_cons,hL]
  exact List.mem_cons
 show wpAny (model P w) (A.deeper (envOfC qual scope s₀.heap.objs.size f cd)) (leaving (envOfC qual scope s₀.heap.objs.size f cd) (.ref e)) (λ_ s''=>cz P w outer H₀ s₀ E (.ref e) s'') (λe' s''=>cz P w outer H₀ s₀ E e' s'') { s with heap:=h' }
 refine wpAny_leaves_madeW (s:={ s with heap:=h' }) (base:=f8 s.heap (frs (envOfC qual scope s₀.heap.objs.size f cd::outer))) hfr hL (Zcp _ _) (ffr hst _ λb hb=>hb) hx λh'' t fl tup tn ups=>?_
 have stay:∀ b o,s.heap.get? b=some o->b ∉ frs (envOfC qual scope s₀.heap.objs.size f cd::outer)->h''.get? b=some o:=λb o hb hn=>fl.1 b o (by rw [gy hn]; exact hb)
 have slot:∀ b o,s.heap.get? b=some o->b∈frs (envOfC qual scope s₀.heap.objs.size f cd::outer)->∃ sl,h''.get? b=some { o with slots:=sl }:=λb o hb hn=>by
  obtain ⟨_,o',ho',hd⟩:=hst.mem hn
  rw [hb] at ho'
  cases ho'
  exact ups b o (hx.keeps b o hb) hd
 have old:∀ b o,s₀.heap.get? b=some o->b≠L:=λb o hb z=>by
  have:=Heap.lt_size hb
  rw [z,hLe] at this
  exact absurd this (Nat.lt_irrefl _)
 have un:Un (frs outer) [] H₀ H s₀.heap h'':=by
  refine ⟨λb o hb hn hf hx=>?_,λb o hb hn hf hx=>?_,hbase.free,λb o hb hx=>?_,hbase.tups,hbase.frzs,hbase.tbls⟩
  ·exact stay b o (hbase.keep b o hb hn hf hx) λz=>((hfs b).mp z).elim (old b o hb) hf
  ·obtain ⟨sl,e1⟩:=hbase.slot b o hb hn hf hx
   obtain ⟨cV,e2⟩:=slot b _ e1 ((hfs b).mpr (.inr hf))
   exact ⟨cV,e2⟩
  ·obtain ⟨o',e1⟩:=hbase.there b o hb hx
   by_cases hq:b∈frs (envOfC qual scope s₀.heap.objs.size f cd::outer)
   ·obtain ⟨cV,e2⟩:=slot b _ e1 hq
    exact ⟨_,e2⟩
   ·exact ⟨o',stay b o' e1 hq⟩
 refine ⟨e,t,cls,_,H,rfl,I.os,I.bare,un,HOk.tracked I.hok λb u hb q=>stay b u q λz=>hb (hfree b z),fl,λb o hb hf=>?_,λb hb=>?_,hE⟩
 ·obtain ⟨o',e1⟩:=hbase.there b o hb (by simp)
  exact ⟨o',by rw [gy λz=>((hfs b).mp z).elim (old b o hb) hf]; exact e1⟩
 ·cases e1:H b with
  | none=>exact absurd e1 hb
  | some u =>
   obtain ⟨o',e2⟩:=(I.hok b u e1).get
   exact ⟨o',by rw [gy λz=>hb (hfree b z)]; exact e2⟩
theorem rebase {b' h:Heap} {l:List Env} {e:Addr} {cls a0:Value} (x:Heap.FlyingW b' l e cls a0 h):∃ T,b'.get? T=none/\(∃ oT ts,h.get? T=some oT/\oT.data=.fields ts)/\(∃ oe vs,h.get? e=some oe/\oe.cls=cls/\oe.data=.fields vs)/\Heap.FlyingW (f8 h (e::T::frs l)) l e cls a0 h:=by
 obtain ⟨f1,f2,f3,oe,vs,T,oT,ts,he,hc,hd,h1,hT,hTe,hoT,hdT,h3⟩:=x
 refine ⟨T,hT,⟨oT,ts,hoT,hdT⟩,⟨oe,vs,he,hc.1,hd⟩,Zcp _ _,mW (by simp),ffr f3 _ λb hb=>List.mem_cons_of_mem _ (List.mem_cons_of_mem _ hb),oe,vs,T,oT,ts,he,hc,hd,h1,mW (by simp),hTe,hoT,hdT,h3⟩
theorem lands {P:Program} {w:World} {A:Around} {env:Env} {outer:List Env} {L:Addr} {H:Hp} {s:Shared} {b':Heap} {e:Addr} {cls a0:Value} {Q:Unit->Shared->Prop} {E:Value->Shared->Prop}
  (hfr:A.frames=some (env::outer)) (hf:env.frame=some L) (hfl:Heap.FlyingW b' (env::outer) e cls a0 s.heap) (hok:HOk P w H s.heap) (hst:∀ b∈frs (env::outer),H b=none) (ht:∀ b,H b≠none->∃ o',b'.get? b=some o')
  (k:∀ h' T,b'.get? T=none->T ∉ frs (env::outer)->Un (frs (env::outer)) [e,T] H H s.heap h'->HOk P w H h'->Heap.FlyingW (f8 s.heap (e::T::frs (env::outer))) (env::outer) e cls a0 h'->Q () { s with heap:=h' }) :
  wpAny (model P w) A (noteFrame (.ref e) env) (λ_ s₂=>wpAny (model P w) A (setFlight (.ref e) none) Q E s₂) E s:=by
 obtain ⟨T,hT,⟨oT,ts,hoT,hdT⟩,⟨oe,vs,hoe,hoc,hod⟩,fl⟩:=rebase hfl
 have nof:∀ {b:Addr} {o:Obj} {us:Array Value},s.heap.get? b=some o->o.data=.fields us->b ∉ frs (env::outer):=λ{b o us} h1 h2 z=>by
  obtain ⟨_,o',ho',hd⟩:=hfl.2.2.1.mem z
  rw [h1] at ho'
  cases ho'
  exact hd us h2
 refine wpAny_looks_onW hfr hf fl λh₄ held ups₄=>?_
 refine wpAny_landsW held λh₅ fl₅ ups₅=>?_
 have ups:=ups₄.trans ups₅
 have stay:∀ b o,s.heap.get? b=some o->b ∉ frs (env::outer)->b ∉ [e,T]->h₅.get? b=some o:=λb o hb hn hx=>fl₅.1 b o (by
  rw [gy]
  ·exact hb
  ·intro z
   rcases List.mem_cons.mp z with z | z
   ·exact hx (by simp [z])
   ·rcases List.mem_cons.mp z with z | z
    ·exact hx (by simp [z])
    ·exact hn z)
 have slot:∀ b o,s.heap.get? b=some o->b∈frs (env::outer)->∃ sl,h₅.get? b=some { o with slots:=sl }:=λb o hb hn=>by
  obtain ⟨_,o',ho',hd⟩:=hfl.2.2.1.mem hn
  rw [hb] at ho'
  cases ho'
  exact ups b o hb hd
 have non:∀ b,b'.get? b=none->H b=none:=λb hb=>by
  cases e1:H b with
  | none=>rfl
  | some u =>
   obtain ⟨o',e2⟩:=ht b (by rw [e1]; simp)
   rw [hb] at e2; cases e2
 have he:H e=none:=non e hfl.2.1
 have hTn:H T=none:=non T hT
 refine k h₅ T hT (nof hoT hdT) ⟨λb o hb hn hf hx=>stay b o hb hf hx,λb o hb hn hf hx=>slot b o hb hf,λb o hb hn hx=>hn,λb o hb hx=>?_,λ_ _ z=>z,λ_ _ _ z=>z,λb ps z=>⟨#[],by rw [z,Array.append_empty]⟩⟩
  (HOk.tracked hok λb u hb q=>stay b u q (λz=>hb (hst b z)) λz=>?_) fl₅
 ·by_cases hq:b∈frs (env::outer)
  ·obtain ⟨sl,e1⟩:=slot b o hb hq
   exact ⟨_,e1⟩
  ·exact ⟨o,stay b o hb hq hx⟩
 ·rcases List.mem_cons.mp z with z | z
  ·subst z; exact hb he
  ·rcases List.mem_cons.mp z with z | z
   ·subst z; exact hb hTn
   ·cases z
end L2
set_option Elab.async false
set_option linter.all false
set_option maxRecDepth 100000
namespace L2
open PySem PySem.Spec PyProof.Rows
structure Xcl (K:PySem.W.Frag) (C:Addr) (bmB:List Value) (newId:String):Prop where
 ex:∃ (nm q:Str) (N:Addr) (bs bm:List Value) (hdct:Bool) (sn:List Str) (sub:List Value) (ab:Bool) (col:Option Bool) (dd:Option Addr) (k0 k1 k2 k3 k5:Option Value) (mN:Str->Option Value),
  K.lookup C=some (excClassObj nm q C N bs bm hdct sn sub ab col dd k0 k1 k2 k3 k5 newId)/\(∀ h:Heap,K.In h->h.Ns N mN/\OwnTail h bmB bm)/\mN "__init__"=none/\bm.contains (.type "BaseException")=true
theorem ZgP {X:Cx} {pins:List (Addr×Obj)} {σ:St} {H:Hp} {s:Shared} {x:Str} {np cpos pos:Pos} {arg:Expr} {C:Addr} {B newId initId:String} {bmB:List Value} {t:TE} {Q:Flow->Shared->Prop}
  (F:ExcBaseFacts B newId initId bmB) (c:Xcl X.K C bmB newId) (hg:Gl X x) (hm:X.mg x=some (.ref C)) (hc:X.calm=true) (ha:PE X arg t) (I:Inv X pins σ H s)
  (h:t σ H λv H1=>∀ s1 h' e args,Inv X pins σ H1 s1->Heap.MadeExcOf s1.heap h' e (.ref C) args->X.xe (.ref e) { s1 with heap:=h' })
  (hs:starEach [arg] X.env=[(false,eval arg X.env)]:=by rfl) (hdb:(x == ("__debug__":Str))=false:=by decide) :
  wpAny (model X.prog X.w) X.A (exec (.Raise (some (.Call (.Name x np) [arg] [] cpos)) none pos) X.env) Q X.xe s:=by
 obtain ⟨nm,q,N,bs,bm,hdct,sn,sub,ab,col,dd,k0,k1,k2,k3,k5,mN,lk,hn,hni,hb⟩:=c.ex
 refine wpAny_Raise_call_subT (C:=C) (nm:=nm) (q:=q) (N:=N) (bs:=bs) (bm:=bm) (hdct:=hdct) (sn:=sn) (sub:=sub) (ab:=ab) (col:=col) (dd:=dd) (k0:=k0) (k1:=k1) (k2:=k2) (k3:=k3) (k5:=k5) (mN:=mN) F hb (I.ok.hd hc) (by rw [hs]; rfl) hni ?_
 refine qK I hg hm ⟨rfl,?_⟩ (hd:=hdb)
 rw [hs]
 refine Calls.evalArgs_plain (Calls.spliced_cons (thn (ha pins s σ H _ I h) λu s1 hz0=>Calls.spliced_nil ?_))
 obtain ⟨v,H1,I1,r1,z⟩:=hz0
 have KX:X.K.In s1.heap:=I1.kIn
 exact ⟨rfl,by show 1<=sizeLine; decide,KX _ _ lk,(hn _ KX).1,(hn _ KX).2,λh' e hx=>z s1 h' e _ I1 hx⟩
theorem Zg7 {P:Program} {w:World} {K:PySem.W.Frag} {mg:Str->Option Value} {base:Heap} {N:List Str} {qual:Str} {scope:Scope} {f:Addr} {cd:Value} {A:Around} {outer:List Env} {s₀:Shared} {H₀:Hp} {E:XK}
  {x msg:Str} {np cpos pos mp:Pos} {mk:Nat} {C:Addr} {B newId initId:String} {bmB:List Value}
  (F:ExcBaseFacts B newId initId bmB) (c:Xcl K C bmB newId) (hg:Gl (cD (cz P w) P w K mg base N qual scope f cd A outer s₀ H₀ E) x) (hm:mg x=some (.ref C)) (hdb:(x == ("__debug__":Str))=false:=by decide) :
  PS (cD (cz P w) P w K mg base N qual scope f cd A outer s₀ H₀ E) (.Raise (some (.Call (.Name x np) [.Constant (.str msg) mk mp] [] cpos)) none pos) (λ_ _ H=>E (.ref C) none H):=by
 intro pins s σ H D I h
 exact ZgP F c hg hm rfl Zhj I (λs1 h' e args I1 hx=>ZgQ I1 hx h) rfl hdb
end L2
set_option Elab.async false
set_option linter.all false
set_option maxRecDepth 100000
namespace L2
open PySem PySem.Spec PyProof.Rows
theorem Un.skip {fs ex:List Addr} {H H1 H2:Hp} {h h1 h2:Heap} (a:Un fs [] H H1 h h1) (b:Un fs ex H1 H2 h1 h2) (hx:∀ c∈ex,h.get? c=none):Un fs [] H H2 h h2:=by
 have no:∀ {c:Addr} {o:Obj},h.get? c=some o->c ∉ ex:=λ{c o} e z=>by rw [hx c z] at e; cases e
 refine ⟨λc o e n f _=>?_,λc o e n f _=>?_,λc o e n _=>?_,λc o e _=>?_,λc xs e=>b.tups c xs (a.tups c xs e),λc o u e=>b.frzs c o u (a.frzs c o u e),λc ps e=>?_⟩
 ·exact b.keep c o (a.keep c o e n f (by simp)) (a.free c o e n (by simp)) f (no e)
 ·obtain ⟨sl,e1⟩:=a.slot c o e n f (by simp)
  obtain ⟨cV,e2⟩:=b.slot c _ e1 (a.free c o e n (by simp)) f (no e)
  exact ⟨cV,e2⟩
 ·obtain ⟨o',e1⟩:=a.there c o e (by simp)
  exact b.free c o' e1 (a.free c o e n (by simp)) (no e)
 ·obtain ⟨o',e1⟩:=a.there c o e (by simp)
  exact b.there c o' e1 (no e)
 ·obtain ⟨m1,e1⟩:=a.tbls c ps e
  obtain ⟨m2,e2⟩:=b.tbls c _ e1
  exact ⟨m1++m2,by rw [e2,Array.append_assoc]⟩
theorem Zd7 {X:Cx} {pins:List (Addr×Obj)} {σ:St} {H:Hp} {s s':Shared} {E:XK} {e:Value} {outer:List Env} {L:Addr} {Q:Unit->Shared->Prop} {EE:Value->Shared->Prop}
  (I:Inv X pins σ H s) (hstk:X.stack=X.env::outer) (hL:X.env.frame=some L) (hq:cz X.prog X.w X.stack H s E e s')
  (k:∀ (ea:Addr) (cls:Value) (H':Hp) (h':Heap),e=.ref ea->Inv X pins σ H' { s' with heap:=h' }->H' ea=none->(∃ oe,h'.get? ea=some oe/\oe.cls=cls)->(∃ b'' t,Heap.FlyingW b'' X.stack ea cls (.ref t) h'/\(∀ c,b''.get? c=none->c ∉ frs X.stack->s.heap.get? c=none)/\∀ b,H' b≠none->∃ o',b''.get? b=some o')->Un (frs X.stack) [] H H' s.heap h'->E cls none H'->Q () { s' with heap:=h' }) :
  wpAny (model X.prog X.w) X.A (noteFrame e X.env) (λ_ s₂=>wpAny (model X.prog X.w) X.A (setFlight e none) Q EE s₂) EE s':=by
 obtain ⟨ea,t,cls,b',H',rfl,os,bare,un,hok,fl,hb',ht,hE⟩:=hq
 have hst:∀ b∈frs X.stack,H b=none:=I.stkFree
 have funs:s.heap.FunFrames X.base X.stack:=I.stack
 have hst':∀ b∈frs X.stack,H' b=none:=λb hb=>by
  obtain ⟨_,o,ho,_⟩:=funs.mem hb
  exact un.free b o ho (hst b hb) (by simp)
 have hfr:X.A.frames=some X.stack:=I.ok.frames
 have notin:∀ c:Addr,b'.get? c=none->c ∉ frs X.stack->s.heap.get? c=none:=λc hc hf=>by
  cases e1:s.heap.get? c with
  | none=>rfl
  | some o =>
   obtain ⟨o',e2⟩:=hb' c o e1 hf
   rw [hc] at e2; cases e2
 have hea:ea ∉ frs X.stack:=λz=>by
  obtain ⟨_,o',ho',hd⟩:=fl.2.2.1.mem z
  obtain ⟨oe,vs,e1,_,e2,_⟩:=fl.first
  rw [e1] at ho'
  cases ho'
  exact hd vs e2
 rw [hstk] at hfr fl hst' un hea notin
 refine lands hfr hL fl hok hst' ht λh₅ T hT hTf un5 hok5 fl5=>?_
 have un':=un.skip un5 λc hc=>by
  rcases List.mem_cons.mp hc with z | z
  ·subst z; exact notin c fl.2.1 hea
  ·rcases List.mem_cons.mp z with z | z
   ·subst z; exact notin c hT hTf
   ·cases z
 rw [<- hstk] at un'
 have I5:Inv X pins σ H' { s' with heap:=h₅ }:=I.call' (s':={ s' with heap:=h₅ }) os un' hok5 bare λb hb=>absurd hb (by simp)
 have he:H' ea=none:=by
  cases e1:H' ea with
  | none=>rfl
  | some u =>
   obtain ⟨o',e2⟩:=ht ea (by rw [e1]; simp)
   rw [fl.2.1] at e2; cases e2
 refine k ea cls H' h₅ rfl I5 he fl5.there ⟨_,t,by rw [hstk]; exact fl5,λc hc hf=>?_,λb hb=>?_⟩ un' hE
 rotate_left
 ·cases e1:H' b with
  | none=>exact absurd e1 hb
  | some u =>
   obtain ⟨o',e2⟩:=(hok b u e1).get
   refine ⟨o',?_⟩
   rw [gy]
   ·exact e2
   ·intro z
    rcases List.mem_cons.mp z with z | z
    ·subst z; exact hb he
    ·rcases List.mem_cons.mp z with z | z
     ·subst z
      obtain ⟨o3,e3⟩:=ht b hb
      rw [hT] at e3; cases e3
     ·exact hb (hst' b z)
 by_cases h1:c=ea
 ·subst h1; exact notin c fl.2.1 hea
 ·by_cases h2:c=T
  ·subst h2; exact notin c hT hTf
  ·rw [gy (λz=>by
    rcases List.mem_cons.mp z with z | z
    ·exact h1 z
    ·rcases List.mem_cons.mp z with z | z
     ·exact h2 z
     ·rw [hstk] at hf; exact hf z)] at hc
   cases e1:s.heap.get? c with
   | none=>rfl
   | some o =>
    obtain ⟨o',e2⟩:=un.there c o e1 (by simp)
    rw [hc] at e2; cases e2
end L2
set_option Elab.async false
set_option linter.all false
set_option maxRecDepth 100000
namespace L2
open PySem PySem.Spec PySem.Calls PyProof.Rows
section
variable {M:Model} {A:Around} {E:Value->Shared->Prop}
variable {nm q:Str} {C N:Addr} {bs bm:List Value} {hdct:Bool} {sn:List Str} {sub:List Value} {ab:Bool} {col:Option Bool} {dd:Option Addr} {k0 k1 k2 k3 k5:Option Value} {newId:String}
variable {nm' q':Str} {D N':Addr} {bs' bm':List Value} {hdct':Bool} {sn':List Str} {sub':List Value} {ab':Bool} {col':Option Bool} {dd':Option Addr} {j0 j1 j2 j3 j5:Option Value} {newId':String}
theorem Zju {h:Heap} {g:Array GenState} {d:Drawn} {t:Nat} {os:OsState} {e:Addr} {oe:Obj} {Q:Bool->Shared->Prop}
  (hC:h.get? C=some (excClassObj nm q C N bs bm hdct sn sub ab col dd k0 k1 k2 k3 k5 newId)) (hD:h.get? D=some (excClassObj nm' q' D N' bs' bm' hdct' sn' sub' ab' col' dd' j0 j1 j2 j3 j5 newId')) (he:h.get? e=some oe) (hcls:oe.cls=.ref C)
  (hbase:bm'.contains (.type "BaseException")=true) (hin:bm.contains (.ref D)=true)
  (hq:Q true ⟨h,g,d,t,os⟩):wpAny M A (excMatches (.ref e) (.ref D)) Q E ⟨h,g,d,t,os⟩:=by
 have hcB:(Value.ref D::bm').contains (.type "BaseException")=true:=by rw [List.contains_cons,hbase,Bool.or_true]
 have hcC:(Value.ref C::bm).contains (.ref D)=true:=by rw [List.contains_cons,hin,Bool.or_true]
 have f:=tc_notTuple
 unfold excMatches
 repeat (first | (with_reducible refine wpAny_loadPart_at he ?_; rw [hcls]) | with_reducible refine wpAny_loadPart_at hD ?_ | (with_reducible refine wpAny_isSubtype_exc hD ?_; rw [hcB]) | (with_reducible refine wpAny_isSubtype_exc hC ?_; rw [hcC]) | wp_step)
 exact hq
end
section
variable {prog:Program} {w:World} {A:Around} {E:Value->Shared->Prop} {s:Shared} {env:Env}
theorem Zi4 {e C D:Addr} {t:Expr} {n:Str} {b₀:Stmt} {suite:List Stmt} {pos:Pos} {rest:List ExceptHandler} {Q:Flow->Shared->Prop}
  {nm q:Str} {N:Addr} {bs bm:List Value} {hdct:Bool} {sn:List Str} {sub:List Value} {ab:Bool} {col:Option Bool} {dd:Option Addr} {k0 k1 k2 k3 k5:Option Value} {newId:String}
  {nm' q':Str} {N':Addr} {bs' bm':List Value} {hdct':Bool} {sn':List Str} {sub':List Value} {ab':Bool} {col':Option Bool} {dd':Option Addr} {j0 j1 j2 j3 j5:Option Value} {newId':String}
  (hbase:bm'.contains (.type "BaseException")=true) (hin:bm.contains (.ref D)=true)
  (h:wpAny (model prog w) (A.mark (some (.ref e))) (eval t env) (λc s₁=>c=.ref D/\s₁.heap.get? C=some (excClassObj nm q C N bs bm hdct sn sub ab col dd k0 k1 k2 k3 k5 newId)/\s₁.heap.get? D=some (excClassObj nm' q' D N' bs' bm' hdct' sn' sub' ab' col' dd' j0 j1 j2 j3 j5 newId')/\(∃ oe,s₁.heap.get? e=some oe/\oe.cls=.ref C) /\
   wpAny (model prog w) (A.mark (some (.ref e))) (setFlight (.ref e) none) (λ_ s₂ =>
     wpAny (model prog w) (A.mark (some (.ref e))) (storeName env n (.ref e)) (λ_ s₃ =>
      wpAny (model prog w) (A.mark (some (.ref e))) (execs (b₀::suite) env)
       (λf s₄=>wpAny (model prog w) A (do bindName env n .none; unbindBehindTheSuite env n pos) (λ_ s₅=>Q f s₅) E s₄)
       (AsSuiteRaised (model prog w) (A.mark (some (.ref e))) env n pos (notedBy (model prog w) (A.mark (some (.ref e))) env (cameBackBy (model prog w) A env E))) s₃) (notedBy (model prog w) (A.mark (some (.ref e))) env (cameBackBy (model prog w) A env E)) s₂) (notedBy (model prog w) (A.mark (some (.ref e))) env (cameBackBy (model prog w) A env E)) s₁) (notedBy (model prog w) (A.mark (some (.ref e))) env (cameBackBy (model prog w) A env E)) s) :
  wpAny (model prog w) A (handleBy (.ref e) env (.ExceptHandler (some t) (some n) (b₀::suite) pos::rest)) Q E s:=by
 refine wpAny_handleBy_cons (codeAny_handlers_test (wpAny_mono h (λc s₁ h₁=>?_) λ_ _ y=>y)) (by intro q; cases q)
 obtain ⟨rfl,hC,hD,⟨oe,he,hcls⟩,hk⟩:=h₁
 obtain ⟨hh,g,d,tk,os⟩:=s₁
 exact Zju hC hD he hcls hbase hin (codeAny_handlers_suite_as hk)
end
end L2
set_option Elab.async false
set_option linter.all false
set_option maxRecDepth 100000
namespace L2
open PySem PySem.Spec PyProof.Rows
section
variable {X:Cx} {pins:List (Addr×Obj)} {σ:St} {H:Hp} {s:Shared}
theorem qJ {A:Around} {E:Value->Shared->Prop} {x:Str} {u:Value} {pos:Pos} {Q:Value->Shared->Prop} (I:Inv X pins σ H s) (hg:Gl X x) (hm:X.mg x=some u) (h:Q u s)
  (hd:(x == ("__debug__":Str))=false:=by decide):wpAny (model X.prog X.w) A (eval (.Name x pos) X.env) Q E s :=
 Calls.Name_function_global I.ok.kind hg (Calls.loadGlobal_global (by rw [I.ok.glob]; exact I.mod.glob.keeps I.bk) hm h) hd
theorem Zh3 {M:Model} {A:Around} {E:Value->Shared->Prop} {i:Nat} {x:Str} {pos:Pos} {Q:Unit->Shared->Prop} (I:Inv X pins σ H s) (hN:X.N.Nodup) (hi:X.N[i]?=some x) (hk:X.env.kindOf x=some .local)
  (h:∀ s',Inv X pins (σ.set i none) H s'->Q () s'):wpAny M A (do bindName X.env x .none; unbindBehindTheSuite X.env x pos) Q E s:=by
 obtain ⟨m,hn,hl⟩:=id I.loc
 have hcls:(X.env.scope.kind == .class || (X.env.scope.kind == .module && X.env.locals != X.env.globals))=false:=by rw [I.ok.kind]; rfl
 have hiσ:i < σ.length:=by rw [I.len]; exact (List.getElem?_eq_some_iff.mp hi).1
 have cne:=I.cne
 have tracked:∀ {a:Addr} {h':Heap},(∃ o,s.heap.get? a=some o/\H a=none)->Heap.SameBut a s.heap h'->HOk X.prog X.w H h':=λ{a h'} ha hs b ob e=>by
  obtain ⟨_,_,hfree⟩:=ha
  refine (I.hok b ob e).stay (λc w' hc q=>(hs.2 c ?_).trans q) (λ_ q=>q) λ_ _ q=>q
  rintro rfl
  rcases hc with rfl | hc
  ·rw [hfree] at e; cases e
  ·rw [hfree] at hc; cases hc
 refine wpAny_nameGoes_keeps hk hn hcls λh' v hn' hs=>?_
 obtain ⟨oL,_,_,hoL,_⟩:=id hn
 refine h _ ⟨I.ok,I.os,I.bare,⟨λb o e n hb hx=>?_,λb o e n hb hx=>?_,I.base.free,λb o e hx=>?_,I.base.tups,I.base.frzs,I.base.tbls⟩,⟨_,hn',λj y v' e1 e2 e3=>?_⟩,λy c e=>?_,I.free,I.freeC,λp hp=>?_,tracked ⟨oL,hoL,I.free⟩ hs,by simpa using I.len⟩
 ·exact (hs.2 b (Nat.ne_of_lt (Nat.lt_of_lt_of_le (Heap.lt_size e) I.ok.above))).trans (I.base.keep b o e n hb hx)
 ·obtain ⟨sl,e1⟩:=I.base.slot b o e n hb hx
  exact ⟨sl,(hs.2 b (Nat.ne_of_lt (Nat.lt_of_lt_of_le (Heap.lt_size e) I.ok.above))).trans e1⟩
 ·obtain ⟨o',e1⟩:=I.base.there b o e hx
  exact ⟨o',(hs.2 b (Nat.ne_of_lt (Nat.lt_of_lt_of_le (Heap.lt_size e) I.ok.above))).trans e1⟩
 ·by_cases hj:j=i
  ·subst hj
   rw [List.getElem?_set_self hiσ] at e2
   cases e2
  ·rw [List.getElem?_set_ne (Ne.symm hj)] at e2
   obtain ⟨u',r',q⟩:=hl j y v' e1 e2 e3
   refine ⟨u',r',?_⟩
   rcases q with ⟨k,e⟩ | ⟨k,c,e,z⟩
   ·refine .inl ⟨k,?_⟩
    have:y≠x:=λe=>hj (qw hN e1 (e ▸ hi))
    simp [this,e]
   ·exact .inr ⟨k,c,e,z.sameBut hs (cne y c e)⟩
 ·obtain ⟨w',z⟩:=I.cell y c e
  exact ⟨w',z.sameBut hs (cne y c e)⟩
 ·obtain ⟨e,n,ne,nf,d⟩:=I.pin p hp
  exact ⟨(hs.2 p.1 ne).trans e,n,ne,nf,d⟩
noncomputable def dq (e:Addr) (cls:Value) (h:Heap):Prop:=∃ oe,h.get? e=some oe/\oe.cls=cls
theorem Ziz {A:Around} {H0:Hp} {s0:Shared} {b':Heap} {e t:Addr} {cls:Value} {Q:Unit->Shared->Prop} {E:Value->Shared->Prop}
  (I0:Inv X pins σ H0 s0) (I:Inv X pins σ H s) (un:Un (frs X.stack) [] H0 H s0.heap s.heap) (he:H e=none) (fl:Heap.FlyingW b' X.stack e cls (.ref t) s.heap) (hf:∀ c,b'.get? c=none->c ∉ frs X.stack->s0.heap.get? c=none)
  (hb:∀ b,H b≠none->∃ o',b'.get? b=some o') (hos:s.os=s0.os)
  (k:∀ h',Inv X pins σ (upd H e (.ext (dq e cls))) { s with heap:=h' }->Q () { s with heap:=h' }):wpAny (model X.prog X.w) A (setFlight (.ref e) none) Q E s:=by
 obtain ⟨T,hT,⟨oT,ts,hoT,hdT⟩,⟨oe,vs,hoe,hoc,hod⟩,fl'⟩:=rebase fl
 have hst:∀ b∈frs X.stack,H b=none:=I.stkFree
 have nof:∀ {b:Addr} {o:Obj} {us:Array Value},s.heap.get? b=some o->o.data=.fields us->b ∉ frs X.stack:=λ{b o us} h1 h2 z=>by
  obtain ⟨_,o',ho',hd⟩:=fl.2.2.1.mem z
  rw [h1] at ho'
  cases ho'
  exact hd us h2
 refine lands_againW fl' λh₅ fl₅ ups=>?_
 have stay:∀ b o,s.heap.get? b=some o->b ∉ frs X.stack->b ∉ [e,T]->h₅.get? b=some o:=λb o hb hn hx=>fl₅.1 b o (by
  rw [gy]
  ·exact hb
  ·intro z
   rcases List.mem_cons.mp z with z | z
   ·exact hx (by simp [z])
   ·rcases List.mem_cons.mp z with z | z
    ·exact hx (by simp [z])
    ·exact hn z)
 have slot:∀ b o,s.heap.get? b=some o->b∈frs X.stack->∃ sl,h₅.get? b=some { o with slots:=sl }:=λb o hb hn=>by
  obtain ⟨_,o',ho',hd⟩:=fl.2.2.1.mem hn
  rw [hb] at ho'
  cases ho'
  exact ups b o hb hd
 have hTn:H T=none:=by
  cases e1:H T with
  | none=>rfl
  | some u =>
   obtain ⟨o',e2⟩:=hb T (by rw [e1]; simp)
   rw [hT] at e2; cases e2
 have un5:Un (frs X.stack) [e,T] H H s.heap h₅:=⟨λb o hb hn hf hx=>stay b o hb hf hx,λb o hb hn hf hx=>slot b o hb hf,λb o hb hn hx=>hn,λb o hb hx=>by
  by_cases hq:b∈frs X.stack
  ·obtain ⟨sl,e1⟩:=slot b o hb hq
   exact ⟨_,e1⟩
  ·exact ⟨o,stay b o hb hq hx⟩,λ_ _ z=>z,λ_ _ _ z=>z,λb ps z=>⟨#[],by rw [z,Array.append_empty]⟩⟩
 have hok5:HOk X.prog X.w H h₅:=HOk.tracked I.hok λb u hb q=>stay b u q (λz=>hb (hst b z)) λz=>by
  rcases List.mem_cons.mp z with z | z
  ·subst z; exact hb he
  ·rcases List.mem_cons.mp z with z | z
   ·subst z; exact hb hTn
   ·cases z
 have un':=un.skip un5 λc hc=>by
  rcases List.mem_cons.mp hc with z | z
  ·subst z; exact hf c fl.2.1 (nof hoe hod)
  ·rcases List.mem_cons.mp z with z | z
   ·subst z; exact hf c hT (nof hoT hdT)
   ·cases z
 obtain ⟨oe5,hoe5,hoc5⟩:=fl₅.there
 have hs0:s0.heap.get? e=none:=hf e fl.2.1 (nof hoe hod)
 have ne0:∀ {b:Addr} {o:Obj},s0.heap.get? b=some o->b≠e:=λ{b o} h1 z=>by rw [z,hs0] at h1; cases h1
 have nH:∀ {b:Addr} {o:HO},H b=some o->b≠e:=λ{b o} h1 z=>by rw [z,he] at h1; cases h1
 have un2:Un (frs X.stack) [] H0 (upd H e (.ext (dq e cls))) s0.heap h₅:=⟨un'.keep,un'.slot,λb o hb hn hx=>by rw [au (ne0 hb)]; exact un'.free b o hb hn hx,un'.there,
  λb xs z=>by rw [au (nH (un'.tups b xs z))]; exact un'.tups b xs z,λb o u z=>by rw [au (nH (un'.frzs b o u z))]; exact un'.frzs b o u z,λb ps z=>by
   obtain ⟨m,z⟩:=un'.tbls b ps z
   exact ⟨m,by rw [au (nH z)]; exact z⟩⟩
 have hok2:HOk X.prog X.w (upd H e (.ext (dq e cls))) h₅:=λb o hb=>by
  by_cases hbe:b=e
  ·subst hbe
   rw [bw] at hb
   cases hb
   exact ⟨⟨oe5,hoe5,hoc5⟩,⟨oe5,hoe5⟩,λh1 h2 ⟨o1,e1,c1⟩ kk=>⟨o1,kk o1 e1,c1⟩⟩
  ·rw [au hbe] at hb
   exact (hok5 b o hb).stay (λ_ _ _ q=>q) (λc z=>by rw [au (nH z)]; exact z) λc xs z=>by rw [au (nH z)]; exact z
 exact k h₅ (I0.call' (s':={ s with heap:=h₅ }) hos un2 hok2 I.bare λb hb=>absurd hb (by simp))
end
end L2
set_option Elab.async false
set_option linter.all false
set_option maxRecDepth 100000
namespace L2
open PySem PySem.Spec PyProof.Rows
noncomputable abbrev Cx.marked (X:Cx) (ea:Addr):Cx:={ X with A:=X.A.mark (some (.ref ea)),calm:=false,xe:=λ_ _=>False }
theorem Inv.marked {X:Cx} {pins:List (Addr×Obj)} {σ:St} {H:Hp} {s:Shared} (I:Inv X pins σ H s) (ea:Addr):Inv (X.marked ea) pins σ H s :=
 ⟨⟨I.ok.mod,I.ok.kind,I.ok.glob,I.ok.blt,I.ok.above,I.ok.inj,I.ok.has,I.ok.cab,λz=>(by cases z),I.ok.frames,I.ok.stk,I.ok.exf,I.ok.bs,I.ok.bsz,I.ok.noex,I.ok.exfs,I.ok.funs,I.ok.frf⟩,I.os,I.bare,I.base,I.loc,I.cell,I.free,I.freeC,I.pin,I.hok,I.len⟩
theorem Inv.unmarked {X:Cx} {pins:List (Addr×Obj)} {σ:St} {H:Hp} {s:Shared} {ea:Addr} (I:Inv (X.marked ea) pins σ H s) (I0:X.Ok):Inv X pins σ H s :=
 ⟨I0,I.os,I.bare,I.base,I.loc,I.cell,I.free,I.freeC,I.pin,I.hok,I.len⟩
structure Under (K:PySem.W.Frag) (C D:Addr):Prop where
 ex:∃ (nm q:Str) (N:Addr) (bs bm:List Value) (hdct:Bool) (sn:List Str) (sub:List Value) (ab:Bool) (col:Option Bool) (dd:Option Addr) (k0 k1 k2 k3 k5:Option Value) (newId:String),K.lookup C=some (excClassObj nm q C N bs bm hdct sn sub ab col dd k0 k1 k2 k3 k5 newId)/\bm.contains (.ref D)=true
 top:∃ (nm q:Str) (N:Addr) (bs bm:List Value) (hdct:Bool) (sn:List Str) (sub:List Value) (ab:Bool) (col:Option Bool) (dd:Option Addr) (k0 k1 k2 k3 k5:Option Value) (newId:String),K.lookup D=some (excClassObj nm q D N bs bm hdct sn sub ab col dd k0 k1 k2 k3 k5 newId)/\bm.contains (.type "BaseException")=true
noncomputable def ZfE (t:TA) (sp:Sp) (C:Addr) (i:Nat) (tb:Addr->TS):TS:=λD σ H=>t σ H λvs H1=>sp vs H1 (λ_ _=>False) λcls _ H'=>cls=.ref C/\∀ ea,H' ea=none ->
 tb ea { nx:=λσ' H2=>D.nx (σ'.set i none) H2,rt:=λ_ _=>False } (σ.set i (some (.ref ea))) (upd H' ea (.ext (dq ea (.ref C))))
theorem Zg4 {X:Cx} {k:Nat} {f:Addr} {fd:FuncData} {ps:List Str} {sp:Sp} {x c n:Str} {C D' L:Addr} {outer:List Env} {i:Nat} {e:Expr} {es:List Expr} {t:TA} {tb:Addr->TS} {p cpos epos cp hpos pos:Pos} {b₀:Stmt} {suite:List Stmt}
  (hstk:X.stack=X.env::outer) (hL:X.env.frame=some L) (hN:X.N.Nodup)
  (F:FnOk X.prog X.w X.K X.mg X.base (cz X.prog X.w) k f fd ps sp) (hr:Room k X.A) (hg:Gl X x) (hm:X.mg x=some (.ref f)) (hk:PySem.W.keepIn X.K (.ref f)=true) (hb:Binds X.K fd ps []) (ha:PA X.nox (e::es) t)
  (U:Under X.K C D') (hgc:Gl X c) (hmc:X.mg c=some (.ref D')) (hi:X.N[i]?=some n) (hn:X.env.kindOf n=some .local) (hln:jA X.env.scope n) (hfn:X.fn n=true\/X.env.scope.names.lookup n=some .local) (hsu:∀ ea,PSs (X.marked ea) (b₀::suite) (tb ea))
  (hdb:(x == ("__debug__":Str))=false:=by decide) (hdc:(c == ("__debug__":Str))=false:=by decide)
  (he:starEach (e::es) X.env=(false,eval e X.env)::starEach es X.env:=by rfl) (hpl:(backTo cpos (starEach es X.env)).any (·.1)=false:=by rfl) (hs:swapsWith (.Call (.Name x p) (e::es) [] cpos) none epos.line X.env=pure false:=by rfl) :
  PS X (.Try [.Expr (.Call (.Name x p) (e::es) [] cpos) epos] [.ExceptHandler (some (.Name c cp)) (some n) (b₀::suite) hpos] [] [] pos) (ZfE t sp C i tb):=by
 intro pins s σ H D I h
 refine wpAny_Try_except (wpAny_execs_cons (wpAny_Expr_any ?_ I.quiet hs))
 refine wpAny_Call_Name_kw (qJ I hg hm ?_ hdb)
 refine PySem.W.callWith_K (h₀:=X.base) I.ok.mod.kin hk (wpAny_mono (ha cpos pins s σ H _ (I.wish _) h) (λus s1 ⟨vs,H1,I1',r,q⟩=>⟨I1'.unwish.kIn,?_⟩) λ_ _ z=>z.elim) he hpl
 have I1:Inv X pins σ H1 s1:=I1'.unwish
 have hl:us.length=ps.length:=by rw [<- r.length]; exact F.len _ _ _ _ q
 have hbb:=hb s1 us I1.kIn (by rw [List.append_nil]; exact hl)
 rw [List.append_nil] at hbb
 refine wpAny_call (codeAny_mono (F.run X.A X.stack s1 H1 ⟨us,[]⟩ us vs _ _ hr I1.env0 hbb r q) λrr s' hq=>?_)
 cases rr with
 | ok fl =>
  cases fl with
  | ret u =>
   obtain ⟨_,_,_,_,_,_,_,z⟩:=hq
   exact z.elim
  | next=>exact False.elim hq
  | brk=>exact False.elim hq
  | cont=>exact False.elim hq
 | error ex =>
  have hq':cz X.prog X.w X.stack H1 s1 (λcls _ H'=>cls=.ref C/\∀ ea,H' ea=none ->
   tb ea { nx:=λσ' H2=>D.nx (σ'.set i none) H2,rt:=λ_ _=>False } (σ.set i (some (.ref ea))) (upd H' ea (.ext (dq ea (.ref C))))) ex s':=hq
  refine Zd7 I1 hstk hL hq' λea cls H' h' eq I5 hea hcl fly un hE=>?_
  subst eq
  obtain ⟨hcls,hE⟩:=hE
  subst hcls
  obtain ⟨b'',tt,fl,hf,hbt⟩:=fly
  obtain ⟨nm,q0,N0,bs,bm,hdct,sn,sub,ab,col,dd,k0,k1,k2,k3,k5,newId,lkC,hin⟩:=U.ex
  obtain ⟨nm',q',N',bs',bm',hdct',sn',sub',ab',col',dd',j0,j1,j2,j3,j5,newId',lkD,hbase⟩:=U.top
  have KX:=I5.kIn
  refine Zi4 hbase hin (qJ I5 hgc hmc ⟨rfl,KX _ _ lkC,KX _ _ lkD,hcl,?_⟩ hdc)
  refine Ziz I1 I5 un hea fl hf hbt (I5.os.trans I1.os.symm) λh6 I6=>?_
  refine iE I6 hN hi hln (show RelV (.ref ea) (.ref ea) from rfl) (λs7 I7=>?_) hfn
  refine wpAny_mono (hsu ea pins s7 _ _ _ (I7.marked ea) (hE ea hea)) (λfl8 s8 h8=>?_) λ_ _ z=>z.elim
  cases fl8 with
  | next =>
   obtain ⟨σ8,H8,I8,q8⟩:=h8
   exact Zh3 (I8.unmarked I5.ok) hN hi hn λs9 I9=>⟨_,_,I9,q8⟩
  | ret u=>obtain ⟨_,_,_,_,_,z⟩:=h8; exact z.elim
  | brk=>obtain ⟨_,_,_,z⟩:=h8; exact z.elim
  | cont=>obtain ⟨_,_,_,z⟩:=h8; exact z.elim
end L2
set_option Elab.async false
set_option linter.all false
set_option maxRecDepth 100000
namespace PySem
noncomputable def clsNames:List Str:=["__getattribute__","__getattr__","__class__"]
inductive OwnTailN (h:Heap) (bmB:List Value):List Value->Prop
 | base:OwnTailN h bmB bmB
 | own {A:Addr} {c0:Value} {dd:Option Addr} {cd:ClassData} {sl:Array (Option Value)} {mA:Str->Option Value} {tl:List Value} :
   h.get? A=some { cls:=c0,dict:=dd,data:=.cls cd,slots:=sl }->h.Ns cd.ns mA->(∀ n∈clsNames,mA n=none)->OwnTailN h bmB tl->OwnTailN h bmB (.ref A::tl)
theorem OwnTailN.hasType {h:Heap} {bmB tl:List Value} (T:OwnTailN h bmB tl) {X:String} {b:Bool} (hb:bmB.contains (.type X)=b):tl.contains (.type X)=b:=by
 induction T with
 | base=>exact hb
 | own _ _ _ _ ih=>rw [List.contains_cons,ih]; rfl
section
variable {M:Model} {A:Around} {E:Value->Shared->Prop} {h:Heap} {g:Array GenState} {d:Drawn} {t:Nat} {os:OsState}
theorem wpAny_lookupAlong_tailN {bmB tl:List Value} {n:Str} {y:Option Value} {Q:Option Value->Shared->Prop} (hn:n∈clsNames) (T:OwnTailN h bmB tl) (hrest:lookupAlong bmB n=pure y) (hq:Q y ⟨h,g,d,t,os⟩) :
  wpAny M A (lookupAlong tl n) Q E ⟨h,g,d,t,os⟩:=by
 induction T with
 | base=>rw [hrest]; exact wpAny_pure hq
 | own hA hN hni _ ih =>
  rw [lookupAlong_cons]
  refine wpAny_bind (wpAny_classOwn_cls hA hN ?_)
  rw [hni n hn]
  exact ih
variable {nm q:Str} {C N:Addr} {bs bm bmB:List Value} {hdct:Bool} {sn:List Str} {sub:List Value} {ab:Bool} {col:Option Bool} {dd:Option Addr} {k0 k1 k2 k3 k5:Option Value} {B newId:String}
theorem wpAny_typeLookup_tailN {mN:Str->Option Value} {n:Str} {y:Option Value} {Q:Option Value->Shared->Prop} (hn:n∈clsNames)
  (hC:h.get? C=some (excClassObj nm q C N bs bm hdct sn sub ab col dd k0 k1 k2 k3 k5 newId)) (hN:h.Ns N mN) (hmN:∀ n∈clsNames,mN n=none) (T:OwnTailN h bmB bm) (hbm:mroOf (.type B)=pure bmB)
  (hB:typeLookup (.type B) n=pure y) (hq:Q y ⟨h,g,d,t,os⟩):wpAny M A (typeLookup (.ref C) n) Q E ⟨h,g,d,t,os⟩:=by
 have hrest:lookupAlong bmB n=pure y:=by rw [typeLookup_eq,hbm] at hB; exact hB
 rw [typeLookup_eq]
 refine wpAny_bind (wpAny_mroOf_exc hC ?_)
 rw [lookupAlong_cons]
 refine wpAny_bind (wpAny_classOwn_exc hC hN ?_)
 rw [hmN n hn]
 exact wpAny_lookupAlong_tailN hn T hrest hq
end
section
variable {prog:Program} {w:World} {A:Around} {E:Value->Shared->Prop} {h:Heap} {g:Array GenState} {d:Drawn} {t:Nat} {os:OsState} {a:Addr} {o:Obj}
 {nm q:Str} {C N:Addr} {bs bm bmB:List Value} {hdct:Bool} {sn:List Str} {sub:List Value} {ab:Bool} {col:Option Bool} {dd:Option Addr} {k0 k1 k2 k3 k5:Option Value} {B newId:String} {mN:Str->Option Value}
theorem class_get_exc {R:Result->Shared->Prop} (hC:h.get? C=some (excClassObj nm q C N bs bm hdct sn sub ab col dd k0 k1 k2 k3 k5 newId)) (hob:bm.contains (.type "object")=true)
  (hx:h.get? a=some o) (hc:o.cls=.ref C) (hq:R (.ok (.ret (.ref C))) ⟨h,g,d,t,os⟩) :
  codeAny (model prog w) A (.call (.builtin "getset_descriptor.__get__") ⟨[.builtin "object.__class__",.ref a,.ref C],[]⟩) R ⟨h,g,d,t,os⟩:=by
 have hT5:(⟨h,g,d,t,os⟩:Shared).TypeIs (.builtin "object.__class__") "getset_descriptor":=F.typeOf_object_class
 have hcB:(Value.ref C::bm).contains (.type (".".intercalate ("object.__class__".cutAt '.').dropLast))=true:=by
  rw [F.owner_object_class,List.contains_cons,hob]; rfl
 refine codeAny_call_builtin F.slot_gs_get.plain F.entry_gs_get (F.slot_gs_get.check _ _ _ _ _ _ _ _ hT5 (F.args_gs_get _ _ _) ?_)
 repeat (any_goals (first | assumption | (with_reducible refine wpAny_loadPart_at hx ?_; rw [hc]) | (with_reducible refine wpAny_isSubtype_exc hC ?_; rw [hcB]) | wp_step))
 refine ⟨Code.quiet_builtin _ (by decide +kernel),codeAny_builtin F.entry_object_class ?_⟩
 repeat (any_goals (first | assumption | (with_reducible refine wpAny_loadPart_at hx ?_; rw [hc]) | wp_step))
theorem class_entry_exc {tk:Tok} {Q:Fin->Shared->Prop} (hC:h.get? C=some (excClassObj nm q C N bs bm hdct sn sub ab col dd k0 k1 k2 k3 k5 newId)) (hob:bm.contains (.type "object")=true) (hN:h.Ns N mN)
  (hmN:∀ n∈clsNames,mN n=none) (T:OwnTailN h bmB bm) (hmro:mroOf (.type B)=pure bmB) (hlk:typeLookup (.type B) "__class__"=pure (some (.builtin "object.__class__"))) (hx:h.get? a=some o) (hc:o.cls=.ref C) (hq:Q (.done (.ret (.ref C))) ⟨h,g,d,t,os⟩) :
  wpAny (model prog w) A (Builtin.«object.__getattribute__» ⟨[.ref a,.str "__class__" tk],[]⟩) Q E ⟨h,g,d,t,os⟩:=by
 have hT5:(⟨h,g,d,t,os⟩:Shared).TypeIs (.builtin "object.__class__") "getset_descriptor":=F.typeOf_object_class
 have f5:=F.typeOf_object_class
 have f6:=F.slot_gs_get.lookup
 have f7:=F.slot_gs_set.lookup
 have hmA:("__class__":Str)∈clsNames:=.tail _ (.tail _ (.head _))
 repeat (any_goals (first | assumption | (with_reducible refine wpAny_loadPart_at hx ?_; rw [hc]) | with_reducible refine wpAny_typeLookup_tailN hmA hC hN hmN T hmro hlk ?_ | wp_step))
 refine class_get_exc hC hob hx hc ?_
 repeat (any_goals (first | assumption | wp_step))
theorem check_ga_exc {M:Model} {nameV:Value} {Q:Unit->Shared->Prop} (hC:h.get? C=some (excClassObj nm q C N bs bm hdct sn sub ab col dd k0 k1 k2 k3 k5 newId)) (hbase:bm.contains (.type "BaseException")=true)
  (hx:h.get? a=some o) (hc:o.cls=.ref C) (hq:Q () ⟨h,g,d,t,os⟩):wpAny M A (checkBuiltinCall "BaseException.__getattribute__" ⟨[.ref a,nameV],[]⟩) Q E ⟨h,g,d,t,os⟩:=by
 have hk:builtinKind "BaseException.__getattribute__"=some .slot:=by decide +kernel
 have hsplit:splitId "BaseException.__getattribute__"=some ("BaseException","__getattribute__"):=by decide +kernel
 have hcB:(Value.ref C::bm).contains (.type "BaseException")=true:=by rw [List.contains_cons,hbase]; rfl
 have ha:=F.args_bexc_ga (.ref a) nameV
 simp only [checkBuiltinCall,hk,hsplit]
 refine wpAny_bind ?_
 ·unfold isInstance
  repeat (first | (with_reducible refine wpAny_loadPart_at hx ?_; rw [hc]) | (with_reducible refine wpAny_isSubtype_exc hC ?_; rw [hcB]) | wp_step)
  exact hq
theorem class_by_exc {tk:Tok} {Q:Value->Shared->Prop} (FB:ExcAttrBase B bmB) (hC:h.get? C=some (excClassObj nm q C N bs bm hdct sn sub ab col dd k0 k1 k2 k3 k5 newId)) (hob:bmB.contains (.type "object")=true) (hN:h.Ns N mN)
  (hmN:∀ n∈clsNames,mN n=none) (T:OwnTailN h bmB bm) (hlk:typeLookup (.type B) "__class__"=pure (some (.builtin "object.__class__"))) (hx:h.get? a=some o) (hc:o.cls=.ref C) (hq:Q (.ref C) ⟨h,g,d,t,os⟩) :
  wpAny (model prog w) A (getAttrBy (.ref a) (.str "__class__" tk) false) Q E ⟨h,g,d,t,os⟩:=by
 have f3:=FB.ga.bind (.ref a)
 have hx2:(Value.builtin "BaseException.__getattribute__" == Value.builtin "object.__getattribute__")=false:=by decide +kernel
 have hx1:(onTheHeap (Value.ref C) && Value.builtin "BaseException.__getattribute__" == Value.builtin "object.__getattribute__")=false:=by rw [hx2]; rfl
 have hm1:("__getattribute__":Str)∈clsNames:=.head _
 have hm2:("__getattr__":Str)∈clsNames:=.tail _ (.head _)
 repeat (any_goals (first | assumption | (with_reducible refine wpAny_loadPart_at hx ?_; rw [hc]) | with_reducible refine wpAny_typeLookup_tailN hm1 hC hN hmN T FB.mro FB.ga.lookup ?_ | with_reducible refine wpAny_typeLookup_tailN hm2 hC hN hmN T FB.mro FB.noGetattr ?_ | wp_step))
 refine codeAny_call_builtin FB.ga.plain F.entry_bexc_ga (check_ga_exc hC (T.hasType FB.hasBase) hx hc (class_entry_exc hC (T.hasType hob) hN hmN T FB.mro hlk hx hc ?_))
 repeat (any_goals (first | assumption | wp_step))
theorem class_attr_exc {Q:Option Value->Shared->Prop} (FB:ExcAttrBase B bmB) (hC:h.get? C=some (excClassObj nm q C N bs bm hdct sn sub ab col dd k0 k1 k2 k3 k5 newId)) (hob:bmB.contains (.type "object")=true) (hN:h.Ns N mN)
  (hmN:∀ n∈clsNames,mN n=none) (T:OwnTailN h bmB bm) (hlk:typeLookup (.type B) "__class__"=pure (some (.builtin "object.__class__"))) (hx:h.get? a=some o) (hc:o.cls=.ref C) (hq:Q (some (.ref C)) ⟨h,g,d,t+1,os⟩) :
  wpAny (model prog w) A (getAttr? (.ref a) "__class__") Q E ⟨h,g,d,t,os⟩:=by
 unfold getAttr? getAttrBy?
 repeat (any_goals (first | assumption | with_reducible apply class_by_exc FB hC hob hN hmN T hlk hx hc | wp_step))
end
end PySem
set_option Elab.async false
set_option linter.all false
set_option maxRecDepth 100000
namespace L2
open PySem PySem.Spec PyProof.Rows
structure Xci (K:PySem.W.Frag) (C:Addr) (bmB:List Value):Prop where
 ex:∃ (nm q:Str) (N:Addr) (bs bm:List Value) (hdct:Bool) (sn:List Str) (sub:List Value) (ab:Bool) (col:Option Bool) (dd:Option Addr) (k0 k1 k2 k3 k5:Option Value) (newId:String) (mN:Str->Option Value),
  K.lookup C=some (excClassObj nm q C N bs bm hdct sn sub ab col dd k0 k1 k2 k3 k5 newId)/\(∀ h:Heap,K.In h->h.Ns N mN/\OwnTailN h bmB bm)/\∀ n∈clsNames,mN n=none
theorem qG:typeLookup (.type "ValueError") "__class__"=pure (some (.builtin "object.__class__")):=by rw [typeLookup_type,builtinLookup_eq_fast]; kernel_rfl
theorem qW {K:PySem.W.Frag} {ea C:Addr} {B:String} {bmB:List Value} (c:Xci K C bmB) (FB:ExcAttrBase B bmB) (hob:bmB.contains (.type "object")=true) (hlk:typeLookup (.type B) "__class__"=pure (some (.builtin "object.__class__"))) :
  PySem.W.KitX K (.ref ea) (.ref C) (dq ea (.ref C)) where
 ty:=λM h _ p=>by
  obtain ⟨o,h1,h2⟩:=p
  exact h2 ▸ (PySem.W.Looks.ld h1).andThen .now
 it:=λ_ _ X _=>by
  obtain ⟨nm,q,N,bs,bm,hdct,sn,sub,ab,col,dd,k0,k1,k2,k3,k5,newId,mN,lk,_⟩:=c.ex
  intro A' Q' E' s' k q
  unfold isType loadHead
  exact wpAny_bind (wpAny_loadPart (k _ _ (X _ _ lk)) (wpAny_pure q))
 ne:=λh tp dd its n sl X htp=>by
  obtain ⟨nm,q,N,bs,bm,hdct,sn,sub,ab,col,dd',k0,k1,k2,k3,k5,newId,mN,lk,_⟩:=c.ex
  refine Bool.eq_false_iff.mpr λq=>?_
  have e:C=tp:=Value.ref.inj (beq_iff_eq.mp q)
  subst e
  have z:=(X _ _ lk).symm.trans htp
  have z2:=congrArg (λo=>(o.getD default).cls) z
  exact absurd z2 (by simp)
 ca:=λ{prog w A E Q s} X p k=>by
  obtain ⟨nm,q,N,bs,bm,hdct,sn,sub,ab,col,dd',k0,k1,k2,k3,k5,newId,mN,lk,hn,hmN⟩:=c.ex
  obtain ⟨h,g,d,t,os⟩:=s
  obtain ⟨o,h1,h2⟩:=p
  exact class_attr_exc FB (X _ _ lk) hob (hn _ X).1 hmN (hn _ X).2 hlk h1 h2 k
section
variable {X:Cx} {C:Addr} {B:String} {bmB:List Value}
theorem Znj (c:Xci X.K C bmB) (FB:ExcAttrBase B bmB) (hob:bmB.contains (.type "object")=true) (hlk:typeLookup (.type B) "__class__"=pure (some (.builtin "object.__class__"))) :
  cR X (.builtin "isinstance") (λxs H Q=>∃ ea D b,xs=[.ref ea,.ref D]/\H ea=some (.ext (dq ea (.ref C)))/\PySem.W.kitOne X.K (.ref C) (.ref D)=some b/\Q (.bl b) H):=by
 intro pins s σ H xs us Q I r h
 obtain ⟨ea,D,b,rfl,he,e,q⟩:=h
 obtain ⟨u,v,rfl,ru,rv⟩:=iz r
 cases ru
 cases rv
 have p:dq ea (.ref C) s.heap:=(I.hok ea _ he).1
 exact PySem.W.kia_one (qW c FB hob hlk) I.kIn p e (λz=>nomatch z) λtk=>⟨.bl b,H,I.tok tk,rfl,q⟩
theorem Zni (c:Xci X.K C bmB) (FB:ExcAttrBase B bmB) (hob:bmB.contains (.type "object")=true) (hlk:typeLookup (.type B) "__class__"=pure (some (.builtin "object.__class__"))) :
  cR X (.builtin "isinstance") (λxs H Q=>∃ ea T b,xs=[.ref ea,.ty T]/\H ea=some (.ext (dq ea (.ref C)))/\PySem.W.kitOne X.K (.ref C) (.type T)=some b/\Q (.bl b) H):=by
 intro pins s σ H xs us Q I r h
 obtain ⟨ea,T,b,rfl,he,e,q⟩:=h
 obtain ⟨u,v,rfl,ru,rv⟩:=iz r
 cases ru
 cases rv
 have p:dq ea (.ref C) s.heap:=(I.hok ea _ he).1
 exact PySem.W.kia_one (qW c FB hob hlk) I.kIn p e (λz=>nomatch z) λtk=>⟨.bl b,H,I.tok tk,rfl,q⟩
theorem Zas:∀ {ds:List Addr} {us:List Value},Vals (ds.map V.ref) us->us=ds.map Value.ref
 | [],_,r=>by cases r; rfl
 | d::ds,_,r=>by
  cases r with
  | cons r1 rr =>
   cases r1
   rw [Zas rr]
   rfl
theorem Znh (c:Xci X.K C bmB) (FB:ExcAttrBase B bmB) (hob:bmB.contains (.type "object")=true) (hlk:typeLookup (.type B) "__class__"=pure (some (.builtin "object.__class__"))) :
  cR X (.builtin "isinstance") (λxs H Q=>∃ (ea tp:Addr) (ds:List Addr) (b:Bool),xs=[.ref ea,.ref tp]/\H ea=some (.ext (dq ea (.ref C)))/\H tp=some (.tup (ds.map V.ref))/\PySem.W.kitAny X.K (.ref C) (ds.map Value.ref)=some b/\Q (.bl b) H):=by
 intro pins s σ H xs us Q I r h
 obtain ⟨ea,tp,ds,b,rfl,he,ht,e,q⟩:=h
 obtain ⟨u,v,rfl,ru,rv⟩:=iz r
 cases ru
 cases rv
 have p:dq ea (.ref C) s.heap:=(I.hok ea _ he).1
 obtain ⟨_,its,rr,o,ho,hoc,n,hod⟩:=(show ObjOk X.prog X.w H s.heap tp (.tup (ds.map V.ref)) from I.hok tp _ ht)
 have hits:=Zas rr
 subst hits
 obtain ⟨oc,od,odt,osl⟩:=o
 cases hoc
 cases hod
 exact PySem.W.kia_tup (qW c FB hob hlk) I.kIn p ho e (λz=>nomatch z) λtk=>⟨.bl b,H,I.tok tk,rfl,q⟩
end
end L2
set_option Elab.async false
set_option linter.all false
set_option maxRecDepth 100000
namespace L2
open PySem PySem.Spec PyProof.Rows
structure CalleeX (P:Program) (w:World) (K:PySem.W.Frag) (mg:Str->Option Value) (base:Heap) (x:Str) (k:Nat) (ps:List Str) (sp:Sp):Prop where
 ex:∃ f fd,FnOk P w K mg base (cz P w) k f fd ps sp/\mg x=some (.ref f)/\PySem.W.keepIn K (.ref f)=true/\Binds K fd ps []
theorem Def.okX {P:Program} {w:World} {K:PySem.W.Frag} {mg:Str->Option Value} {base:Heap} {x:Str} {st:Stmt} {N ps:List Str} {k:Nat} {sp:Sp} (D:Def K mg x st ps) (S:FnScope N ps (az st)) (len:∀ vs H Q E,sp vs H Q E->vs.length=ps.length)
  (hbody:∀ (f:Addr) (cdv:Value) (A:Around) (outer:List Env) (s:Shared) (H:Hp) (vs:List V) (Q:VK) (E:XK),Room k (A.deeper (envOfC x (az st) s.heap.objs.size f cdv))->sp vs H Q E ->
   ∃ t,PSs (cD (cz P w) P w K mg base N x (az st) f cdv A outer s H E) (fo st) t/\t { nx:=λ_ H'=>Q .non H',rt:=Q } (start N vs) H):CalleeX P w K mg base x (k+1) ps sp:=by
 obtain ⟨f,fd,F,hm,hb⟩:=D.ex
 obtain ⟨oc,od,kV,doc,pm,an,cdv,ct,osl,rfl,lk,hcd⟩:=F.ex
 exact ⟨f,_,Zdg lk hcd S len λA outer s H vs Q E hr hsp=>hbody f cdv A outer s H vs Q E hr hsp,hm,F.kp,hb⟩
end L2
set_option Elab.async false
set_option linter.all false
set_option maxRecDepth 100000
namespace L2
open PySem PySem.Spec PyProof.Rows PySem.W
theorem ZnK:bootBuiltins "ValueError"=some (.type "ValueError"):=by decide +kernel
noncomputable def gM:List Value:=[.type "ValueError",.type "Exception",.type "BaseException",.type "object"]
noncomputable def lF (K:Frag) (bmB:List Value):List Value->Bool
 | []=>bmB == []
 | v::r=>(v::r) == bmB || match v with
  | .ref A=>(match K.lookup A with
   | some ⟨_,_,.cls cd,_⟩=>nsOkIn K cd.ns && (nsIn K cd.ns "__getattribute__" == some none && nsIn K cd.ns "__getattr__" == some none && nsIn K cd.ns "__class__" == some none) && lF K bmB r
   | _=>false)
  | _=>false
theorem Zd4 {m:Str->Option Value} (a:m "__getattribute__"=none) (b:m "__getattr__"=none) (c:m "__class__"=none):∀ n∈clsNames,m n=none:=by
 intro n hn
 unfold clsNames at hn
 simp only [List.mem_cons,List.not_mem_nil,or_false] at hn
 rcases hn with rfl | rfl | rfl
 ·exact a
 ·exact b
 ·exact c
theorem ZaD {K:Frag} {h:Heap} {bmB:List Value} (X:K.In h):∀ {l:List Value},lF K bmB l=true->OwnTailN h bmB l
 | [],e=>by rw [<- beq_iff_eq.mp e]; exact .base
 | v::r,e=>by
  unfold lF at e
  rcases Bool.or_eq_true_iff.mp e with q | q
  ·rw [beq_iff_eq.mp q]; exact .base
  ·split at q
   ·split at q
    ·rename_i ho
     simp only [Bool.and_eq_true,beq_iff_eq] at q
     exact .own (X _ _ ho) (.of_isNs (isNs_of_in X q.1.1)) (Zd4 (nsMap_none_of_in X q.1.1 q.1.2.1.1) (nsMap_none_of_in X q.1.1 q.1.2.1.2) (nsMap_none_of_in X q.1.1 q.1.2.2)) (ZaD X q.2)
    ·cases q
   ·cases q
noncomputable def fx (K:Frag) (C:Addr) (bmB:List Value) (newId:String):Bool:=match K.lookup C with
 | some ⟨.type "type",_,.cls cd,sl⟩=>(match cd.mro,sl.toList with
  | .ref C'::bm,[_,_,_,_,some (.builtin n),_]=>C' == C && n == newId && !cd.hasDel && tailIn K bmB bm && lF K bmB bm && nsOkIn K cd.ns && nsIn K cd.ns "__init__" == some none
    && nsIn K cd.ns "__getattribute__" == some none && nsIn K cd.ns "__getattr__" == some none && nsIn K cd.ns "__class__" == some none && bm.contains (.type "BaseException")
  | _,_=>false)
 | _=>false
noncomputable def m7 (K:Frag) (C D:Addr):Bool:=match K.lookup C with
 | some ⟨_,_,.cls cd,_⟩=>cd.mro.tail.contains (.ref D)
 | _=>false
theorem ZhV {K:Frag} {N:Addr} {h h':Heap} {m:Str->Option Value} (X:K.In h) (X':K.In h') (e:nsOkIn K N=true) (n:h.Ns N m):h'.Ns N m:=by
 obtain ⟨o,es,ep,ho,r⟩:=n
 refine ⟨o,es,ep,?_,r⟩
 unfold nsOkIn at e
 cases hl:K.lookup N with
 | none=>rw [hl] at e; cases e
 | some u =>
  have h1:=X _ _ hl
  rw [ho] at h1
  cases h1
  exact X' _ _ hl
theorem lu {K:Frag} {h:Heap} {C:Addr} {bmB:List Value} {newId:String} (X:K.In h) (q:fx K C bmB newId=true) :
  ∃ (nm q:Str) (N:Addr) (bs bm:List Value) (hdct:Bool) (sn:List Str) (sub:List Value) (ab:Bool) (col:Option Bool) (dd:Option Addr) (k0 k1 k2 k3 k5:Option Value) (mN:Str->Option Value),
  K.lookup C=some (excClassObj nm q C N bs bm hdct sn sub ab col dd k0 k1 k2 k3 k5 newId)/\(∀ h:Heap,K.In h->h.Ns N mN/\OwnTail h bmB bm/\OwnTailN h bmB bm)/\mN "__init__"=none/\(∀ n∈clsNames,mN n=none)/\bm.contains (.type "BaseException")=true:=by
 unfold fx at q
 split at q
 ·rename_i dd cd sl ho
  split at q
  ·rename_i C' bm k0 k1 k2 k3 n k5 hm hs
   simp only [Bool.and_eq_true,beq_iff_eq,Bool.not_eq_true'] at q
   obtain ⟨⟨⟨⟨⟨⟨⟨⟨⟨⟨rfl,rfl⟩,hdel⟩,ht⟩,htn⟩,hok⟩,hni⟩,n1⟩,n2⟩,n3⟩,hb⟩:=q
   obtain ⟨nm,bs,mro,ns,qn,hd,sn,sub,ab,col,del⟩:=cd
   dsimp only at hm hdel hok hni n1 n2 n3
   subst hm hdel
   have hsl:sl=#[k0,k1,k2,k3,some (.builtin n),k5]:=by
    obtain ⟨l⟩:=sl
    simp only at hs
    rw [hs]
   subst hsl
   exact ⟨nm,qn,ns,bs,bm,hd,sn,sub,ab,col,dd,k0,k1,k2,k3,k5,_,ho,λh' X'=>⟨ZhV X X' hok (.of_isNs (isNs_of_in X hok)),tail_of_in X' ht,ZaD X' htn⟩,nsMap_none_of_in X hok hni,Zd4 (nsMap_none_of_in X hok n1) (nsMap_none_of_in X hok n2) (nsMap_none_of_in X hok n3),hb⟩
  ·cases q
 ·cases q
theorem Ze7 {K:Frag} {h:Heap} {C:Addr} {bmB:List Value} {newId:String} (X:K.In h) (q:fx K C bmB newId=true):Xcl K C bmB newId:=by
 obtain ⟨nm,q,N,bs,bm,hdct,sn,sub,ab,col,dd,k0,k1,k2,k3,k5,mN,lk,hn,hi,hc,hb⟩:=lu X q
 exact ⟨nm,q,N,bs,bm,hdct,sn,sub,ab,col,dd,k0,k1,k2,k3,k5,mN,lk,λh X=>⟨(hn h X).1,(hn h X).2.1⟩,hi,hb⟩
theorem Ze8 {K:Frag} {h:Heap} {C:Addr} {bmB:List Value} {newId:String} (X:K.In h) (q:fx K C bmB newId=true):Xci K C bmB:=by
 obtain ⟨nm,q,N,bs,bm,hdct,sn,sub,ab,col,dd,k0,k1,k2,k3,k5,mN,lk,hn,hi,hc,hb⟩:=lu X q
 exact ⟨nm,q,N,bs,bm,hdct,sn,sub,ab,col,dd,k0,k1,k2,k3,k5,newId,mN,lk,λh X=>⟨(hn h X).1,(hn h X).2.2⟩,hc⟩
theorem Zfq {K:Frag} {h:Heap} {C D:Addr} {bmB:List Value} {newId:String} (X:K.In h) (q:fx K C bmB newId=true) (q':fx K D bmB newId=true) (u:m7 K C D=true):Under K C D:=by
 obtain ⟨nm,qq,N,bs,bm,hdct,sn,sub,ab,col,dd,k0,k1,k2,k3,k5,mN,lk,hn,hi,hc,hb⟩:=lu X q
 obtain ⟨nm',qq',N',bs',bm',hdct',sn',sub',ab',col',dd',j0,j1,j2,j3,j5,mN',lk',hn',hi',hc',hb'⟩:=lu X q'
 refine ⟨⟨nm,qq,N,bs,bm,hdct,sn,sub,ab,col,dd,k0,k1,k2,k3,k5,newId,lk,?_⟩,⟨nm',qq',N',bs',bm',hdct',sn',sub',ab',col',dd',j0,j1,j2,j3,j5,newId,lk',hb'⟩⟩
 unfold m7 at u
 rw [lk] at u
 exact u
structure Exc (K:Frag) (C D:Addr) (ds:List Addr):Prop where
 cl:Xcl K C gM "ValueError.__new__"
 ci:Xci K C gM
 un:Under K C D
 vt:kitOne K (.ref C) (.type "ValueError")=some true
 any:kitAny K (.ref C) (ds.map Value.ref)=some false
theorem Zjt {K:Frag} {h:Heap} {C D:Addr} {ds:List Addr} (X:K.In h) (q:fx K C gM "ValueError.__new__"=true) (q':fx K D gM "ValueError.__new__"=true) (u:m7 K C D=true) (vt:kitOne K (.ref C) (.type "ValueError")=some true)
  (any:kitAny K (.ref C) (ds.map Value.ref)=some false):Exc K C D ds:=⟨Ze7 X q,Ze8 X q,Zfq X q q' u,vt,any⟩
theorem ZiG {K:Frag} {C:Addr}:kitOne K (.ref C) (.ref C)=some true:=by
 unfold kitOne
 rw [if_pos (beq_self_eq_true _)]
end L2
set_option Elab.async false
set_option linter.all false
set_option maxRecDepth 100000
namespace L2
open PySem PySem.Spec PyProof.Rows
mutual
noncomputable def gH:PyData->Bool
 | .none=>false
 | .bool _=>false
 | .int _=>false
 | .str _=>false
 | .list _=>true
 | .tuple xs=>ie xs
 | .dict kvs=>je kvs
noncomputable def ie:List PyData->Bool
 | []=>false
 | x::xs=>gH x || ie xs
noncomputable def je:List (PyData×PyData)->Bool
 | []=>false
 | (_,v)::r=>gH v || je r
end
noncomputable def ia:aq->PyData
 | .inl i=>.int i
 | .inr x=>.str x
theorem Zc6:∀ {ks ds:List PyData},ks.length=ds.length->je (ks.zip ds)=ie ds
 | [],[],_=>by simp only [List.zip_nil_left,je,ie]
 | k::ks,d::ds,h=>by
  rw [List.zip_cons_cons,je,ie,Zc6 (Nat.succ.inj h)]
 | [],_::_,h=>by cases h
 | _::_,[],h=>by cases h
theorem ZiH {P:Program} {w:World} {h:Heap}:∀ {es:List DictEntry} {vs:List (aq×Value)},Pairs (cu P w) es vs->ReadsAll h (es.map (·.key)) (vs.map λq=>ia q.1) []:=by
 intro es vs hp
 induction hp with
 | nil=>exact .nil
 | @cons e kv es kvs h1 h2 _ ih =>
  have h1':h9 kv.1 e.key=true:=h1
  rcases fJ h1' with ⟨i,t,e1,e2⟩ | ⟨x,t,e1,e2⟩
  ·rw [List.map_cons,List.map_cons,e1,e2]
   exact ReadsAll.cons (as:=[]) (bs:=[]) (.int i t) ih
  ·rw [List.map_cons,List.map_cons,e1,e2]
   exact ReadsAll.cons (as:=[]) (bs:=[]) (.str x t) ih
theorem Zhz {P:Program} {w:World} {es:List DictEntry} {vs:List (aq×Value)} (hp:Pairs (cu P w) es vs):es.map (·.val)=vs.map (·.2):=by
 induction hp with
 | nil=>rfl
 | @cons e kv es kvs h1 h2 _ ih=>rw [List.map_cons,List.map_cons,h2,ih]
theorem ZiA:∀ {ks:List (aq×V)} {vs:List (aq×Value)},KV ks vs->Vals (ks.map (·.2)) (vs.map (·.2))/\(ks.map (·.1))=vs.map (·.1):=by
 intro ks vs kv
 unfold KV at kv
 induction kv with
 | nil=>exact ⟨.nil,rfl⟩
 | cons h _ ih=>exact ⟨.cons h.2 ih.1,by rw [List.map_cons,List.map_cons,h.1,ih.2]⟩
theorem Zaa:∀ {ks ds:List PyData},ks.length=ds.length->(ks.zip ds).map (·.1)=ks/\(ks.zip ds).map (·.2)=ds
 | [],[],_=>⟨rfl,rfl⟩
 | k::ks,d::ds,h=>by
  obtain ⟨h1,h2⟩:=Zaa (Nat.succ.inj h)
  rw [List.zip_cons_cons,List.map_cons,List.map_cons,h1,h2]
  exact ⟨rfl,rfl⟩
 | [],_::_,h=>by cases h
 | _::_,[],h=>by cases h
mutual
/-- data without lists -/
theorem Dn.readsD {P:Program} {w:World} {H:Hp} {h:Heap} (ok:HOk P w H h):∀ {v:V} {d:PyData} {u:Value},Dn H v d->gH d=false->RelV v u->∃ as,Reads h u d as/\∀ b∈as,b≠sysModules
 | _,_,_,.non,_,r=>by cases r; exact ⟨_,.none,λb hb=>nomatch hb⟩
 | _,_,_,.bl b,_,r=>by cases r; exact ⟨_,.bool b,λb hb=>nomatch hb⟩
 | _,_,_,.int i,_,r=>by obtain ⟨t,rfl⟩:=r; exact ⟨_,.int i t,λb hb=>nomatch hb⟩
 | _,_,_,.str x,_,r=>by obtain ⟨t,rfl⟩:=r; exact ⟨_,.str x t,λb hb=>nomatch hb⟩
 | _,_,_,.tup e rs,hd,r=>by
  cases r
  obtain ⟨z,its,rv,o,h1,h2,n,h3⟩:=ok _ _ e
  obtain ⟨as,q,hq⟩:=DnAll.readsD ok rs (by rw [gH] at hd; exact hd) rv
  exact ⟨_,.tuple h1 h2 h3 (by simpa using q),hq⟩
 | _,_,_,.lst e rs,hd,r=>by rw [gH] at hd; cases hd
 | _,_,_,.dct (ks:=ks) (ds:=ds) e rs,hd,r=>by
  cases r
  obtain ⟨z,hsys,vs,kv,o,es,ep,h1,⟨h2,_⟩,h3,_,hp,_⟩:=e.ok ok
  obtain ⟨k1,k2⟩:=ZiA kv
  have hl:(ks.map λk=>ia k.1).length=ds.length:=by
   have:=rs.length
   rw [List.length_map] at this ⊢
   exact this
  have hd2:je ((ks.map λk=>ia k.1).zip ds)=false:=by rw [gH] at hd; exact hd
  rw [Zc6 hl] at hd2
  obtain ⟨as,q,hq⟩:=DnAll.readsD ok rs hd2 k1
  obtain ⟨z1,z2⟩:=Zaa hl
  have k3:(ks.map λk=>ia k.1)=vs.map λq=>ia q.1:=by
   have:=congrArg (List.map ia) k2
   rw [List.map_map,List.map_map] at this
   exact this
  show ∃ as,Reads h _ (.dict ((ks.map λk=>ia k.1).zip ds)) as/\_
  refine ⟨_,.dict (as:=[]) (bs:=as) h1 h2 h3 ?_ ?_,λb hb=>?_⟩
  ·rw [z1,k3]
   exact ZiH hp
  ·rw [z2,Zhz hp]
   exact q
  ·rcases List.mem_append.mp hb with hb | hb
   ·rw [List.mem_singleton] at hb
    rw [hb]
    exact beq_eq_false_iff_ne.mp hsys
   ·exact hq b hb
theorem DnAll.readsD {P:Program} {w:World} {H:Hp} {h:Heap} (ok:HOk P w H h):∀ {vs:List V} {ds:List PyData} {us:List Value},DnAll H vs ds->ie ds=false->Vals vs us->∃ as,ReadsAll h us ds as/\∀ b∈as,b≠sysModules
 | _,_,_,.nil,_,r=>by cases r; exact ⟨_,.nil,λb hb=>nomatch hb⟩
 | _,_,_,.cons p t,hd,r=>by
  cases r with
  | cons r1 r2 =>
   rw [ie,Bool.or_eq_false_iff] at hd
   obtain ⟨as,q,hq⟩:=Dn.readsD ok p hd.1 r1
   obtain ⟨bs,q2,hq2⟩:=DnAll.readsD ok t hd.2 r2
   refine ⟨_,.cons q q2,λb hb=>?_⟩
   rcases List.mem_append.mp hb with hb | hb
   ·exact hq b hb
   ·exact hq2 b hb
end
noncomputable def ZbA (xs:List V) (H:Hp) (Q:VK):Prop:=∃ v d,xs=[v]/\Dn H v d/\(d.hasDict=false\/gH d=false)/\d.showable=true/\d.depth<=32/\d.shown.length<=sizeLine/\Q (.str d.shown) H
theorem om {X:Cx} {k:Nat} (hr:Room k X.A):cR X (.builtin "repr") ZbA:=by
 intro pins s σ H xs us Q I r h
 obtain ⟨v,d,rfl,hd,hor,hs,hdp,hz,q⟩:=h
 obtain ⟨u,rfl,ru⟩:=eG r
 have hun:=hr.units
 have key:∀ (as:List Addr),Reads s.heap u d as->(d.hasDict=true->sysModules ∉ as)->wpAny (model X.prog X.w) X.A (call (.builtin "repr") [u]) (EP X pins σ Q) X.xe s:=by
  intro as rd hsm
  have viaRef:∀ {a:Addr},u=.ref a->wpAny (model X.prog X.w) X.A (call (.builtin "repr") [u]) (EP X pins σ Q) X.xe s:=λ{a} e=>by
   subst e
   exact repr_of_reads' rd hs hsm hr.gd (by omega) (λ_ _ e=>e) (λh' u' tk hk=>⟨.str d.shown,H,I.kept hk,⟨_,rfl⟩,q⟩) hz
  cases rd with
  | none=>exact PySem.P.repr_of_none ⟨.str "None",H,I.tok _,⟨_,rfl⟩,q⟩
  | bool b=>exact PySem.P.repr_of_bool ⟨.str (if b then "True" else "False"),H,I.tok _,⟨_,rfl⟩,q⟩
  | int i t=>exact PySem.P.repr_of_int (by simpa [PyData.showable] using hs) ⟨.str (toString i),H,I.tok _,⟨_,rfl⟩,q⟩
  | str x t=>exact PySem.P.repr_of_str ⟨.str (reprText x),H,I.tok _,⟨_,rfl⟩,q⟩ hz
  | list h1 h2 h3 h4=>exact viaRef rfl
  | tuple h1 h2 h3 h4=>exact viaRef rfl
  | dict h1 h2 h3 h4 h5=>exact viaRef rfl
 rcases hor with hn | hn
 ·obtain ⟨as,rd⟩:=Dn.reads I.hok hd hn ru
  exact key as rd (PyData.noDict_hsm hn)
 ·obtain ⟨as,rd,hsys⟩:=Dn.readsD I.hok hd hn ru
  exact key as rd λ_ hm=>hsys _ hm rfl
noncomputable def gr (d:PyData):Bool:=(!d.hasDict || !gH d) && d.showable && decide (d.depth<=32) && decide (d.shown.length<=sizeLine)
noncomputable def gq:List PyData->Option PyData
 | [d]=>if gr d=true then some (.str d.shown) else none
 | _=>none
theorem lC:e9 ZbA gq:=λPK pa m G H vs ds d Q w hv hd k=>by
 unfold gq at hd
 split at hd
 ·split at hd
  ·rename_i hc
   unfold gr at hc
   simp only [Bool.and_eq_true,Bool.or_eq_true,decide_eq_true_eq,Bool.not_eq_true'] at hc
   cases hd
   cases hv with
   | cons h1 h2=>cases h2; exact ⟨_,_,rfl,h1.mono w.sub,hc.1.1.1,hc.1.1.2,hc.1.2,hc.2,k.here w (.str _)⟩
  ·cases hd
 ·cases hd
section
variable {PK:Pk} {X:Cx} {pos:Pos} {i j:List Sl->Tr PyData}
theorem Kn.dct {pa:Addr} {m:Nat} {G H:Hp} {ks:List (aq×V)} {ds:List PyData} {Q:VK} {p:Addr} (k:Kn PK pa m G H (.dict ((ks.map λk=>match k.1 with | .inl i=>PyData.int i | .inr x=>PyData.str x).zip ds)) Q) (w:Wd PK pa m G H) (d:DnAll G (ks.map (·.2)) ds) (hp:H p=none):Q (.ref p) (upd H p (.dK ks)):=by
 obtain ⟨w1,s1⟩:=w.new (o:=.dK ks) hp
 exact k _ _ _ s1 w1 (.dct (.inl bw) (DnAll.mono s1.gs d))
end
theorem rC {d:PyData} (h:gr d=true):bF gq [d]=.ret (.str d.shown):=by
 show Tr.of (if gr d=true then some (PyData.str d.shown) else none)=_
 rw [if_pos h]
 rfl
end L2
set_option Elab.async false
set_option linter.all false
set_option maxRecDepth 100000
namespace L2
open PySem PySem.Spec PyProof.Rows
variable {PK:Pk} {X:Cx} {st:Stmt} {i n:List Sl->Tr PyData}
noncomputable def ZbN (K:PySem.W.Frag):V->V->Hp->VK->Prop:=λx y H Q=>∃ p xs i v,x=.ref p/\y=.int i/\SqL K H p xs/\0<=i/\bf xs i=some v/\Q v H
theorem Zi6:Ze0 X (ZbN X.K):=by
 intro pins s σ H x y v u Q I rx ry h
 obtain ⟨p,xs,i,z,rfl,rfl,hq,h0,he,q⟩:=h
 cases rx
 obtain ⟨t,rfl⟩:=ry
 obtain ⟨its,r,pl,hz⟩:=I.list hq
 obtain ⟨j,h1,h2,h3,h4,h5⟩:=oq he
 obtain ⟨w,ew,rw'⟩:=r.get h2
 have hl:=r.length
 have hn:=gE
 have fin:EP X pins σ Q w s:=⟨z,H,I,rw',q⟩
 have hj:i.toNat=j:=by
  rw [seqIndex_of h0 h5] at h1
  exact Option.some.inj h1
 exact wpAny_getItem_list pl.isList h0 (by omega) (by rw [hj]; simpa using ew) fin
noncomputable def qv (xs:List PyData):PyData->Option (Nat×Int)
 | .int y=>if 0<=y then (match xs[y.toNat]? with | some (.int a)=>some (y.toNat,a) | _=>none) else none
 | _=>none
noncomputable def Zc1:PyData->Option Int
 | .int b=>some b
 | _=>none
noncomputable def lf (g:Int->Int->Int) (k:Nat) (n i:List Sl->Tr PyData):List Sl->Tr Ou:=λρ=>match ρ[k]? with
 | some (.own xs)=>(n ρ).bind λy=>(Tr.of (qv xs y)).bind λja=>(i ρ).bind λz=>(Tr.of (Zc1 z)).bind λb=>.ret (.next (ρ.set k (.own (xs.set ja.1 (.int (g ja.2 b))))))
 | _=>.fail
theorem ZnY {k:Nat} {g:Int->Int->Int} (h:PS X st (ZaN (cM k) (TAe PK n) (TAe PK i) (ZbN X.K) (ipI g) pQ)):PS X st (bg PK (lf g k n i)):=h.imp λD σ H hz0=>by
 obtain ⟨pa,G₀,H₀,m,ρ,G,R,z⟩:=hz0
 unfold lf at z
 split at z
 ·rename_i xs hx
  obtain ⟨o,h1,h2⟩:=R.sl k _ hx
  cases h2 with
  | @own p vs _ a1 a2 a3 a4 =>
   refine ⟨_,h1,?_⟩
   refine TAe.then R z λm1 y v G1 H1 s1 w1 R1 d1 q1=>?_
   rw [Tr.ok_bind] at q1
   obtain ⟨ja,hja,q1⟩:=Tr.ok_of q1
   cases d1 with
   | int y =>
    have hy:∃ a,0<=y/\xs[y.toNat]?=some (.int a)/\ja=(y.toNat,a):=by
     have hja:(if 0<=y then (match xs[y.toNat]? with | some (.int a)=>some (y.toNat,a) | _=>none) else none)=some ja:=hja
     by_cases h0:0<=y
     ·rw [if_pos h0] at hja
      cases e:xs[y.toNat]? with
      | none=>rw [e] at hja; cases hja
      | some u =>
       rw [e] at hja
       cases u with
       | int a=>cases hja; exact ⟨a,h0,rfl,rfl⟩
       | _=>cases hja
     ·rw [if_neg h0] at hja; cases hja
    obtain ⟨a,h0,hat,rfl⟩:=hy
    obtain ⟨o,h1',h2⟩:=R1.sl k _ hx
    rw [h1] at h1'
    cases h1'
    cases h2 with
    | @own _ vs1 _ b1 b2 b3 b4 =>
     obtain ⟨va,hva,da⟩:=DnAll.get y.toNat b4 hat
     cases da
     refine ⟨p,vs1,y,.int a,rfl,rfl,SqL.of b1,h0,jp h0 hva,?_⟩
     refine TAe.then R1 q1 λm2 z2 u G2 H2 s2 w2 R2 d2 q2=>?_
     rw [Tr.ok_bind] at q2
     obtain ⟨b,hb,q2⟩:=Tr.ok_of q2
     cases d2 with
     | int b' =>
      cases hb
      obtain ⟨o,h1',h2⟩:=R2.sl k _ hx
      rw [h1] at h1'
      cases h1'
      cases h2 with
      | @own _ vs2 _ c1 c2 c3 c4 =>
       have hlt:y.toNat < xs.length:=(List.getElem?_eq_some_iff.mp hat).1
       refine ⟨a,b,rfl,rfl,p,vs2,y,y.toNat,rfl,rfl,c1,?_,?_⟩
       ·unfold df
        rw [if_pos h0,if_pos (by rw [c4.length]; omega)]
       ·exact q2 σ G2 _ (s1.gs.trans s2.gs) (R2.change hx h1 (c4.set y.toNat (.int _)))
     | _=>cases hb
   | _=>cases hja
 ·exact z.elim
variable {ρ:List Sl} {k:Nat} {g:Int->Int->Int} {xs:List PyData} {sl:Sl}
noncomputable def ag3 (g:Int->Int->Int) (k:Nat) (xs:List PyData) (ρ:List Sl) (ja:Nat×Int) (b:Int):Tr Ou:=.ret (.next (ρ.set k (.own (xs.set ja.1 (.int (g ja.2 b))))))
noncomputable def sF (g:Int->Int->Int) (k:Nat) (xs:List PyData) (ρ:List Sl) (ja:Nat×Int) (z:PyData):Tr Ou:=(Tr.of (Zc1 z)).bind (ag3 g k xs ρ ja)
noncomputable def sG (g:Int->Int->Int) (k:Nat) (i:List Sl->Tr PyData) (xs:List PyData) (ρ:List Sl) (ja:Nat×Int):Tr Ou:=(i ρ).bind (sF g k xs ρ ja)
noncomputable def sH (g:Int->Int->Int) (k:Nat) (i:List Sl->Tr PyData) (xs:List PyData) (ρ:List Sl) (y:PyData):Tr Ou:=(Tr.of (qv xs y)).bind (sG g k i xs ρ)
theorem Zls (h:ρ[k]?=some (.own xs)):lf g k n i ρ=(n ρ).bind (sH g k i xs ρ):=by
 unfold lf
 rw [h]
 rfl
theorem ZlG {y:Int} {a:Int} (h0:0<=y) (h:xs[y.toNat]?=some (.int a)):sH g k i xs ρ (.int y)=sG g k i xs ρ (y.toNat,a):=by
 have e:qv xs (.int y)=some (y.toNat,a):=by
  show (if 0<=y then (match xs[y.toNat]? with | some (.int a)=>some (y.toNat,a) | _=>none) else none)=_
  rw [if_pos h0,h]
 unfold sH
 rw [e]
 rfl
theorem ZlF {ja:Nat×Int}:sG g k i xs ρ ja=(i ρ).bind (sF g k xs ρ ja):=rfl
theorem ZlE {ja:Nat×Int} (b:Int):sF g k xs ρ ja (.int b)=.ret (.next (ρ.set k (.own (xs.set ja.1 (.int (g ja.2 b)))))):=rfl
end L2
set_option Elab.async false
set_option linter.all false
set_option maxRecDepth 100000
namespace PySem
open Sem (wp)
section
variable {prog:Program} {w:World} {A:Around} {E:Value->Shared->Prop} {s:Shared} {a:Addr} {o:Obj} {xs:Array Value} {k:Nat}
end
end PySem
set_option Elab.async false
set_option linter.all false
set_option maxRecDepth 100000
namespace PySem
open Sem (wp)
section
variable {prog:Program} {w:World} {A:Around} {E:Value->Shared->Prop} {s:Shared}
end
end PySem
set_option Elab.async false
set_option linter.all false
set_option maxRecDepth 100000
namespace PySem
open Sem (wp)
section
variable {prog:Program} {w:World} {A:Around} {E:Value->Shared->Prop} {s:Shared}
end
section
variable {K:Type} [DecidableEq K]
end
end PySem
namespace L2
open PySem PySem.Spec PyProof.Rows
section
variable {prog:Program} {w:World} {A:Around} {R:Result->Shared->Prop} {K:Type} [DecidableEq K] {knd:KeyKind prog w K} {kf:Nat->K}
theorem sZ {h h':Heap} {d:Addr} {kvs:List (K×Value)} (x:h.DictOf knd d kvs) (k:∀ o,h.get? d=some o->h'.get? d=some o):h'.DictOf knd d kvs :=
 let ⟨o,es,ep,ho,r⟩:=x; ⟨o,es,ep,k o ho,r⟩
end
end L2
set_option Elab.async false
set_option linter.all false
set_option maxRecDepth 100000
namespace L2
open PySem PySem.Spec PyProof.Rows
section
variable {prog:Program} {w:World} {A:Around} {E:Value->Shared->Prop} {s:Shared} {K:Type} [DecidableEq K] {knd:KeyKind prog w K} {kf:Nat->K}
end
end L2
set_option Elab.async false
set_option linter.all false
set_option maxRecDepth 100000
namespace L2
open PySem PySem.Spec PyProof.Rows
section
variable {PK:Pk} {X:Cx} {a:Expr} {p p2 pos pos2:Pos} {i:List Sl->Tr PyData}
end
end L2
set_option Elab.async false
set_option linter.all false
set_option maxRecDepth 100000
namespace L2
open PySem PySem.Spec PyProof.Rows
section
variable {X:Cx} {PK:Pk} {e:Expr} {es:List Expr} {i:List Sl->Tr PyData} {is:List Sl->Tr (List PyData)}
end
end L2
set_option Elab.async false
set_option linter.all false
set_option maxRecDepth 100000
namespace L2
open PySem PySem.Spec PyProof.Rows
section
variable {prog:Program} {w:World} {A:Around} {R:Result->Shared->Prop} {K:Type} [DecidableEq K] {knd:KeyKind prog w K} {kf:Nat->K} {lo:Int}
end
section
variable {prog:Program} {w:World} {A:Around} {E:Value->Shared->Prop} {s:Shared} {K:Type} [DecidableEq K] {knd:KeyKind prog w K} {kf:Nat->K} {lo:Int}
end
end L2
set_option Elab.async false
set_option linter.all false
set_option maxRecDepth 100000
namespace L2
open PySem PySem.Spec PyProof.Rows
theorem ZiB {ks:List (aq×V)} {vs:List (aq×Value)} (r:KV ks vs):ks.length=vs.length:=by
 induction r with
 | nil=>rfl
 | cons _ _ ih=>rw [List.length_cons,List.length_cons,ih]
end L2
set_option Elab.async false
set_option linter.all false
set_option maxRecDepth 100000
namespace L2
open PySem PySem.Spec PyProof.Rows
end L2
set_option Elab.async false
set_option linter.all false
set_option maxRecDepth 100000
namespace L2
open PySem PySem.Spec PyProof.Rows
section
variable {X:Cx} {tg:Expr}
end
variable {PK:Pk} {X:Cx} {is:List Sl->Tr (List PyData)} {ρ:List Sl}
end L2
set_option Elab.async false
set_option linter.all false
set_option maxRecDepth 100000
namespace L2
open PySem PySem.Spec PyProof.Rows
noncomputable def dD (kvs:List (Int×PyData)):PyData:=.dict (kvs.map λkv=>(.int kv.1,kv.2))
noncomputable def fM (kvs:List (Int×PyData)) (k:Int):Option PyData:=(kvs.find? λkv=>decide (kv.1=k)).map (·.2)
noncomputable def cA (kvs:List (Int×PyData)) (k:Int) (v:PyData):List (Int×PyData) :=
 if (kvs.any λkv=>decide (kv.1=k))=true then kvs.map (λkv=>if kv.1=k then (kv.1,v) else kv) else kvs++[(k,v)]
section
variable {G:Hp} {ks:List (aq×V)} {kvs:List (Int×PyData)}
theorem qX (i k:Int):decide ((Sum.inl i:aq)=Sum.inl k)=decide (i=k):=by
 by_cases h:i=k
 ·subst h; simp
 ·rw [decide_eq_false h,decide_eq_false λe=>h (Sum.inl.inj e)]
theorem KD.len (h:KD G ks kvs):ks.length=kvs.length:=by
 induction h with
 | nil=>rfl
 | cons _ _ ih=>rw [List.length_cons,List.length_cons,ih]
theorem KD.get (h:KD G ks kvs) {k:Int} {d:PyData} (e:fM kvs k=some d):∃ v,bE ks (.inl k)=some v/\Dn G v d:=by
 induction h with
 | nil=>cases e
 | @cons i v x ks kvs h1 _ ih =>
  unfold fM at e
  unfold bE
  rw [List.find?_cons] at e ⊢
  dsimp only at e ⊢
  rw [qX]
  by_cases hk:i=k
  ·rw [decide_eq_true hk] at e ⊢
   cases e
   exact ⟨v,rfl,h1⟩
  ·rw [decide_eq_false hk] at e ⊢
   exact ih e
theorem KD.any (h:KD G ks kvs) (k:Int):(ks.any λkv=>decide (kv.1=Sum.inl k))=kvs.any λkv=>decide (kv.1=k):=by
 induction h with
 | nil=>rfl
 | cons _ _ ih=>rw [List.any_cons,List.any_cons,ih]; dsimp only; rw [qX]
theorem KD.snoc (h:KD G ks kvs) {k:Int} {v:V} {d:PyData} (hd:Dn G v d):KD G (ks++[(.inl k,v)]) (kvs++[(k,d)]):=by
 induction h with
 | nil=>exact .cons hd .nil
 | cons h1 _ ih=>exact .cons h1 ih
theorem KD.map (h:KD G ks kvs) {k:Int} {v:V} {d:PyData} (hd:Dn G v d):KD G (ks.map λkv=>if kv.1=Sum.inl k then (kv.1,v) else kv) (kvs.map λkv=>if kv.1=k then (kv.1,d) else kv):=by
 induction h with
 | nil=>exact .nil
 | @cons i u x ks kvs h1 _ ih =>
  rw [List.map_cons,List.map_cons]
  by_cases hk:i=k
  ·subst hk
   rw [if_pos rfl,if_pos rfl]
   exact .cons hd ih
  ·rw [if_neg (λe=>hk (Sum.inl.inj e)),if_neg hk]
   exact .cons h1 ih
theorem KD.put (h:KD G ks kvs) (k:Int) {v:V} {d:PyData} (hd:Dn G v d):KD G (bT ks (.inl k) v) (cA kvs k d):=by
 unfold bT cA
 rw [h.any]
 split
 ·exact h.map hd
 ·exact h.snoc hd
theorem KD.vals (h:KD G ks kvs):DnAll G (ks.map (·.2)) (kvs.map (·.2)):=by
 induction h with
 | nil=>exact .nil
 | cons h1 _ ih=>exact .cons h1 ih
theorem KD.zip (h:KD G ks kvs):((ks.map λk=>match k.1 with | .inl i=>PyData.int i | .inr x=>PyData.str x).zip (kvs.map (·.2)))=kvs.map λkv=>(.int kv.1,kv.2):=by
 induction h with
 | nil=>rfl
 | cons h1 _ ih=>rw [List.map_cons,List.map_cons,List.zip_cons_cons,ih,List.map_cons]
end
section
variable {PK:Pk} {pa:Addr} {G₀ H₀ G H:Hp} {m:Nat} {σ:St} {ρ:List Sl}
theorem Rl.setD (r:Rl PK pa G₀ H₀ m σ ρ G H) {p:Addr} {ks:List (aq×V)} {kvs:List (Int×PyData)} (h1:H p=some (.dK ks)) (h2:G p=none) (h3:H₀ p=none) (h4:KD G ks kvs)
  (hd:∀ (i:Nat) (ys:List (Int×PyData)),ρ[i]?=some (.dic ys)->σ[i]?≠some (some (.ref p))) (k:Nat):Rl PK pa G₀ H₀ m (σ.set k (some (.ref p))) (ρ.set k (.dic kvs)) G H:=by
 have up:∀ {i:Nat} {s:Sl},(ρ.set k (.dic kvs))[i]?=some s->i=k->s=.dic kvs/\(σ.set k (some (V.ref p)))[i]?=some (some (.ref p)):=λ{i s} h e=>by
  subst e
  have hl:i < ρ.length:=by
   have:=(List.getElem?_eq_some_iff.mp h).1
   rwa [List.length_set] at this
  rw [List.getElem?_set_self hl] at h
  cases h
  exact ⟨rfl,List.getElem?_set_self (by rw [<- r.len]; exact hl)⟩
 refine ⟨r.wd,r.st,r.p0,λi s h=>?_,by rw [List.length_set,List.length_set]; exact r.len,rQ r.dj λa h=>(by cases h),λi j ys zs hij e1 e2=>?_⟩
 ·by_cases e:i=k
  ·obtain ⟨e1,e2⟩:=up h e
   subst e1
   exact ⟨_,e2,.dic h1 h2 h3 h4⟩
  ·rw [List.getElem?_set_ne (Ne.symm e)] at h ⊢
   exact r.sl i s h
 ·by_cases ei:i=k
  ·have q:=(up e1 ei).2
   have hj:k≠j:=λe=>hij (ei.trans e)
   rw [q]
   rw [List.getElem?_set_ne hj] at e2 ⊢
   exact λz=>hd j zs e2 z.symm
  ·rw [List.getElem?_set_ne (Ne.symm ei)] at e1 ⊢
   by_cases ej:j=k
   ·rw [(up e2 ej).2]
    exact hd i ys e1
   ·rw [List.getElem?_set_ne (Ne.symm ej)] at e2 ⊢
    exact r.dj2 i j ys zs hij e1 e2
theorem Rl.apartD (r:Rl PK pa G₀ H₀ m σ ρ G H) {p:Addr} (hp:H p=none) (i:Nat) (ys:List (Int×PyData)) (h:ρ[i]?=some (.dic ys)):σ[i]?≠some (some (.ref p)):=λe=>by
 obtain ⟨o,h1,h2⟩:=r.sl i _ h
 rw [e] at h1
 cases h1
 cases h2 with
 | dic a _ _ _=>rw [hp] at a; cases a
theorem Rl.newD (r:Rl PK pa G₀ H₀ m σ ρ G H) {p:Addr} {ks:List (aq×V)} {kvs:List (Int×PyData)} (hp:H p=none) (h4:KD G ks kvs) (k:Nat):Rl PK pa G₀ H₀ m (σ.set k (some (.ref p))) (ρ.set k (.dic kvs)) G (upd H p (.dK ks)):=by
 obtain ⟨w1,s1⟩:=r.wd.own (o:=.dK ks) hp
 exact (r.step s1 w1).setD bw (r.wd.gnone hp) (r.h0 hp) h4 (λi ys h=>r.apartD hp i ys h) k
theorem Rl.changeD (r:Rl PK pa G₀ H₀ m σ ρ G H) {k:Nat} {xs ys:List (Int×PyData)} {p:Addr} {ws:List (aq×V)} (hk:ρ[k]?=some (.dic xs)) (hσ:σ[k]?=some (some (.ref p))) (d:KD G ws ys) :
  Rl PK pa G₀ H₀ m σ (ρ.set k (.dic ys)) G (upd H p (.dK ws)):=by
 obtain ⟨o,h1,h2⟩:=r.sl k _ hk
 rw [hσ] at h1
 cases h1
 cases h2 with
 | @dic _ vs _ a1 a2 a3 a4 =>
  have hne:pa≠p:=λe=>by
   obtain ⟨u,hu⟩:=r.p0
   rw [e,a3] at hu; cases hu
  have hl:k < ρ.length:=(List.getElem?_eq_some_iff.mp hk).1
  refine ⟨⟨λb o h=>?_,r.wd.gpa,?_⟩,⟨r.st.gs,r.st.gn,λb o h hb=>?_⟩,r.p0,λi s h=>?_,by rw [List.length_set]; exact r.len,rP r.dj λa h=>(by cases h),λi j us ws hij e1 e2=>?_⟩
  ·rw [au (λe=>by subst e; rw [a2] at h; cases h)]
   exact r.wd.sub b o h
  ·obtain ⟨u,h,q⟩:=r.wd.pen
   exact ⟨u,by rw [au hne]; exact h,q⟩
  ·rw [au (λe=>by subst e; rw [a3] at h; cases h)]
   exact r.st.hk b o h hb
  ·by_cases e:k=i
   ·subst e
    rw [List.getElem?_set_self hl] at h
    cases h
    exact ⟨_,hσ,.dic bw a2 a3 d⟩
   ·rw [List.getElem?_set_ne e] at h
    obtain ⟨o,q1,q2⟩:=r.sl i s h
    refine ⟨o,q1,?_⟩
    cases q2 with
    | un=>exact .un
    | d z=>exact .d z
    | pen=>exact .pen
    | own b1 b2 b3 b4=>exact .own (by rw [au (λe2=>by subst e2; rw [a1] at b1; cases b1)]; exact b1) b2 b3 b4
    | dic b1 b2 b3 b4 =>
     refine .dic ?_ b2 b3 b4
     rw [au]
     ·exact b1
     ·intro e2
      subst e2
      exact r.dj2 k i _ _ e hk h (by rw [hσ,q1])
  ·by_cases ei:k=i
   ·subst ei
    rw [List.getElem?_set_ne hij] at e2
    exact r.dj2 k j _ _ hij hk e2
   ·rw [List.getElem?_set_ne ei] at e1
    by_cases ej:k=j
    ·subst ej
     exact r.dj2 i k _ _ hij e1 hk
    ·rw [List.getElem?_set_ne ej] at e2
     exact r.dj2 i j _ _ hij e1 e2
end
variable {PK:Pk} {X:Cx} {a b c e:Expr} {es:List Expr} {pos:Pos} {i j l:List Sl->Tr PyData} {is:List Sl->Tr (List PyData)} {st:Stmt} {s:List Sl->Tr Ou}
noncomputable def sJ (k:Nat):List Sl->Tr Ou:=λρ=>.ret (.next (ρ.set k (.dic [])))
theorem ZnV {k:Nat} (h:PS X st (dM ZaJ (eC k))):PS X st (bg PK (sJ k)):=h.imp λD σ H hz0=>by
 obtain ⟨pa,G₀,H₀,m,ρ,G,R,z⟩:=hz0
 intro p hp
 exact z _ G _ .refl (R.newD hp .nil k)
noncomputable def oA (k:Nat) (n i:List Sl->Tr PyData):List Sl->Tr Ou:=λρ=>(i ρ).bind λx=>match ρ[k]? with
 | some (.dic xs)=>(n ρ).bind λy=>match y with
  | .int y=>if small (xs.length+1)=true then .ret (.next (ρ.set k (.dic (cA xs y x)))) else .fail
  | _=>.fail
 | _=>.fail
theorem ZnX {k:Nat} {n:List Sl->Tr PyData} (h:PS X st (pK (cM k) (TAe PK n) (TAe PK i))):PS X st (bg PK (oA k n i)):=h.imp λD σ H hz0=>by
 obtain ⟨pa,G₀,H₀,m,ρ,G,R,z⟩:=hz0
 refine TAe.then R z λm1 x v G1 H1 s1 w1 R1 d1 q1=>?_
 split at q1
 ·rename_i xs hx
  obtain ⟨o,h1,h2⟩:=R1.sl k _ hx
  cases h2 with
  | @dic p ks _ a1 a2 a3 a4 =>
   refine ⟨_,h1,?_⟩
   refine TAe.then R1 q1 λm2 y u G2 H2 s2 w2 R2 d2 q2=>?_
   obtain ⟨o,h1',h2⟩:=R2.sl k _ hx
   rw [h1] at h1'
   cases h1'
   cases h2 with
   | @dic _ ks2 _ b1 b2 b3 b4 =>
    cases d2 with
    | int y =>
     obtain ⟨hs,q2⟩:=dA q2
     have hs':xs.length+1<=sizeLine:=of_decide_eq_true hs
     refine ⟨p,_,rfl,DPut.k (k:=.inl y) b1 (by rw [b4.len]; omega),?_⟩
     exact q2 σ G2 _ (s1.gs.trans s2.gs) (R2.changeD hx h1 (b4.put y (d1.mono s2.gs)))
    | _=>exact q2.elim
 ·exact q1.elim
noncomputable def lb (k:Nat) (n:List Sl->Tr PyData):List Sl->Tr PyData:=λρ=>match ρ[k]? with
 | some (.dic xs)=>(n ρ).bind λy=>match y with
  | .int y=>Tr.of (fM xs y)
  | _=>.fail
 | _=>.fail
theorem Zoc {k:Nat} {n:List Sl->Tr PyData} (h:PE X e (lH (cM k) (TAe PK n))):PE X e (TAe PK (lb k n)):=h.imp λσ H Q hz0=>by
 obtain ⟨pa,G₀,H₀,m,ρ,G,R,z⟩:=hz0
 unfold lb at z
 split at z
 ·rename_i xs hx
  obtain ⟨o,h1,h2⟩:=R.sl k _ hx
  cases h2 with
  | @dic p ks _ a1 a2 a3 a4 =>
   refine ⟨_,h1,?_⟩
   refine TAe.then R z λm2 y u G2 H2 s2 w2 R2 d2 q2=>?_
   obtain ⟨o,h1',h2⟩:=R2.sl k _ hx
   rw [h1] at h1'
   cases h1'
   cases h2 with
   | @dic _ ks2 _ b1 b2 b3 b4 =>
    cases d2 with
    | int y =>
     obtain ⟨d,hd,q⟩:=Tr.ok_of q2
     obtain ⟨v,hv,dn⟩:=b4.get hd
     exact ⟨p,v,rfl,hv ▸ DGet.k (k:=.inl y) b1,(Kn.later q s2 w2.some).here w2 dn⟩
    | _=>exact q2.elim
 ·exact z.elim
noncomputable def fm:PyData->PyData->Option PyData
 | .dict kvs,.int k=>(kvs.find? λkv=>match kv.1 with | .int i=>decide (i=k) | _=>false).map (·.2)
 | _,_=>none
theorem rT {G:Hp} {k:Int} {d:PyData}:∀ {ks:List (aq×V)} {ds:List PyData},DnAll G (ks.map (·.2)) ds->fm (.dict ((ks.map λk=>match k.1 with | .inl i=>PyData.int i | .inr x=>PyData.str x).zip ds)) (.int k)=some d->∃ v,bE ks (.inl k)=some v/\Dn G v d
 | [],_,h,e=>by cases h; cases e
 | kv::ks,_,h,e=>by
  rw [List.map_cons] at h
  cases h with
  | @cons _ _ x ds h1 h2 =>
   rw [List.map_cons,List.zip_cons_cons] at e
   obtain ⟨q,v⟩:=kv
   cases q with
   | inl i =>
    by_cases hk:i=k
    ·subst hk
     refine ⟨v,d7 rfl,?_⟩
     have e':some x=some d:=by
      rw [<- e]
      show _=Option.map _ (List.find? _ _)
      rw [List.find?_cons]
      simp
     cases e'
     exact h1
    ·have e2:fm (.dict ((ks.map λk=>match k.1 with | .inl i=>PyData.int i | .inr x=>PyData.str x).zip ds)) (.int k)=some d:=by
      rw [<- e]
      show Option.map _ (List.find? _ _)=Option.map _ (List.find? _ _)
      rw [List.find?_cons]
      simp [hk]
     obtain ⟨v',hv,dn⟩:=rT h2 e2
     refine ⟨v',?_,dn⟩
     rw [<- hv]
     unfold bE
     rw [List.find?_cons]
     dsimp only
     rw [qX,decide_eq_false hk]
   | inr y =>
    have e2:fm (.dict ((ks.map λk=>match k.1 with | .inl i=>PyData.int i | .inr x=>PyData.str x).zip ds)) (.int k)=some d:=by
     rw [<- e]
     show Option.map _ (List.find? _ _)=Option.map _ (List.find? _ _)
     rw [List.find?_cons]
    obtain ⟨v',hv,dn⟩:=rT h2 e2
    refine ⟨v',?_,dn⟩
    rw [<- hv]
    unfold bE
    rw [List.find?_cons]
    simp
theorem Rd.up {G H:Hp} (s:Sub G H) {a:Addr} {u:HO} (h:Rd G a u):Rd H a u:=h.imp (s _ _) λ⟨o,h⟩=>⟨o,s _ _ h⟩
theorem ZeS (h:PE X e (lH (TAe PK i) (TAe PK j))):PE X e (TAe PK (ad fm i j)):=h.imp λσ H Q hz0=>by
 obtain ⟨pa,G₀,H₀,m,ρ,G,R,q⟩:=hz0
 refine TAe.then R q λm1 x v G1 H1 s1 w1 R1 d1 q1=>?_
 refine TAe.then R1 q1 λm2 y u G2 H2 s2 w2 R2 d2 q2=>?_
 obtain ⟨z,hz,k⟩:=Tr.ok_of q2
 cases d1 with
 | dct r1 r2 =>
  cases d2 with
  | int n =>
   obtain ⟨v',hv,dn⟩:=rT r2 hz
   exact ⟨_,v',rfl,.inl ⟨_,.inl n,(r1.up s2.gs).up w2.sub,rfl,hv.symm⟩,(Kn.later k (s1.trans s2 w1.some) w2.some).here w2 (dn.mono s2.gs)⟩
  | _=>cases hz
 | _=>cases hz
end L2
set_option Elab.async false
set_option linter.all false
set_option maxRecDepth 100000
namespace L2
open PySem PySem.Spec PyProof.Rows
section
variable {X:Cx} {pins:List (Addr×Obj)} {σ:St} {H:Hp} {s:Shared}
theorem Inv.trackD {D:Addr} {ys:List (aq×V)} {us:List (aq×Value)} (I:Inv X pins σ H s) (hD:H D=none) (ho:s.heap.DictOf (cu X.prog X.w) D us) (r:KV ys us) (hz:ys.length<=sizeLine) (hsys:(D == sysModules)=false)
  (hL:D≠X.env.locals) (hs0:X.s₀.heap.objs.size<=D) (hc:∀ x c,X.env.cells.lookup x=some c->c≠D) (hp:∀ p∈X.pn++pins,p.1≠D):Inv X pins σ (upd H D (.dK ys)) s:=by
 have ne:∀ {b:Addr} {o:HO},H b=some o->b≠D:=λe=>de e hD
 refine I.step (g':=s.gens) (d':=s.drawn) (t':=s.toks) (h':=s.heap) (ch:=[D]) (λb hb=>?_) (λb o _ _ _ e _=>e) (λb o _ _ _ e _=>⟨o.slots,e⟩) (λb o hb e n=>?_) (λb o _ e=>⟨o,e⟩)
  (λb xs e=>by rw [au (ne e)]; exact e) (λb o u e=>by rw [au (ne e)]; exact e) (λb ps e=>⟨#[],by rw [au (ne e),e]; simp⟩) (λm hm=>hm) (λb u e=>?_) I.bare
 ·have e:b=D:=by simpa using hb
  subst e
  exact ⟨.inr hs0,hL,hc,hp⟩
 ·have hb':b≠D:=by simpa using hb
  rw [au hb']
  exact n
 ·by_cases hb:b=D
  ·subst hb
   rw [bw] at e
   cases e
   exact ⟨hz,hsys,us,r,ho⟩
  ·rw [au hb] at e
   exact (I.hok b u e).stay (λc v _ q=>q) (λc q=>by rw [au (ne q)]; exact q) λc xs q=>by rw [au (ne q)]; exact q
end
theorem Zm3 (kx vx target iter:Expr) (scope:Scope) (pos:Pos) (it:Value) (D:Addr) (env:Env) :
  compTurn (.DictComp kx vx [⟨target,iter,[],0⟩] scope pos) 0 it (.ref D) env=(standAt iter.pos >>= λ_=>pyNext it >>= λr=>match r with
   | none=>pure (.done .next)
   | some v=>letOwnedTupleGo target it v >>= λ_=>assign target env v >>= λ_ =>
    (eval kx env >>= λkv=>holding [kv] (eval vx env) >>= λvv=>standAt { kx.pos with endLine:=vx.pos.endLine,endCol:=vx.pos.endCol } >>= λ_=>holding [kv,vv] (dictSet D kv vv)) >>= λ_ =>
     again (.compLoop (.DictComp kx vx [⟨target,iter,[],0⟩] scope pos) 0 it (.ref D) env)):=by rfl
theorem Zm5 {prog:Program} {w:World} {A:Around} {R:Result->Shared->Prop} {s:Shared} {kx vx target iter:Expr} {scope:Scope} {pos:Pos} {it:Value} {D:Addr} {env:Env} (J:Nat->Shared->Prop)
  (step:∀ k s0,J k s0->wpAny (model prog w) A (pyNext it) (λgot s1=>match got with
   | none=>R (.ok .next) s1
   | some v=>wpAny (model prog w) A (letOwnedTupleGo target it v) (λ_ s2=>wpAny (model prog w) A (assign target env v) (λ_ s3=>wpAny (model prog w) A (eval kx env) (λkv s4 =>
     wpAny (model prog w) A (eval vx env) (λy s5=>wpAny (model prog w) A (dictSet D kv y) (λ_ s6=>∃ j,j < k/\J j s6) (λ_ _=>False) s5) (λ_ _=>False) s4) (λ_ _=>False) s3) (λ_ _=>False) s2) (λ_ _=>False) s1) (λ_ _=>False) s0)
  (k:Nat) (h:J k s):codeAny (model prog w) A (.compLoop (.DictComp kx vx [⟨target,iter,[],0⟩] scope pos) 0 it (.ref D) env) R s:=by
 refine codeAny_loop rfl J (λk0 s0 hJ=>?_) k h
 show wpAny _ _ ((compTurn (.DictComp kx vx [⟨target,iter,[],0⟩] scope pos) 0 it (.ref D) env).onRaise (λx=>do noteFrame x env; theTreesLotGoes x)) _ _ s0
 apply wpAny_noted
 rw [Zm3]
 refine wpAny_bind (wpAny_standAt (wpAny_bind (wpAny_mono (step k0 s0 hJ) (λgot s1 h1=>?_) λ_ _ z=>z.elim)))
 cases got with
 | none=>exact wpAny_pure h1
 | some v =>
  refine wpAny_bind (wpAny_mono h1 (λ_ s2 h2=>?_) λ_ _ z=>z.elim)
  refine wpAny_bind (wpAny_mono h2 (λ_ s3 h3=>?_) λ_ _ z=>z.elim)
  refine wpAny_bind (wpAny_bind (wpAny_mono h3 (λkv s4 h4=>?_) λ_ _ z=>z.elim))
  refine wpAny_bind (wpAny_holding (wpAny_mono h4 (λy s5 h5=>?_) λ_ _ z=>z.elim))
  refine wpAny_bind (wpAny_standAt (wpAny_holding (wpAny_mono h5 (λ_ s6 h6=>?_) λ_ _ z=>z.elim)))
  exact wpAny_pure ⟨rfl,h6⟩
noncomputable def jG (wi:TI) (n:Nat) (ix:List Nat) (g:Blk->TG) (tk te:Blk->TE):TE:=λσ H Q=>wi σ H λJ H1=>∀ b:Blk,∃ W:Nat->Nat->St->List (aq×V)->Hp->Prop,(∃ m,W 0 m (cL n ix σ) [] H1)/\∀ i m τ ys H2,W i m τ ys H2 ->
 (J.stop i H2/\∀ p v H',H2 p=none->v=V.ref p->H'=upd H2 p (.dK ys)->Q v H') \/
 (J.go i H2/\ys.length < sizeLine/\∀ x H3,J.yld i H2 x H3->g b x τ H3 λτ2 H4=>tk b τ2 H4 λkv H5=>te b τ2 H5 λy H6=>∃ (z:Int) (m':Nat),kv=.int z/\m' < m/\W (i+1) m' τ2 (bT ys (.inl z) y) H6)
section
variable {X:Cx} {pins:List (Addr×Obj)} {σ:St} {H:Hp} {s:Shared}
theorem ZdO {kx vx target iter:Expr} {scope:Scope} {pos:Pos} {Nx ts:List Str} {ix:List Nat} {g:Blk->TG} {tk te:Blk->TE} {cl:List (Str×Addr)} {s2:Shared} {itv:Value} {R:Value->Addr->Result->Shared->Prop}
  {E:Value->Shared->Prop} {Q:VK}
  (hc:X.calm=true) (hg:∀ b,PG (aY X (bN Nx ts ix) scope b) target (g b)) (hk:∀ b,PE (aY X (bN Nx ts ix) scope b) kx (tk b)) (he:∀ b,PE (aY X (bN Nx ts ix) scope b) vx (te b))
  (hNx:X.N=Nx) (ok:BlkOk Nx X.env.scope scope ix) (cl1:∀ x c,cl.lookup x=some c->X.env.cells.lookup x=some c) (cl2:∀ y∈scope.names,y.2=.free->∃ c,cl.lookup y.1=some c)
  (h2:li X pins σ target (λJ H1=>∀ b:Blk,∃ W:Nat->Nat->St->List (aq×V)->Hp->Prop,(∃ m,W 0 m (cL ts.length ix σ) [] H1)/\∀ i m τ ys H2,W i m τ ys H2 ->
   (J.stop i H2/\∀ p v H',H2 p=none->v=V.ref p->H'=upd H2 p (.dK ys)->Q v H') \/
   (J.go i H2/\ys.length < sizeLine/\∀ x H3,J.yld i H2 x H3->g b x τ H3 λτ2 H4=>tk b τ2 H4 λkv H5=>te b τ2 H5 λy H6=>∃ (z:Int) (m':Nat),kv=.int z/\m' < m/\W (i+1) m' τ2 (bT ys (.inl z) y) H6)) itv s2)
  (hR:∀ (D C:Addr) (H':Hp) (s':Shared) (v:V),Inv X pins σ H' s'->v=.ref D->Q v H'->(∃ m,s'.heap.Ns C m)->H' C=none->C≠X.env.locals->X.s₀.heap.objs.size<=C->(∀ x c,X.env.cells.lookup x=some c->c≠C)->(∀ p∈X.pn++pins,p.1≠C) ->
   R (.ref D) C (.ok .next) s') :
  wpAny (model X.prog X.w) X.A newDict (λacc s₃=>wpAny (model X.prog X.w) X.A (newFunctionEnv scope X.env.globals cl [] X.env.qual none .none (some X.env)) (λcenv s₄ =>
   codeAny (model X.prog X.w) X.A (.compStart (.DictComp kx vx [⟨target,iter,[],0⟩] scope pos) 0 itv acc { cenv with scope:=relabel scope X.env }) (R acc cenv.locals) s₄) E s₃) E s2:=by
 obtain ⟨it,fp,tn,J,H1,e,I2,T,st2,f2,q2⟩:=h2
 subst e
 refine wpAny_newObj_type (oX ?_)
 dsimp only
 generalize hG:s2.heap.push { cls:=.type "dict",dict:=none,data:=.dict #[] }=G
 have hGs:G.objs.size=s2.heap.objs.size+1:=by rw [<- hG,Heap.size_push]
 have hfs:∀ b∈fp,b < s2.heap.objs.size:=λb hb=>let ⟨o,e,_⟩:=T.obj _ _ st2 b hb; Heap.lt_size e
 have kpG:∀ b o,G.get? b=some o->(pushCells (G.push { cls:=.type "dict",data:=.dict #[] }) scope.names).get? b=some o:=λb o e=>pushCells_keeps _ _ _ _ (Heap.get?_push_of_some _ e)
 have hns3:(pushCells (G.push { cls:=.type "dict",data:=.dict #[] }) scope.names).Ns G.objs.size (λ_=>none):=(Heap.Ns.new G (.type "dict")).keeps (pushCells_keeps _ _)
 obtain ⟨sp1,sp2,sp4,sp3⟩:=rY scope.names (G.push { cls:=.type "dict",data:=.dict #[] }) cl
 rw [Heap.size_push] at sp1 sp2 sp3 sp4
 generalize hh3:pushCells (G.push { cls:=.type "dict",data:=.dict #[] }) scope.names=h3 at kpG hns3 sp1 ⊢
 have kp:∀ b o,s2.heap.get? b=some o->h3.get? b=some o:=λb o e=>kpG b o (by rw [<- hG]; exact Heap.get?_push_of_some _ e)
 have hD3:h3.get? s2.heap.objs.size=some { cls:=.type "dict",data:=.dict #[] }:=kpG _ _ (by rw [<- hG]; exact Heap.get?_push_size _ rfl)
 have hDo:h3.DictOf (cu X.prog X.w) s2.heap.objs.size []:=sZ (h:=G) (by rw [<- hG]; exact Heap.DictOf.new _) λo e=>kpG _ o e
 have clB:∀ x c,cl.lookup x=some c->c < G.objs.size+1:=λx c e=>by
  obtain ⟨v,q⟩:=I2.cell x c (cl1 x c e)
  exact Nat.lt_succ_of_lt (Nat.lt_of_lt_of_le q.lt (by rw [hGs]; exact Nat.le_succ _))
 have csI:=sp3 clB λx y c e1 e2=>I2.ok.inj x y c (cl1 x c e1) (cl1 y c e2)
 have cs1:∀ x c,(cellsFrom (G.objs.size+1) scope.names cl).lookup x=some c->X.env.cells.lookup x=some c\/(G.objs.size < c/\h3.IsCell c none/\(x,NameKind.cell)∈scope.names):=λx c e=>by
  rcases sp1 x c e with z | ⟨z1,z2,z3⟩
  ·exact .inl (cl1 x c z)
  ·exact .inr ⟨by omega,z2,z3⟩
 have cs2:∀ y∈scope.names,(y.2=.free\/y.2=.cell)->∃ c,(cellsFrom (G.objs.size+1) scope.names cl).lookup y.1=some c:=λy hy hk=>by
  refine sp2 y.1 ?_
  rcases hk with z | z
  ·exact .inr (cl2 y hy z)
  ·exact .inl (by rw [<- z]; exact hy)
 have csA:∀ x c,(x,NameKind.cell)∈scope.names->(cellsFrom (G.objs.size+1) scope.names cl).lookup x=some c->G.objs.size<=c:=λx c e1 e2=>Nat.le_of_succ_le (sp4 x c e1 e2)
 generalize hcs:cellsFrom (G.objs.size+1) scope.names cl=cs at csI cs1 cs2 csA ⊢
 generalize hCe:G.objs.size=C at hns3 cs1 csA ⊢
 have hC:s2.heap.objs.size<=C:=by omega
 have hDC:s2.heap.objs.size≠C:=by omega
 let B:Blk:=⟨cs,C,s2,H1,fp,X.pn++pins⟩
 have I3:Inv (aY X (bN Nx ts ix) scope B) [] (cL ts.length ix σ) H1 { s2 with heap:=h3 }:=qZ I2 hNx ok cs1 csI cs2 csA f2 hfs hC kp hns3
 have fC:H1 s2.heap.objs.size=none:=I2.hok.fresh (Nat.le_refl _)
 have cellIn:∀ x c,cs.lookup x=some c->c≠s2.heap.objs.size:=λx c e=>by
  rcases cs1 x c e with z | ⟨z,_,_⟩
  ·obtain ⟨v,q⟩:=I2.cell x c z
   exact Nat.ne_of_lt q.lt
  ·exact Nat.ne_of_gt (Nat.lt_of_le_of_lt hC z)
 have pinIn:∀ p∈X.pn++pins,p.1 < s2.heap.objs.size:=λp hp=>Heap.lt_size (I2.pin p hp).1
 have nofrs:s2.heap.objs.size ∉ frs X.stack:=λhb=>by
  rcases List.mem_cons.mp (I2.stkSub _ hb) with z | z
  ·exact absurd I2.lt (by rw [<- z]; exact Nat.lt_irrefl _)
  ·exact I2.nofs (Nat.le_refl _) z
 -- a state with the list at its place,pinned
 have pinD:∀ {τ:St} {H':Hp} {s':Shared} {ob:Obj},Inv (aY X (bN Nx ts ix) scope B) [] τ H' s'->s'.heap.get? s2.heap.objs.size=some ob->H' s2.heap.objs.size=none->(∀ v,ob.data≠.cell v)->Inv (aY X (bN Nx ts ix) scope B) [(s2.heap.objs.size,ob)] τ H' s' :=
  λ{τ H' s' ob} I' ho hn hd=>I'.pins_of λp hp=>by
   have e:p=(s2.heap.objs.size,ob):=by simpa using hp
   subst e
   exact ⟨ho,hn,hDC,nofrs,hd⟩
 obtain ⟨W,⟨m0,w0⟩,turn⟩:=q2 B
 have stat:∀ {H':Hp} {ob:Obj},(∀ b∈fp,H' b=none)->∀ b∈fp,fc (aY X (bN Nx ts ix) scope B) [(s2.heap.objs.size,ob)] H' b:=λ{H' ob} hn b hb=>by
  refine ⟨hn b hb,Nat.ne_of_lt (Nat.lt_of_lt_of_le (hfs b hb) hC),λz=>?_,.inl hb,λx c e=>by
   rcases cs1 x c e with z | ⟨z,_,_⟩
   ·exact (f2 b hb).2.2.2.2.1 x c z
   ·exact Nat.ne_of_gt (Nat.lt_of_lt_of_le (hfs b hb) (Nat.le_trans hC (Nat.le_of_lt z))),λp hp=>?_⟩
  ·rcases List.mem_cons.mp (I2.stkSub _ z) with q | q
   ·exact (f2 b hb).2.1 q
   ·exact (f2 b hb).2.2.1 q
  ·rcases List.mem_append.mp hp with z | z
   ·exact (f2 b hb).2.2.2.2.2 p z
   ·have e:p=(s2.heap.objs.size,ob):=by simpa using z
    subst e
    exact Nat.ne_of_gt (hfs b hb)
 have loop:∀ s4:Shared,s4={ s2 with heap:=h3 } ->
   codeAny (model X.prog X.w) X.A (.compLoop (.DictComp kx vx [⟨target,iter,[],0⟩] scope pos) 0 (.ref it) (.ref s2.heap.objs.size) (compEnvC scope cs C X.env)) (R (.ref s2.heap.objs.size) C) s4:=by
  rintro s4 rfl
  refine Zm5 (λk s'=>∃ i τ ys us ob H',Inv (aY X (bN Nx ts ix) scope B) [(s2.heap.objs.size,(ob:Obj))] τ H' s'/\tn i s'.heap/\(∀ b∈fp,H' b=none)/\KV ys us/\s'.heap.DictOf (cu X.prog X.w) s2.heap.objs.size us/\ys.length<=sizeLine/\W i k τ ys H') ?_ m0
   ⟨0,_,[],[],_,H1,pinD I3 hD3 fC (λv z=>by cases z),T.keep _ _ _ st2 λb hb o e=>kp b o e,λb hb=>(f2 b hb).1,.nil,hDo,Nat.zero_le _,w0⟩
  rintro k s5 ⟨i,τ,ys,us,ob,H5,I5,st5,fr5,rv,hDO,hz,w5⟩
  rcases turn i k τ ys H5 w5 with ⟨stop,qn⟩ | ⟨go,hlt,step⟩
  ·have p5:=I5.pin (s2.heap.objs.size,ob) (List.mem_append_right _ (by simp))
   refine thn (T.done (aY X (bN Nx ts ix) scope B) rfl rfl rfl hc i _ s5 τ H5 _ I5 (stat fr5) st5 stop) λgot s6 hz0=>?_
   obtain ⟨hr,I6⟩:=hz0
   subst hr
   obtain ⟨ho,hn,_,_,_⟩:=I6.pin (s2.heap.objs.size,ob) (List.mem_append_right _ (by simp))
   have hDO6:s6.heap.DictOf (cu X.prog X.w) s2.heap.objs.size us:=sZ hDO λo e=>by
    rw [p5.1] at e
    cases e
    exact ho
   have I7:Inv X pins σ H5 s6:=I2.call' (ch:=fp) (H':=H5) (by exact I6.os) I6.base I6.hok I6.bare λb hb=>⟨(f2 b hb).2.2.2.1,(f2 b hb).2.1,(f2 b hb).2.2.2.2.1,(f2 b hb).2.2.2.2.2⟩
   have hs0:X.s₀.heap.objs.size<=s2.heap.objs.size:=I2.sz
   have I8:=I7.trackD hn hDO6 rv hz (beq_eq_false_iff_ne.mpr (Nat.ne_of_gt I2.big)) (Nat.ne_of_gt I2.lt) hs0 (λx c e z=>by
    obtain ⟨v,q⟩:=I2.cell x c e
    exact absurd q.lt (by rw [z]; exact Nat.lt_irrefl _)) (λp hp=>Nat.ne_of_lt (pinIn p hp))
   obtain ⟨m6,hm6,_⟩:=I6.loc
   refine hR _ C _ s6 _ I8 rfl (qn _ _ _ hn rfl rfl) ⟨m6,hm6⟩ ?_ (λz=>?_) (Nat.le_trans hs0 hC) (λx c e z=>?_) λp hp=>Nat.ne_of_lt (Nat.lt_of_lt_of_le (pinIn p hp) hC)
   ·rw [au (Ne.symm hDC)]
    exact I6.free
   ·exact absurd (Nat.lt_of_lt_of_le I2.lt hC) (by rw [z]; exact Nat.lt_irrefl _)
   ·obtain ⟨v,q⟩:=I2.cell x c e
    exact absurd (Nat.lt_of_lt_of_le q.lt hC) (by rw [z]; exact Nat.lt_irrefl _)
  ·have p5:=I5.pin (s2.heap.objs.size,ob) (List.mem_append_right _ (by simp))
   refine thn (T.item (aY X (bN Nx ts ix) scope B) rfl rfl rfl hc i _ s5 τ H5 _ I5 (stat fr5) st5 go) λgot s6 hz0=>?_
   obtain ⟨u,hr,h6⟩:=hz0
   subst hr
   refine thn h6 λ_ s7 hz0=>?_
   obtain ⟨x,H7,I7,r7,y7,st7,fr7⟩:=hz0
   have I7':=I7.pinned (stat fr7) (T.obj _ _ st7)
   refine thn (hg B _ s7 τ H7 x u _ I7' r7 (step x H7 y7)) λ_ s8 hz0=>?_
   obtain ⟨τ8,H8,I8,q8⟩:=hz0
   refine thn (hk B _ s8 τ8 H8 _ I8 q8) λkv sk hz0=>?_
   obtain ⟨vk,Hk,Ik,rk,qk⟩:=hz0
   refine thn (he B _ sk τ8 Hk _ Ik qk) λy s9 hz0=>?_
   obtain ⟨vy,H9,I9,r9,zk,m',ek,hm',w9⟩:=hz0
   subst ek
   obtain ⟨tk9,rfl⟩:=rk
   obtain ⟨ho,hn,_,_,_⟩:=I9.pin (s2.heap.objs.size,ob) (List.mem_append_right _ (List.mem_append_left _ (by simp)))
   have hDO9:s9.heap.DictOf (cu X.prog X.w) s2.heap.objs.size us:=sZ hDO λo e=>by
    rw [p5.1] at e
    cases e
    exact ho
   have lenv:ys.length=us.length:=ZiB rv
   refine wpAny_dictSet_pairs (knd:=cu X.prog X.w) (k:=(Sum.inl zk:aq)) (Zcv _ _ _ _) hDO9 (λh' hpl hsb=>?_) (by omega)
   obtain ⟨ob',es',ep',ho',hc',hd',_⟩:=hpl
   have hpl:h'.DictOf (cu X.prog X.w) s2.heap.objs.size (stored us (Sum.inl zk) y):=⟨ob',es',ep',ho',hc',hd',by assumption⟩
   have I9':Inv (aY X (bN Nx ts ix) scope B) [] τ8 H9 s9:=I9.pins_of λp hp=>absurd hp (by simp)
   have I10:Inv (aY X (bN Nx ts ix) scope B) [] τ8 H9 { s9 with heap:=h',toks:=s9.toks+1 }:=I9'.turned (it:=s2.heap.objs.size) (t':=s9.toks+1) (λb o hb e=>(hsb.2 b hb).trans e) hn hDC (.inr (Nat.le_refl _)) cellIn (λp hp=>by
    have hp':p∈(X.pn++pins)++[]:=hp
    rw [List.append_nil] at hp'
    exact Nat.ne_of_lt (pinIn p hp'))
   refine ⟨m',hm',i+1,τ8,bT ys (.inl zk) vy,stored us (Sum.inl zk) y,ob',H9,pinD I10 ho' hn (λv z=>by rw [hd'] at z; cases z),?_,λb hb=>?_,rv.put _ r9,hpl,by have:=nE ys (Sum.inl zk:aq) vy; omega,w9⟩
   ·refine T.keep _ _ _ st7 λb hb o e=>?_
    have q:=(I9.pin (b,o) (List.mem_append_right _ (List.mem_append_right _ (fG hb e)))).1
    exact (hsb.2 b (Nat.ne_of_lt (hfs b hb))).trans q
   ·obtain ⟨o,e,d⟩:=T.obj _ _ st7 b hb
    exact (I9.pin (b,o) (List.mem_append_right _ (List.mem_append_right _ (fG hb e)))).2.1
 exact codeAny_compStart_dict (loop _ rfl) (T.self X.A 0 _ _ _ (T.keep _ _ _ st2 λb hb o e=>kp b o e) (loop _ rfl))
theorem Zjv (kx vx gens scope pos) (env:Env):eval (.DictComp kx vx gens scope pos) env=comprehension (.DictComp kx vx gens scope pos) scope env (firstIterPos gens pos) newDict (firstAsync gens) (firstIter gens env):=by rw [eval]
theorem Zhp {kx vx target iter:Expr} {scope:Scope} {pos:Pos} {wi:TI} {g:Blk->TG} {tk te:Blk->TE} (Nx:List Str) (ts:List Str) (ix:List Nat)
  (hc:X.calm=true) (hi:PI X target iter wi) (hg:∀ b,PG (aY X (bN Nx ts ix) scope b) target (g b)) (hk:∀ b,PE (aY X (bN Nx ts ix) scope b) kx (tk b)) (he:∀ b,PE (aY X (bN Nx ts ix) scope b) vx (te b))
  (hNx:X.N=Nx) (ok:BlkOk Nx X.env.scope scope ix) (hs:∀ x,foldedSetIterable iter X.env x=pure x:=by intro _; rfl) :
  PE X (.DictComp kx vx [⟨target,iter,[],0⟩] scope pos) (jG wi ts.length ix g tk te):=by
 intro pins s σ H Q I h
 obtain ⟨cl,hcl,cl1,cl2⟩:=kL (scope:=scope) (env:=X.env) λy hy hf=>I.ok.has y.1 (ok.frees y hy hf)
 rw [Zjv]
 refine wpAny_comprehension_free (use:=none) rfl hs hcl ok.kind ok.locs (thn (hi pins s σ H _ I h) λv s1 h1=>thn h1 λitv s2 h2=>?_)
 refine ZdO (R:=λacc C=>compPost (model X.prog X.w) X.A X.xe none (EP X pins σ Q) acc C) hc hg hk he hNx ok cl1 cl2 h2 ?_
 rintro D C H' s' v I' rfl q ⟨m,hm⟩ hn hL h0 hcl' hp
 exact ⟨m,hm,λh' hsb=>⟨.ref D,H',I'.turned (it:=C) (t':=s'.toks) (λb o hb e=>(hsb.2 b hb).trans e) hn hL (.inr h0) hcl' hp,rfl,q⟩⟩
theorem Zg6 {kx vx target iter:Expr} {scope:Scope} {pos pos' spos:Pos} {wi:TI} {g:Blk->TG} {tk te:Blk->TE} {i:Nat} {x:Str} (Nx:List Str) (ts:List Str) (ix:List Nat)
  (hc:X.calm=true) (hN:X.N.Nodup) (hix:X.N[i]?=some x) (hx:X.env.scope.names.lookup x=some .local) (hi:PI X target iter wi) (hg:∀ b,PG (aY X (bN Nx ts ix) scope b) target (g b)) (hk:∀ b,PE (aY X (bN Nx ts ix) scope b) kx (tk b)) (he:∀ b,PE (aY X (bN Nx ts ix) scope b) vx (te b))
  (hNx:X.N=Nx) (ok:BlkOk Nx X.env.scope scope ix) (hsw:swapsWith (.DictComp kx vx [⟨target,iter,[],0⟩] scope pos) (some (.Name x pos')) spos.line X.env=pure true) (hs:∀ x,foldedSetIterable iter X.env x=pure x:=by intro _; rfl) :
  PS X (.Assign [.Name x pos'] (.DictComp kx vx [⟨target,iter,[],0⟩] scope pos) spos) (dM (jG wi ts.length ix g tk te) (eC i)):=by
 intro pins s σ H D0 I h
 obtain ⟨cl,hcl,cl1,cl2⟩:=kL (scope:=scope) (env:=X.env) λy hy hf=>I.ok.has y.1 (ok.frees y hy hf)
 rw [exec_Assign_Name_used _ _ _ _ hsw]
 refine wpAny_bind (wpAny_standAt (wpAny_bind ?_))
 show wpAny _ X.A (do let _ <- comprehension (.DictComp kx vx [⟨target,iter,[],0⟩] scope pos) scope X.env _ newDict false (eval iter X.env) (some (assign (.Name x pos') X.env))) _ _ s
 refine wpAny_bind (thn (wpAny_comprehension_free (use:=some (assign (.Name x pos') X.env)) (Q:=λ_ s'=>SP X pins D0 .next s') rfl hs hcl ok.kind ok.locs (thn (hi pins s σ H _ I h) λv s1 h1=>thn h1 λitv s2 h2=>?_)) λ_ s' hq=>wpAny_pure (wpAny_pure hq))
 refine ZdO (R:=λacc C=>compPost (model X.prog X.w) X.A X.xe (some (assign (.Name x pos') X.env)) (λ_ s'=>SP X pins D0 .next s') acc C) (Q:=λx H1=>eC i x σ H1 D0.nx) hc hg hk he hNx ok cl1 cl2 h2 ?_
 rintro D C H' s' v I' rfl q ⟨m,hm⟩ hn hL h0 hcl' hp
 show wpAny _ X.A (assign (.Name x pos') X.env (.ref D)) _ _ _
 refine wpAny_assign_Name (pq I' hN hix (.inl hx) (show RelV (.ref D) (.ref D) from rfl) (λs'' I'' hch=>?_) (.inr hx))
 obtain ⟨a,hsb,ha⟩:=hch
 have haC:C≠a:=by
  rcases ha with z | z
  ·rw [z]; exact hL
  ·exact λe=>hcl' _ _ z e.symm
 exact ⟨m,hm.sameBut hsb haC,λh'' hs''=>⟨_,H',I''.turned (it:=C) (t':=s''.toks) (λb o hb e=>(hs''.2 b hb).trans e) hn hL (.inr h0) hcl' hp,q⟩⟩
end
end L2
set_option Elab.async false
set_option linter.all false
set_option maxRecDepth 100000
namespace L2
open PySem PySem.Spec PyProof.Rows
section
variable {PK:Pk} {X:Cx} {e:Expr} {is:List Sl->Tr (List PyData)} {kx i:List Sl->Tr PyData}
noncomputable def fO:List (Int×PyData)->List PyData->Option PyData
 | kvs,[]=>some (dD kvs)
 | kvs,.tuple [.int k,v]::ps=>fO (cA kvs k v) ps
 | _,_=>none
noncomputable def ZdQ (i:List Sl->Tr PyData) (τ:List Sl):PyData->Tr PyData
 | .int z=>(i τ).bind λv=>.ret (.tuple [.int z,v])
 | _=>.fail
noncomputable def gL (kx i:List Sl->Tr PyData) (τ:List Sl):Tr PyData:=(kx τ).bind (ZdQ i τ)
noncomputable def gi (is:List Sl->Tr (List PyData)) (n:Nat) (ix:List Nat) (g:PyData->List Sl->Option (List Sl)) (kx i:List Sl->Tr PyData):List Sl->Tr PyData:=λρ =>
 (is ρ).bind λxs=>if small xs.length=true then (bL (λx=>(Tr.of (g x (blk n ix ρ))).bind (gL kx i)) xs).bind λps=>Tr.of (fO [] ps) else .fail
theorem ZdN {n:Nat} {ix:List Nat} {g:PyData->List Sl->Option (List Sl)} (hn:fb n g):∀ σ H Q,TAe PK (gi is n ix g kx i) σ H Q->jG (dm PK is) n ix (λ_=>dY PK g) (λ_=>TAe PK kx) (λ_=>TAe PK i) σ H Q:=by
 rintro σ H Q ⟨pa,G₀,H₀,m,ρ,G,R,z⟩
 refine ⟨pa,G₀,H₀,m,ρ,G,R,Tr.ok_mono (Tr.ok_bind.mp z) λm1 xs k J G1 H1 s1 w1 jo=>λB=>?_⟩
 obtain ⟨hs,k⟩:=dA k
 have hs:xs.length<=sizeLine:=of_decide_eq_true hs
 let el:PyData->Tr PyData:=λx=>(Tr.of (g x (blk n ix ρ))).bind (gL kx i)
 let W:Nat->Nat->St->List (aq×V)->Hp->Prop:=λk mm τ ks H2=>mm=xs.length - k/\k<=xs.length/\ks.length<=k/\∃ m G2 kvs,Sub G1 G2/\Stp pa G H G2 H2/\Rl PK pa G₀ H₀ m τ (blk n ix ρ) G2 H2 /\
  KD G2 ks kvs/\((bL el (xs.drop k)).bind λzs=>Tr.of (fO kvs zs)).ok m λm' d=>Kn PK pa m' G H d Q
 refine ⟨W,⟨xs.length,rfl,Nat.zero_le _,Nat.le_refl _,m1,G1,[],.refl,s1,(R.step s1 w1).blk n ix,.nil,k⟩,?_⟩
 rintro k mm τ ks H2 ⟨rfl,hk,hy,m2,G2,kvs,sb,st2,R2,dn,k2⟩
 obtain ⟨j1,j2⟩:=jo m2 G2 H2 sb R2.wd
 by_cases hlt:k < xs.length
 ·have hx:xs[k]?=some xs[k]:=by simp [hlt]
  obtain ⟨jg,jy⟩:=j1 k _ hx
  refine .inr ⟨jg,by omega,λx H3 y=>?_⟩
  obtain ⟨G3,s3,w3,d3⟩:=jy x H3 y
  rw [List.drop_eq_getElem_cons hlt] at k2
  unfold bL at k2
  rw [Tr.ok_bind,Tr.ok_bind,Tr.ok_bind] at k2
  obtain ⟨ρ3,hg3,k3⟩:=Tr.ok_of k2
  refine ⟨pa,G₀,H₀,m2,_,G3,_,ρ3,R2.step s3 w3,d3,hg3,λτ4 R4=>?_⟩
  unfold gL at k3
  refine ⟨pa,G₀,H₀,m2,ρ3,G3,R4,Tr.ok_mono (Tr.ok_bind.mp k3) λm5 kd k5=>?_⟩
  intro v G5 H5 s5 w5 d5
  have s35:=s3.trans s5 w3.some
  obtain ⟨pl,pk⟩:=hn _ _ _ hg3
  obtain ⟨z,rfl,k5⟩:∃ z:Int,kd=.int z/\((i ρ3).bind λv=>Tr.ret (PyData.tuple [.int z,v])).ok m5 λm' y=>((bL el (xs.drop (k+1))).bind λzs=>Tr.ret (y::zs)).ok m' λm' zs=>(Tr.of (fO kvs zs)).ok m' λm'' d=>Kn PK pa m'' G H d Q:=by
   cases kd with
   | int z=>exact ⟨z,rfl,k5⟩
   | _=>exact k5.elim
  have ev:v=.int z:=by cases d5; rfl
  refine ⟨pa,G₀,H₀,m5,ρ3,G5,R4.step s5 w5,Tr.ok_mono (Tr.ok_bind.mp k5) λm6 yd k6=>?_⟩
  intro u G6 H6 s6 w6 d6
  have s56:=s35.trans s6 w5.some
  have k8:((bL el (xs.drop (k+1))).bind λzs=>Tr.of (fO (cA kvs z yd) zs)).ok m6 λm' d=>Kn PK pa m' G H d Q:=by
   have k6':((bL el (xs.drop (k+1))).bind λzs=>Tr.ret (PyData.tuple [.int z,yd]::zs)).ok m6 λm' zs=>(Tr.of (fO kvs zs)).ok m' λm'' d=>Kn PK pa m'' G H d Q:=k6
   rw [Tr.ok_bind] at k6' ⊢
   exact Tr.ok_mono k6' λm' zs q=>q
  refine ⟨z,xs.length - (k+1),ev,by omega,rfl,hlt,by have:=nE ks (Sum.inl z:aq) u; omega,m6,G6,cA kvs z yd,sb.trans s56.gs,st2.trans s56 R2.wd.some,?_,(KD.mono s56.gs dn).put z d6,k8⟩
  refine ((R4.step s5 w5).step s6 w6).weak pl λq sl hq=>?_
  by_cases hqn:q < n
  ·left
   unfold blk at hq
   rw [List.getElem?_append_left (by simpa using hqn),List.getElem?_replicate,if_pos hqn] at hq
   cases hq
   rfl
  ·right
   rw [pk q (Nat.le_of_not_lt hqn)]
   exact hq
 ·have e:k=xs.length:=by omega
  subst e
  refine .inl ⟨j2,λp v H' hp ev eH=>?_⟩
  subst ev eH
  rw [List.drop_length] at k2
  have k2':Kn PK pa m2 G H (dD kvs) Q:=k2
  have k3:=Kn.later k2' st2 R2.wd.some
  refine Kn.dct (ks:=ks) (ds:=kvs.map (·.2)) ?_ R2.wd dn.vals hp
  exact Eq.mpr (congrArg (λz=>Kn PK pa m2 G2 H2 (PyData.dict z) Q) dn.zip) k3
theorem Zod {n:Nat} {ix:List Nat} {g:PyData->List Sl->Option (List Sl)} (h:PE X e (jG (dm PK is) n ix (λ_=>dY PK g) (λ_=>TAe PK kx) (λ_=>TAe PK i))) (hn:fb n g):PE X e (TAe PK (gi is n ix g kx i)):=h.imp (ZdN hn)
theorem ZnU {st:Stmt} {n k:Nat} {ix:List Nat} {g:PyData->List Sl->Option (List Sl)} (h:PS X st (dM (jG (dm PK is) n ix (λ_=>dY PK g) (λ_=>TAe PK kx) (λ_=>TAe PK i)) (eC k))) (hn:fb n g):PS X st (bg PK (aS k (gi is n ix g kx i))) :=
 aZ (h.imp (pf (ZdN hn)))
end
end L2
set_option Elab.async false
set_option linter.all false
set_option maxRecDepth 100000
namespace L2
open PySem PySem.Spec PyProof.Rows
theorem Zhx {P:Program} {w:World} {K:PySem.W.Frag} {mg:Str->Option Value} {base:Heap} {N:List Str} {qual:Str} {scope:Scope} {f:Addr} {cd:Value} {A:Around} {outer:List Env} {s₀:Shared} {H₀:Hp} {E E1:XK}
  {pins:List (Addr×Obj)} {σ:St} {H:Hp} {s s':Shared} {e:Value}
  (I:Inv (cD (cz P w) P w K mg base N qual scope f cd A outer s₀ H₀ E) pins σ H s) (hq:cz P w (envOfC qual scope s₀.heap.objs.size f cd::outer) H s E1 e s') (hE:∀ cls H',E1 cls none H'->E cls none H') :
  (cD (cz P w) P w K mg base N qual scope f cd A outer s₀ H₀ E).xe e s':=by
 have hst:s.heap.FunFrames base (envOfC qual scope s₀.heap.objs.size f cd::outer):=I.stack
 have hbase:Un (frs outer) [] H₀ H s₀.heap s.heap:=I.base
 obtain ⟨_,⟨L,oL,hL,_,hoL,_⟩,_⟩:=id hst
 have hLe:L=s₀.heap.objs.size:=(Option.some.inj hL).symm
 have hfs:∀ b,b∈frs (envOfC qual scope s₀.heap.objs.size f cd::outer) ↔ b=L\/b∈frs outer:=λb=>by
  unfold frs
  rw [List.filterMap_cons,hL]
  exact List.mem_cons
 have old:∀ b o,s₀.heap.get? b=some o->b≠L:=λb o hb z=>by
  have:=Heap.lt_size hb
  rw [z,hLe] at this
  exact absurd this (Nat.lt_irrefl _)
 show wpAny (model P w) (A.deeper (envOfC qual scope s₀.heap.objs.size f cd)) (leaving (envOfC qual scope s₀.heap.objs.size f cd) e) (λ_ s''=>cz P w outer H₀ s₀ E e s'') (λe' s''=>cz P w outer H₀ s₀ E e' s'') s'
 unfold leaving
 refine wpAny_bind (Zd7 (X:=cD (cz P w) P w K mg base N qual scope f cd A outer s₀ H₀ E) (outer:=outer) (L:=L) I rfl hL hq λea cls H' h' eq I5 hea hcl fly un hE1=>?_)
 obtain ⟨b'',t,fl,hf,hbt⟩:=fly
 obtain ⟨f1,f2,⟨_,_,f3⟩,f4⟩:=fl
 refine ⟨ea,t,cls,b'',H',eq,I5.os,I5.bare,I5.base,I5.hok,⟨f1,f2,f3,f4⟩,λb o hb hn=>?_,hbt,hE cls H' hE1⟩
 cases e1:b''.get? b with
 | some o'=>exact ⟨o',rfl⟩
 | none =>
  obtain ⟨o',e2⟩:=hbase.there b o hb (by simp)
  have:=hf b e1 λz=>((hfs b).mp z).elim (old b o hb) hn
  rw [e2] at this
  cases this
noncomputable def ZaF (t:TA) (sp:Sp) (E:XK):TS:=λ_ σ H=>t σ H λvs H1=>sp vs H1 (λ_ _=>False) λcls _ H'=>E cls none H'
theorem Zg5 {P:Program} {w:World} {K:PySem.W.Frag} {mg:Str->Option Value} {base:Heap} {N:List Str} {qual:Str} {scope:Scope} {f:Addr} {cd:Value} {A:Around} {outer:List Env} {s₀:Shared} {H₀:Hp} {E:XK}
  {k:Nat} {g:Addr} {fd:FuncData} {ps:List Str} {sp:Sp} {x:Str} {e:Expr} {es:List Expr} {t:TA} {p cpos epos:Pos}
  (F:FnOk P w K mg base (cz P w) k g fd ps sp) (hr:Room k (A.deeper (envOfC qual scope s₀.heap.objs.size f cd))) (hg:Gl (cD (cz P w) P w K mg base N qual scope f cd A outer s₀ H₀ E) x) (hm:mg x=some (.ref g)) (hk:PySem.W.keepIn K (.ref g)=true) (hb:Binds K fd ps []) (ha:PA (cD (cz P w) P w K mg base N qual scope f cd A outer s₀ H₀ E).nox (e::es) t)
  (hdb:(x == ("__debug__":Str))=false:=by decide)
  (he:starEach (e::es) (envOfC qual scope s₀.heap.objs.size f cd)=(false,eval e (envOfC qual scope s₀.heap.objs.size f cd))::starEach es (envOfC qual scope s₀.heap.objs.size f cd):=by rfl) (hpl:(backTo cpos (starEach es (envOfC qual scope s₀.heap.objs.size f cd))).any (·.1)=false:=by rfl) (hs:swapsWith (.Call (.Name x p) (e::es) [] cpos) none epos.line (envOfC qual scope s₀.heap.objs.size f cd)=pure false:=by rfl) :
  PS (cD (cz P w) P w K mg base N qual scope f cd A outer s₀ H₀ E) (.Expr (.Call (.Name x p) (e::es) [] cpos) epos) (ZaF t sp E):=by
 intro pins s σ H D I h
 refine wpAny_Expr_any ?_ I.quiet hs
 refine wpAny_Call_Name_kw (qJ I hg hm ?_ hdb)
 refine PySem.W.callWith_K (h₀:=base) I.ok.mod.kin hk (wpAny_mono (ha cpos pins s σ H _ (I.wish _) h) (λus s1 ⟨vs,H1,I1',r,q⟩=>⟨I1'.unwish.kIn,?_⟩) λ_ _ z=>z.elim) he hpl
 have I1:=I1'.unwish
 have hl:us.length=ps.length:=by rw [<- r.length]; exact F.len _ _ _ _ q
 have hbb:=hb s1 us I1.kIn (by rw [List.append_nil]; exact hl)
 rw [List.append_nil] at hbb
 refine wpAny_call (codeAny_mono (F.run _ (envOfC qual scope s₀.heap.objs.size f cd::outer) s1 H1 ⟨us,[]⟩ us vs _ _ hr I1.env0 hbb r q) λrr s' hq=>?_)
 cases rr with
 | ok fl =>
  cases fl with
  | ret u =>
   obtain ⟨_,_,_,_,_,_,_,z⟩:=hq
   exact z.elim
  | next=>exact False.elim hq
  | brk=>exact False.elim hq
  | cont=>exact False.elim hq
 | error ex=>exact Zhx I1 hq λcls H' z=>z
noncomputable def jI (PK:Pk) (n:Nat) (q:List Sl->Tr Bool) (C:Addr):Sp:=λvs H _ E=>vs.length=n/\∃ pa m G as,Wd PK pa m G H/\ArsOk pa G vs as/\(q as).ok m λm' b=>b=true/\∀ G' H',Stp pa G H G' H'->Wd PK pa m' G' H'->E (.ref C) none H'
noncomputable def eO (n k:Nat) (q:List Sl->Tr Bool):List Sl->Tr Bool:=λas=>if decide (as.length=n)=true then q (as++List.replicate k .un) else .fail
theorem rj {n k:Nat} {q:List Sl->Tr Bool} (as:List Sl) (m:Nat) (Z:Nat->Bool->Prop) (h:(eO n k q as).ok m Z):as.length=n:=by
 unfold eO at h
 exact of_decide_eq_true (dA h).1
theorem Zfa {PK:Pk} {n k:Nat} {q:List Sl->Tr Bool} {C:Addr} {E:XK} {Q:VK} {D:Ends} {N:List Str} {vs:List V} {H:Hp} {u:TS} (hk:N.length - n=k) (h:jI PK n (eO n k q) C vs H Q E):pb (TAt PK q) (λ_ _ H'=>E (.ref C) none H') u D (L2.start N vs) H:=by
 obtain ⟨hv,pa,m,G,as,wd,ar,z⟩:=h
 unfold eO at z
 obtain ⟨_,z⟩:=dA z
 refine ⟨pa,G,H,m,_,G,Rl.start wd ar (by rw [hv]; exact hk),Tr.ok_mono z λm1 b hb G' H' s1 w1=>?_⟩
 obtain ⟨rfl,k1⟩:=hb
 exact k1 G' H' s1 w1
theorem Ze9 {PK:Pk} {n k n':Nat} {i:List Sl->Tr (List Sl)} {q:List Sl->Tr Bool} {C:Addr} {E:XK} {Q:VK} {D:Ends} {N:List Str} {vs:List V} {H:Hp} (hk:N.length - n=k) (hq:∀ as m Z,(q as).ok m Z->as.length=n') (h:jI PK n (eO n k λρ=>(i ρ).bind q) C vs H Q E):ZaF (TAa PK i) (jI PK n' q C) E D (L2.start N vs) H:=by
 obtain ⟨hv,pa,m,G,as,wd,ar,z⟩:=h
 unfold eO at z
 obtain ⟨_,z⟩:=dA z
 refine ⟨pa,G,H,m,_,G,Rl.start wd ar (by rw [hv]; exact hk),Tr.ok_mono (Tr.ok_bind.mp z) λm1 as1 z1 vs1 G1 H1 s1 w1 a1=>?_⟩
 exact ⟨by rw [a1.length]; exact hq _ _ _ z1,pa,m1,G1,as1,w1,a1,Tr.ok_mono z1 λm2 b hb=>⟨hb.1,λG' H' s2 w2=>hb.2 G' H' (s1.trans s2 w1.some) w2⟩⟩
end L2
set_option Elab.async false
set_option linter.all false
set_option maxRecDepth 100000
namespace L2
open PySem PySem.Spec PyProof.Rows
noncomputable def kI (k:List Int):List aq:=k.map Sum.inl
theorem ZcQ:∀ {a b:List Int},kI a=kI b->a=b
 | [],[],_=>rfl
 | [],_::_,h=>by cases h
 | _::_,[],h=>by cases h
 | x::a,y::b,h=>by
  have h1:(Sum.inl x:aq)::kI a=Sum.inl y::kI b:=h
  injection h1 with h2 h3
  injection h2 with h4
  rw [h4,ZcQ h3]
structure Nts (F:List Int->Option Int) (KS:List (List Int)) (kvs:List (List aq×V)):Prop where
 nd:(kvs.map (·.1)).Nodup
 ks:∀ k∈kvs.map (·.1),∃ ns∈KS,k=kI ns
 vl:∀ ns v,bE kvs (kI ns)=some v->∃ n,F ns=some n/\v=.int n
noncomputable def dZ (F:List Int->Option Int) (KS:List (List Int)):Pk where
 is o _ _:=∃ kvs:List (List aq×V),o=.dT kvs/\Nts F KS kvs
 mono:=λ_ h=>h
variable {F:List Int->Option Int} {KS:List (List Int)}
theorem Zcr {α:Type} [DecidableEq α]:∀ {l m:List α},l.Nodup->(∀ x∈l,x∈m)->l.length<=m.length
 | [],m,_,_=>Nat.zero_le _
 | x::l,m,h,hs=>by
  rw [List.nodup_cons] at h
  have hx:=hs x (by simp)
  have ih:=Zcr (l:=l) (m:=m.erase x) h.2 λy hy=>by
   have hne:y≠x:=λe=>h.1 (e ▸ hy)
   exact (List.mem_erase_of_ne hne).mpr (hs y (List.mem_cons_of_mem _ hy))
  rw [List.length_erase_of_mem hx] at ih
  have:=List.length_pos_of_mem hx
  rw [List.length_cons]
  omega
theorem Nts.len {kvs:List (List aq×V)} (h:Nts F KS kvs):kvs.length<=KS.length:=by
 have:=Zcr (l:=kvs.map (·.1)) (m:=KS.map kI) h.nd λk hk=>by
  obtain ⟨ns,h1,rfl⟩:=h.ks k hk
  exact List.mem_map.mpr ⟨ns,h1,rfl⟩
 rw [List.length_map,List.length_map] at this
 exact this
theorem Nts.nil:Nts F KS []:=⟨List.nodup_nil,λk hk=>by simp at hk,λns v h=>by cases h⟩
theorem Zat {κ:Type} [DecidableEq κ] {k:κ}:∀ {kvs:List (κ×V)},bE kvs k=none->k ∉ kvs.map (·.1)
 | [],_=>by simp
 | p::r,h=>by
  by_cases e:p.1=k
  ·rw [d7 e] at h; cases h
  ·rw [eI e] at h
   rw [List.map_cons,List.mem_cons]
   rintro (q | q)
   ·exact e q.symm
   ·exact Zat h q
theorem Nts.put {kvs:List (List aq×V)} (h:Nts F KS kvs) {ns:List Int} {n:Int} (hF:F ns=some n) (hk:ns∈KS):Nts F KS (bT kvs (kI ns) (.int n)):=by
 have hv:∀ ms v,bE (bT kvs (kI ns) (.int n)) (kI ms)=some v->∃ n,F ms=some n/\v=.int n:=λms v e=>by
  rw [Zav] at e
  split at e
  ·rename_i q
   cases e
   exact ⟨n,by rw [ZcQ q]; exact hF,rfl⟩
  ·exact h.vl ms v e
 cases e:bE kvs (kI ns) with
 | none =>
  rw [ZgW _ e] at hv ⊢
  refine ⟨?_,λk hk'=>?_,hv⟩
  ·rw [List.map_append,List.nodup_append]
   refine ⟨h.nd,by simp,λa ha b hb q=>?_⟩
   have:b=kI ns:=by simpa using hb
   rw [q,this] at ha
   exact Zat e ha
  ·rw [List.map_append,List.mem_append] at hk'
   rcases hk' with q | q
   ·exact h.ks k q
   ·have:k=kI ns:=by simpa using q
    exact ⟨ns,hk,this⟩
 | some w =>
  have em:(bT kvs (kI ns) (.int n)).map (·.1)=kvs.map (·.1):=by
   unfold bT
   rw [iB,e]
   rw [if_pos (show (some w).isSome=true from rfl),List.map_map]
   refine List.map_congr_left λp _=>?_
   show (if p.1=kI ns then (p.1,V.int n) else p).1=p.1
   split <;> rfl
  exact ⟨by rw [em]; exact h.nd,λk hk'=>h.ks k (by rw [em] at hk'; exact hk'),hv⟩
noncomputable def fk:List PyData->Option (List Int)
 | []=>some []
 | .int n::r=>(fk r).map (n::·)
 | _=>none
theorem ZcZ {G:Hp}:∀ {vs:List V} {xs:List PyData} {ns:List Int},DnAll G vs xs->fk xs=some ns->vs=(kI ns).map kV
 | _,_,ns,.nil,h=>by cases h; rfl
 | _,_,ns,.cons (d:=x) d t,h=>by
  cases x with
  | int n =>
   rw [fk] at h
   cases e:fk _ with
   | none=>rw [e] at h; cases h
   | some ms =>
    rw [e] at h
    cases h
    have:=ZcZ t e
    cases d
    rw [this]
    rfl
  | _=>cases h
theorem ra (ns:List Int):fk (ns.map PyData.int)=some ns:=by
 induction ns with
 | nil=>rfl
 | cons n ns ih=>rw [List.map_cons,fk,ih]; rfl
theorem Zcn {α:Type} {c:Prop} [Decidable c] {t:Tr α} {m:Nat} {Z:Nat->α->Prop} (h:(if c then t else Tr.fail).ok m Z):c/\t.ok m Z:=by
 by_cases q:c
 ·rw [if_pos q] at h; exact ⟨q,h⟩
 ·rw [if_neg q] at h; exact h.elim
noncomputable def k7 (F:List Int->Option Int) (KS:List (List Int)) (jk ik:Nat) (body:List Sl->Tr Ou) (iv:List Sl->Tr PyData):List Sl->Tr Ou:=λρ =>
 match ρ[jk]?,ρ[ik]? with
 | some .pen,some (.d (.tuple xs)) =>
  match fk xs,body ρ with
  | some ns,.ret (.next ρ') =>
   match ρ'[jk]?,ρ'[ik]?,iv ρ' with
   | some .pen,some (.d (.tuple ys)),.ret (.int n)=>if fk ys=some ns/\F ns=some n/\ns∈KS then .ret (.ret (.d (.int n))) else .fail
   | _,_,_=>.fail
  | _,_=>.fail
 | _,_=>.fail
variable {X:Cx}
theorem Zid (hL:KS.length < sizeLine) {jk ik:Nat} {body:List Sl->Tr Ou} {iv:List Sl->Tr PyData}:∀ D σ H,bg (dZ F KS) (k7 F KS jk ik body iv) D σ H ->
  jF (pb (tB (ZaI (cM ik) (cM jk))) (jF (bg (dZ F KS) body) (pK (cM jk) (cM ik) (TAe (dZ F KS) iv))) ZaH) (ZaE (lH (cM jk) (cM ik))) D σ H:=by
 rintro D σ H ⟨pa,G₀,H₀,m,ρ,G,R,z⟩
 unfold k7 at z
 split at z
 ·rename_i xs hj hi
  split at z
  ·rename_i ns ρ' hns hb
   split at z
   ·rename_i ys n hj' hi' hiv
    obtain ⟨⟨c1,c2,c3⟩,z⟩:=Zcn z
    have key:∀ {σ':St} {ρ'':List Sl} {G' H':Hp} {m':Nat} {zs:List PyData},Rl (dZ F KS) pa G₀ H₀ m' σ' ρ'' G' H'->ρ''[jk]?=some .pen->ρ''[ik]?=some (.d (.tuple zs))->fk zs=some ns ->
      ∃ b,σ'[jk]?=some (some (.ref pa))/\σ'[ik]?=some (some (.ref b))/\G' b=some (.tup ((kI ns).map kV)):=λ{σ' ρ'' G' H' m' zs} R' h1 h2 h3=>by
     obtain ⟨o1,e1,s1⟩:=R'.sl jk _ h1
     cases s1
     obtain ⟨o2,e2,s2⟩:=R'.sl ik _ h2
     cases s2 with
     | d dd =>
      cases dd with
      | tup g1 g2 =>
       rw [ZcZ g2 h3] at g1
       exact ⟨_,e1,e2,g1⟩
    obtain ⟨b,e1,e2,e3⟩:=key R hj hi hns
    obtain ⟨o,ho,kvs,rfl,nt⟩:=R.wd.pen
    refine ⟨_,e2,_,e1,pa,bE kvs (kI ns),rfl,DGet.t ho (R.wd.sub _ _ e3),?_⟩
    refine ⟨_,rfl,?_⟩
    cases hv:bE kvs (kI ns) with
    | some v =>
     obtain ⟨n',hn',rfl⟩:=nt.vl ns v hv
     rw [c2] at hn'
     cases hn'
     refine ZiU ?_
     refine ⟨_,e1,_,e2,pa,.int n,rfl,?_,?_⟩
     ·rw [<- hv]; exact DGet.t ho (R.wd.sub _ _ e3)
     ·exact z _ _ _ R.st R.wd (.int n)
    | none =>
     show if true=true then _ else _
     rw [if_pos rfl]
     refine ⟨pa,G₀,H₀,m,ρ,G,R,?_⟩
     rw [hb]
     intro σ' G' H' sb R'
     obtain ⟨b',e1',e2',e3'⟩:=key R' hj' hi' c1
     refine ⟨pa,G₀,H₀,m,ρ',G',R',?_⟩
     rw [hiv]
     intro v G1 H1 s1 w1 d1
     cases d1
     have R1:=R'.step s1 w1
     have e3'':=s1.gs _ _ e3'
     obtain ⟨o1,ho1,kvs1,rfl,nt1⟩:=w1.pen
     have hne:b'≠pa:=λe=>by rw [e,w1.gpa] at e3''; cases e3''
     have hb1:H1 b'=some (.tup ((kI ns).map kV)):=w1.sub _ _ e3''
     refine ⟨_,e1',_,e2',pa,_,rfl,DPut.t ho1 hb1 (Nat.lt_of_le_of_lt nt1.len hL),?_⟩
     have st2:Stp pa G1 H1 G1 (upd H1 pa (.dT (bT kvs1 (kI ns) (.int n)))):=⟨λ_ _ h=>h,λ_ _ h=>.inl h,λb o h hn=>by rw [au hn]; exact h⟩
     have w2:Wd (dZ F KS) pa m G1 (upd H1 pa (.dT (bT kvs1 (kI ns) (.int n)))):=⟨λb o h=>by
      have hn:b≠pa:=λe=>by rw [e,w1.gpa] at h; cases h
      rw [au hn]
      exact w1.sub _ _ h,w1.gpa,_,bw,_,rfl,nt1.put c2 c3⟩
     refine ⟨_,e1',_,e2',pa,.int n,rfl,?_,?_⟩
     ·have:=DGet.t (k:=kI ns) (H:=upd H1 pa (.dT (bT kvs1 (kI ns) (.int n)))) (b:=b') bw (by rw [au hne]; exact hb1)
      rw [Zav,if_pos rfl] at this
      exact this
     ·exact z _ _ _ (R1.st.trans st2 w1.some) w2 (.int n)
   ·exact z.elim
  ·exact z.elim
 ·exact z.elim
end L2
set_option Elab.async false
set_option linter.all false
set_option maxRecDepth 100000
namespace L2
open PySem PySem.Spec PyProof.Rows
variable {X:Cx} {F:List Int->Option Int} {KS:List (List Int)}
theorem Zie {PK:Pk} {t:TS} {st:Stmt} (h:PS X st t):PSs X [st] (jF (bg PK λρ=>.ret (.next ρ)) t):=(eh h).imp λD σ H ⟨pa,G₀,H₀,m,ρ,G,R,z⟩=>z σ G H (λ_ _ h=>h) R
noncomputable def lc (fs:PyData->List Int->Option Int) (ks:PyData->List (List Int)) (f:(List Int->Option Int)->List (List Int)->List Sl->Tr Re) (i:List Sl->Tr PyData) (js:List Sl->Tr (List PyData)):List Sl->Tr Re:=λρ =>
 (i ρ).bind λa=>(js ρ).bind λxs=>if (ks a).length < sizeLine then
  match f (fs a) (ks a) (.d a::.pen::xs.map Sl.d) with
  | .ret (.d (.int n))=>.ret (.d (.int n))
  | _=>.fail else .fail
theorem ZeJ {pa:Addr} {G:Hp}:∀ {vs:List V} {xs:List PyData},DnAll G vs xs->ArsOk pa G vs (xs.map Sl.d)
 | _,_,.nil=>.nil
 | _,_,.cons h t=>.cons (.d h) (ZeJ t)
theorem Stp.oldM {pa:Addr} {G H G' H':Hp} (st:Stp pa G H G' H') (hp:∃ o,H' pa=some o) {p:Addr} (h:H' p=none):H p=none:=by
 cases e:H p with
 | none=>rfl
 | some u =>
  by_cases hc:p=pa
  ·subst hc
   obtain ⟨o,z⟩:=hp
   rw [h] at z; cases z
  ·rw [st.hk p u e hc] at h; cases h
noncomputable def jJ (n:Nat) (f:(List Int->Option Int)->List (List Int)->List Sl->Tr Re):Sp:=λvs H Q E=>vs.length=n/\∃ F KS,KS.length < sizeLine/\sI (dZ F KS) n (f F KS) vs H Q E
theorem Zn0 {PK:Pk} {x:Str} {k:Nat} {ps:List Str} {fs:PyData->List Int->Option Int} {ks:PyData->List (List Int)} {f:(List Int->Option Int)->List (List Int)->List Sl->Tr Re} {i:List Sl->Tr PyData} {js:List Sl->Tr (List PyData)} {e:Expr} {es:List Expr} {pp pd pos:Pos}
  (C:Callee X.prog X.w X.K X.mg X.base x k ps (jJ ps.length f)) (hlen:∀ F KS as m Z,(f F KS as).ok m Z->as.length=ps.length) (hr:Room k X.A) (hg:Gl X x) (ha:PE X e (TAe PK i)) (hes:PA X es (TAd PK js))
  (hdb:(x == ("__debug__":Str))=false:=by decide)
  (he:starEach (e::.Dict [] [] pd::es) X.env=(false,eval e X.env)::starEach (.Dict [] [] pd::es) X.env:=by rfl)
  (he2:starEach (.Dict [] [] pd::es) X.env=(false,eval (.Dict [] [] pd) X.env)::starEach es X.env:=by rfl)
  (hpl:(backTo pos (starEach (.Dict [] [] pd::es) X.env)).any (·.1)=false:=by rfl) :
  PE X (.Call (.Name x pp) (e::.Dict [] [] pd::es) [] pos) (oE PK (lc fs ks f i js)) :=
 (qd C hr hg (bx ha (bx Zhn hes he2) he) hdb he hpl).imp λσ H Q hz0=>by
  obtain ⟨pa,G₀,H₀,m,ρ,G,R,z⟩:=hz0
  refine TAe.then R z λm1 a v G1 H1 s1 w1 R1 d1 q1=>?_
  intro p hp
  obtain ⟨w2,s2⟩:=w1.own (o:=.dT []) hp
  have R2:=R1.step s2 w2
  refine ⟨pa,G₀,H₀,m1,ρ,G1,R2,Tr.ok_mono (Tr.ok_bind.mp q1) λm3 xs q3 vs G3 H3 s3 w3 d3=>?_⟩
  obtain ⟨hL,q4⟩:=Zcn q3
  have hpp:p≠pa:=λe=>w1.ne hp e.symm
  have hp3:H3 p=some (.dT []):=s3.hk _ _ bw hpp
  have gp1:G1 p=none:=w1.gnone hp
  have gp3:G3 p=none:=by
   cases e:G3 p with
   | none=>rfl
   | some u =>
    rcases s3.gn p u e with h | h
    ·rw [gp1] at h; cases h
    ·rw [bw] at h; cases h
  show jJ ps.length f ((v::.ref p::vs)++[]) H3 Q E0
  rw [List.append_nil]
  split at q4
  ·rename_i n hf
   have st13:Stp pa G H G3 H3:=(s1.trans s2 w1.some).trans s3 w2.some
   have hok:(f (fs a) (ks a) (.d a::.pen::xs.map Sl.d)).ok m3 λm' r=>Kr (dZ (fs a) (ks a)) p m' G3 H3 r Q:=by
    rw [hf]
    intro v' G' H' st w' dv
    refine q4 v' G' H' ⟨λb o h=>st.gs b o (st13.gs b o h),λb o h=>?_,λb o h hn=>?_⟩ ⟨w'.sub,?_,?_⟩ dv
    ·rcases st.gn b o h with h1 | h1
     ·exact st13.gn b o h1
     ·exact .inr (st13.oldM w3.some h1)
    ·have hb:b≠p:=λe=>by
      have hH:H p=none:=s1.oldM w1.some hp
      rw [e,hH] at h; cases h
     exact st.hk b o (st13.hk b o h hn) hb
    ·cases e:G' pa with
     | none=>rfl
     | some u =>
      rcases st.gn pa u e with h | h
      ·rw [w3.gpa] at h; cases h
      ·obtain ⟨o,ho⟩:=w3.some
       rw [ho] at h; cases h
    ·obtain ⟨o,ho,hi⟩:=w3.pen
     exact ⟨o,st.hk _ _ ho (λe=>hpp e.symm),PK.mono st.gs hi⟩
   have hars:ArsOk p G3 (v::.ref p::vs) (.d a::.pen::xs.map Sl.d):=.cons (.d (d1.mono s3.gs)) (.cons .pen (ZeJ d3))
   have hl:(v::V.ref p::vs).length=ps.length:=by rw [hars.length]; exact hlen _ _ _ _ _ hok
   exact ⟨hl,fs a,ks a,hL,hl,p,m3,G3,_,⟨w3.sub,gp3,_,hp3,[],rfl,Nts.nil⟩,hars,hok⟩
  ·exact q4.elim
theorem CalM.at {P:Program} {w:World} {K:PySem.W.Frag} {mg:Str->Option Value} {base:Heap} {x:Str} {k:Nat} {ps:List Str} {f:(List Int->Option Int)->List (List Int)->List Sl->Tr Re} (C:Callee P w K mg base x k ps (jJ ps.length f)) (hlen:∀ F KS as m Z,(f F KS as).ok m Z->as.length=ps.length) (hL:KS.length < sizeLine):ACal (dZ F KS) P w K mg base x k ps (f F KS):=by
 obtain ⟨f',fd,FN,hm,hk,hb⟩:=C.ex
 exact ⟨⟨⟨f',fd,FN.imp λvs H Q E h=>⟨h.1,F,KS,hL,h⟩,hm,hk,hb⟩⟩,hlen F KS⟩
theorem ZeT {st:Stmt} {P:Program} {w:World} {K:PySem.W.Frag} {mg:Str->Option Value} {base:Heap} {x:Str} {N ps:List Str} {kk k:Nat} {s:(List Int->Option Int)->List (List Int)->List Sl->Tr Ou} (D:Def K mg x st ps) (S:FnScope N ps (az st)) (hk:N.length - ps.length=k)
  (hbody:∀ (F:List Int->Option Int) (KS:List (List Int)),KS.length < sizeLine->∀ (f:Addr) (cdv:Value) (A:Around) (outer:List Env) (sh:Shared) (H:Hp) (E:XK),Room kk (A.deeper (envOfC x (az st) sh.heap.objs.size f cdv)) ->
   PSs (cD gk P w K mg base N x (az st) f cdv A outer sh H E).nox (fo st) (bg (dZ F KS) (s F KS))):Callee P w K mg base x (kk+1) ps (jJ ps.length λF KS=>bp ps.length k (s F KS)):=by
 refine D.ok S (λvs H Q E h=>h.1) λf cdv A outer sh H vs Q E hr hsp=>?_
 obtain ⟨_,F,KS,hL,hv,pa,m,G,as,wd,ar,z⟩:=hsp
 refine ⟨_,hbody F KS hL f cdv A outer sh H E hr,?_⟩
 unfold bp at z
 obtain ⟨_,z⟩:=dA z
 refine ⟨pa,G,H,m,_,G,Rl.start wd ar (by rw [hv]; exact hk),Tr.ok_mono (Tr.ok_bind.mp z) λm1 o ko=>?_⟩
 cases o with
 | next ρ=>exact λσ G1 H1 sb R1=>ko .non G1 H1 R1.st R1.wd .non
 | ret r=>exact ko
 | brk ρ=>exact ko.elim
 | cont ρ=>exact ko.elim
theorem ZeY {n k:Nat} {s:List Sl->Tr Ou}:∀ as m Z,(bp n k s as).ok m Z->as.length=n:=λas m Z h=>by
 unfold bp at h
 exact of_decide_eq_true (dA h).1
end L2
set_option Elab.async false
set_option linter.all false
set_option maxRecDepth 100000
namespace My
open PySem PySem.Spec PyProof.Rows L2 Tw
noncomputable def bH:List (List Int)->Int
 | []=>1
 | day::r=>day.sum * bH r
noncomputable def bM (f:Int->Int) (a:Int):Nat->Int
 | 0=>f a
 | n+1=>if f (a+(n+1:Nat)) < bM f a n then f (a+(n+1:Nat)) else bM f a n
section
variable (s:Shp)
noncomputable def cI (p:Int):Int:=if 0 < p then s.start+s.piece * p else 0
noncomputable def cW (x:Int):Int:=s.keep * cv x 0+s.lack * cv (0 - x) 0
noncomputable def jh (x:Int):Int:=s.late * cv (0 - x) 0 - s.back * cv x 0
noncomputable def cH (d:Nat):List (List Int)->Int->List Int->Int
 | [],x,way=>jh s (x+way.sum)
 | day::rest,x,way=>bM (λy=>cI s (y - (x+way.sum)) * bH (day::rest)+ws (λf=>cW s (x+way.headD 0 - f) * bH rest+cH d rest (x+way.headD 0 - f) (way.drop 1++[y - (x+way.sum)])) 0 day) (x+way.sum) (if d < (day::rest).length then (s.top - (x+way.sum)).toNat else 0)
end
noncomputable def pC:List Int->Option Shp
 | [a,b,c,d,e,f,g,h,i]=>some ⟨a,b,c,d,e,f,g,h,i⟩
 | _=>none
noncomputable def jE:PyData->Option (List Int)
 | .tuple xs=>fk xs
 | _=>none
noncomputable def kH:List PyData->Option (List (List Int))
 | []=>some []
 | x::r=>(jE x).bind λa=>(kH r).map (a::·)
noncomputable def fN:PyData->List Int->Option Int
 | .tuple [sd,.tuple fd,.int d,_],t::x::way=>(jE sd).bind λl=>(pC l).bind λs=>(kH fd).map λfs=>cH s d.toNat (fs.drop t.toNat) x way
 | _,_=>none
noncomputable def fe:Nat->List (List Int)
 | 0=>[[]]
 | n+1=>(fe n).flatMap λw=>(List.range 30).map λa:Nat=>(a:Int)::w
noncomputable def eB:PyData->List (List Int)
 | .tuple [_,.tuple fd,.int d,_]=>(List.range fd.length).flatMap λt:Nat=>(List.range 40).flatMap λx:Nat=>(fe d.toNat).map λw=>(t:Int)::((x:Int) - 30)::w
 | _=>[]
end My
set_option Elab.async false
set_option linter.all false
set_option maxRecDepth 100000
namespace Bar
variable (A:Nat->Nat->Int)
noncomputable def bY (f:Nat->Int):Nat->Int
 | 0=>0
 | n+1=>bY f n+f n
end Bar
set_option Elab.async false
set_option linter.all false
set_option maxRecDepth 100000
namespace Tw
open PySem L2
theorem ly {f g:Int->Int}:∀ {l:List Int} {k:Nat},ws (λx=>f x+g x) k l=ws f k l+ws g k l
 | [],k=>rfl
 | w::l,k=>by
  unfold ws
  rw [ly (l:=l),Int.mul_add]
  omega
theorem oW {f:Int->Int} {m:Int}:∀ {l:List Int} {k:Nat},ws (λx=>m * f x) k l=m * ws f k l
 | [],k=>by unfold ws; simp
 | w::l,k=>by
  unfold ws
  rw [oW (l:=l)]
  grind
end Tw
set_option Elab.async false
set_option linter.all false
set_option maxRecDepth 100000
namespace Tw
open PySem L2
noncomputable def gm:Nat->List Int->List (Int×Int)
 | _,[]=>[]
 | k,w::l=>if w > 0 then ((k:Int),w)::gm (k+1) l else gm (k+1) l
theorem ZgE {lo hi:Int} (h:lo < hi):aV lo hi=.int lo::aV (lo+1) hi:=by
 unfold aV
 have e:(hi - lo).toNat=1+(hi - (lo+1)).toNat:=by omega
 rw [e,mD,List.map_append]
 have e1:aB lo 1=[lo]:=by unfold aB; simp
 rw [e1]
 rfl
theorem Zcz {h:PyData->Tr (Option PyData)} {F:Int×Int->PyData}:∀ (l:List Int) (k:Nat),(∀ (i:Nat) (v:Int),l[i]?=some v->h (.int ((k:Int)+i))=.ret (if v > 0 then some (F ((k:Int)+i,v)) else none))->c6 h (aV k ((k:Int)+l.length))=.ret ((gm k l).map F)
 | [],k,_=>by
  have e:aV (k:Int) ((k:Int)+(([]:List Int).length:Int))=[]:=by unfold aV aB; simp
  rw [e]
  rfl
 | w::l,k,hh=>by
  have ih:=Zcz (h:=h) (F:=F) l (k+1) λi v hv=>by
   have:=hh (i+1) v (by rw [List.getElem?_cons_succ]; exact hv)
   have e:(((k+1:Nat)):Int)+(i:Int)=(k:Int)+((i+1:Nat):Int):=by omega
   rw [e]
   exact this
  have h0:=hh 0 w (by simp)
  have e0:(k:Int)+((0:Nat):Int)=k:=by omega
  rw [e0] at h0
  rw [ZgE (by rw [List.length_cons]; omega),c6,h0,Tr.ret_bind]
  have e1:(k:Int)+(((w::l).length:Nat):Int)=((k+1:Nat):Int)+(l.length:Int):=by rw [List.length_cons]; omega
  have e2:(k:Int)+1=((k+1:Nat):Int):=by omega
  have eS:gm k (w::l)=if w > 0 then ((k:Int),w)::gm (k+1) l else gm (k+1) l:=rfl
  rw [e1,e2,ih,Tr.ret_bind,eS]
  by_cases hw:w > 0
  ·rw [if_pos hw,if_pos hw]; rfl
  ·rw [if_neg hw,if_neg hw]; rfl
noncomputable def prd:List (List Int)->Int
 | []=>1
 | d::fs=>prd fs * d.sum
theorem lv {a:Int}:∀ (l:List Int) (k:Nat),ws (λ_=>a) k l=a * l.sum
 | [],k=>by simp [ws]
 | w::l,k=>by
  unfold ws
  rw [lv l,List.sum_cons,Int.mul_add,Int.mul_comm]
theorem iy {f:Int->Int} {a b:Nat}:∀ {l:List Int} {k:Nat},(∀ w∈l,nb a w)->(∀ x:Int,(k:Int)<=x->x < k+l.length->nb b (f x))->nb (a+b+l.length) (ws f k l)
 | [],k,_,_=>by unfold ws nb; exact Nat.pos_of_ne_zero (by simp)
 | w::l,k,hw,hf=>by
  rw [List.length_cons] at hf ⊢
  have h1:=bG (hw w (by simp)) (hf k (by omega) (by omega))
  have h2:=iy (f:=f) (a:=a) (b:=b) (l:=l) (k:=k+1) (λv hv=>hw v (List.mem_cons_of_mem _ hv)) λx x1 x2=>hf x (by omega) (by omega)
  unfold ws
  exact aX (cZ h1 h2) (by omega)
end Tw
set_option Elab.async false
set_option linter.all false
set_option maxRecDepth 100000
namespace Tw
open PySem L2
theorem mB (d:List Int) (fs:List (List Int)):reach (d::fs)=great d+reach fs:=by
 unfold reach
 rw [List.map_cons,List.sum_cons]
theorem fX:∀ {fs:List (List Int)},(∀ l∈fs,∃ n∈l,n > 0)->0<=reach fs
 | [],_=>by decide
 | d::fs,h=>by
  have:=fX (fs:=fs) λl hl=>h l (List.mem_cons_of_mem _ hl)
  have h1:=(iY (lK (k:=0) (h d (by simp)))).1
  have h2:=pr h1
  rw [mB]
  unfold great
  omega
theorem ZaX:∀ (l:List Int) (k:Nat),(gm k l).map (λq=>PyData.int q.1)=(bJ k l).map PyData.int
 | [],k=>rfl
 | w::l,k=>by
  have ih:=ZaX l (k+1)
  unfold gm bJ
  by_cases hw:w > 0
  ·rw [if_pos hw,if_pos hw,List.map_cons,List.map_cons,ih]
  ·rw [if_neg hw,if_neg hw,ih]
end Tw
set_option Elab.async false
set_option linter.all false
set_option maxRecDepth 100000
namespace Tw
open PySem L2
end Tw
set_option Elab.async false
set_option linter.all false
set_option maxRecDepth 100000
namespace Tw
open PySem PySem.Spec PyProof.Rows L2
end Tw
set_option Elab.async false
set_option linter.all false
set_option maxRecDepth 100000
namespace Tw
open PySem PySem.Spec PyProof.Rows L2
theorem Zi5 {d:List Int} {f:Int} (h:f∈bJ 0 d):f<=great d:=by
 unfold great
 exact (iY (List.ne_nil_of_mem h)).2 f h
end Tw
set_option Elab.async false
set_option linter.all false
set_option maxRecDepth 100000
namespace L2
open PySem PySem.Spec PyProof.Rows
end L2
set_option Elab.async false
set_option linter.all false
set_option maxRecDepth 100000
namespace L2
open PySem PySem.Spec PyProof.Rows
noncomputable def Zb6 (c:Addr) (at' left:Int):HO:=.lst [.ref c,.int at',.int left]
structure Pen2 (H:Hp) (p c:Addr) (ns:List Int) (m:Nat):Prop where
 ex:∃ (k:Nat) (left:Int),H p=some (Zb6 c k left)/\k<=m/\0<=left
 cells:H c=some (.lst (ns.map V.int))
 len:ns.length<=63
 ne:c≠p
noncomputable def ZaU:Sp:=λvs H Q _=>∃ (p c:Addr) (ns:List Int) (m:Nat) (most:Int),vs=[.ref p,.int most]/\Pen2 H p c ns m/\m<=500000/\0 < most/\most < 1073741824 /\
 ∀ (r:Int) (H':Hp),0<=r->r < most->Pen2 H' p c ns (m+1)->Kept p H H'->Q (.int r) H'
noncomputable def Zf0 (K:PySem.W.Frag):Sp:=λvs H Q _=>∃ (a:Addr) (ns:List Int),vs=[.ref a]/\SqL K H a (ns.map V.int)/\ns.length<=63 /\
 ∀ (p c:Addr) (H':Hp),H p=none->Pen2 H' p c ns 0->Same H H'->Q (.ref p) H'
noncomputable def bD (cn:Addr×List Int):Pk where
 is:=λo G m=>∃ (k:Nat) (left:Int),o=Zb6 cn.1 k left/\k<=m/\0<=left/\G cn.1=some (.lst (cn.2.map V.int))/\cn.2.length<=63
 mono:=λs ⟨k,left,e,h1,h2,h3,h4⟩=>⟨k,left,e,h1,h2,s _ _ h3,h4⟩
theorem Zg2 {ι:Type} {X:Cx} {e:List Stmt} {t:ι->TS} (h:∀ i,PSs X e (t i)):PSs X e (λD σ H=>∃ i,t i D σ H):=λpins s σ H D I z=>by
 obtain ⟨i,z⟩:=z
 exact h i pins s σ H D I z
noncomputable def nw:List Sl->Tr Re:=λas=>match as with
 | [.pen,.d (.int most)]=>.draw most λr=>.ret (.d (.int r))
 | _=>.fail
theorem ZdD {as:List Sl} {m:Nat} {Z:Nat->Re->Prop} (h:(nw as).ok m Z):∃ most,as=[.pen,.d (.int most)]:=by
 unfold nw at h
 split at h
 ·exact ⟨_,rfl⟩
 ·exact h.elim
theorem Zmh {cn:Addr×List Int} {P:Program} {w:World} {K:PySem.W.Frag} {mg:Str->Option Value} {base:Heap} {x:Str} {k:Nat} {ps:List Str} (hp:ps.length=2) (C:Callee P w K mg base x k ps ZaU):ACal (bD cn) P w K mg base x k ps nw:=by
 refine ⟨?_,λas m Z h=>by obtain ⟨most,rfl⟩:=ZdD h; exact hp.symm⟩
 obtain ⟨f,fd,F,hm,hk,hb⟩:=C.ex
 refine ⟨f,fd,F.imp λvs H Q E h=>?_,hm,hk,hb⟩
 obtain ⟨hv,pa,m,G,as,wd,ar,z⟩:=h
 obtain ⟨most,rfl⟩:=ZdD z
 obtain ⟨h1,h2,h3,h4⟩:=z
 cases ar with
 | cons a1 ar =>
  cases ar with
  | cons a2 ar =>
   cases ar
   cases a1
   cases a2 with
   | d d2 =>
    cases d2
    obtain ⟨c,ns⟩:=cn
    obtain ⟨o,ho,kk,left,rfl,q1,q2,q3,q4⟩:=wd.pen
    replace q3:G c=some (.lst (ns.map V.int)):=q3
    have ncp:c≠pa:=λz=>by rw [z,wd.gpa] at q3; cases q3
    refine ⟨pa,c,ns,m,most,rfl,⟨⟨kk,left,ho,q1,q2⟩,wd.sub _ _ q3,q4,ncp⟩,by omega,h2,h3,λr H' r0 r1 P' K'=>?_⟩
    refine h4 r r0 r1 (.int r) G H' ⟨λ_ _ q=>q,λ_ _ q=>.inl q,λb o e n=>K' b o e n⟩ ⟨λb o e=>K' b o (wd.sub b o e) (λz=>by subst z; rw [wd.gpa] at e; cases e),wd.gpa,?_⟩ (.int r)
    obtain ⟨⟨k2,l2,e2,g1,g2⟩,_,_,_⟩:=P'
    exact ⟨_,e2,k2,l2,rfl,g1,g2,q3,q4⟩
noncomputable def ZaT:PySem.W.Frag->Sp:=λK vs H Q _=>∃ (a:Addr) (ns:List Int),vs=[.ref a]/\SqL K H a (ns.map V.int)/\ns.length<=63/\∀ H',Q (.bl true) H'
theorem Zix {D:Ends} {p c:Addr} {ns:List Int} {H:Hp} {σ:St} {s:List Sl->Tr Ou} {n:Nat} (P:Pen2 H p c ns 0) (hσ:σ.length=n+2) (h1:σ[1]?=some (some (.ref p))) (hrt:∀ H',D.rt (.bl true) H')
  (h:(s (.un::.pen::List.replicate n .un)).ok 0 λ_ o=>o=.ret (.d (.bool true))):∃ cn,bg (bD cn) s D σ H:=by
 obtain ⟨⟨k,l,e,hk,hl⟩,hc,hn,ncp⟩:=P
 have npc:p≠c:=Ne.symm ncp
 have key:∀ (i:Nat) (sl:Sl),(Sl.un::.pen::List.replicate n .un)[i]?=some sl->sl=.un\/(i=1/\sl=.pen):=λi sl hi=>by
  match i with
  | 0=>simp at hi; exact .inl hi.symm
  | 1=>simp at hi; exact .inr ⟨rfl,hi.symm⟩
  | i+2 =>
   simp [List.getElem?_replicate] at hi
   exact .inl hi.2.symm
 refine ⟨(c,ns),p,λb=>if b=c then H c else none,H,0,_,λb=>if b=c then H c else none,⟨⟨λb o hb=>?_,if_neg npc,?_⟩,.refl,⟨_,e⟩,λi sl hi=>?_,by simp [hσ],λi j xs ys _ hi _=>?_,λi j xs ys _ hi _=>by rcases key i _ hi with z | ⟨_,z⟩ <;> cases z⟩,Tr.ok_mono h λm o ho=>?_⟩
 ·by_cases hbc:b=c
  ·subst hbc; simpa using hb
  ·simp [hbc] at hb
 ·exact ⟨_,e,k,l,rfl,hk,hl,by simp [hc],hn⟩
 ·have hlt:i < σ.length:=by
   have:=(List.getElem?_eq_some_iff.mp hi).1
   simp at this
   omega
  rcases key i sl hi with rfl | ⟨rfl,rfl⟩
  ·exact ⟨σ[i],by simp [hlt],.un⟩
  ·exact ⟨_,h1,.pen⟩
 ·rcases key i _ hi with z | ⟨_,z⟩ <;> cases z
 ·subst ho
  intro v G H' s' w' d
  cases (show Dn G v (.bool true) from d)
  exact hrt H'
end L2
set_option Elab.async false
set_option linter.all false
set_option maxRecDepth 100000
namespace My
open PySem PySem.Spec PyProof.Rows L2
noncomputable def top (i:Nat):Stmt:=PySem.Challenge.pw_twomarks_k42_goods_under_way_walked.main.body.getD i (.Pass ⟨0,0,0,0⟩)
noncomputable abbrev l5:Stmt:=top 11
noncomputable abbrev Zow:List Str:=["one","other"]
theorem pG:FnScope Zow ["one","other"] (az l5):=⟨rfl,rfl,rfl,by decide +kernel,rfl,by decide +kernel,by decide +kernel⟩
noncomputable abbrev lU:Stmt:=top 12
noncomputable abbrev Zop:List Str:=["top","bottom","divisor"]
theorem pE:FnScope Zop ["top","bottom"] (az lU):=⟨rfl,rfl,rfl,by decide +kernel,rfl,by decide +kernel,by decide +kernel⟩
noncomputable abbrev jQ:Stmt:=top 23
noncomputable abbrev lp:List Str:=["day"]
theorem Zgl:FnScope lp ["day"] (az jQ):=⟨rfl,rfl,rfl,by decide +kernel,rfl,by decide +kernel,by decide +kernel⟩
noncomputable abbrev lW:Stmt:=top 24
noncomputable abbrev Zor:List Str:=["shop","level","fall"]
theorem Zgj:FnScope Zor ["shop","level","fall"] (az lW):=⟨rfl,rfl,rfl,by decide +kernel,rfl,by decide +kernel,by decide +kernel⟩
noncomputable abbrev lZ:Stmt:=top 25
noncomputable abbrev Zou:List Str:=["shop","level","fall","stock","sold_never","held"]
theorem lO:FnScope Zou ["shop","level","fall"] (az lZ):=⟨rfl,rfl,rfl,by decide +kernel,rfl,by decide +kernel,by decide +kernel⟩
noncomputable abbrev lY:Stmt:=top 26
noncomputable abbrev Zot:List Str:=["shop","stock"]
theorem Zgn:FnScope Zot ["shop","stock"] (az lY):=⟨rfl,rfl,rfl,by decide +kernel,rfl,by decide +kernel,by decide +kernel⟩
noncomputable abbrev l7:Stmt:=top 28
noncomputable abbrev Zox:List Str:=["shop","low","by_level","scale","picks","best","stock","own","cost","level"]
theorem gp:FnScope Zox ["shop","low","by_level","scale"] (az l7):=⟨rfl,rfl,rfl,by decide +kernel,rfl,by decide +kernel,by decide +kernel⟩
noncomputable abbrev jR:Stmt:=top 30
noncomputable abbrev oM:List Str:=["shop","falls","t"]
theorem Zgm:FnScope oM ["shop","falls","t"] (az jR):=⟨rfl,rfl,rfl,by decide +kernel,rfl,by decide +kernel,by decide +kernel⟩
noncomputable abbrev l8:Stmt:=top 32
noncomputable abbrev Zoy:List Str:=["shop","falls","stock"]
theorem Zbc:FnScope Zoy ["shop","falls","stock"] (az l8):=⟨rfl,rfl,rfl,by decide +kernel,rfl,by decide +kernel,by decide +kernel⟩
noncomputable abbrev lV:Stmt:=top 33
noncomputable abbrev Zoq:List Str:=["days","scale","day"]
theorem lN:FnScope Zoq ["days"] (az lV):=⟨rfl,rfl,rfl,by decide +kernel,rfl,by decide +kernel,by decide +kernel⟩
noncomputable abbrev lT:Stmt:=top 34
noncomputable abbrev Zoo:List Str:=["days","weights","day","longer","fallen","weight","fall","own"]
theorem fU:FnScope Zoo ["days"] (az lT):=⟨rfl,rfl,rfl,by decide +kernel,rfl,by decide +kernel,by decide +kernel⟩
noncomputable abbrev jN:Stmt:=top 35
noncomputable abbrev ll:List Str:=["shop","weights","stock"]
theorem Zgh:FnScope ll ["shop","weights","stock"] (az jN):=⟨rfl,rfl,rfl,by decide +kernel,rfl,by decide +kernel,by decide +kernel⟩
noncomputable abbrev jM:Stmt:=top 36
noncomputable abbrev lj:List Str:=["shop","weights","stock"]
theorem Zgg:FnScope lj ["shop","weights","stock"] (az jM):=⟨rfl,rfl,rfl,by decide +kernel,rfl,by decide +kernel,by decide +kernel⟩
noncomputable abbrev jO:Stmt:=top 37
noncomputable abbrev lm:List Str:=["day","ahead","level"]
theorem Zgi:FnScope lm ["day","ahead","level"] (az jO):=⟨rfl,rfl,rfl,by decide +kernel,rfl,by decide +kernel,by decide +kernel⟩
noncomputable abbrev l0:Stmt:=top 38
noncomputable abbrev Zov:List Str:=["shop","falls","days","ahead","low","scale","later","weights","by_level","level","total"]
theorem gT:FnScope Zov ["shop","falls","days","ahead","low"] (az l0):=⟨rfl,rfl,rfl,by decide +kernel,rfl,by decide +kernel,by decide +kernel⟩
noncomputable abbrev jP:Stmt:=top 39
noncomputable abbrev oJ:List Str:=["falls","t","stock"]
theorem Zgk:FnScope oJ ["falls","t","stock"] (az jP):=⟨rfl,rfl,rfl,by decide +kernel,rfl,by decide +kernel,by decide +kernel⟩
noncomputable abbrev jS:Stmt:=top 40
noncomputable abbrev oN:List Str:=["shop","falls","orders","stock","weights","low"]
theorem pF:FnScope oN ["shop","falls","orders","stock"] (az jS):=⟨rfl,rfl,rfl,by decide +kernel,rfl,by decide +kernel,by decide +kernel⟩
noncomputable abbrev iK:Stmt:=top 41
noncomputable abbrev fQ:List Str:=["shop","falls","days","stock","orders","ahead","told","t","low","scale","picks"]
theorem fV:FnScope fQ ["shop","falls","days","stock"] (az iK):=⟨rfl,rfl,rfl,by decide +kernel,rfl,by decide +kernel,by decide +kernel⟩
noncomputable abbrev lX:Stmt:=top 42
noncomputable abbrev Zos:List Str:=["shop","falls","days","stock","told","total","t"]
theorem iG:FnScope Zos ["shop","falls","days","stock"] (az lX):=⟨rfl,rfl,rfl,by decide +kernel,rfl,by decide +kernel,by decide +kernel⟩
noncomputable abbrev mf:Stmt:=top 44
noncomputable abbrev ZoD:List Str:=["_law_script"]
theorem Zgp:FnScope ZoD ["_law_script"] (az mf):=⟨rfl,rfl,rfl,by decide +kernel,rfl,by decide +kernel,by decide +kernel⟩
noncomputable abbrev ml:Stmt:=top 45
noncomputable abbrev ZoH:List Str:=["_law_pen_here","_law_many","_law_digit","_law_at","_law_cell","_law_mixed"]
theorem iH:FnScope ZoH ["_law_pen_here","_law_many"] (az ml):=⟨rfl,rfl,rfl,by decide +kernel,rfl,by decide +kernel,by decide +kernel⟩
noncomputable abbrev jV:Stmt:=top 46
noncomputable abbrev oP:List Str:=["_law_pen_here","_law_most","_law_behind","_law_bound","_law_weights"]
theorem lR:FnScope oP ["_law_pen_here","_law_most"] (az jV):=⟨rfl,rfl,rfl,by decide +kernel,rfl,by decide +kernel,by decide +kernel⟩
noncomputable abbrev jU:Stmt:=top 47
noncomputable abbrev jz:List Str:=["_law_falls"]
theorem Zgr:FnScope jz ["_law_falls"] (az jU):=⟨rfl,rfl,rfl,by decide +kernel,rfl,by decide +kernel,by decide +kernel⟩
noncomputable abbrev jT:Stmt:=top 48
noncomputable abbrev oO:List Str:=["_law_pen_here","_law_bound","_law_found"]
theorem pI:FnScope oO ["_law_pen_here"] (az jT):=⟨rfl,rfl,rfl,by decide +kernel,rfl,by decide +kernel,by decide +kernel⟩
noncomputable abbrev jW:Stmt:=top 49
noncomputable abbrev oQ:List Str:=["_law_pen_here","_law_falls","_law_more","_law_top","_law_depth","_law_stock"]
theorem iJ:FnScope oQ ["_law_pen_here"] (az jW):=⟨rfl,rfl,rfl,by decide +kernel,rfl,by decide +kernel,by decide +kernel⟩
noncomputable abbrev mh:Stmt:=top 50
noncomputable abbrev ZoE:List Str:=["_law_shop","_law_pieces"]
theorem Zgq:FnScope ZoE ["_law_shop","_law_pieces"] (az mh):=⟨rfl,rfl,rfl,by decide +kernel,rfl,by decide +kernel,by decide +kernel⟩
noncomputable abbrev md:Stmt:=top 51
noncomputable abbrev ZoB:List Str:=["_law_shop","_law_rest"]
theorem Zgo:FnScope ZoB ["_law_shop","_law_rest"] (az md):=⟨rfl,rfl,rfl,by decide +kernel,rfl,by decide +kernel,by decide +kernel⟩
noncomputable abbrev mj:Stmt:=top 52
noncomputable abbrev ZoG:List Str:=["_law_shop","_law_rest"]
theorem Zgs:FnScope ZoG ["_law_shop","_law_rest"] (az mj):=⟨rfl,rfl,rfl,by decide +kernel,rfl,by decide +kernel,by decide +kernel⟩
noncomputable abbrev mq:Stmt:=top 53
noncomputable abbrev ZoJ:List Str:=["_law_falls","_law_t","_law_found","_law_one"]
theorem lS:FnScope ZoJ ["_law_falls","_law_t"] (az mq):=⟨rfl,rfl,rfl,by decide +kernel,rfl,by decide +kernel,by decide +kernel⟩
noncomputable abbrev ma:Stmt:=top 54
noncomputable abbrev ZoA:List Str:=["_law_top","_law_bottom_here","_law_one","_law_other"]
theorem pH:FnScope ZoA ["_law_top","_law_bottom_here"] (az ma):=⟨rfl,rfl,rfl,by decide +kernel,rfl,by decide +kernel,by decide +kernel⟩
noncomputable abbrev mn:Stmt:=top 55
noncomputable abbrev ZoI:List Str:=["_law_asked_here","_law_known","_law_t","_law_lies","_law_way","_law_shop","_law_falls","_law_days","_law_bottoms","_law_best","_law_levels","_law_level","_law_pieces","_law_cost","_law_fall","_law_weight","_law_day_here"]
theorem db:FnScope ZoI ["_law_asked_here","_law_known","_law_t","_law_lies","_law_way"] (az mn):=⟨rfl,rfl,rfl,by decide +kernel,rfl,by decide +kernel,by decide +kernel⟩
noncomputable abbrev mi:Stmt:=top 56
noncomputable abbrev ZoF:List Str:=["_law_asked_here","_law_known","_law_t","_law_stock","_law_way","_law_shop","_law_falls","_law_days","_law_bottoms","_law_key"]
theorem gU:FnScope ZoF ["_law_asked_here","_law_known","_law_t","_law_stock","_law_way"] (az mi):=⟨rfl,rfl,rfl,by decide +kernel,rfl,by decide +kernel,by decide +kernel⟩
noncomputable abbrev me:Stmt:=top 57
noncomputable abbrev ZoC:List Str:=["_law_shop","_law_falls","_law_days","_law_stock","_law_caught","e"]
theorem lQ:FnScope ZoC ["_law_shop","_law_falls","_law_days","_law_stock"] (az me):=⟨rfl,rfl,rfl,by decide +kernel,rfl,by decide +kernel,by decide +kernel⟩
noncomputable abbrev l9:Stmt:=top 58
noncomputable abbrev Zoz:List Str:=["_law_pen_here","_law_shop","_law_falls","_law_room","_law_tight","_law_stock"]
theorem lP:FnScope Zoz ["_law_pen_here","_law_shop","_law_falls"] (az l9):=⟨rfl,rfl,rfl,by decide +kernel,rfl,by decide +kernel,by decide +kernel⟩
noncomputable abbrev iL:Stmt:=top 59
noncomputable abbrev oK:List Str:=["_law_script","_law_pen_here","_law_turn","_law_shop","_law_falls","_law_stock","_law_kept","_law_bottoms","_law_lowest","_law_other","_law_days","_law_dues","_law_here","_law_cost"]
theorem dw:FnScope oK ["_law_script"] (az iL):=⟨rfl,rfl,rfl,by decide +kernel,rfl,by decide +kernel,by decide +kernel⟩
structure Txt (K:PySem.W.Frag) (mg:Str->Option Value):Prop where
 eM:mg "len"=none
 iX:mg "abs"=none
 hU:mg "max"=none
 mZ:mg "min"=none
 mY:mg "repr"=none
 Zh4:mg "int"=none
 Zct:mg "list"=none
 mX:mg "tuple"=none
 eu:mg "range"=none
 qy:mg "isinstance"=none
 eK:mg "sum"=none
 gz:mg "enumerate"=none
 Zh5:mg "ValueError"=none
 Zcs:mg "reversed"=none
 nX:∃ t,mg "TOP"=some (.int 0 t)
 Zc9:∃ t,mg "DEPTH"=some (.int 1 t)
 Zjf:∃ t,mg "START"=some (.int 2 t)
 Zc8:∃ t,mg "PIECE"=some (.int 3 t)
 Zjj:∃ t,mg "KEEP"=some (.int 4 t)
 Zji:∃ t,mg "LACK"=some (.int 5 t)
 Zjg:∃ t,mg "LOST"=some (.int 6 t)
 Zjk:∃ t,mg "BACK"=some (.int 7 t)
 Zjh:∃ t,mg "LATE"=some (.int 8 t)
 ZmG:Def K mg "common_divisor" l5 ["one","other"]
 Zms:Def K mg "share" lU ["top","bottom"]
 Zmz:Def K mg "greatest_seen" jQ ["day"]
 Zmw:Def K mg "next_stock" lW ["shop","level","fall"]
 ZmE:Def K mg "day_cost" lZ ["shop","level","fall"]
 ZmC:Def K mg "end_cost" lY ["shop","stock"]
 ZmH:Def K mg "cheapest_from" l7 ["shop","low","by_level","scale"]
 ZmB:Def K mg "free_from" jR ["shop","falls","t"]
 ZdU:Def K mg "ask_free" l8 ["shop","falls","stock"]
 Zmu:Def K mg "scale_of" lV ["days"]
 Zmn:Def K mg "weights_together" lT ["days"]
 Zmp:Def K mg "weighed_day" jN ["shop","weights","stock"]
 Zmo:Def K mg "weighed_end" jM ["shop","weights","stock"]
 Zmq:Def K mg "weighed_ahead" jO ["day","ahead","level"]
 ZmF:Def K mg "counted_sums" l0 ["shop","falls","days","ahead","low"]
 Zmx:Def K mg "least_counted" jP ["falls","t","stock"]
 ZmD:Def K mg "end_ahead" jS ["shop","falls","orders","stock"]
 Zmr:Def K mg "short_days" iK ["shop","falls","days","stock"]
 ZdT:Def K mg "least_late" lX ["shop","falls","days","stock"]
 ZmN:Def K mg "_law_pen" mf ["_law_script"]
 ZmR:Def K mg "_law_draw" ml ["_law_pen_here","_law_many"]
 ZmT:Def K mg "_law_day" jV ["_law_pen_here","_law_most"]
 ZmP:Def K mg "_law_greatest" jU ["_law_falls"]
 ZmM:Def K mg "_law_prices" jT ["_law_pen_here"]
 ZmV:Def K mg "_law_asked" jW ["_law_pen_here"]
 ZmO:Def K mg "_law_order" mh ["_law_shop","_law_pieces"]
 ZmK:Def K mg "_law_rest_cost" md ["_law_shop","_law_rest"]
 ZmQ:Def K mg "_law_end" mj ["_law_shop","_law_rest"]
 ZmU:Def K mg "_law_bottom" mq ["_law_falls","_law_t"]
 ZmJ:Def K mg "_law_share" ma ["_law_top","_law_bottom_here"]
 ZmS:Def K mg "_law_day_on" mn ["_law_asked_here","_law_known","_law_t","_law_lies","_law_way"]
 ZdV:Def K mg "_law_on" mi ["_law_asked_here","_law_known","_law_t","_law_stock","_law_way"]
 ZmL:Def K mg "_law_refused" me ["_law_shop","_law_falls","_law_days","_law_stock"]
 ZmI:Def K mg "_law_tight_right" l9 ["_law_pen_here","_law_shop","_law_falls"]
 Zmy:Def K mg "law" iL ["_law_script"]
 Zfb:∃ C D a0 a1 a2 a3 a4 a5 a6:Addr,mg "NoStand"=some (.ref C)/\mg "ShopError"=some (.ref D)/\mg "NoBack"=some (.ref a0)/\mg "NoFall"=some (.ref a1)/\mg "NoLevel"=some (.ref a2)/\mg "NoMean"=some (.ref a3)/\mg "NoRow"=some (.ref a4)/\mg "NoShare"=some (.ref a5)/\mg "NoText"=some (.ref a6)/\Exc K C D [a0,a1,a2,a3,a4,a5,a6]
theorem ZlQ {K:PySem.W.Frag} {mg:Str->Option Value} {h:Heap} {C D a0 a1 a2 a3 a4 a5 a6:Addr} (X:K.In h) (G:h.Ns mainGlobals mg)
  (c:PySem.W.nsIn K mainGlobals "NoStand"=some (some (.ref C))) (d:PySem.W.nsIn K mainGlobals "ShopError"=some (some (.ref D)))
  (z0:PySem.W.nsIn K mainGlobals "NoBack"=some (some (.ref a0))) (z1:PySem.W.nsIn K mainGlobals "NoFall"=some (some (.ref a1))) (z2:PySem.W.nsIn K mainGlobals "NoLevel"=some (some (.ref a2))) (z3:PySem.W.nsIn K mainGlobals "NoMean"=some (some (.ref a3))) (z4:PySem.W.nsIn K mainGlobals "NoRow"=some (some (.ref a4))) (z5:PySem.W.nsIn K mainGlobals "NoShare"=some (some (.ref a5))) (z6:PySem.W.nsIn K mainGlobals "NoText"=some (some (.ref a6)))
  (q:fx K C gM "ValueError.__new__"=true) (q2:fx K D gM "ValueError.__new__"=true) (u:m7 K C D=true) (v:PySem.W.kitOne K (.ref C) (.type "ValueError")=some true) (y:PySem.W.kitAny K (.ref C) [.ref a0,.ref a1,.ref a2,.ref a3,.ref a4,.ref a5,.ref a6]=some false) :
  ∃ C D a0 a1 a2 a3 a4 a5 a6:Addr,mg "NoStand"=some (.ref C)/\mg "ShopError"=some (.ref D)/\mg "NoBack"=some (.ref a0)/\mg "NoFall"=some (.ref a1)/\mg "NoLevel"=some (.ref a2)/\mg "NoMean"=some (.ref a3)/\mg "NoRow"=some (.ref a4)/\mg "NoShare"=some (.ref a5)/\mg "NoText"=some (.ref a6)/\Exc K C D [a0,a1,a2,a3,a4,a5,a6] :=
 ⟨C,D,a0,a1,a2,a3,a4,a5,a6,PySem.W.mg_of X G c,PySem.W.mg_of X G d,PySem.W.mg_of X G z0,PySem.W.mg_of X G z1,PySem.W.mg_of X G z2,PySem.W.mg_of X G z3,PySem.W.mg_of X G z4,PySem.W.mg_of X G z5,PySem.W.mg_of X G z6,Zjt X q q2 u v y⟩
theorem Zft {K:PySem.W.Frag} {mg:Str->Option Value} {h:Heap} (X:K.In h) (G:h.Ns mainGlobals mg)
  (z_len:PySem.W.nsIn K mainGlobals "len"=some none)
  (z_abs:PySem.W.nsIn K mainGlobals "abs"=some none)
  (z_max:PySem.W.nsIn K mainGlobals "max"=some none)
  (z_min:PySem.W.nsIn K mainGlobals "min"=some none)
  (z_repr:PySem.W.nsIn K mainGlobals "repr"=some none)
  (z_int:PySem.W.nsIn K mainGlobals "int"=some none)
  (z_list:PySem.W.nsIn K mainGlobals "list"=some none)
  (z_tuple:PySem.W.nsIn K mainGlobals "tuple"=some none)
  (z_range:PySem.W.nsIn K mainGlobals "range"=some none)
  (z_isinstance:PySem.W.nsIn K mainGlobals "isinstance"=some none)
  (z_sum:PySem.W.nsIn K mainGlobals "sum"=some none)
  (z_enumerate:PySem.W.nsIn K mainGlobals "enumerate"=some none)
  (z_ValueError:PySem.W.nsIn K mainGlobals "ValueError"=some none)
  (z_reversed:PySem.W.nsIn K mainGlobals "reversed"=some none)
  {t_TOP:Tok} (z_TOP:PySem.W.nsIn K mainGlobals "TOP"=some (some (.int 0 t_TOP)))
  {t_DEPTH:Tok} (z_DEPTH:PySem.W.nsIn K mainGlobals "DEPTH"=some (some (.int 1 t_DEPTH)))
  {t_START:Tok} (z_START:PySem.W.nsIn K mainGlobals "START"=some (some (.int 2 t_START)))
  {t_PIECE:Tok} (z_PIECE:PySem.W.nsIn K mainGlobals "PIECE"=some (some (.int 3 t_PIECE)))
  {t_KEEP:Tok} (z_KEEP:PySem.W.nsIn K mainGlobals "KEEP"=some (some (.int 4 t_KEEP)))
  {t_LACK:Tok} (z_LACK:PySem.W.nsIn K mainGlobals "LACK"=some (some (.int 5 t_LACK)))
  {t_LOST:Tok} (z_LOST:PySem.W.nsIn K mainGlobals "LOST"=some (some (.int 6 t_LOST)))
  {t_BACK:Tok} (z_BACK:PySem.W.nsIn K mainGlobals "BACK"=some (some (.int 7 t_BACK)))
  {t_LATE:Tok} (z_LATE:PySem.W.nsIn K mainGlobals "LATE"=some (some (.int 8 t_LATE)))
  (z_common_divisor:Def K mg "common_divisor" l5 ["one","other"])
  (z_share:Def K mg "share" lU ["top","bottom"])
  (z_greatest_seen:Def K mg "greatest_seen" jQ ["day"])
  (z_next_stock:Def K mg "next_stock" lW ["shop","level","fall"])
  (z_day_cost:Def K mg "day_cost" lZ ["shop","level","fall"])
  (z_end_cost:Def K mg "end_cost" lY ["shop","stock"])
  (z_cheapest_from:Def K mg "cheapest_from" l7 ["shop","low","by_level","scale"])
  (z_free_from:Def K mg "free_from" jR ["shop","falls","t"])
  (z_ask_free:Def K mg "ask_free" l8 ["shop","falls","stock"])
  (z_scale_of:Def K mg "scale_of" lV ["days"])
  (z_weights_together:Def K mg "weights_together" lT ["days"])
  (z_weighed_day:Def K mg "weighed_day" jN ["shop","weights","stock"])
  (z_weighed_end:Def K mg "weighed_end" jM ["shop","weights","stock"])
  (z_weighed_ahead:Def K mg "weighed_ahead" jO ["day","ahead","level"])
  (z_counted_sums:Def K mg "counted_sums" l0 ["shop","falls","days","ahead","low"])
  (z_least_counted:Def K mg "least_counted" jP ["falls","t","stock"])
  (z_end_ahead:Def K mg "end_ahead" jS ["shop","falls","orders","stock"])
  (z_short_days:Def K mg "short_days" iK ["shop","falls","days","stock"])
  (z_least_late:Def K mg "least_late" lX ["shop","falls","days","stock"])
  (z__law_pen:Def K mg "_law_pen" mf ["_law_script"])
  (z__law_draw:Def K mg "_law_draw" ml ["_law_pen_here","_law_many"])
  (z__law_day:Def K mg "_law_day" jV ["_law_pen_here","_law_most"])
  (z__law_greatest:Def K mg "_law_greatest" jU ["_law_falls"])
  (z__law_prices:Def K mg "_law_prices" jT ["_law_pen_here"])
  (z__law_asked:Def K mg "_law_asked" jW ["_law_pen_here"])
  (z__law_order:Def K mg "_law_order" mh ["_law_shop","_law_pieces"])
  (z__law_rest_cost:Def K mg "_law_rest_cost" md ["_law_shop","_law_rest"])
  (z__law_end:Def K mg "_law_end" mj ["_law_shop","_law_rest"])
  (z__law_bottom:Def K mg "_law_bottom" mq ["_law_falls","_law_t"])
  (z__law_share:Def K mg "_law_share" ma ["_law_top","_law_bottom_here"])
  (z__law_day_on:Def K mg "_law_day_on" mn ["_law_asked_here","_law_known","_law_t","_law_lies","_law_way"])
  (z__law_on:Def K mg "_law_on" mi ["_law_asked_here","_law_known","_law_t","_law_stock","_law_way"])
  (z__law_refused:Def K mg "_law_refused" me ["_law_shop","_law_falls","_law_days","_law_stock"])
  (z__law_tight_right:Def K mg "_law_tight_right" l9 ["_law_pen_here","_law_shop","_law_falls"])
  (z_law:Def K mg "law" iL ["_law_script"])
  (z_err:∃ C D a0 a1 a2 a3 a4 a5 a6:Addr,mg "NoStand"=some (.ref C)/\mg "ShopError"=some (.ref D)/\mg "NoBack"=some (.ref a0)/\mg "NoFall"=some (.ref a1)/\mg "NoLevel"=some (.ref a2)/\mg "NoMean"=some (.ref a3)/\mg "NoRow"=some (.ref a4)/\mg "NoShare"=some (.ref a5)/\mg "NoText"=some (.ref a6)/\Exc K C D [a0,a1,a2,a3,a4,a5,a6])
  : Txt K mg:=⟨PySem.W.mg_none_of X G z_len,PySem.W.mg_none_of X G z_abs,PySem.W.mg_none_of X G z_max,PySem.W.mg_none_of X G z_min,PySem.W.mg_none_of X G z_repr,PySem.W.mg_none_of X G z_int,PySem.W.mg_none_of X G z_list,PySem.W.mg_none_of X G z_tuple,PySem.W.mg_none_of X G z_range,PySem.W.mg_none_of X G z_isinstance,PySem.W.mg_none_of X G z_sum,PySem.W.mg_none_of X G z_enumerate,PySem.W.mg_none_of X G z_ValueError,PySem.W.mg_none_of X G z_reversed,⟨_,PySem.W.mg_of X G z_TOP⟩,⟨_,PySem.W.mg_of X G z_DEPTH⟩,⟨_,PySem.W.mg_of X G z_START⟩,⟨_,PySem.W.mg_of X G z_PIECE⟩,⟨_,PySem.W.mg_of X G z_KEEP⟩,⟨_,PySem.W.mg_of X G z_LACK⟩,⟨_,PySem.W.mg_of X G z_LOST⟩,⟨_,PySem.W.mg_of X G z_BACK⟩,⟨_,PySem.W.mg_of X G z_LATE⟩,z_common_divisor,z_share,z_greatest_seen,z_next_stock,z_day_cost,z_end_cost,z_cheapest_from,z_free_from,z_ask_free,z_scale_of,z_weights_together,z_weighed_day,z_weighed_end,z_weighed_ahead,z_counted_sums,z_least_counted,z_end_ahead,z_short_days,z_least_late,z__law_pen,z__law_draw,z__law_day,z__law_greatest,z__law_prices,z__law_asked,z__law_order,z__law_rest_cost,z__law_end,z__law_bottom,z__law_share,z__law_day_on,z__law_on,z__law_refused,z__law_tight_right,z_law,z_err⟩
theorem Zm8 (ns:List Int) (a:Nat) (h:ns≠[]):∃ z:Int,bf (ns.map V.int) ((a:Int) % ((ns.map V.int).length:Nat))=some (.int z):=by
 have hl:0 < ns.length:=List.length_pos_iff.mpr h
 have hl':(ns.map V.int).length=ns.length:=List.length_map ..
 have e:(a:Int) % ((ns.map V.int).length:Nat)=((a % ns.length:Nat):Int):=by rw [hl']; omega
 have hlt:a % ns.length < ns.length:=Nat.mod_lt _ hl
 rw [e]
 exact ⟨ns[a % ns.length],fq (by rw [List.getElem?_map,List.getElem?_eq_getElem hlt]; rfl)⟩
section
variable {P:Program} {w:World} {K:PySem.W.Frag} {mg:Str->Option Value} {base:Heap}
theorem ZhO (T:Txt K mg):Callee P w K mg base "_law_pen" 1 ["_law_script"] (Zf0 K):=by
 refine T.ZmN.ok Zgp (λvs H Q E h=>?_) (λf cdv A outer s H vs Q E hr h=>?_)
 ·obtain ⟨a,ns,rfl,_⟩:=h
  rfl
 ·obtain ⟨a,ns,rfl,hS,hlen,k⟩:=h
  have hu:=fL hr
  refine ⟨_,(eh (fy (Zca (bx (fE (Zng) rfl T.Zct boot_list (bx (Zb8 Za2 (pv 0) Zb4 (Zb3 bK)) cB)) (bx bK (bx bK cB)))))),?_⟩
  refine ⟨_,rfl,63,rfl,a,_,rfl,hS,λq hq=>⟨q,_,rfl,Or.inl (SqL.of bw),λc hc=>⟨by show 3<=sizeLine; decide,λp hp=>?_⟩⟩⟩
  have hcut:eU (ns.map V.int) none (some 63)=ns.map V.int:=by
   unfold eU
   have e:HT.aA (ns.map V.int).length (ns.map V.int).length (some 63)=(ns.map V.int).length:=by
    have q:=HT.mr (ns.map V.int).length (ns.map V.int).length 63
    rw [List.length_map] at q ⊢
    exact q.trans (Nat.min_eq_right hlen)
   rw [e]
   show ((ns.map V.int).drop 0).take ((ns.map V.int).length - 0)=_
   rw [List.drop_zero,Nat.sub_zero,List.take_length]
  have s1:Same H (upd H q (.lst (eU (ns.map V.int) none (some 63)))):=(Same.refl _).new hq
  have s2:=s1.new (o:=.lst (eU (ns.map V.int) none (some 63))) hc
  have s3:=s2.new (o:=.lst [.ref c,.int 0,.int 0]) hp
  have npc:c≠p:=λz=>by
   rw [<- z,bw] at hp
   cases hp
  refine k p c _ (s2.free hp) ⟨⟨0,0,bw,Nat.le_refl _,Int.le_refl _⟩,?_,hlen,npc⟩ s3
  rw [au npc,bw,hcut]
theorem ZnM {z a:Int} (h3:0<=a) (h4:a<=500000):(z % 2147483629+50021 * a+307).natAbs < 2 ^ 64:=by
 have:=Int.emod_nonneg z (by decide:(2147483629:Int)≠0)
 have:=Int.emod_lt_of_pos z (by decide:(0:Int) < 2147483629)
 omega
theorem ZhQ (T:Txt K mg):Callee P w K mg base "_law_draw" 1 ["_law_pen_here","_law_many"] ZaU:=by
 refine T.ZmR.ok iH (λvs H Q E h=>?_) (λf cdv A outer s H vs Q E hr h=>?_)
 ·obtain ⟨p,c,ns,m,most,rfl,_⟩:=h
  rfl
 ·obtain ⟨p,c,ns,m,most,rfl,hP,hm,h0,h1,k⟩:=h
  have hu:=fL hr
  refine ⟨_,(cY (gX (ka fg (ff fj (pv 0) bK (λ_ _=>rfl)) bK (nomark _)) (cY (aM (i:=2) iH.nd rfl (Or.inl rfl) (cm gw (ff fj (pv 0) bK (λ_ _=>rfl)) (pv 1)))
 (cY (fA (cm qm (ff fj (pv 0) bK (λ_ _=>rfl)) (pv 1)) (kc (pv 0) bK iF))
 (eh (fy (pv 2))))) gW)
 (cY (aM (i:=3) iH.nd rfl (Or.inl rfl) (ff fj (pv 0) bK (λ_ _=>rfl)))
 (cY (fA (cm g9 (pv 3) bK) (kc (pv 0) bK iF))
 (cY (aM (i:=4) iH.nd rfl (Or.inl rfl) (cm g9 (cm qj bK (pv 3)) bK))
 (cY (PS.join (gX (ka fg (a9 (eX) rfl T.eM boot_len (bx (ff fj (pv 0) bK (λ_ _=>rfl)) cB)) bK (nomark _)) (eh (aM (i:=4) iH.nd rfl (Or.inl rfl) (ff fj (ff fj (pv 0) bK (λ_ _=>rfl)) (cm gw (pv 3) (a9 (eX) rfl T.eM boot_len (bx (ff fj (pv 0) bK (λ_ _=>rfl)) cB))) (λ_ _=>rfl)))) gW))
 (cY (gX (PT.join (PW.pt (Zb0 (ka g8 (pv 3) (a9 (eX) rfl T.eM boot_len (bx (ff fj (pv 0) bK (λ_ _=>rfl)) cB)) (nomark _)) (ZbZ (ka ZhH (a9 (jl) rfl T.iX boot_abs (bx (pv 4) cB)) (cm qi bK bK) (nomark _)))))) (cY (fA (cm qm (a9 (jl) rfl T.iX boot_abs (bx (pv 4) cB)) (pv 1)) (kc (pv 0) bK iF))
 (eh (fy (cm gw (a9 (jl) rfl T.iX boot_abs (bx (pv 4) cB)) (pv 1))))) gW)
 (cY (aM (i:=5) iH.nd rfl (Or.inl rfl) (cm gw (cm qi (cm g9 (cm g9 (cm gw (pv 4) bK) (cm qj bK (pv 3))) bK) bK) bK))
 (eh (fy (cm gw (cm qm (cm gw (cm qj (pv 5) (cm g9 (cm g9 (cm gw (pv 5) bK) (pv 3)) bK)) bK) bK) (pv 1))))))))))),?_⟩
  obtain ⟨⟨a,l,hd,ha,hl⟩,hc,hn,npc⟩:=hP
  have hd':H p=some (.lst [.ref c,.int a,.int l]):=hd
  have x2:bf [V.ref c,.int (a:Int),.int l] 2=some (.int l):=su
  have x1:bf [V.ref c,.int (a:Int),.int l] 1=some (.int (a:Int)):=sw
  refine ⟨_,rfl,p,_,_,_,rfl,rfl,SqL.of hd',x2,_,_,rfl,rfl,_,rfl,?_⟩
  refine nR (λhz=>?_) (λhz=>?_)
  ·refine ⟨_,rfl,p,_,_,_,rfl,rfl,SqL.of hd',x2,_,rfl,_,_,rfl,rfl,h0,?_⟩
   refine ⟨_,rfl,p,_,_,_,rfl,rfl,SqL.of hd',x2,_,rfl,_,_,rfl,rfl,⟨h0,h1⟩,_,rfl,p,_,2,2,rfl,rfl,hd',rfl,?_⟩
   refine ⟨_,rfl,k _ _ (Int.emod_nonneg _ (by omega)) (Int.emod_lt_of_pos _ h0) ⟨⟨a,l / most,bw,by omega,Int.ediv_nonneg hl (by omega)⟩,by rw [au npc]; exact hc,hn,npc⟩ Kept.refl.pen⟩
  ·refine ⟨_,rfl,p,_,_,_,rfl,rfl,SqL.of hd',x1,?_⟩
   refine ⟨_,rfl,_,_,rfl,rfl,_,rfl,p,_,1,1,rfl,rfl,hd',rfl,?_⟩
   have hd1:(upd H p (.lst ([V.ref c,.int (a:Int),.int l].set 1 (.int ((a:Int)+1))))) p=some (.lst [.ref c,.int ((a:Int)+1),.int l]):=bw
   have hc1:(upd H p (.lst ([V.ref c,.int (a:Int),.int l].set 1 (.int ((a:Int)+1))))) c=some (.lst (ns.map V.int)):=by
    rw [au npc]
    exact hc
   have k1:Kept p H (upd H p (.lst ([V.ref c,.int (a:Int),.int l].set 1 (.int ((a:Int)+1))))):=Kept.refl.pen
   generalize upd H p (.lst ([V.ref c,.int (a:Int),.int l].set 1 (.int ((a:Int)+1))))=H1 at hd1 hc1 k1
   have y0:bf [V.ref c,.int ((a:Int)+1),.int l] 0=some (.ref c):=kP
   refine ⟨_,rfl,_,_,rfl,rfl,.inl ⟨by decide,by decide⟩,_,_,rfl,rfl,?_⟩
   refine ⟨λσ' H'=>∃ (z:Int),σ'=[some (.ref p),some (.int most),none,some (.int a),some (.int z),none]/\H' p=some (.lst [.ref c,.int ((a:Int)+1),.int l])/\H' c=some (.lst (ns.map V.int))/\Kept p H H',?_,?_⟩
   ·refine ⟨_,rfl,p,_,_,_,rfl,rfl,SqL.of hd1,y0,c,_,rfl,.inl (SqL.of hc1),_,_,rfl,rfl,_,rfl,?_⟩
    refine nR (λhne=>?_) (λ_=>?_)
    ·have hpos:0 < (((ns.map V.int).length:Nat):Int):=of_decide_eq_true hne
     have hne':ns≠[]:=by
      rintro rfl
      cases hpos
     obtain ⟨z,hz2⟩:=Zm8 ns a hne'
     refine ⟨_,rfl,p,_,_,_,rfl,rfl,SqL.of hd1,y0,_,rfl,_,rfl,p,_,_,_,rfl,rfl,SqL.of hd1,y0,c,_,rfl,.inl (SqL.of hc1),_,_,rfl,rfl,hpos,c,_,_,_,rfl,rfl,SqL.of hc1,hz2,?_⟩
     exact ⟨z,rfl,hd1,hc1,k1⟩
    ·exact ⟨_,rfl,hd1,hc1,k1⟩
   ·rintro σ2 H2 ⟨z,rfl,hd2,hc2,k2⟩
    refine ⟨λ_ H'=>H'=H2,?_,?_⟩
    ·refine ⟨_,rfl,_,rfl,p,_,_,_,rfl,rfl,SqL.of hd2,y0,c,_,rfl,.inl (SqL.of hc2),_,_,rfl,rfl,_,rfl,?_⟩
     refine nR (λ_=>?_) (λ_=>rfl)
     exact ⟨_,rfl,z,rfl,_,_,rfl,rfl,⟨by decide,by decide,by decide⟩,_,_,rfl,rfl,_,rfl,rfl⟩
    ·rintro b H3 rfl
     have ab:0<=(if z < 0 then -z else z):=by split <;> omega
     refine nR (λ_=>?_) (λ_=>?_)
     ·refine ⟨_,rfl,z,rfl,_,rfl,_,_,rfl,rfl,⟨h0,h1⟩,_,rfl,p,_,2,2,rfl,rfl,hd2,rfl,?_⟩
      refine ⟨_,rfl,z,rfl,_,rfl,_,_,rfl,rfl,h0,?_⟩
      refine k _ _ (Int.emod_nonneg _ (by omega)) (Int.emod_lt_of_pos _ h0) ⟨⟨a+1,_,bw,by omega,Int.ediv_nonneg ab (by omega)⟩,by rw [au npc]; exact hc2,hn,npc⟩ k2.pen
     ·refine ⟨_,rfl,_,_,rfl,rfl,(by show (0:Int) < 2147483629; decide),_,rfl,_,_,rfl,rfl,.inl ⟨by decide,by decide⟩,_,_,rfl,rfl,_,_,rfl,rfl,_,_,rfl,rfl,⟨by decide,by decide,ZnM (by omega) (by omega)⟩,_,_,rfl,rfl,(by show (0:Int) < 2147483647; decide),?_⟩
      have m0:0<=((z % 2147483629+50021 * (a:Int)+307) ^ (3:Int).toNat) % 2147483647:=Int.emod_nonneg _ (by decide)
      have m1:((z % 2147483629+50021 * (a:Int)+307) ^ (3:Int).toNat) % 2147483647 < 2147483647:=Int.emod_lt_of_pos _ (by decide)
      refine ⟨_,rfl,_,rfl,_,_,rfl,rfl,(by show (0:Int) < 65519; decide),_,rfl,_,_,rfl,rfl,_,_,rfl,rfl,_,_,rfl,rfl,.inl ⟨Int.lt_of_lt_of_le (by decide) m0,Int.lt_trans m1 (by decide)⟩,?_⟩
      refine ⟨_,_,rfl,rfl,(by show (0:Int) < 2147483587; decide),?_⟩
      refine ⟨_,_,rfl,rfl,⟨by decide,by decide⟩,_,rfl,_,_,rfl,rfl,h0,?_⟩
      exact k _ _ (Int.emod_nonneg _ (by omega)) (Int.emod_lt_of_pos _ h0) ⟨⟨a+1,l,hd2,by omega,hl⟩,hc2,hn,npc⟩ k2
end
end My
set_option Elab.async false
set_option linter.all false
set_option maxRecDepth 100000
namespace My
open PySem PySem.Spec PyProof.Rows L2
section
variable {cn:Addr×List Int} {P:Program} {w:World} {K:PySem.W.Frag} {mg:Str->Option Value} {base:Heap}
noncomputable def oZ:List Sl->Tr Bool :=
 (kU (aa 1))
noncomputable def qU:List Sl->Tr Ou :=
 (ip 0 1 (ae (aa 1) (ae (ad gA (aa 0) (aa 1)) al)))
noncomputable def nz:List Sl->Tr Re:=bp 2 0
 (ao (ip 0 1 (ae (ba jt (ae (aa 0) al)) (ae (ba jt (ae (aa 1) al)) al)))
 (ao (dL oZ qU 100000)
 (eD 0)))
theorem ZnC (T:Txt K mg):ACal (bD cn) P w K mg base "common_divisor" 1 ["one","other"] nz:=bQ T.ZmG pG rfl λf cdv A outer sh H E hr=>by
 exact (ap (ot (mJ (i:=0) (j:=1) rfl pG.nd rfl rfl (by decide) rfl rfl (ag (bh (t:=aW) (a9 jl rfl T.iX boot_abs (ag (ac (pv 0)) am)) o4) (ag (bh (t:=aW) (a9 jl rfl T.iX boot_abs (ag (ac (pv 1)) am)) o4) am)) rfl))
 (ap (ZeD 100000 PassesOwn.never (sr (ac (pv 1)))
  (aK (ot (mJ (i:=0) (j:=1) rfl pG.nd rfl rfl (by decide) rfl rfl (ag (ac (pv 1)) (ag (aj ql o0 (ac (pv 0)) (ac (pv 1))) am)) rfl))))
 (aK (il (pv 0)))))
noncomputable def j7:List Sl->Tr PyData :=
 (aa 0)
noncomputable def kg:List Sl->Tr Bool :=
 (ce (ad (cO λi j=>decide (i > j)) (aa 1) (aC (.int 0))))
noncomputable def kz:List Sl->Tr Re:=bp 1 0
 (bX (ba iZ (ae (cg (jv (fv (aa 0)) 2 [] (bv (av (ai 0) (av (ai 1) br))) kg j7)) al)))
theorem Zeg (T:Txt K mg):ACal (bD cn) P w K mg base "greatest_seen" 1 ["day"] kz:=bQ T.Zmz Zgl rfl λf cdv A outer sh H E hr=>by
 exact (aK (b9 (bh (t:=aW) (a9 (Zeb rfl) rfl T.hU boot_max (ag (cQ (sB (qc lp ["fall","weight"] [] rfl (gN (gv rfl rfl T.gz (ac (pv 0)))) (λb=>(dG rfl (bC (aU (aT (i:=0) (show ((bN lp ["fall","weight"] [])).Nodup by decide +kernel) rfl (Or.inl rfl))) (bC (aU (aT (i:=1) (show ((bN lp ["fall","weight"] [])).Nodup by decide +kernel) rfl (Or.inl rfl))) dF)) (bA (bA dC)))) (λb=>(cF fg dt (ac (pv 1)) ak (nomark _))) (λb=>(ac (pv 0))) rfl (show BlkOk lp (az jQ) _ [] from ⟨rfl,by decide +kernel,by decide +kernel,by decide +kernel,by decide +kernel⟩)) (gZ (dN (cy (by decide)) (dN (cy (by decide)) g5))))) am)) Zaq)))
noncomputable def nc:List Sl->Tr Re:=bp 3 0
 (bX (ba gC (ae (ad bI (aa 1) (aa 2)) (ae (gh (ad aE (aa 0) (aC (.int 1)))) al))))
theorem Znp (T:Txt K mg):ACal (bD cn) P w K mg base "next_stock" 1 ["shop","level","fall"] nc:=bQ T.Zmw Zgj rfl λf cdv A outer sh H E hr=>by
 exact (aK (b9 (bh (t:=aW) (a9 (kM rfl) rfl T.hU boot_max (ag (aj bU bR (ac (pv 1)) (ac (pv 2))) (ag (jq (bn bj bi (ac (pv 0)) (dX rfl T.Zc9) (λ_ _=>rfl))) am))) jD)))
noncomputable def kA:List Sl->Tr Re:=bp 2 0
 (ao (dk (ce (ad (cO λi j=>decide (i > j)) (aa 1) (aC (.int 0))))
  (bX (ad bz (gh (ad aE (aa 0) (aC (.int 7)))) (aa 1)))
  dh)
 (bX (ad bz (ad aE (aa 0) (aC (.int 8))) (gh (aa 1)))))
theorem Zny (T:Txt K mg):ACal (bD cn) P w K mg base "end_cost" 1 ["shop","stock"] kA:=bQ T.ZmC Zgn rfl λf cdv A outer sh H E hr=>by
 exact (ap (dW (cF fg dt (ac (pv 1)) ak (nomark _))
 (aK (b9 (aj bV bS (jq (bn bj bi (ac (pv 0)) (dX rfl T.Zjk) (λ_ _=>rfl))) (ac (pv 1)))))
 dU)
 (aK (b9 (aj bV bS (bn bj bi (ac (pv 0)) (dX rfl T.Zjh) (λ_ _=>rfl)) (jq (ac (pv 1)))))))
noncomputable def ZcO:List Sl->Tr Ou :=
 (ao (aS 7 (cb (ae (ad aE (aa 2) (ad bI (aa 6) (aa 1))) (ae (aa 6) al))))
 (ao (iq (bv (av (ai 8) (av (ai 9) br))) (ba gB (ae (aa 7) (ae (cb (ae (ad aO (ad bz (aa 3) (ad aE (aa 0) (aC (.int 2)))) (ad aE (aa 5) (aC (.int 0)))) (ae (ad aE (aa 5) (aC (.int 1))) al))) al))))
 (ao (jw 4 (cb (ae (ad bI (aa 8) (ad bz (ad bz (aa 3) (ad aE (aa 0) (aC (.int 3)))) (aa 6))) (ae (aa 9) al))))
 (aS 5 (ba gB (ae (aa 7) (ae (aa 5) al)))))))
noncomputable def nA:List Sl->Tr Re:=bp 4 6
 (ao (gO 4 (eE al))
 (ao (aS 5 (cb (ae (ad aE (aa 2) (gh (aC (.int 1)))) (ae (ad aE (aa 0) (aC (.int 0))) al))))
 (ao (c9 (sK (ae (aa 1) (ae (ad aO (ad aE (aa 0) (aC (.int 0))) (aC (.int 1))) al))) (ai 6) ZcO)
 (ao (kX 4)
 (eD 4)))))
theorem ZnD (T:Txt K mg):ACal (bD cn) P w K mg base "cheapest_from" 1 ["shop","low","by_level","scale"] nA:=bQ T.ZmH gp rfl λf cdv A outer sh H E hr=>by
 exact (ap (kQ (aM (i:=4) gp.nd rfl (Or.inl rfl) (fr am)))
 (ap (aZ (aM (i:=5) gp.nd rfl (Or.inl rfl) (cP (ag (bn bj bi (ac (pv 2)) (jq ak) (λ_ _=>rfl)) (ag (bn bj bi (ac (pv 0)) (dX rfl T.nX) (λ_ _=>rfl)) am)))))
 (ap (dE PassesOwn.never rfl (Zn7 (Zb5 rfl T.Zcs (fE Zd8 rfl T.eu boot_range (ag (ac (pv 1)) (ag (aj bc bb (bn bj bi (ac (pv 0)) (dX rfl T.nX) (λ_ _=>rfl)) ak) am))))) (aU (aT (i:=6) gp.nd rfl (Or.inl rfl)))
  (ap (aZ (aM (i:=7) gp.nd rfl (Or.inl rfl) (cP (ag (bn bj bi (ac (pv 2)) (aj bU bR (ac (pv 6)) (ac (pv 1))) (λ_ _=>rfl)) (ag (ac (pv 6)) am)))))
 (ap (kR (fA (bh (t:=aW) (a9 (Zd9 hr rfl) rfl T.mZ boot_min (ag (ac (pv 7)) (ag (cP (ag (aj bc bb (aj bV bS (ac (pv 3)) (bn bj bi (ac (pv 0)) (dX rfl T.Zjf) (λ_ _=>rfl))) (bn bj bi (ac (pv 5)) ak (λ_ _=>rfl))) (ag (bn bj bi (ac (pv 5)) ak (λ_ _=>rfl)) am))) am))) Zao) (dG rfl (bC (aU (aT (i:=8) gp.nd rfl (Or.inl rfl))) (bC (aU (aT (i:=9) gp.nd rfl (Or.inl rfl))) dF)) (bA (bA dC)))))
 (ap (sA (iT (qe PySem.F.plainAttrs_list PySem.F.slot_list_append PySem.F.type_list_append qz (pv 4) (bx (cP (ag (aj bU bR (ac (pv 8)) (aj bV bS (aj bV bS (ac (pv 3)) (bn bj bi (ac (pv 0)) (dX rfl T.Zc8) (λ_ _=>rfl))) (ac (pv 6)))) (ag (ac (pv 9)) am))) cB))))
 (aK (aZ (aM (i:=5) gp.nd rfl (Or.inl rfl) (bh (t:=aW) (a9 (Zd9 hr rfl) rfl T.mZ boot_min (ag (ac (pv 7)) (ag (ac (pv 5)) am))) Zao))))))))
 (ap (ZeG (iT (Zcb PySem.F.plainAttrs_list PySem.F.slot_list_reverse PySem.F.type_list_reverse Zcu (pv 4))))
 (aK (il (pv 4)))))))
noncomputable def nK:List Sl->Tr Ou :=
 (lg kE 1 (ba cr (ae (aa 2) al)))
noncomputable def gD:List Sl->Tr Re:=bp 1 2
 (ao (aS 1 (aC (.int 1)))
 (ao (c9 (e8 (aa 0)) (ai 2) nK)
 (eD 1)))
theorem kN (T:Txt K mg):ACal (bD cn) P w K mg base "scale_of" 1 ["days"] gD:=bQ T.Zmu lN rfl λf cdv A outer sh H E hr=>by
 exact (ap (aZ (aM (i:=1) lN.nd rfl (Or.inl rfl) ak))
 (ap (dE PassesOwn.never rfl (fP (ac (pv 0))) (aU (aT (i:=2) lN.nd rfl (Or.inl rfl)))
  (aK (ZeI Zfk (Zb2 (i:=1) lN.nd rfl (Or.inl rfl) (bh (t:=aW) (a9 (eW rfl) rfl T.eK boot_sum (ag (ac (pv 2)) am)) eF) (pip ZiX)))))
 (aK (il (pv 1)))))
noncomputable def nI:List Sl->Tr Ou :=
 (lf (λi j=>i+j) 3 (ad aO (aa 4) (aa 6)) (ad bz (aa 5) (aa 7)))
noncomputable def nG:List Sl->Tr Ou :=
 (c9 (fv (aa 2)) (bv (av (ai 6) (av (ai 7) br))) nI)
noncomputable def nF:List Sl->Tr Ou :=
 (ao (gO 3 (oC iR (cg (eE (ae (aC (.int 0)) al))) (ad bI (ad aO (ba cK (ae (aa 1) al)) (ba cK (ae (aa 2) al))) (aC (.int 1)))))
 (ao (c9 (fv (aa 1)) (bv (av (ai 4) (av (ai 5) br))) nG)
 (la 3 (aS 1 (aa 3)))))
noncomputable def i5:List Sl->Tr Re:=bp 1 7
 (ao (aS 1 (cg (eE (ae (aC (.int 1)) al))))
 (ao (c9 (e8 (aa 0)) (ai 2) nF)
 (eD 1)))
theorem rZ (T:Txt K mg):ACal (bD cn) P w K mg base "weights_together" 1 ["days"] i5:=bQ T.Zmn fU rfl λf cdv A outer sh H E hr=>by
 exact (ap (aZ (aM (i:=1) fU.nd rfl (Or.inl rfl) (cQ (fr (ag ak am)))))
 (ap (dE PassesOwn.never rfl (fP (ac (pv 0))) (aU (aT (i:=2) fU.nd rfl (Or.inl rfl)))
  (ap (kQ (aM (i:=3) fU.nd rfl (Or.inl rfl) (Zn1 Zci Zfg (cQ (fr (ag ak am))) (aj bU bR (aj bc bb (bh (t:=aW) (a9 eX rfl T.eM boot_len (ag (ac (pv 1)) am)) fR) (bh (t:=aW) (a9 eX rfl T.eM boot_len (ag (ac (pv 2)) am)) fR)) ak))))
 (ap (dE PassesOwn.never rfl (gN (gv rfl rfl T.gz (ac (pv 1)))) (dG rfl (bC (aU (aT (i:=4) fU.nd rfl (Or.inl rfl))) (bC (aU (aT (i:=5) fU.nd rfl (Or.inl rfl))) dF)) (bA (bA dC)))
  (aK (dE PassesOwn.never rfl (gN (gv rfl rfl T.gz (ac (pv 2)))) (dG rfl (bC (aU (aT (i:=6) fU.nd rfl (Or.inl rfl))) (bC (aU (aT (i:=7) fU.nd rfl (Or.inl rfl))) dF)) (bA (bA dC)))
  (aK (ZnY (Zg9 (pv 3) (aj bc bb (ac (pv 4)) (ac (pv 6))) Zi6 (aj bV bS (ac (pv 5)) (ac (pv 7))) ZiW iF))))))
 (aK (sy (k:=3) (aZ (aM (i:=1) fU.nd rfl (Or.inl rfl) (ac (pv 3)))))))))
 (aK (il (pv 1)))))
noncomputable def mE:List Sl->Tr PyData :=
 (ad bz (aa 1) (ad fm (aa 2) (ad bI (aa 3) (aa 0))))
noncomputable def mQ:List Sl->Tr Bool :=
 (ce (ad (cO λi j=>decide (i > j)) (aa 1) (aC (.int 0))))
noncomputable def kn:List Sl->Tr Re:=bp 3 0
 (bX (ba cr (ae (cg (jv (fv (aa 0)) 2 [1,2] (bv (av (ai 0) (av (ai 1) br))) mQ mE)) al)))
theorem Znn (T:Txt K mg):ACal (bD cn) P w K mg base "weighed_ahead" 1 ["day","ahead","level"] kn:=bQ T.Zmq Zgi rfl λf cdv A outer sh H E hr=>by
 exact (aK (b9 (bh (t:=aW) (a9 (eW rfl) rfl T.eK boot_sum (ag (cQ (sB (qc lm ["fall","weight"] [1,2] rfl (gN (gv rfl rfl T.gz (ac (pv 0)))) (λb=>(dG rfl (bC (aU (aT (i:=0) (show ((bN lm ["fall","weight"] [1,2])).Nodup by decide +kernel) rfl (Or.inl rfl))) (bC (aU (aT (i:=1) (show ((bN lm ["fall","weight"] [1,2])).Nodup by decide +kernel) rfl (Or.inl rfl))) dF)) (bA (bA dC)))) (λb=>(cF fg dt (ac (pv 1)) ak (nomark _))) (λb=>(aj bV bS (ac (pv 1)) (ZeS (mP (fL hr) (ac (pv 2)) (aj bU bR (ac (pv 3)) (ac (pv 0))) (λ_ _=>rfl))))) rfl (show BlkOk lm (az jO) _ [1,2] from ⟨rfl,by decide +kernel,by decide +kernel,by decide +kernel,by decide +kernel⟩)) (gZ (dN (cy (by decide)) (dN (cy (by decide)) g5))))) am)) eF)))
noncomputable abbrev cN:=nw
theorem c8 (T:Txt K mg):ACal (bD cn) P w K mg base "_law_draw" 1 ["_law_pen_here","_law_many"] cN:=Zmh rfl (ZhQ T)
noncomputable def j4:List Sl->Tr PyData :=
 (aa 0)
noncomputable def ke:List Sl->Tr Bool :=
 (ce (ad (cO λi j=>decide (i > j)) (ad aE (aa 1) (aa 0)) (aC (.int 0))))
noncomputable def pY:List Sl->Tr PyData :=
 (ba iZ (ae (cg (jv (gg (ae (ba cK (ae (aa 0) al)) al)) 1 [0] (ai 0) ke j4)) al))
noncomputable def i8:List Sl->Tr Re:=bp 1 0
 (bX (ba cr (ae (cg (dJ (e8 (aa 0)) 1 [] (ai 0) pY)) al)))
theorem r6 (T:Txt K mg):ACal (bD cn) P w K mg base "_law_greatest" 1 ["_law_falls"] i8:=bQ T.ZmP Zgr rfl λf cdv A outer sh H E hr=>by
 exact (aK (b9 (bh (t:=aW) (a9 (eW rfl) rfl T.eK boot_sum (ag (cQ (im (g7 jz ["_law_one"] [] rfl (fP (ac (pv 0))) (λb=>(aU (aT (i:=0) (show ((bN jz ["_law_one"] [])).Nodup by decide +kernel) rfl (Or.inr rfl)))) (λb=>(bh (t:=aW) (a9 (Zeb rfl) rfl T.hU boot_max (ag (cQ (sB (qc (bN jz ["_law_one"] []) ["_law_fall"] [0] rfl (io (g6 rfl T.eu (ag (bh (t:=aW) (a9 eX rfl T.eM boot_len (ag (ac (pv 0)) am)) fR) am))) (λb=>(aU (aT (i:=0) (show ((bN (bN jz ["_law_one"] []) ["_law_fall"] [0])).Nodup by decide +kernel) rfl (Or.inl rfl)))) (λb=>(cF fg dt (bn bj bi (ac (pv 1)) (ac (pv 0)) (λ_ _=>rfl)) ak (nomark _))) (λb=>(ac (pv 0))) rfl (BlkOk.nest ⟨rfl,by decide +kernel,by decide +kernel,by decide +kernel,by decide +kernel⟩)) (cy (by decide)))) am)) Zaq)) rfl (show BlkOk jz (az jU) _ [] from ⟨rfl,by decide +kernel,by decide +kernel,by decide +kernel,by decide +kernel⟩)) (cy (by decide)))) am)) eF)))
noncomputable def ky:List Sl->Tr Re:=bp 2 0
 (bX (ad bz (ad aO (ad aE (aa 0) (aC (.int 2))) (ad bz (ad aE (aa 0) (aC (.int 3))) (aa 1))) (ba nU (ae (ad (cO λi j=>decide (i > j)) (aa 1) (aC (.int 0))) al))))
noncomputable def nh:List Sl->Tr Re:=bp 2 0
 (bX (ad aO (ad bz (ad aE (aa 0) (aC (.int 4))) (ba gC (ae (aa 1) (ae (aC (.int 0)) al)))) (ad bz (ad aE (aa 0) (aC (.int 5))) (ba gC (ae (ad bI (aC (.int 0)) (aa 1)) (ae (aC (.int 0)) al))))))
noncomputable def nj:List Sl->Tr Re:=bp 2 0
 (bX (ad bI (ad bz (ad aE (aa 0) (aC (.int 8))) (ba gC (ae (ad bI (aC (.int 0)) (aa 1)) (ae (aC (.int 0)) al)))) (ad bz (ad aE (aa 0) (aC (.int 7))) (ba gC (ae (aa 1) (ae (aC (.int 0)) al))))))
noncomputable def nM:List Sl->Tr Ou :=
 (aS 2 (ad bz (aa 2) (ba cr (ae (aa 3) al))))
noncomputable def nq:List Sl->Tr Re:=bp 2 2
 (ao (aS 2 (aC (.int 1)))
 (ao (c9 (e8 (dH (aa 0) (di (aa 1)) dI)) (ai 3) nM)
 (eD 2)))
theorem Znw (T:Txt K mg):ACal (bD cn) P w K mg base "_law_bottom" 1 ["_law_falls","_law_t"] nq:=bQ T.ZmU lS rfl λf cdv A outer sh H E hr=>by
 exact (ap (aZ (aM (i:=2) lS.nd rfl (Or.inl rfl) ak))
 (ap (dE PassesOwn.never rfl (fP (e7 (ac (pv 0)) (eY (ac (pv 1))) eZ)) (aU (aT (i:=3) lS.nd rfl (Or.inl rfl)))
  (aK (aZ (aM (i:=2) lS.nd rfl (Or.inl rfl) (aj bV bS (ac (pv 2)) (bh (t:=aW) (a9 (eW rfl) rfl T.eK boot_sum (ag (ac (pv 3)) am)) eF))))))
 (aK (il (pv 2)))))
noncomputable def oY:List Sl->Tr Bool :=
 (ce (ad (cO λi j=>decide (i > j)) (aa 3) (aC (.int 0))))
noncomputable def qQ:List Sl->Tr Ou :=
 (ip 2 3 (ae (aa 3) (ae (ad gA (aa 2) (aa 3)) al)))
noncomputable def kw:List Sl->Tr Re:=bp 2 2
 (ao (ip 2 3 (ae (ba jt (ae (aa 0) al)) (ae (aa 1) al)))
 (ao (dL oY qQ 100000)
 (bX (cb (ae (ad gJ (aa 0) (aa 2)) (ae (ad gJ (aa 1) (aa 2)) al))))))
theorem Znt (T:Txt K mg):ACal (bD cn) P w K mg base "_law_share" 1 ["_law_top","_law_bottom_here"] kw:=bQ T.ZmJ pH rfl λf cdv A outer sh H E hr=>by
 exact (ap (ot (mJ (i:=2) (j:=3) rfl pH.nd rfl rfl (by decide) rfl rfl (ag (bh (t:=aW) (a9 jl rfl T.iX boot_abs (ag (ac (pv 0)) am)) o4) (ag (ac (pv 1)) am)) rfl))
 (ap (ZeD 100000 PassesOwn.never (cF fg dt (ac (pv 3)) ak (nomark _))
  (aK (ot (mJ (i:=2) (j:=3) rfl pH.nd rfl rfl (by decide) rfl rfl (ag (ac (pv 3)) (ag (aj ql o0 (ac (pv 2)) (ac (pv 3))) am)) rfl))))
 (aK (b9 (cP (ag (aj mU lz (ac (pv 0)) (ac (pv 2))) (ag (aj mU lz (ac (pv 1)) (ac (pv 2))) am)))))))
noncomputable def i7:List Sl->Tr Re:=bp 2 1
 (ao (dk (ce (ad ii (aa 1) (aC (.int 0))))
  kZ
  dh)
 (ao (aS 2 (aG (aH nz (af (aa 0) (af (aa 1) ay)))))
 (ao (dk (ce (ad (cO λi j=>decide (i < j)) (aa 1) (aC (.int 0))))
  (aS 2 (gh (aa 2)))
  dh)
 (bX (cb (ae (ad gJ (aa 0) (aa 2)) (ae (ad gJ (aa 1) (aa 2)) al)))))))
theorem Zed (T:Txt K mg):ACal (bD cn) P w K mg base "share" 2 ["top","bottom"] i7:=bQ T.Zms pE rfl λf cdv A outer sh H E hr=>by
 exact (ap (dW (cF (mV hr) lA (ac (pv 1)) ak (nomark _))
 (aK ZeH)
 dU)
 (ap (aZ (aM (i:=2) pE.nd rfl (Or.inl rfl) (aN (aJ (ZnC T) (hr.mono (by decide)) rfl (ah (ac (pv 0)) (ah (ac (pv 1)) aI))))))
 (ap (dW (cF g8 dt (ac (pv 1)) ak (nomark _))
  (aK (aZ (aM (i:=2) pE.nd rfl (Or.inl rfl) (jq (ac (pv 2))))))
  dU)
 (aK (b9 (cP (ag (aj mU lz (ac (pv 0)) (ac (pv 2))) (ag (aj mU lz (ac (pv 1)) (ac (pv 2))) am))))))))
noncomputable def kB:List Sl->Tr Re:=bp 3 3
 (ao (aS 3 (aG (aH nc (af (aa 0) (af (aa 1) (af (aa 2) ay))))))
 (ao (aS 4 (ad bI (aa 3) (ad bI (aa 1) (aa 2))))
 (ao (aS 5 (sN (ce (ad (cO λi j=>decide (i > j)) (aa 3) (aC (.int 0)))) (ad bz (ad aE (aa 0) (aC (.int 4))) (aa 3)) (ad bz (ad aE (aa 0) (aC (.int 5))) (gh (aa 3)))))
 (bX (ad aO (aa 5) (ad bz (ad aE (aa 0) (aC (.int 6))) (aa 4)))))))
theorem ZnA (T:Txt K mg):ACal (bD cn) P w K mg base "day_cost" 2 ["shop","level","fall"] kB:=bQ T.ZmE lO rfl λf cdv A outer sh H E hr=>by
 exact (ap (aZ (aM (i:=3) lO.nd rfl (Or.inl rfl) (aN (aJ (Znp T) (hr.mono (by decide)) rfl (ah (ac (pv 0)) (ah (ac (pv 1)) (ah (ac (pv 2)) aI)))))))
 (ap (aZ (aM (i:=4) lO.nd rfl (Or.inl rfl) (aj bU bR (ac (pv 3)) (aj bU bR (ac (pv 1)) (ac (pv 2))))))
 (ap (aZ (aM (i:=5) lO.nd rfl (Or.inl rfl) (Zob (cF fg dt (ac (pv 3)) ak (nomark _)) (aj bV bS (bn bj bi (ac (pv 0)) (dX rfl T.Zjj) (λ_ _=>rfl)) (ac (pv 3))) (aj bV bS (bn bj bi (ac (pv 0)) (dX rfl T.Zji) (λ_ _=>rfl)) (jq (ac (pv 3)))))))
 (aK (b9 (aj bc bb (ac (pv 5)) (aj bV bS (bn bj bi (ac (pv 0)) (dX rfl T.Zjg) (λ_ _=>rfl)) (ac (pv 4)))))))))
noncomputable def pZ:List Sl->Tr PyData :=
 (aG (aH kz (af (aa 0) ay)))
noncomputable def i9:List Sl->Tr Re:=bp 3 0
 (bX (ad bI (ba cr (ae (cg (dJ (e8 (dH (aa 1) (di (aa 2)) dI)) 1 [] (ai 0) pZ)) al)) (ad aE (aa 0) (aC (.int 1)))))
theorem Zeh (T:Txt K mg):ACal (bD cn) P w K mg base "free_from" 2 ["shop","falls","t"] i9:=bQ T.ZmB Zgm rfl λf cdv A outer sh H E hr=>by
 exact (aK (b9 (aj bU bR (bh (t:=aW) (a9 (eW rfl) rfl T.eK boot_sum (ag (cQ (im (g7 oM ["day"] [] rfl (fP (e7 (ac (pv 1)) (eY (ac (pv 2))) eZ)) (λb=>(aU (aT (i:=0) (show ((bN oM ["day"] [])).Nodup by decide +kernel) rfl (Or.inl rfl)))) (λb=>(aN (aJ (Zeg T) (hr.mono (by decide)) rfl (ah (ac (pv 0)) aI)))) rfl (show BlkOk oM (az jR) _ [] from ⟨rfl,by decide +kernel,by decide +kernel,by decide +kernel,by decide +kernel⟩)) (cy (by decide)))) am)) eF) (bn bj bi (ac (pv 0)) (dX rfl T.Zc9) (λ_ _=>rfl)))))
noncomputable def pV:List Sl->Tr PyData :=
 (ad bz (aa 1) (aG (aH kA (af (aa 2) (af (ad bI (aa 3) (aa 0)) ay)))))
noncomputable def m9:List Sl->Tr Re:=bp 3 0
 (bX (ba cr (ae (cg (dJ (fv (aa 1)) 2 [0,2] (bv (av (ai 0) (av (ai 1) br))) pV)) al)))
theorem Znm (T:Txt K mg):ACal (bD cn) P w K mg base "weighed_end" 2 ["shop","weights","stock"] m9:=bQ T.Zmo Zgg rfl λf cdv A outer sh H E hr=>by
 exact (aK (b9 (bh (t:=aW) (a9 (eW rfl) rfl T.eK boot_sum (ag (cQ (im (g7 lj ["fallen","weight"] [0,2] rfl (gN (gv rfl rfl T.gz (ac (pv 1)))) (λb=>(dG rfl (bC (aU (aT (i:=0) (show ((bN lj ["fallen","weight"] [0,2])).Nodup by decide +kernel) rfl (Or.inl rfl))) (bC (aU (aT (i:=1) (show ((bN lj ["fallen","weight"] [0,2])).Nodup by decide +kernel) rfl (Or.inl rfl))) dF)) (bA (bA dC)))) (λb=>(aj bV bS (ac (pv 1)) (aN (aJ (Zny T) (hr.mono (by decide)) rfl (ah (ac (pv 2)) (ah (aj bU bR (ac (pv 3)) (ac (pv 0))) aI)))))) rfl (show BlkOk lj (az jM) _ [0,2] from ⟨rfl,by decide +kernel,by decide +kernel,by decide +kernel,by decide +kernel⟩)) (gZ (dN (cy (by decide)) (dN (cy (by decide)) g5))))) am)) eF)))
noncomputable def pX:List Sl->Tr PyData :=
 (aG (aH kz (af (aa 0) ay)))
noncomputable def kr:List Sl->Tr Re:=bp 3 0
 (bX (ad bI (aa 2) (ba cr (ae (cg (dJ (e8 (dH (aa 0) dI (di (aa 1)))) 1 [] (ai 0) pX)) al))))
theorem Zee (T:Txt K mg):ACal (bD cn) P w K mg base "least_counted" 2 ["falls","t","stock"] kr:=bQ T.Zmx Zgk rfl λf cdv A outer sh H E hr=>by
 exact (aK (b9 (aj bU bR (ac (pv 2)) (bh (t:=aW) (a9 (eW rfl) rfl T.eK boot_sum (ag (cQ (im (g7 oJ ["day"] [] rfl (fP (e7 (ac (pv 0)) eZ (eY (ac (pv 1))))) (λb=>(aU (aT (i:=0) (show ((bN oJ ["day"] [])).Nodup by decide +kernel) rfl (Or.inl rfl)))) (λb=>(aN (aJ (Zeg T) (hr.mono (by decide)) rfl (ah (ac (pv 0)) aI)))) rfl (show BlkOk oJ (az jP) _ [] from ⟨rfl,by decide +kernel,by decide +kernel,by decide +kernel,by decide +kernel⟩)) (cy (by decide)))) am)) eF))))
noncomputable def ZbW:List Sl->Tr PyData :=
 (aG (aH cN (bZ 1 (af (aa 2) ay))))
noncomputable def nk:List Sl->Tr Re:=bp 2 3
 (ao (aS 2 (ad aE (cg (eE (ae (aC (.int 0)) (ae (aC (.int 0)) (ae (aC (.int 1)) (ae (aC (.int 3)) al)))))) (aG (aH cN (bZ 0 (af (aC (.int 4)) ay))))))
 (ao (aS 3 (ad aE (cg (eE (ae (aC (.int 2)) (ae (aC (.int 4)) (ae (aC (.int 20)) (ae (aC (.int 1001)) al)))))) (aG (aH cN (bZ 0 (af (aC (.int 4)) ay))))))
 (ao (aS 4 (cg (dJ (gg (ae (aG (aH cN (bZ 0 (af (aa 1) ay)))) al)) 1 [0,3] (ai 0) ZbW)))
 (bX (ba gQ (ae (ad aO (ad aO (aa 4) (cg (eE (ae (ad aO (aC (.int 1)) (aG (aH cN (bZ 0 (af (ad bI (aa 3) (aC (.int 1))) ay))))) al)))) (ad bz (cg (eE (ae (aC (.int 0)) al))) (aa 2))) al))))))
theorem Znv (T:Txt K mg):ACal (bD cn) P w K mg base "_law_day" 2 ["_law_pen_here","_law_most"] nk:=bQ T.ZmT lR rfl λf cdv A outer sh H E hr=>by
 exact (ap (aZ (aM (i:=2) lR.nd rfl (Or.inl rfl) (bn bj bi (cQ (fr (ag ak (ag ak (ag ak (ag ak am)))))) (aN (aJ (c8 T) (hr.mono (by decide)) rfl (cx (pv 0) (ah ak aI)))) (λ_ _=>rfl))))
 (ap (aZ (aM (i:=3) lR.nd rfl (Or.inr rfl) (bn bj bi (cQ (fr (ag ak (ag ak (ag ak (ag ak am)))))) (aN (aJ (c8 T) (hr.mono (by decide)) rfl (cx (pv 0) (ah ak aI)))) (λ_ _=>rfl))))
 (ap (ZeE (p9 (i:=4) oP ["_law_k"] [0,3] rfl lR.nd rfl rfl (io (g6 rfl T.eu (ag (aN (aJ (c8 T) (hr.mono (by decide)) rfl (cx (pv 0) (ah (ac (pv 1)) aI)))) am))) (λb=>(aU (aT (i:=0) (show ((bN oP ["_law_k"] [0,3])).Nodup by decide +kernel) rfl (Or.inl rfl)))) (λb=>(aN (aJ (c8 T) (hr.mono (by decide)) rfl (cx (pv 1) (ah (ac (pv 2)) aI))))) rfl (show BlkOk oP (az jV) _ [0,3] from ⟨rfl,by decide +kernel,by decide +kernel,by decide +kernel,by decide +kernel⟩) rfl) (cy (by decide)))
 (aK (b9 (bh (t:=aW) (fE oj rfl T.mX boot_tuple (ag (aj bc bb (aj bc bb (ac (pv 4)) (cQ (fr (ag (aj bc bb ak (aN (aJ (c8 T) (hr.mono (by decide)) rfl (cx (pv 0) (ah (aj bU bR (ac (pv 3)) ak) aI))))) am)))) (aj bV bS (cQ (fr (ag ak am))) (ac (pv 2)))) am)) lB))))))
noncomputable def ZbV:List Sl->Tr PyData :=
 (aG (aH cN (bZ 1 (af (aa 2) ay))))
noncomputable def ni:List Sl->Tr Re:=bp 1 2
 (ao (aS 1 (ad aE (cg (eE (ae (aC (.int 3)) (ae (aC (.int 10)) (ae (aC (.int 60)) (ae (ad aO (ad mM (aC (.int 10)) (aC (.int 6))) (aC (.int 1))) al)))))) (aG (aH cN (bZ 0 (af (aC (.int 4)) ay))))))
 (ao (gO 2 (dJ (gg (ae (aC (.int 7)) al)) 1 [0,1] (ai 0) ZbV))
 (ao (dk (ce (ad ii (aG (aH cN (bZ 0 (af (aC (.int 3)) ay)))) (aC (.int 0))))
  (kW 2 (aC (.int 0)) (aC (.int 0)))
  dh)
 (ao (dk (ce (ad ii (aG (aH cN (bZ 0 (af (aC (.int 3)) ay)))) (aC (.int 0))))
  (kW 2 (aC (.int 3)) (ad gA (ad bz (k9 2 (aC (.int 3))) (aC (.int 3))) (aC (.int 1000001))))
  dh)
 (la 2 (bX (ba gQ (ae (aa 2) al))))))))
theorem Znu (T:Txt K mg):ACal (bD cn) P w K mg base "_law_prices" 2 ["_law_pen_here"] ni:=bQ T.ZmM pI rfl λf cdv A outer sh H E hr=>by
 exact (ap (aZ (aM (i:=1) pI.nd rfl (Or.inr rfl) (bn bj bi (cQ (fr (ag ak (ag ak (ag ak (ag (aj bc bb (aj qi Zfi ak ak) ak) am)))))) (aN (aJ (c8 T) (hr.mono (by decide)) rfl (cx (pv 0) (ah ak aI)))) (λ_ _=>rfl))))
 (ap (ZnT (p9 (i:=2) oO ["_law_k"] [0,1] rfl pI.nd rfl rfl (io (g6 rfl T.eu (ag ak am))) (λb=>(aU (aT (i:=0) (show ((bN oO ["_law_k"] [0,1])).Nodup by decide +kernel) rfl (Or.inl rfl)))) (λb=>(aN (aJ (c8 T) (hr.mono (by decide)) rfl (cx (pv 1) (ah (ac (pv 2)) aI))))) rfl (show BlkOk oO (az jT) _ [0,1] from ⟨rfl,by decide +kernel,by decide +kernel,by decide +kernel,by decide +kernel⟩) rfl) (cy (by decide)))
 (ap (dW (cF (mV hr) lA (aN (aJ (c8 T) (hr.mono (by decide)) rfl (cx (pv 0) (ah ak aI)))) ak (nomark _))
  (aK (ZeF (fA ak (kc (pv 2) ak iF))))
  dU)
 (ap (dW (cF (mV hr) lA (aN (aJ (c8 T) (hr.mono (by decide)) rfl (cx (pv 0) (ah ak aI)))) ak (nomark _))
  (aK (ZeF (fA (aj ql o0 (aj bV bS (Zoa ak (pv 2) (λ_ _=>rfl)) ak) ak) (kc (pv 2) ak iF))))
  dU)
 (aK (sy (k:=2) (b9 (bh (t:=aW) (fE oj rfl T.mX boot_tuple (ag (ac (pv 2)) am)) lB))))))))
noncomputable def nC:List Sl->Tr Re:=bp 3 0
 (dk (ce (ad (cO λi j=>decide (i < j)) (aa 2) (aG (aH i9 (af (aa 0) (af (aa 1) (af (aC (.int 0)) ay)))))))
  kZ
  dh)
theorem ZnF (T:Txt K mg):ACal (bD cn) P w K mg base "ask_free" 3 ["shop","falls","stock"] nC:=bQ T.ZdU Zbc rfl λf cdv A outer sh H E hr=>by
 exact (aK (dW (cF g8 dt (ac (pv 2)) (aN (aJ (Zeh T) (hr.mono (by decide)) rfl (ah (ac (pv 0)) (ah (ac (pv 1)) (ah ak aI))))) (nomark _))
 (aK ZeH)
 dU))
noncomputable def pW:List Sl->Tr PyData :=
 (ad bz (aa 1) (aG (aH kB (af (aa 2) (af (aa 3) (af (aa 0) ay))))))
noncomputable def i6:List Sl->Tr Re:=bp 3 0
 (bX (ba cr (ae (cg (dJ (fv (aa 1)) 2 [0,2] (bv (av (ai 0) (av (ai 1) br))) pW)) al)))
theorem Zec (T:Txt K mg):ACal (bD cn) P w K mg base "weighed_day" 3 ["shop","weights","stock"] i6:=bQ T.Zmp Zgh rfl λf cdv A outer sh H E hr=>by
 exact (aK (b9 (bh (t:=aW) (a9 (eW rfl) rfl T.eK boot_sum (ag (cQ (im (g7 ll ["fallen","weight"] [0,2] rfl (gN (gv rfl rfl T.gz (ac (pv 1)))) (λb=>(dG rfl (bC (aU (aT (i:=0) (show ((bN ll ["fallen","weight"] [0,2])).Nodup by decide +kernel) rfl (Or.inl rfl))) (bC (aU (aT (i:=1) (show ((bN ll ["fallen","weight"] [0,2])).Nodup by decide +kernel) rfl (Or.inl rfl))) dF)) (bA (bA dC)))) (λb=>(aj bV bS (ac (pv 1)) (aN (aJ (ZnA T) (hr.mono (by decide)) rfl (ah (ac (pv 2)) (ah (ac (pv 3)) (ah (ac (pv 0)) aI))))))) rfl (show BlkOk ll (az jN) _ [0,2] from ⟨rfl,by decide +kernel,by decide +kernel,by decide +kernel,by decide +kernel⟩)) (gZ (dN (cy (by decide)) (dN (cy (by decide)) g5))))) am)) eF)))
noncomputable def mI:List Sl->Tr PyData :=
 (aa 0)
noncomputable def j8:List Sl->Tr PyData :=
 (aG (aH m9 (af (aa 1) (af (aa 2) (af (aa 0) ay)))))
noncomputable def nv:List Sl->Tr Re:=bp 4 2
 (ao (aS 4 (aG (aH i5 (af (dH (aa 1) (di (aa 2)) dI) ay))))
 (ao (aS 5 (aG (aH kr (af (aa 1) (af (aa 2) (af (aa 3) ay))))))
 (bX (gi (ju (ae (aa 5) (ae (ad aO (ad aE (aa 0) (aC (.int 0))) (aC (.int 1))) al))) 1 [0,4] (ai 0) mI j8))))
theorem Znz (T:Txt K mg):ACal (bD cn) P w K mg base "end_ahead" 3 ["shop","falls","orders","stock"] nv:=bQ T.ZmD pF rfl λf cdv A outer sh H E hr=>by
 exact (ap (aZ (aM (i:=4) pF.nd rfl (Or.inr rfl) (aN (aJ (rZ T) (hr.mono (by decide)) rfl (ah (e7 (ac (pv 1)) (eY (ac (pv 2))) eZ) aI)))))
 (ap (aZ (aM (i:=5) pF.nd rfl (Or.inl rfl) (aN (aJ (Zee T) (hr.mono (by decide)) rfl (ah (ac (pv 1)) (ah (ac (pv 2)) (ah (ac (pv 3)) aI)))))))
 (aK (b9 (Zod (Zhp oN ["counted"] [0,4] rfl (sE (qb rfl T.eu (ag (ac (pv 5)) (ag (aj bc bb (bn bj bi (ac (pv 0)) (dX rfl T.nX) (λ_ _=>rfl)) ak) am)))) (λb=>(aU (aT (i:=0) (show ((bN oN ["counted"] [0,4])).Nodup by decide +kernel) rfl (Or.inl rfl)))) (λb=>(ac (pv 0))) (λb=>(aN (aJ (Znm T) (hr.mono (by decide)) rfl (ah (ac (pv 1)) (ah (ac (pv 2)) (ah (ac (pv 0)) aI)))))) rfl (show BlkOk oN (az jS) _ [0,4] from ⟨rfl,by decide +kernel,by decide +kernel,by decide +kernel,by decide +kernel⟩)) (cy (by decide)))))))
noncomputable def ZbX:List Sl->Tr PyData :=
 (aG (aH nk (bZ 1 (af (aC (.int 3)) ay))))
noncomputable def nr:List Sl->Tr Re:=bp 1 5
 (ao (aS 1 (ba gQ (ae (cg (dJ (gg (ae (ad aO (aC (.int 2)) (aG (aH cN (bZ 0 (af (aC (.int 3)) ay))))) al)) 1 [0] (ai 0) ZbX)) al)))
 (ao (aS 2 (aG (aH cN (bZ 0 (af (aC (.int 3)) ay)))))
 (ao (aS 3 (aG (aH cN (bZ 0 (af (aC (.int 6)) ay)))))
 (ao (aS 4 (ad aO (aG (aH i8 (af (aa 1) ay))) (aa 2)))
 (ao (aS 5 (ad bI (aG (aH cN (bZ 0 (af (ad aO (ad aO (aa 3) (aa 2)) (aC (.int 1))) ay)))) (aa 2)))
 (bX (cb (ae (ad aO (cb (ae (aa 3) (ae (aa 4) al))) (aG (aH ni (bZ 0 ay)))) (ae (aa 1) (ae (aa 5) al))))))))))
theorem Znx (T:Txt K mg):ACal (bD cn) P w K mg base "_law_asked" 3 ["_law_pen_here"] nr:=bQ T.ZmV iJ rfl λf cdv A outer sh H E hr=>by
 exact (ap (aZ (aM (i:=1) iJ.nd rfl (Or.inl rfl) (bh (t:=aW) (fE oj rfl T.mX boot_tuple (ag (cQ (im (g7 oQ ["_law_k"] [0] rfl (io (g6 rfl T.eu (ag (aj bc bb ak (aN (aJ (c8 T) (hr.mono (by decide)) rfl (cx (pv 0) (ah ak aI))))) am))) (λb=>(aU (aT (i:=0) (show ((bN oQ ["_law_k"] [0])).Nodup by decide +kernel) rfl (Or.inl rfl)))) (λb=>(aN (aJ (Znv T) (hr.mono (by decide)) rfl (cx (pv 1) (ah ak aI))))) rfl (show BlkOk oQ (az jW) _ [0] from ⟨rfl,by decide +kernel,by decide +kernel,by decide +kernel,by decide +kernel⟩)) (cy (by decide)))) am)) lB)))
 (ap (aZ (aM (i:=2) iJ.nd rfl (Or.inl rfl) (aN (aJ (c8 T) (hr.mono (by decide)) rfl (cx (pv 0) (ah ak aI))))))
 (ap (aZ (aM (i:=3) iJ.nd rfl (Or.inl rfl) (aN (aJ (c8 T) (hr.mono (by decide)) rfl (cx (pv 0) (ah ak aI))))))
 (ap (aZ (aM (i:=4) iJ.nd rfl (Or.inl rfl) (aj bc bb (aN (aJ (r6 T) (hr.mono (by decide)) rfl (ah (ac (pv 1)) aI))) (ac (pv 2)))))
 (ap (aZ (aM (i:=5) iJ.nd rfl (Or.inl rfl) (aj bU bR (aN (aJ (c8 T) (hr.mono (by decide)) rfl (cx (pv 0) (ah (aj bc bb (aj bc bb (ac (pv 3)) (ac (pv 2))) ak) aI)))) (ac (pv 2)))))
 (aK (b9 (cP (ag (aj bc bb (cP (ag (ac (pv 3)) (ag (ac (pv 4)) am))) (aN (aJ (Znu T) (hr.mono (by decide)) rfl (cx (pv 0) aI)))) (ag (ac (pv 1)) (ag (ac (pv 5)) am)))))))))))
noncomputable def nO:List Sl->Tr Ou :=
 (ao (aS 10 (ad aO (ad bz (ad bz (aa 5) (ad aE (aa 0) (aC (.int 3)))) (aa 9)) (ad bz (aa 6) (aG (aH i6 (af (aa 0) (af (aa 7) (af (aa 9) ay))))))))
 (jw 8 (ad aO (aa 10) (aG (aH kn (af (ad aE (aa 1) (aC (.int 0))) (af (aa 3) (af (aa 9) ay))))))))
noncomputable def ny:List Sl->Tr Re:=bp 5 6
 (ao (aS 5 (aG (aH gD (af (aa 1) ay))))
 (ao (aS 6 (aG (aH gD (af (dH (aa 1) (di (ad aO (aa 2) (aC (.int 1)))) dI) ay))))
 (ao (aS 7 (aG (aH i5 (af (dH (aa 1) dI (di (ad aO (aa 2) (aC (.int 1))))) ay))))
 (ao (gO 8 (eE al))
 (ao (c9 (ju (ae (aa 4) (ae (ad aO (ad aE (aa 0) (aC (.int 0))) (aC (.int 1))) al))) (ai 9) nO)
 (eD 8))))))
theorem ZnB (T:Txt K mg):ACal (bD cn) P w K mg base "counted_sums" 4 ["shop","falls","days","ahead","low"] ny:=bQ T.ZmF gT rfl λf cdv A outer sh H E hr=>by
 exact (ap (aZ (aM (i:=5) gT.nd rfl (Or.inl rfl) (aN (aJ (kN T) (hr.mono (by decide)) rfl (ah (ac (pv 1)) aI)))))
 (ap (aZ (aM (i:=6) gT.nd rfl (Or.inl rfl) (aN (aJ (kN T) (hr.mono (by decide)) rfl (ah (e7 (ac (pv 1)) (eY (aj bc bb (ac (pv 2)) ak)) eZ) aI)))))
 (ap (aZ (aM (i:=7) gT.nd rfl (Or.inl rfl) (aN (aJ (rZ T) (hr.mono (by decide)) rfl (ah (e7 (ac (pv 1)) eZ (eY (aj bc bb (ac (pv 2)) ak))) aI)))))
 (ap (kQ (aM (i:=8) gT.nd rfl (Or.inl rfl) (fr am)))
 (ap (dE PassesOwn.never rfl (sE (qb rfl T.eu (ag (ac (pv 4)) (ag (aj bc bb (bn bj bi (ac (pv 0)) (dX rfl T.nX) (λ_ _=>rfl)) ak) am)))) (aU (aT (i:=9) gT.nd rfl (Or.inl rfl)))
  (ap (aZ (aM (i:=10) gT.nd rfl (Or.inl rfl) (aj bc bb (aj bV bS (aj bV bS (ac (pv 5)) (bn bj bi (ac (pv 0)) (dX rfl T.Zc8) (λ_ _=>rfl))) (ac (pv 9))) (aj bV bS (ac (pv 6)) (aN (aJ (Zec T) (hr.mono (by decide)) rfl (ah (ac (pv 0)) (ah (ac (pv 7)) (ah (ac (pv 9)) aI)))))))))
 (aK (sA (iT (qe PySem.F.plainAttrs_list PySem.F.slot_list_append PySem.F.type_list_append qz (pv 8) (bx (aj bc bb (ac (pv 10)) (aN (aJ (Znn T) (hr.mono (by decide)) rfl (ah (bn bj bi (ac (pv 1)) ak (λ_ _=>rfl)) (ah (ac (pv 3)) (ah (ac (pv 9)) aI)))))) cB)))))))
 (aK (il (pv 8))))))))
noncomputable def mH:List Sl->Tr PyData :=
 (cb (ae (aG (aH i7 (af (aa 0) (af (aa 2) ay)))) (ae (aa 1) al)))
noncomputable def mG:List Sl->Tr PyData :=
 (ad aO (aa 3) (aa 0))
noncomputable def mF:List Sl->Tr PyData :=
 (aa 1)
noncomputable def nJ:List Sl->Tr Ou :=
 (ao (aS 8 (aG (aH kr (af (aa 1) (af (aa 7) (af (aa 3) ay))))))
 (ao (aS 9 (aG (aH gD (af (dH (aa 1) (di (aa 7)) dI) ay))))
 (ao (aS 10 (aG (aH nA (af (aa 0) (af (aa 8) (af (aG (aH ny (af (aa 0) (af (dH (aa 1) (di (aa 7)) dI) (af (aa 2) (af (aa 5) (af (aa 8) ay))))))) (af (aa 9) ay)))))))
 (ao (jw 6 (ba gQ (ae (cg (dJ (e8 (aa 10)) 2 [9] (bv (av (ai 0) (av (ai 1) br))) mH)) al)))
 (aS 5 (gi (fv (aa 10)) 3 [8] (bv (av (ai 0) (av (bv (av (ai 1) (av (ai 2) br))) br))) mG mF))))))
noncomputable def na:List Sl->Tr Re:=bp 4 7
 (ao (aS 4 (ad bI (ba cK (ae (aa 1) al)) (aa 2)))
 (ao (aS 5 (aG (aH nv (af (aa 0) (af (aa 1) (af (aa 4) (af (aa 3) ay)))))))
 (ao (gO 6 (eE al))
 (ao (c9 (sL (ae (aa 4) al)) (ai 7) nJ)
 (ao (kX 6)
 (la 6 (bX (cb (ae (aa 6) (ae (ad fm (aa 5) (aa 3)) al))))))))))
theorem Zno (T:Txt K mg):ACal (bD cn) P w K mg base "short_days" 5 ["shop","falls","days","stock"] na:=bQ T.Zmr fV rfl λf cdv A outer sh H E hr=>by
 exact (ap (aZ (aM (i:=4) fV.nd rfl (Or.inl rfl) (aj bU bR (bh (t:=aW) (a9 eX rfl T.eM boot_len (ag (ac (pv 1)) am)) fR) (ac (pv 2)))))
 (ap (aZ (aM (i:=5) fV.nd rfl (Or.inl rfl) (aN (aJ (Znz T) (hr.mono (by decide)) rfl (ah (ac (pv 0)) (ah (ac (pv 1)) (ah (ac (pv 4)) (ah (ac (pv 3)) aI))))))))
 (ap (kQ (aM (i:=6) fV.nd rfl (Or.inl rfl) (fr am)))
 (ap (dE PassesOwn.never rfl (Zn8 (Zb5 rfl T.Zcs (fE Zne rfl T.eu boot_range (ag (ac (pv 4)) am)))) (aU (aT (i:=7) fV.nd rfl (Or.inl rfl)))
  (ap (aZ (aM (i:=8) fV.nd rfl (Or.inr rfl) (aN (aJ (Zee T) (hr.mono (by decide)) rfl (ah (ac (pv 1)) (ah (ac (pv 7)) (ah (ac (pv 3)) aI)))))))
 (ap (aZ (aM (i:=9) fV.nd rfl (Or.inr rfl) (aN (aJ (kN T) (hr.mono (by decide)) rfl (ah (e7 (ac (pv 1)) (eY (ac (pv 7))) eZ) aI)))))
 (ap (aZ (aM (i:=10) fV.nd rfl (Or.inl rfl) (aN (aJ (ZnD T) (hr.mono (by decide)) rfl (ah (ac (pv 0)) (ah (ac (pv 8)) (ah (aN (aJ (ZnB T) (hr.mono (by decide)) rfl (ah (ac (pv 0)) (ah (e7 (ac (pv 1)) (eY (ac (pv 7))) eZ) (ah (ac (pv 2)) (ah (ac (pv 5)) (ah (ac (pv 8)) aI))))))) (ah (ac (pv 9)) aI))))))))
 (ap (sA (iT (qe PySem.F.plainAttrs_list PySem.F.slot_list_append PySem.F.type_list_append qz (pv 6) (bx (bh (t:=aW) (fE oj rfl T.mX boot_tuple (ag (cQ (im (g7 fQ ["cost","level"] [9] rfl (fP (ac (pv 10))) (λb=>(dG rfl (bC (aU (aT (i:=0) (show ((bN fQ ["cost","level"] [9])).Nodup by decide +kernel) rfl (Or.inl rfl))) (bC (aU (aT (i:=1) (show ((bN fQ ["cost","level"] [9])).Nodup by decide +kernel) rfl (Or.inl rfl))) dF)) (bA (bA dC)))) (λb=>(cP (ag (aN (aJ (Zed T) (hr.mono (by decide)) rfl (ah (ac (pv 0)) (ah (ac (pv 2)) aI)))) (ag (ac (pv 1)) am)))) rfl (show BlkOk fQ (az iK) _ [9] from ⟨rfl,by decide +kernel,by decide +kernel,by decide +kernel,by decide +kernel⟩)) (gZ (dN (cy (by decide)) (dN (cy (by decide)) g5))))) am)) lB) cB))))
 (aK (ZnU (Zg6 (i:=5) fQ ["at","cost","level"] [8] rfl fV.nd rfl rfl (gN (gv rfl rfl T.gz (ac (pv 10)))) (λb=>(dG rfl (bC (aU (aT (i:=0) (show ((bN fQ ["at","cost","level"] [8])).Nodup by decide +kernel) rfl (Or.inl rfl))) (bC (dG rfl (bC (aU (aT (i:=1) (show ((bN fQ ["at","cost","level"] [8])).Nodup by decide +kernel) rfl (Or.inl rfl))) (bC (aU (aT (i:=2) (show ((bN fQ ["at","cost","level"] [8])).Nodup by decide +kernel) rfl (Or.inl rfl))) dF)) (bA (bA dC))) dF)) (bA (bA dC)))) (λb=>(aj bc bb (ac (pv 3)) (ac (pv 0)))) (λb=>(ac (pv 1))) rfl (show BlkOk fQ (az iK) _ [8] from ⟨rfl,by decide +kernel,by decide +kernel,by decide +kernel,by decide +kernel⟩) rfl) (gZ (dN (cy (by decide)) (dN (gZ (dN (cy (by decide)) (dN (cy (by decide)) g5))) g5))))))))))
 (ap (ZeG (iT (Zcb PySem.F.plainAttrs_list PySem.F.slot_list_reverse PySem.F.type_list_reverse Zcu (pv 6))))
 (aK (sy (k:=6) (b9 (cP (ag (ac (pv 6)) (ag (ZeS (mP (fL hr) (ac (pv 5)) (ac (pv 3)) (λ_ _=>rfl))) am)))))))))))
noncomputable def nL:List Sl->Tr Ou :=
 (lg nV 5 (ad bz (aG (aH gD (af (dH (aa 1) (di (ad aO (aa 6) (aC (.int 1)))) dI) ay))) (aG (aH i6 (af (aa 0) (af (aG (aH i5 (af (dH (aa 1) dI (di (ad aO (aa 6) (aC (.int 1))))) ay))) (af (aa 3) ay)))))))
noncomputable def ng:List Sl->Tr Re:=bp 4 3
 (ao (sQ (aG (aH nC (af (aa 0) (af (aa 1) (af (aa 3) ay))))))
 (ao (iq (bv (av (ai 4) (av (ai 5) br))) (aG (aH na (af (aa 0) (af (aa 1) (af (aa 2) (af (aa 3) ay)))))))
 (ao (c9 (gg (ae (aa 2) al)) (ai 6) nL)
 (kY (aH i7 (af (aa 5) (af (aG (aH gD (af (aa 1) ay))) ay)))))))
theorem Znr (T:Txt K mg):ACal (bD cn) P w K mg base "least_late" 6 ["shop","falls","days","stock"] ng:=bQ T.ZdT iG rfl λf cdv A outer sh H E hr=>by
 exact (ap (ZnW (aN (aJ (ZnF T) (hr.mono (by decide)) rfl (ah (ac (pv 0)) (ah (ac (pv 1)) (ah (ac (pv 3)) aI))))))
 (ap (kR (fA (aN (aJ (Zno T) (hr.mono (by decide)) rfl (ah (ac (pv 0)) (ah (ac (pv 1)) (ah (ac (pv 2)) (ah (ac (pv 3)) aI)))))) (dG rfl (bC (aU (aT (i:=4) iG.nd rfl (Or.inl rfl))) (bC (aU (aT (i:=5) iG.nd rfl (Or.inl rfl))) dF)) (bA (bA dC)))))
 (ap (dE PassesOwn.never rfl (io (g6 rfl T.eu (ag (ac (pv 2)) am))) (aU (aT (i:=6) iG.nd rfl (Or.inl rfl)))
  (aK (ZeI Zfl (Zb2 (i:=5) iG.nd rfl (Or.inl rfl) (aj bV bS (aN (aJ (kN T) (hr.mono (by decide)) rfl (ah (e7 (ac (pv 1)) (eY (aj bc bb (ac (pv 6)) ak)) eZ) aI))) (aN (aJ (Zec T) (hr.mono (by decide)) rfl (ah (ac (pv 0)) (ah (aN (aJ (rZ T) (hr.mono (by decide)) rfl (ah (e7 (ac (pv 1)) eZ (eY (aj bc bb (ac (pv 6)) ak))) aI))) (ah (ac (pv 3)) aI)))))) (pip ZiY)))))
 (aK (sx (aJ (Zed T) (hr.mono (by decide)) rfl (ah (ac (pv 5)) (ah (aN (aJ (kN T) (hr.mono (by decide)) rfl (ah (ac (pv 1)) aI))) aI))))))))
noncomputable def mS:List Sl->Tr Bool:=eO 3 0
 (ce (ad (cO λi j=>decide (i < j)) (aa 2) (aG (aH i9 (af (aa 0) (af (aa 1) (af (aC (.int 0)) ay)))))))
theorem ZnE (T:Txt K mg) {C:Addr} (hC:mg "NoStand"=some (.ref C)) (xc:Xcl K C gM "ValueError.__new__"):CalleeX P w K mg base "ask_free" 3 ["shop","falls","stock"] (jI (bD cn) 3 mS C):=by
 refine T.ZdU.okX Zbc (λvs H Q E h=>h.1) (λf cdv A outer s H vs Q E hr h=>?_)
 refine ⟨_,eh (gX (cF g8 dt (ac (pv 2)) (aN (aJ (Zeh (cn:=cn) T) (hr.mono (by decide)) rfl (ah (ac (pv 0)) (ah (ac (pv 1)) (ah ak aI))))) (nomark _)) (eh (Zg7 F.excBase_ValueError xc rfl hC)) gW),?_⟩
 exact Zfa rfl h
noncomputable def mR:List Sl->Tr Bool:=eO 4 3
 λρ=>(af (aa 0) (af (aa 1) (af (aa 3) ay)) ρ).bind mS
theorem Znq (T:Txt K mg) {C:Addr} (hC:mg "NoStand"=some (.ref C)) (xc:Xcl K C gM "ValueError.__new__"):CalleeX P w K mg base "least_late" 4 ["shop","falls","days","stock"] (jI (bD cn) 4 mR C):=by
 obtain ⟨fs,fds,FS,hms,hks,hbs⟩:=(ZnE (P:=P) (w:=w) (base:=base) (cn:=cn) T hC xc).ex
 refine T.ZdT.okX iG (λvs H Q E h=>h.1) (λf cdv A outer s H vs Q E hr h=>?_)
 refine ⟨_,cY (Zg5 FS (hr.mono (by decide)) rfl hms hks hbs (ah (PK:=(bD cn)) (ac (pv 0)) (ah (ac (pv 1)) (ah (ac (pv 3)) aI)))) Zg1,?_⟩
 exact Ze9 rfl rj h
noncomputable def hV:List Sl->Tr Re:=λas=>(eO 4 2 (λρ=>(af (aa 0) (af (aa 1) (af (aa 2) (af (aa 3) ay))) (ρ.set 4 (.d .none))).bind mR) as).bind λb=>if b=true then .ret (.d (.bool true)) else .fail
theorem Zef (T:Txt K mg):ACal (bD cn) P w K mg base "_law_refused" 7 ["_law_shop","_law_falls","_law_days","_law_stock"] hV:=by
 have len:∀ as m Z,(hV as).ok m Z->as.length=4:=λas m Z h=>rj _ _ _ (Tr.ok_bind.mp h)
 refine ⟨T.ZmL.ok lQ (λvs H Q E h=>h.1) λf cdv A outer sh H vs Q E hr hsp=>?_,len⟩
 obtain ⟨hv,pa,m,G,as,wd,ar,z⟩:=hsp
 obtain ⟨v1,v2,v3,v4,rfl⟩:=L2.hW hv
 obtain ⟨C,D,a0,a1,a2,a3,a4,a5,a6,hC,hD,h0,h1,h2,h3,h4,h5,h6,xc⟩:=T.Zfb
 obtain ⟨fs,fds,FS,hms,hks,hbs⟩:=(Znq (P:=P) (w:=w) (base:=base) (cn:=cn) T hC xc.cl).ex
 refine ⟨_,cY (aM (i:=4) lQ.nd rfl (Or.inl rfl) Zb9)
  (cY (Zg4 (i:=5) rfl rfl lQ.nd FS (hr.mono (by decide)) rfl hms hks hbs (ah (PK:=(bD cn)) (ac (pv 0)) (ah (ac (pv 1)) (ah (ac (pv 2)) (ah (ac (pv 3)) aI)))) xc.un rfl hD rfl rfl (Or.inl rfl) (Or.inl rfl) (λea=>eh (aM (i:=4) lQ.nd rfl (Or.inl rfl) (pv 5))))
  (cY (gX (ZgX (a9 (Znh xc.ci F.attrBase_ValueError (by decide +kernel) qG) rfl T.qy rfl (bx (pv 4) (bx (Zb7 (bx (fY (v:=.ref a0) rfl h0 rfl) (bx (fY (v:=.ref a1) rfl h1 rfl) (bx (fY (v:=.ref a2) rfl h2 rfl) (bx (fY (v:=.ref a3) rfl h3 rfl) (bx (fY (v:=.ref a4) rfl h4 rfl) (bx (fY (v:=.ref a5) rfl h5 rfl) (bx (fY (v:=.ref a6) rfl h6 rfl) cB)))))))) cB)))) (eh (fy Zcc)) gW)
  (eh (fy (Zht (a9 (Znj xc.ci F.attrBase_ValueError (by decide +kernel) qG) rfl T.qy rfl (bx (pv 4) (bx (fY (v:=.ref C) rfl hC rfl) cB))) (Zhk (a9 (Zni xc.ci F.attrBase_ValueError (by decide +kernel) qG) rfl T.qy rfl (bx (pv 4) (bx (Zhs (v:=.ty "ValueError") rfl T.Zh5 ZnK rfl) cB))))))))),?_⟩
 unfold hV eO at z
 obtain ⟨_,z⟩:=dA (Tr.ok_bind.mp z)
 refine ⟨pa,G,H,m,_,G,(Rl.start wd ar rfl).set .non 4,Tr.ok_mono (Tr.ok_bind.mp z) λm1 as1 z1 vs1 G1 H1 s1 w1 ar1=>?_⟩
 refine ⟨by rw [ar1.length]; exact rj _ _ _ z1,pa,m1,G1,as1,w1,ar1,Tr.ok_mono z1 λm2 b kb=>?_⟩
 cases b with
 | false=>exact kb.elim
 | true =>
 refine ⟨rfl,λG2 H2 s2 w2=>⟨rfl,λea hea=>?_⟩⟩
 refine ⟨.ref ea,rfl,?_⟩
 refine ⟨.ref ea,rfl,by show 7<=sizeLine; decide,λp hp=>?_⟩
 have hne:ea≠p:=λe=>by rw [e,bw] at hp; cases hp
 obtain ⟨w3,s3⟩:=w2.own (o:=.ext (dq ea (.ref C))) hea
 obtain ⟨w4,s4⟩:=w3.own (o:=.tup [.ref a0,.ref a1,.ref a2,.ref a3,.ref a4,.ref a5,.ref a6]) hp
 have hat:upd (upd H2 ea (.ext (dq ea (.ref C)))) p (.tup [.ref a0,.ref a1,.ref a2,.ref a3,.ref a4,.ref a5,.ref a6]) ea=some (.ext (dq ea (.ref C))):=by rw [au hne,bw]
 refine ⟨ea,p,[a0,a1,a2,a3,a4,a5,a6],false,rfl,hat,bw,xc.any,false,rfl,?_⟩
 refine ⟨.ref ea,rfl,ea,C,true,rfl,hat,ZiG,true,rfl,.ref ea,rfl,ea,"ValueError",true,rfl,hat,xc.vt,?_⟩
 exact kb (.bl true) G2 _ ((s1.trans s2 w1.some).trans (s3.trans s4 w3.some) w2.some) w4 (.bl true)
noncomputable def ku:List Sl->Tr Re:=bp 3 3
 (ao (aS 3 (ad bI (aG (aH i8 (af (aa 2) ay))) (ad aE (aa 1) (aC (.int 0)))))
 (ao (dk (ce (ad (cO λi j=>decide (i < j)) (aa 3) (aC (.int 1))))
  (bX (aC (.bool true)))
  dh)
 (ao (aS 4 (ad aO (cb (ae (ad aE (aa 1) (aC (.int 0))) (ae (aG (aH cN (bZ 0 (af (aa 3) ay)))) al))) (dH (aa 1) (di (aC (.int 2))) dI)))
 (ao (aS 5 (ad bI (aG (aH cN (bZ 0 (af (ad aO (ad aO (ad aE (aa 4) (aC (.int 0))) (ad aE (aa 4) (aC (.int 1)))) (aC (.int 1))) ay)))) (ad aE (aa 4) (aC (.int 1)))))
 (kY (aH hV (af (aa 4) (af (aa 2) (af (ad aO (aC (.int 1)) (aG (aH cN (bZ 0 (af (ba kl (ae (aC (.int 3)) (ae (ad bI (ba cK (ae (aa 2) al)) (aC (.int 1))) al))) ay))))) (af (aa 5) ay))))))))))
theorem Zns (T:Txt K mg):ACal (bD cn) P w K mg base "_law_tight_right" 8 ["_law_pen_here","_law_shop","_law_falls"] ku:=bQ T.ZmI lP rfl λf cdv A outer sh H E hr=>by
 exact (ap (aZ (aM (i:=3) lP.nd rfl (Or.inl rfl) (aj bU bR (aN (aJ (r6 T) (hr.mono (by decide)) rfl (ah (ac (pv 2)) aI))) (bn bj bi (ac (pv 1)) ak (λ_ _=>rfl)))))
 (ap (dW (cF g8 dt (ac (pv 3)) ak (nomark _))
  (aK (b9 kS))
  dU)
 (ap (aZ (aM (i:=4) lP.nd rfl (Or.inl rfl) (aj bc bb (cP (ag (bn bj bi (ac (pv 1)) ak (λ_ _=>rfl)) (ag (aN (aJ (c8 T) (hr.mono (by decide)) rfl (cx (pv 0) (ah (ac (pv 3)) aI)))) am))) (e7 (ac (pv 1)) (eY ak) eZ))))
 (ap (aZ (aM (i:=5) lP.nd rfl (Or.inl rfl) (aj bU bR (aN (aJ (c8 T) (hr.mono (by decide)) rfl (cx (pv 0) (ah (aj bc bb (aj bc bb (bn bj bi (ac (pv 4)) ak (λ_ _=>rfl)) (bn bj bi (ac (pv 4)) ak (λ_ _=>rfl))) ak) aI)))) (bn bj bi (ac (pv 4)) ak (λ_ _=>rfl)))))
 (aK (sx (aJ (Zef T) (hr.mono (by decide)) rfl (ah (ac (pv 4)) (ah (ac (pv 2)) (ah (aj bc bb ak (aN (aJ (c8 T) (hr.mono (by decide)) rfl (cx (pv 0) (ah (bh (t:=aW) (a9 (Zea rfl) rfl T.mZ boot_min (ag ak (ag (aj bU bR (bh (t:=aW) (a9 eX rfl T.eM boot_len (ag (ac (pv 2)) am)) fR) ak) am))) Zap) aI))))) (ah (ac (pv 5)) aI)))))))))))
section
variable {F:List Int->Option Int} {KS:List (List Int)}
theorem ZnI (T:Txt K mg):ACal (dZ F KS) P w K mg base "_law_end" 1 ["_law_shop","_law_rest"] nj:=bQ T.ZmQ Zgs rfl λf cdv A outer sh H E hr=>by
 exact (aK (b9 (aj bU bR (aj bV bS (bn bj bi (ac (pv 0)) ak (λ_ _=>rfl)) (bh (t:=aW) (a9 (kM rfl) rfl T.hU boot_max (ag (aj bU bR ak (ac (pv 1))) (ag ak am))) jD)) (aj bV bS (bn bj bi (ac (pv 0)) ak (λ_ _=>rfl)) (bh (t:=aW) (a9 (kM rfl) rfl T.hU boot_max (ag (ac (pv 1)) (ag ak am))) jD)))))
theorem ZnH (T:Txt K mg):ACal (dZ F KS) P w K mg base "_law_order" 1 ["_law_shop","_law_pieces"] ky:=bQ T.ZmO Zgq rfl λf cdv A outer sh H E hr=>by
 exact (aK (b9 (aj bV bS (aj bc bb (bn bj bi (ac (pv 0)) ak (λ_ _=>rfl)) (aj bV bS (bn bj bi (ac (pv 0)) ak (λ_ _=>rfl)) (ac (pv 1)))) (bh (t:=aW) (fE Znk rfl T.Zh4 boot_int (ag (Zoe fg dt (ac (pv 1)) ak (nomark _)) am)) Zfn))))
theorem ZnG (T:Txt K mg):ACal (dZ F KS) P w K mg base "_law_rest_cost" 1 ["_law_shop","_law_rest"] nh:=bQ T.ZmK Zgo rfl λf cdv A outer sh H E hr=>by
 exact (aK (b9 (aj bc bb (aj bV bS (bn bj bi (ac (pv 0)) ak (λ_ _=>rfl)) (bh (t:=aW) (a9 (kM rfl) rfl T.hU boot_max (ag (ac (pv 1)) (ag ak am))) jD)) (aj bV bS (bn bj bi (ac (pv 0)) ak (λ_ _=>rfl)) (bh (t:=aW) (a9 (kM rfl) rfl T.hU boot_max (ag (aj bU bR ak (ac (pv 1))) (ag ak am))) jD)))))
noncomputable def jb (slf:List Sl->Tr Re):List Sl->Tr Ou :=
 (dk (ce (ad (cO λi j=>decide (i > j)) (aa 15) (aC (.int 0))))
  (ao (aS 16 (ad bz (aG (aH nh (af (aa 5) (af (ad bI (aa 3) (aa 14)) ay)))) (ad aE (aa 8) (ad aO (aa 2) (aC (.int 1))))))
 (aS 13 (ad aO (aa 13) (ad bz (aa 15) (ad aO (aa 16) (aG (aH slf (af (aa 0) (bZ 1 (af (ad aO (aa 2) (aC (.int 1))) (af (ad bI (aa 3) (aa 14)) (af (ad jr (aa 4) (cb (ae (aa 12) al))) ay))))))))))))
  dh)
noncomputable def hZ (slf:List Sl->Tr Re):List Sl->Tr Ou :=
 (ao (aS 12 (ad bI (ad bI (aa 11) (aa 3)) (ba cr (ae (aa 4) al))))
 (ao (aS 13 (ad bz (aG (aH ky (af (aa 5) (af (aa 12) ay)))) (ad aE (aa 8) (aa 2))))
 (ao (c9 (fv (ad aE (aa 6) (aa 2))) (bv (av (ai 14) (av (ai 15) br))) (jb slf))
 (dk (oy (ce (ad kD (aa 9) (aC .none))) (ce (ad (cO λi j=>decide (i < j)) (aa 13) (aa 9))))
  (aS 9 (aa 13))
  dh))))
noncomputable def iW (slf:List Sl->Tr Re):List Sl->Tr Re:=bp 5 12
 (ao (iq (bv (av (ai 5) (av (ai 6) (av (ai 7) (av (ai 8) br))))) (aa 0))
 (ao (aS 9 (aC .none))
 (ao (aS 10 (cg (eE (ae (ad aO (aa 3) (ba cr (ae (aa 4) al))) al))))
 (ao (dk (ce (ad (cO λi j=>decide (i < j)) (ad aO (aa 2) (aa 7)) (ba cK (ae (aa 6) al))))
  (aS 10 (cg (sM (ae (ad aO (aa 3) (ba cr (ae (aa 4) al))) (ae (ad aO (ad aE (aa 5) (aC (.int 0))) (aC (.int 1))) al)))))
  dh)
 (ao (c9 (e8 (aa 10)) (ai 11) (hZ slf))
 (eD 9))))))
theorem ZnJ (T:Txt K mg) {slf:List Sl->Tr Re} (n:Nat) (C:ACal (dZ F KS) P w K mg base "_law_on" (3+2 * n) ["_law_asked_here","_law_known","_law_t","_law_stock","_law_way"] slf):ACal (dZ F KS) P w K mg base "_law_day_on" (3+2 * n+1) ["_law_asked_here","_law_known","_law_t","_law_lies","_law_way"] (iW slf):=bQ (kk:=3+2 * n) T.ZmS db rfl λf cdv A outer sh H E hr=>by
 exact (ap (kR (fA (ac (pv 0)) (dG rfl (bC (aU (aT (i:=5) db.nd rfl (Or.inl rfl))) (bC (aU (aT (i:=6) db.nd rfl (Or.inl rfl))) (bC (aU (aT (i:=7) db.nd rfl (Or.inl rfl))) (bC (aU (aT (i:=8) db.nd rfl (Or.inl rfl))) dF)))) (bA (bA (bA (bA dC)))))))
 (ap (aZ (aM (i:=9) db.nd rfl (Or.inl rfl) ZeQ))
 (ap (aZ (aM (i:=10) db.nd rfl (Or.inl rfl) (cQ (fr (ag (aj bc bb (ac (pv 3)) (bh (t:=aW) (a9 (eW rfl) rfl T.eK boot_sum (ag (ac (pv 4)) am)) eF)) am)))))
 (ap (dW (cF g8 dt (aj bc bb (ac (pv 2)) (ac (pv 7))) (bh (t:=aW) (a9 eX rfl T.eM boot_len (ag (ac (pv 6)) am)) fR) (nomark _))
  (aK (aZ (aM (i:=10) db.nd rfl (Or.inl rfl) (cQ (Zn2 (fE (Znf hr.hd) rfl T.Zct boot_list (bx (fE Zd8 rfl T.eu boot_range (ag (aj bc bb (ac (pv 3)) (bh (t:=aW) (a9 (eW rfl) rfl T.eK boot_sum (ag (ac (pv 4)) am)) eF)) (ag (aj bc bb (bn bj bi (ac (pv 5)) ak (λ_ _=>rfl)) ak) am))) cB)))))))
  dU)
 (ap (dE PassesOwn.never rfl (fP (ac (pv 10))) (aU (aT (i:=11) db.nd rfl (Or.inl rfl)))
  (ap (aZ (aM (i:=12) db.nd rfl (Or.inl rfl) (aj bU bR (aj bU bR (ac (pv 11)) (ac (pv 3))) (bh (t:=aW) (a9 (eW rfl) rfl T.eK boot_sum (ag (ac (pv 4)) am)) eF))))
 (ap (aZ (aM (i:=13) db.nd rfl (Or.inl rfl) (aj bV bS (aN (aJ (ZnH T) (hr.mono (by omega)) rfl (ah (ac (pv 5)) (ah (ac (pv 12)) aI)))) (bn bj bi (ac (pv 8)) (ac (pv 2)) (λ_ _=>rfl)))))
 (ap (dE PassesOwn.never rfl (gN (gv rfl rfl T.gz (bn bj bi (ac (pv 6)) (ac (pv 2)) (λ_ _=>rfl)))) (dG rfl (bC (aU (aT (i:=14) db.nd rfl (Or.inl rfl))) (bC (aU (aT (i:=15) db.nd rfl (Or.inl rfl))) dF)) (bA (bA dC)))
  (aK (dW (cF fg dt (ac (pv 15)) ak (nomark _))
  (ap (aZ (aM (i:=16) db.nd rfl (Or.inl rfl) (aj bV bS (aN (aJ (ZnG T) (hr.mono (by omega)) rfl (ah (ac (pv 5)) (ah (aj bU bR (ac (pv 3)) (ac (pv 14))) aI)))) (bn bj bi (ac (pv 8)) (aj bc bb (ac (pv 2)) ak) (λ_ _=>rfl)))))
 (aK (aZ (aM (i:=13) db.nd rfl (Or.inl rfl) (aj bc bb (ac (pv 13)) (aj bV bS (ac (pv 15)) (aj bc bb (ac (pv 16)) (aN (aJ C (hr.mono (by omega)) rfl (ah (ac (pv 0)) (cx (pv 1) (ah (aj bc bb (ac (pv 2)) ak) (ah (aj bU bR (ac (pv 3)) (ac (pv 14))) (ah (aj ZhN Zfm (ac (pv 4)) (cP (ag (ac (pv 12)) am))) aI))))))))))))))
  dU)))
 (aK (dW (sm (Zes (cF ZhG Zfj (ac (pv 9)) ZeQ (nomark _)) (Zer (cF g8 dt (ac (pv 13)) (ac (pv 9)) (nomark _)))))
  (aK (aZ (aM (i:=9) db.nd rfl (Or.inl rfl) (ac (pv 13)))))
  dU))))))
 (aK (il (pv 9))))))))
end
noncomputable def si (F:List Int->Option Int) (KS:List (List Int)) (slf:List Sl->Tr Re):List Sl->Tr Ou :=
 (ao (iq (bv (av (ai 5) (av (ai 6) (av (ai 7) (av (ai 8) br))))) (aa 0))
 (ao (dk (ce (ad ii (aa 2) (ba cK (ae (aa 6) al))))
  (kY (aH nj (af (aa 5) (af (ad aO (aa 3) (ba cr (ae (aa 4) al))) ay))))
  dh)
 (ao (aS 9 (ad aO (cb (ae (aa 2) (ae (aa 3) al))) (aa 4)))
 (k7 F KS 1 9 (λρ=>.ret (.next ρ)) (aG (aH (iW slf) (af (aa 0) (bZ 1 (af (aa 2) (af (ad aO (aa 3) (ad aE (aa 4) (aC (.int 0)))) (af (dH (aa 4) (di (aC (.int 1))) dI) ay)))))))))))
noncomputable def eA (F:List Int->Option Int) (KS:List (List Int)):Nat->List Sl->Tr Re
 | 0=>bp 5 5 kZ
 | n+1=>bp 5 5 (si F KS (eA F KS n))
theorem ZcH:∀ (n:Nat) (F:List Int->Option Int) (KS:List (List Int)) (as:List Sl) (m:Nat) (Z:Nat->Re->Prop),(eA F KS n as).ok m Z->as.length=5
 | 0,_,_,as,m,Z,h=>ZeY as m Z h
 | n+1,_,_,as,m,Z,h=>ZeY as m Z h
theorem Zei (T:Txt K mg):∀ n:Nat,Callee P w K mg base "_law_on" (3+2 * n) ["_law_asked_here","_law_known","_law_t","_law_stock","_law_way"] (jJ 5 λF KS=>eA F KS n)
 | 0=>ZeT (kk:=2) T.ZdV gU rfl λF KS hL f cdv A outer sh H E hr=>ZnS
 | n+1=>ZeT (kk:=3+2 * n+1) T.ZdV gU rfl λF KS hL f cdv A outer sh H E hr=>by
  exact (ap (kR (fA (ac (pv 0)) (dG rfl (bC (aU (aT (i:=5) gU.nd rfl (Or.inl rfl))) (bC (aU (aT (i:=6) gU.nd rfl (Or.inl rfl))) (bC (aU (aT (i:=7) gU.nd rfl (Or.inl rfl))) (bC (aU (aT (i:=8) gU.nd rfl (Or.inl rfl))) dF)))) (bA (bA (bA (bA dC)))))))
 (ap (dW (cF (mV hr) lA (ac (pv 2)) (bh (t:=aW) (a9 eX rfl T.eM boot_len (ag (ac (pv 6)) am)) fR) (nomark _))
  (aK (sx (aJ (ZnI T) (hr.mono (by omega)) rfl (ah (ac (pv 5)) (ah (aj bc bb (ac (pv 3)) (bh (t:=aW) (a9 (eW rfl) rfl T.eK boot_sum (ag (ac (pv 4)) am)) eF)) aI)))))
  dU)
 (ap (aZ (aM (i:=9) gU.nd rfl (Or.inl rfl) (aj bc bb (cP (ag (ac (pv 2)) (ag (ac (pv 3)) am))) (ac (pv 4)))))
 (PSs.imp (cY (gX (Zg0 (Zhw (fL hr) (pv 9) (pv 1)) (by with_unfolding_all rfl)) (Zie (Zb1 (fL hr) (pv 1) (pv 9) (aN (aJ (ZnJ T n (CalM.at (Zei T n) (ZcH n) hL)) (hr.mono (by omega)) rfl (ah (ac (pv 0)) (cx (pv 1) (ah (ac (pv 2)) (ah (aj bc bb (ac (pv 3)) (bn bj bi (ac (pv 4)) ak (λ_ _=>rfl))) (ah (e7 (ac (pv 4)) (eY ak) eZ) aI))))))) rfl)) gW) (eh (fy (mP (fL hr) (pv 1) (pv 9) (λ_ _=>rfl))))) (Zid hL)))))
noncomputable def j6:List Sl->Tr PyData :=
 (aG (aH nq (af (aa 1) (af (aa 0) ay))))
noncomputable def qT:List Sl->Tr Ou :=
 (ao (aS 13 (aG (lc fN eB (λF KS=>eA F KS 6) (cb (ae (aa 3) (ae (aa 4) (ae (aa 10) (ae (aa 7) al))))) (ae (aC (.int 0)) (ae (aa 12) (ae (ad iS (cb (ae (aC (.int 0)) al)) (aa 10)) al))))))
 (oA 11 (aa 12) (ba gq (ae (aG (aH kw (af (aa 13) (af (ad aE (aa 7) (aC (.int 0))) ay)))) al))))
noncomputable def qS:List Sl->Tr Ou :=
 (dk (ce (ad kh (ba gq (ae (aG (aH ng (af (aa 3) (af (aa 4) (af (aa 10) (af (aa 12) ay)))))) al)) (lb 11 (aa 12))))
  (bX (aC (.bool false)))
  dh)
noncomputable def nN:List Sl->Tr Ou :=
 (ao (sJ 11)
 (ao (c9 (e8 (cb (ae (aa 5) (ae (aa 9) al)))) (ai 12) qT)
 (ao (c9 (e8 (cb (ae (aa 5) (ae (aa 9) (ae (aa 5) al))))) (ai 12) qS)
 (dk (sR (ce (ad (cO λi j=>decide (i > j)) (aa 8) (ad bI (aC (.int 0)) (ad aE (aa 3) (aC (.int 1)))))) (oz (kU (aG (aH hV (af (aa 3) (af (aa 4) (af (aa 10) (af (ad bI (aa 8) (aC (.int 1))) ay)))))))))
  (bX (aC (.bool false)))
  dh))))
noncomputable def qR:List Sl->Tr Ou :=
 (ao (iq (bv (av (ai 3) (av (ai 4) (av (ai 5) br)))) (aG (aH nr (bZ 1 ay))))
 (ao (aS 6 (ba gq (ae (cb (ae (aa 3) (ae (aa 4) al))) al)))
 (ao (aS 7 (cg (dJ (gg (ae (ad aO (ba cK (ae (aa 4) al)) (aC (.int 1))) al)) 1 [4] (ai 0) j6)))
 (ao (aS 8 (ad bI (aG (aH i8 (af (aa 4) ay))) (ad aE (aa 3) (aC (.int 1)))))
 (ao (aS 9 (ad aO (aa 8) (aG (aH cN (bZ 1 (af (ad aO (ad bI (ad aE (aa 3) (aC (.int 0))) (aa 8)) (aC (.int 1))) ay))))))
 (ao (c9 (ju (ae (aC (.int 1)) (ae (ad aO (ba kl (ae (aC (.int 3)) (ae (ad bI (ba cK (ae (aa 4) al)) (aC (.int 1))) al))) (aC (.int 1))) al))) (ai 10) nN)
 (dk (oy (ce (ad kh (ba gq (ae (cb (ae (aa 3) (ae (aa 4) al))) al)) (aa 6))) (oz (kU (aG (aH ku (bZ 1 (af (aa 3) (af (aa 4) ay))))))))
  (bX (aC (.bool false)))
  dh)))))))
noncomputable def nu:List Sl->Tr Ou :=
 (ao (c9 (gg (ae (aC (.int 2)) al)) (ai 2) qR)
 (bX (aC (.bool true))))
noncomputable abbrev qP:List Sl:=.un::.pen::List.replicate 12 .un
theorem ZhP (T:Txt K mg) {f:Addr} {fd:FuncData} (F:Fun K "law" "law" iL f fd) (hl:(nu qP).ok 0 λ_ o=>o=.ret (.d (.bool true))):FnOk P w K mg base gk 16 f fd ["_law_script"] (ZaT K):=by
 refine F.ok dw (λvs H Q E h=>?_) (λcdv A outer s H vs Q E hr h=>?_)
 ·obtain ⟨a,ns,rfl,_⟩:=h
  rfl
 ·obtain ⟨a,ns,rfl,hS,hlen,k⟩:=h
  have hu:=fL hr
  refine ⟨_,(cY (aM (i:=1) dw.nd rfl (Or.inl rfl) (qd (ZhO T) (hr.mono (by decide)) rfl (bx (pv 0) cB)))
 (Zg2 (t:=λcn=>bg (bD cn) nu) λcn=>(ap (dE PassesOwn.never rfl (io (g6 rfl T.eu (ag ak am))) (aU (aT (i:=2) dw.nd rfl (Or.inl rfl)))
  (ap (kR (fA (aN (aJ (Znx T) (hr.mono (by decide)) rfl (cx (pv 1) aI))) (dG rfl (bC (aU (aT (i:=3) dw.nd rfl (Or.inl rfl))) (bC (aU (aT (i:=4) dw.nd rfl (Or.inr rfl))) (bC (aU (aT (i:=5) dw.nd rfl (Or.inl rfl))) dF))) (bA (bA (bA dC))))))
 (ap (aZ (aM (i:=6) dw.nd rfl (Or.inl rfl) (bh (t:=aW) (a9 (om hr) rfl T.mY boot_repr (ag (cP (ag (ac (pv 3)) (ag (ac (pv 4)) am))) am)) lC)))
 (ap (ZeE (p9 (i:=7) oK ["_law_t"] [4] rfl dw.nd rfl rfl (io (g6 rfl T.eu (ag (aj bc bb (bh (t:=aW) (a9 eX rfl T.eM boot_len (ag (ac (pv 4)) am)) fR) ak) am))) (λb=>(aU (aT (i:=0) (show ((bN oK ["_law_t"] [4])).Nodup by decide +kernel) rfl (Or.inl rfl)))) (λb=>(aN (aJ (Znw T) (hr.mono (by decide)) rfl (ah (ac (pv 1)) (ah (ac (pv 0)) aI))))) rfl (show BlkOk oK (az iL) _ [4] from ⟨rfl,by decide +kernel,by decide +kernel,by decide +kernel,by decide +kernel⟩) rfl) (cy (by decide)))
 (ap (aZ (aM (i:=8) dw.nd rfl (Or.inl rfl) (aj bU bR (aN (aJ (r6 T) (hr.mono (by decide)) rfl (ah (ac (pv 4)) aI))) (bn bj bi (ac (pv 3)) ak (λ_ _=>rfl)))))
 (ap (aZ (aM (i:=9) dw.nd rfl (Or.inl rfl) (aj bc bb (ac (pv 8)) (aN (aJ (c8 T) (hr.mono (by decide)) rfl (cx (pv 1) (ah (aj bc bb (aj bU bR (bn bj bi (ac (pv 3)) ak (λ_ _=>rfl)) (ac (pv 8))) ak) aI)))))))
 (ap (dE PassesOwn.never rfl (sE (qb rfl T.eu (ag ak (ag (aj bc bb (bh (t:=aW) (a9 (Zea rfl) rfl T.mZ boot_min (ag ak (ag (aj bU bR (bh (t:=aW) (a9 eX rfl T.eM boot_len (ag (ac (pv 4)) am)) fR) ak) am))) Zap) ak) am)))) (aU (aT (i:=10) dw.nd rfl (Or.inl rfl)))
  (ap (ZnV (aM (i:=11) dw.nd rfl (Or.inl rfl) Zho))
 (ap (dE PassesOwn.never rfl (fP (cP (ag (ac (pv 5)) (ag (ac (pv 9)) am)))) (aU (aT (i:=12) dw.nd rfl (Or.inl rfl)))
  (ap (aZ (aM (i:=13) dw.nd rfl (Or.inl rfl) (aN (Zn0 (fs:=fN) (ks:=eB) (f:=λF KS=>eA F KS 6) (Zei T 6) (ZcH 6) (hr.mono (by decide)) rfl (cP (ag (ac (pv 3)) (ag (ac (pv 4)) (ag (ac (pv 10)) (ag (ac (pv 7)) am))))) (ag ak (ag (ac (pv 12)) (ag (aj ZhA Zfh (cP (ag ak am)) (ac (pv 10))) am)))))))
 (aK (ZnX (Zb1 (fL hr) (pv 11) (ac (pv 12)) (bh (t:=aW) (a9 (om hr) rfl T.mY boot_repr (ag (aN (aJ (Znt T) (hr.mono (by decide)) rfl (ah (ac (pv 13)) (ah (bn bj bi (ac (pv 7)) ak (λ_ _=>rfl)) aI)))) am)) lC) rfl)))))
 (ap (dE PassesOwn.never rfl (fP (cP (ag (ac (pv 5)) (ag (ac (pv 9)) (ag (ac (pv 5)) am))))) (aU (aT (i:=12) dw.nd rfl (Or.inl rfl)))
  (aK (dW (cF (Zcj hr) Zan (bh (t:=aW) (a9 (om hr) rfl T.mY boot_repr (ag (aN (aJ (Znr T) (hr.mono (by decide)) rfl (ah (ac (pv 3)) (ah (ac (pv 4)) (ah (ac (pv 10)) (ah (ac (pv 12)) aI)))))) am)) lC) (Zoc (mP (fL hr) (pv 11) (ac (pv 12)) (λ_ _=>rfl))) (nomark _))
  (aK (b9 kS))
  dU)))
 (aK (dW (sm (ZnP (cF fg dt (ac (pv 8)) (aj bU bR ak (bn bj bi (ac (pv 3)) ak (λ_ _=>rfl))) (nomark _)) (ZnO (Zeu (sr (aN (aJ (Zef T) (hr.mono (by decide)) rfl (ah (ac (pv 3)) (ah (ac (pv 4)) (ah (ac (pv 10)) (ah (aj bU bR (ac (pv 8)) ak) aI)))))))))))
  (aK (b9 kS))
  dU))))))
 (aK (dW (sm (Zes (cF (Zcj hr) Zan (bh (t:=aW) (a9 (om hr) rfl T.mY boot_repr (ag (cP (ag (ac (pv 3)) (ag (ac (pv 4)) am))) am)) lC) (ac (pv 6)) (nomark _)) (Zer (Zeu (sr (aN (aJ (Zns T) (hr.mono (by decide)) rfl (cx (pv 1) (ah (ac (pv 3)) (ah (ac (pv 4)) aI))))))))))
  (aK (b9 kS))
  dU)))))))))
 (aK (b9 kS))))),?_⟩
  refine ⟨_,rfl,a,ns,rfl,hS,hlen,λp c H' hp hP hs=>?_⟩
  exact Zix (n:=12) hP rfl rfl (λH'=>k H') hl
end
end My
set_option Elab.async false
set_option linter.all false
set_option maxRecDepth 100000
local macro_rules | `(tactic| simp_arith only [$ls,*] $[$loc]?) => do let b : Lean.TSyntaxArray ``Lean.Parser.Tactic.simpLemma ← (("L2.Zjx L2.Zjw L2.ZlP L2.Zlr L2.Zlq L2.ZlH L2.rG L2.rH L2.ZjG L2.Zll L2.Zk9 L2.Zku L2.Zdm L2.dR L2.kP L2.sw L2.su L2.ZeB L2.ZeA L2.Zez L2.Zey L2.Zex L2.Zew L2.Zkt L2.Zks L2.ZjF L2.ZjB L2.ZjE L2.ZjD L2.ZjC L2.ZlD L2.Zkn L2.Zkq L2.ZlB L2.ZlC L2.Zkl L2.Zkm L2.Zkp L2.Zk2 L2.Zk0 L2.Zk1 L2.Zkr L2.Zlk L2.Zlj L2.Zli L2.ZjA L2.Zjz L2.ZkB L2.ZkA L2.ZkD L2.ZkC L2.ck L2.Zlm L2.ZkE L2.ig L2.ZlI L2.Zky L2.Zkw L2.ZkR L2.Zjy L2.n5 L2.n4 L2.ZjJ L2.ZjI L2.ZjH L2.Zki L2.Zkh L2.Zkg L2.Zkz L2.Zdl L2.ZlL L2.ZlM L2.ZlO L2.ZlN L2.Zkd L2.Zkc L2.ZlK L2.ZlJ L2.Zln L2.Zkb L2.Zka L2.Zlh L2.Zk8 L2.Zk7 L2.Zdk L2.ZjT L2.ZjS L2.ZjK L2.ZkV L2.ZkT L2.ZkU L2.Zj9 L2.Zj8 L2.Zj7 L2.Zj6 L2.Zj5 L2.Zj4 L2.Zj3 L2.ZjR L2.ZjQ L2.ZjP L2.ZjO L2.Zin L2.Zim L2.Zlv L2.Zlu L2.Zlt L2.Zk3 L2.Zkk L2.Zkj L2.ZlA L2.Zlz L2.Zly L2.Zj2 L2.Zj1 L2.Zk4 L2.Zjo L2.Zjp L2.Zlx L2.Zlw L2.Zko L2.Zjc L2.Zja L2.Zjd L2.Zje L2.Zjb L2.Zkf L2.Zke L2.ZkQ L2.ZkP L2.ZkO L2.ZjY L2.ZjX L2.Zla L2.Zlc L2.Zlb L2.Zk6 L2.Zk5 L2.Zdb L2.eP L2.dS L2.ZkK L2.ZkJ L2.ZkI L2.ZkF L2.ZkH L2.ZkG L2.ZkW L2.ZkY L2.ZkZ L2.ZkX L2.ZjN L2.ZjM L2.ZjL L2.Zdo L2.ZjW L2.Zj0 L2.ZjZ L2.ZjV L2.ZjU L2.rE L2.ZkN L2.ZkM L2.ZkL Tw.Za7 Tw.Za6 Tw.Zgc Tw.Za5 Tw.Zgb Tw.Zga Tw.Zf9 Tw.Zf8 Tw.Zf7 L2.Zlp L2.Zlo L2.Zkv L2.ZkS L2.rb2 L2.Tr.of_some L2.Tr.bind_assoc L2.Tr.draw_bind List.cons_append List.nil_append List.replicate_succ List.replicate_zero List.length_cons List.length_nil L2.Re.val_d L2.Re.val_own L2.blk L2.sf List.map_cons List.map_nil List.getElem?_cons_zero List.getElem?_cons_succ Option.getD_some Nat.reduceAdd Nat.reduceLeDiff List.isEmpty_cons".splitOn " ").toArray.map fun s => Lean.mkIdent s.toName).mapM fun i => `(Lean.Parser.Tactic.simpLemma| $i:ident); `(tactic| simp -implicitDefEqProofs only [$b,*, $ls,*] $[$loc]?)
namespace My
open PySem PySem.Spec PyProof.Rows L2 Tw
theorem Zl0 (s:Shp) (y f:Int):nc [.d s.d,.d (.int y),.d (.int f)]=.ret (.d (.int (s.nx y f))):=by
 simp_arith only [nc,Shp.nx]
theorem Zl6 {s:Shp} (h:s.Ok) {x:Int} (hx:nb 20 x):kA [.d s.d,.d (.int x)]=.ret (.d (.int (s.fin x))):=by
 have f1:=aP (f9 h.back) (by decide)
 have f2:=aP h.late (by decide)
 have f3:=aP hx (by decide)
 have f4:=aP (f9 hx) (by decide)
 by_cases hp:x > 0
 ·simp_arith only [kA,decide_eq_true hp,f1,f3,Shp.fin,if_pos hp]
 ·simp_arith only [kA,decide_eq_false hp,f2,f4,Shp.fin,if_neg hp]
theorem Zl9 {s:Shp} (h:s.Ok) {y f:Int} (hy:nb 20 y) (hf:nb 40 f):kB [.d s.d,.d (.int y),.d (.int f)]=.ret (.d (.int (s.day y f))):=by
 have hd:nb 7 s.depth:=by have:=h.t0; have:=h.d0; have:=h.td; exact bP (by show -128 < _; omega) (by show _ < 128; omega)
 have hn:nb 50 (s.nx y f):=by
  unfold Shp.nx cv
  exact iV (aX (f9 hd) (by decide)) (aX (fF hy hf) (by decide))
 have f1:=aP h.keep (by decide)
 have f2:=aP hn (by decide)
 have f3:=aP (f9 hn) (by decide)
 have f4:=aP h.lack (by decide)
 have f5:=aP h.lost (by decide)
 have f6:=aP (fF hn (fF hy hf)) (by decide)
 have e:=Zl0 s y f
 by_cases hp:s.nx y f > 0
 ·simp_arith only [kB,e,decide_eq_true hp,f1,f2,f5,f6,Shp.day,if_pos hp]
 ·simp_arith only [kB,e,decide_eq_false hp,f3,f4,f5,f6,Shp.day,if_neg hp]
end My
set_option Elab.async false
set_option linter.all false
set_option maxRecDepth 100000
namespace My
open PySem PySem.Spec PyProof.Rows L2 Tw
end My
set_option Elab.async false
set_option linter.all false
set_option maxRecDepth 100000
namespace My
open PySem PySem.Spec PyProof.Rows L2 Tw
theorem ZnQ {xs:List PyData} {v:PyData} (h:xs[xs.length - 1]?=some v):bf xs (-1)=some v:=by
 have hl:xs≠[]:=λe=>by subst e; cases h
 have hp:0 < xs.length:=List.length_pos_iff.mpr hl
 obtain ⟨k,hk⟩:=Nat.exists_eq_succ_of_ne_zero (Nat.ne_of_gt hp)
 unfold bf df
 have e0:(-1:Int)+(xs.length:Int)=(k:Int):=by rw [hk]; show (-1:Int)+((k:Int)+1)=k; rw [Int.add_comm,Int.add_assoc]; exact Int.add_zero _
 have e:((-1:Int)+(xs.length:Int)).toNat=xs.length - 1:=by rw [e0,hk]; exact Int.toNat_natCast k
 rw [if_neg (by decide),if_pos (by omega)]
 show xs[((-1:Int)+(xs.length:Int)).toNat]?=some v
 rw [e]
 exact h
noncomputable def dc (g:Int->Int) (top K P x:Int):PyData:=.tuple [.int (cst g top K P x),.int (lvl g top K x)]
theorem ZgG {lo hi:Int} {F:Int->PyData}:((List.range (hi - lo).toNat).map λ(i:Nat)=>F (hi - 1 - i)).reverse=(aB lo (hi - lo).toNat).map F:=by
 unfold aB
 rw [List.map_map]
 apply List.ext_getElem?
 intro i
 by_cases hi':i < (hi - lo).toNat
 ·rw [List.getElem?_reverse (by simpa using hi'),List.length_map,List.length_range,List.getElem?_map,List.getElem?_map,List.getElem?_range (by omega),List.getElem?_range hi']
  show some (F (hi - 1 - (((hi - lo).toNat - 1 - i:Nat):Int)))=some (F (lo+(i:Int)))
  congr 2
  omega
 ·rw [List.getElem?_eq_none (by simpa using hi'),List.getElem?_eq_none (by simpa using hi')]
theorem Zmb {s:Shp} (h:s.Ok) {low:Int} (hl:low<=s.top) (hl0:-1000<=low) {g:Int->Int} {b:Nat} (hg:∀ x,low<=x->x<=s.top->nb b (g x)) {sc:Int} (hs:nb b sc) (hK:0<=sc * s.start) (hb:b<=3000) :
  nA [.d s.d,.d (.int low),.d (lI ((aB low (s.top+1 - low).toNat).map g)),.d (.int sc)]=.ret (.own ((aB low (s.top+1 - low).toNat).map (dc g s.top (sc * s.start) (sc * s.piece)))):=by
 have:=h.t0
 have:=h.d0
 have:=h.td
 have hn:0 < (s.top+1 - low).toNat:=by omega
 have hlen:(((aB low (s.top+1 - low).toNat).map g).map PyData.int).length=(s.top+1 - low).toNat:=by rw [List.length_map,List.length_map,gu]
 have hat:∀ x,low<=x->x<=s.top->(((aB low (s.top+1 - low).toNat).map g).map PyData.int)[(x - low).toNat]?=some (.int (g x)):=λx h1 h2=>by
  unfold aB
  rw [List.map_map,List.map_map,List.getElem?_map,List.getElem?_range (by omega)]
  show some (PyData.int (g (low+((x - low).toNat:Int))))=_
  congr 3
  omega
 have hlast:bf (((aB low (s.top+1 - low).toNat).map g).map PyData.int) (-1)=some (.int (g s.top)):=ZnQ (by
  rw [hlen]
  have:=hat s.top hl (Int.le_refl _)
  have e:(s.top - low).toNat=(s.top+1 - low).toNat - 1:=by
   obtain ⟨k,hk⟩:=Int.eq_ofNat_of_zero_le (Int.sub_nonneg_of_le hl)
   have hk2:s.top+1 - low=((k+1:Nat):Int):=by omega
   rw [hk,hk2]
   rfl
  rw [e] at this
  exact this)
 have r1:dB low=true:=c7 (by omega) (by omega)
 have r2:dB (s.top+1)=true:=c7 (by omega) (by omega)
 have f1:=aP hs (by omega)
 have f2:=aP h.start (by decide)
 have f3:=aP h.piece (by decide)
 have f4:=aP (bG hs h.piece) (by omega)
 apply ZeP
 simp_arith only [nA,lI,hlast,n6 r1 r2]
 refine ft (n:=0) (n':=0) (P:=λo=>∃ J5 J6 J7 J8 J9:Sl,o=.next [.d s.d,.d (.int low),.d (.list (((aB low (s.top+1 - low).toNat).map g).map PyData.int)),.d (.int sc),.own ((List.range (s.top+1 - low).toNat).map λ(i:Nat)=>dc g s.top (sc * s.start) (sc * s.piece) (s.top+1 - 1 - i)),J5,J6,J7,J8,J9]) ?_ (by decide) ?_
 ·refine ZeN (n:=0) (λpre ρ=>∃ J6 J7 J8 J9:Sl,ρ=[.d s.d,.d (.int low),.d (.list (((aB low (s.top+1 - low).toNat).map g).map PyData.int)),.d (.int sc),.own ((List.range pre.length).map λ(i:Nat)=>dc g s.top (sc * s.start) (sc * s.piece) (s.top+1 - 1 - i)),.d (.tuple [.int (bst g s.top (pre.length - 1)).1,.int (bst g s.top (pre.length - 1)).2]),J6,J7,J8,J9]) ⟨.un,.un,.un,.un,rfl⟩ (by simp) ?_ ?_
  ·rintro pre x post ρ e ⟨J6,J7,J8,J9,rfl⟩
   obtain ⟨rfl,hpre⟩:=Zbk e
   refine ⟨_,rfl,?_⟩
   generalize hk:pre.length=k at hpre ⊢
   have hx1:low<=s.top+1 - 1 - (k:Int):=by omega
   have hx2:s.top+1 - 1 - (k:Int)<=s.top:=by omega
   have ha:bf (((aB low (s.top+1 - low).toNat).map g).map PyData.int) (s.top+1 - 1 - (k:Int) - low)=some (.int (g (s.top+1 - 1 - (k:Int)))):=jp (by omega) (hat _ hx1 hx2)
   have hxn:nb 20 (s.top+1 - 1 - (k:Int)):=bP (by show -1048576 < _; omega) (by show _ < 1048576; omega)
   have f5:=aP hxn (by decide)
   have hsm:small (((List.range k).map λ(i:Nat)=>dc g s.top (sc * s.start) (sc * s.piece) (s.top+1 - 1 - i)).length+1)=true:=ck (by rw [List.length_map,List.length_range]; omega)
   have el:(pre++[PyData.int (s.top+1 - 1 - (k:Int))]).length=k+1:=by rw [List.length_append,hk]; rfl
   have m1:bF gB [.tuple [.int (g (s.top+1 - 1 - (k:Int))),.int (s.top+1 - 1 - (k:Int))],.tuple [.int (sc * s.start+(bst g s.top (k - 1)).1),.int (bst g s.top (k - 1)).2]]=.ret (.tuple [.int (pck g s.top (sc * s.start) (s.top+1 - 1 - (k:Int))).1,.int (pck g s.top (sc * s.start) (s.top+1 - 1 - (k:Int))).2]):=by
    rw [rE]
    cases k with
    | zero =>
     have ex:s.top+1 - 1 - ((0:Nat):Int)=s.top:=by simp
     rw [ex,qf,if_neg]
     show ¬ (sc * s.start+g s.top < g s.top\/sc * s.start+g s.top=g s.top/\s.top < s.top)
     omega
    | succ n =>
     have ex:s.top+1 - 1 - ((n+1:Nat):Int)=s.top - ((n+1:Nat):Int):=by omega
     rw [ex,qg,Nat.add_sub_cancel]
     have hb:=(oo g s.top n).1
     by_cases hc:sc * s.start+(bst g s.top n).1 < g (s.top - ((n+1:Nat):Int))
     ·rw [if_pos (.inl hc),if_pos hc]
     ·rw [if_neg (by omega),if_neg hc]
   have m2:bF gB [.tuple [.int (g (s.top+1 - 1 - (k:Int))),.int (s.top+1 - 1 - (k:Int))],.tuple [.int (bst g s.top (k - 1)).1,.int (bst g s.top (k - 1)).2]]=.ret (.tuple [.int (bst g s.top k).1,.int (bst g s.top k).2]):=by
    rw [rE]
    cases k with
    | zero =>
     have ex:s.top+1 - 1 - ((0:Nat):Int)=s.top:=by simp
     rw [ex,if_neg]
     ·rfl
     ·show ¬ (g s.top < g s.top\/g s.top=g s.top/\s.top < s.top)
      omega
    | succ n =>
     have ex:s.top+1 - 1 - ((n+1:Nat):Int)=s.top - ((n+1:Nat):Int):=by omega
     rw [ex,Nat.add_sub_cancel]
     have hb:=(oo g s.top n).1
     rw [bst]
     by_cases hc:(bst g s.top n).1 < g (s.top - ((n+1:Nat):Int))
     ·rw [if_pos (.inl hc),if_pos hc]
     ·rw [if_neg (by omega),if_neg hc]
   simp_arith only [ZcO,ha,m1,m2,f1,f2,f3,f4,f5,hsm]
   rw [el,List.range_succ,List.map_append]
   exact cT ⟨_,rfl,_,_,_,_,rfl⟩
  ·rintro ρ ⟨J6,J7,J8,J9,rfl⟩
   rw [List.length_reverse,cX]
   exact ⟨_,J6,J7,J8,J9,rfl⟩
 ·rintro _ ⟨J5,J6,J7,J8,J9,rfl⟩
  simp_arith only [List.isEmpty_cons]
  rw [ZgG]
  exact cT rfl
end My
set_option Elab.async false
set_option linter.all false
set_option maxRecDepth 100000
set_option exponentiation.threshold 9000
namespace My
open PySem PySem.Spec PyProof.Rows L2 Tw
theorem Zl4 {a b:Int} (hb:nb 8000 b):nz [.d (.int a),.d (.int b)]=.ret (.d (.int (Nat.gcd a.natAbs b.natAbs:Nat))):=by
 have key:=euclid (p:=oZ) (s:=qU) (E:=λa b=>[.d (.int a),.d (.int b)]) (λa b=>by
  simp_arith only [oZ]
  by_cases h:b=0
  ·subst h; rfl
  ·rw [decide_eq_true h]
   congr 1
   simp [h]) (λa b h=>by
  have h':(b:Int)≠0:=by omega
  simp_arith only [qU,rD h',Zdh]) 8000 83999 a.natAbs b.natAbs hb
 have e:2 * 8000+1+83999=100000:=rfl
 rw [e] at key
 simp_arith only [nz,ZeU,key]
theorem Zdv {t b:Int} (h0:b≠0) (hb:nb 7000 b):i7 [.d (.int t),.d (.int b)]=.ret (.d (fT t b)):=by
 have e:=Zl4 (a:=t) (b:=b) (aX hb (by decide))
 have e0:(b == 0)=false:=beq_eq_false_iff_ne.mpr h0
 have hd:=Gc.rR (t:=t) h0
 have hf:=aP (ZdJ (t:=t) hb h0) (by decide)
 unfold fT Gc.gb Gc.fH
 by_cases hn:b < 0
 ·have ed:Gc.den t b=-((Nat.gcd t.natAbs b.natAbs:Nat):Int):=by unfold Gc.den Gc.gI; rw [if_pos hn]
  rw [ed] at hd hf ⊢
  simp_arith only [i7,e0,e,decide_eq_true hn,rF hd hf]
 ·have ed:Gc.den t b=((Nat.gcd t.natAbs b.natAbs:Nat):Int):=by unfold Gc.den Gc.gI; rw [if_neg hn]
  rw [ed] at hd hf ⊢
  simp_arith only [i7,e0,e,decide_eq_false hn,rF hd hf]
end My
set_option Elab.async false
set_option linter.all false
set_option maxRecDepth 100000
set_option exponentiation.threshold 9000
namespace My
open PySem PySem.Spec PyProof.Rows L2 Tw Bar
noncomputable def bu (n:Nat) (r:Nat->Int):List PyData:=((List.range n).map r).map PyData.int
theorem pM (n:Nat) (r:Nat->Int):(bu n r).length=n:=by unfold bu; rw [List.length_map,List.length_map,List.length_range]
theorem my {n:Nat} {r:Nat->Int} {j:Nat} (h:j < n):(bu n r)[j]?=some (.int (r j)):=by
 unfold bu
 rw [List.getElem?_map,List.getElem?_map,List.getElem?_range h]
 rfl
theorem ZgD {n:Nat} {r:Nat->Int} {j:Nat} (h:j < n) (v:Int):(bu n r).set j (.int v)=bu n λq=>if q=j then v else r q:=by
 apply List.ext_getElem?
 intro q
 rw [List.getElem?_set]
 by_cases e:j=q
 ·subst e
  rw [if_pos rfl,if_pos (by rw [pM]; exact h),my h,if_pos rfl]
 ·rw [if_neg e]
  by_cases hq:q < n
  ·rw [my hq,my hq,if_neg (λz=>e z.symm)]
  ·rw [List.getElem?_eq_none (by rw [pM]; omega),List.getElem?_eq_none (by rw [pM]; omega)]
theorem mx {n:Nat} {r r':Nat->Int} (h:∀ j,j < n->r j=r' j):bu n r=bu n r':=by
 unfold bu
 congr 1
 exact List.map_congr_left λj hj=>h j (List.mem_range.mp hj)
noncomputable def cvN (a b:List Int) (k:Nat):Int:=ws (λi=>ws (λj=>if (i+j).toNat=k then 1 else 0) 0 b) 0 a
noncomputable def cw (a b:List Int):List Int:=(List.range (a.length+b.length - 1)).map (cvN a b)
theorem ZdY (a b:List Int):(cw a b).length=a.length+b.length - 1:=by unfold cw; rw [List.length_map,List.length_range]
theorem po (f g:Nat->Int):∀ n:Nat,Bar.bY (λj=>f j+g j) n=Bar.bY f n+Bar.bY g n
 | 0=>rfl
 | n+1=>by rw [Bar.bY,Bar.bY,Bar.bY,po f g n]; omega
theorem pj (f:Nat->Int) (c:Int):∀ n:Nat,Bar.bY (λj=>c * f j) n=c * Bar.bY f n
 | 0=>by rw [Bar.bY,Bar.bY,Int.mul_zero]
 | n+1=>by rw [Bar.bY,Bar.bY,pj f c n,Int.mul_add]
theorem ph {f:Nat->Int}:∀ n:Nat,(∀ j,j < n->f j=0)->Bar.bY f n=0
 | 0,_=>rfl
 | n+1,h=>by rw [Bar.bY,ph n λj hj=>h j (by omega),h n (by omega)]; rfl
theorem ZfX {g n:Nat} (h:g < n) (v:Nat->Int):Bar.bY (λj=>(if g=j then 1 else 0) * v j) n=v g:=by
 have key:∀ m:Nat,Bar.bY (λj=>(if g=j then 1 else 0) * v j) m=if g < m then v g else 0:=by
  intro m
  induction m with
  | zero=>rfl
  | succ m ih =>
   rw [Bar.bY,ih]
   by_cases e:g=m
   ·subst e
    rw [if_neg (by omega),if_pos rfl,if_pos (by omega),Int.one_mul]
    omega
   ·rw [if_neg e]
    by_cases e2:g < m
    ·rw [if_pos e2,if_pos (by omega)]
     simp
    ·rw [if_neg e2,if_neg (by omega)]
     simp
 rw [key,if_pos h]
theorem ZaR {n:Nat} {ix:Int->Nat} (v:Nat->Int):∀ (l:List Int) (k:Nat),(∀ q:Nat,q < l.length->ix ((k+q:Nat):Int) < n)->Bar.bY (λj=>ws (λf=>if ix f=j then 1 else 0) k l * v j) n=ws (λf=>v (ix f)) k l
 | [],k,_=>by
  rw [ph n λj _=>by rw [ws,Int.zero_mul]]
  rfl
 | w::l,k,h=>by
  have ih:=ZaR v l (k+1) λq hq=>by
   have:=h (q+1) (by rw [List.length_cons]; omega)
   rw [show k+(q+1)=k+1+q by omega] at this
   exact this
  have e:(λj=>ws (λf=>if ix f=j then 1 else 0) k (w::l) * v j)=λj=>w * ((if ix (k:Int)=j then 1 else 0) * v j)+ws (λf=>if ix f=j then 1 else 0) (k+1) l * v j:=funext λj=>by rw [ws,Int.add_mul,Int.mul_assoc]
  have h0:=h 0 (by simp)
  rw [Nat.add_zero] at h0
  rw [e,po,pj,ZfX h0,ih]
  rfl
theorem Zfc (f:Int->Int) (c:Nat->Int):∀ (n k:Nat),ws f k ((List.range n).map c)=Bar.bY (λj=>c j * f ((k+j:Nat):Int)) n:=by
 intro n
 induction n generalizing c with
 | zero=>intro k; rfl
 | succ n ih =>
  intro k
  have e:Bar.bY (λj=>c j * f ((k+j:Nat):Int)) (n+1)=c 0 * f ((k:Nat):Int)+Bar.bY (λj=>c (j+1) * f ((k+1+j:Nat):Int)) n:=by
   have:∀ m:Nat,Bar.bY (λj=>c j * f ((k+j:Nat):Int)) (m+1)=c 0 * f ((k:Nat):Int)+Bar.bY (λj=>c (j+1) * f ((k+1+j:Nat):Int)) m:=by
    intro m
    induction m with
    | zero=>show 0+c 0 * f ((k+0:Nat):Int)=c 0 * f (k:Int)+0; rw [Nat.add_zero]; omega
    | succ m ihm =>
     rw [Bar.bY,ihm,Bar.bY,show k+(m+1)=k+1+m by omega]
     omega
   exact this n
  rw [List.range_succ_eq_map,List.map_cons,List.map_map,ws,e]
  have:=ih (c ∘ Nat.succ) (k+1)
  rw [this]
  rfl
theorem Zfd (f:Int->Int) (a b:List Int) (hb:0 < b.length):ws f 0 (cw a b)=ws (λi=>ws (λj=>f (i+j)) 0 b) 0 a:=by
 unfold cw
 rw [Zfc]
 have key:∀ (l:List Int) (k:Nat),k+l.length<=a.length->Bar.bY (λq=>ws (λi=>ws (λj=>if (i+j).toNat=q then 1 else 0) 0 b) k l * f ((0+q:Nat):Int)) (a.length+b.length - 1)=ws (λi=>ws (λj=>f (i+j)) 0 b) k l:=by
  intro l
  induction l with
  | nil =>
   intro k _
   rw [ph _ λj _=>by rw [ws,Int.zero_mul]]
   rfl
  | cons w l ih =>
   intro k hk
   rw [List.length_cons] at hk
   have e:(λq=>ws (λi=>ws (λj=>if (i+j).toNat=q then 1 else 0) 0 b) k (w::l) * f ((0+q:Nat):Int))=λq=>w * (ws (λj=>if ((k:Int)+j).toNat=q then 1 else 0) 0 b * f ((0+q:Nat):Int))+ws (λi=>ws (λj=>if (i+j).toNat=q then 1 else 0) 0 b) (k+1) l * f ((0+q:Nat):Int):=funext λq=>by rw [ws,Int.add_mul,Int.mul_assoc]
   rw [e,po,pj,ZaR (ix:=λj=>((k:Int)+j).toNat) (λq=>f ((0+q:Nat):Int)) b 0 (λq hq=>by show ((k:Int)+((0+q:Nat):Int)).toNat < _; omega),ih (k+1) (by omega),ws]
   congr 2
   refine dr λx hx=>?_
   show f ((0+((k:Int)+x).toNat:Nat):Int)=f ((k:Int)+x)
   congr 1
   omega
 exact key a 0 (by omega)
noncomputable def cj (fs:List (List Int)):List Int:=fs.foldl cw [1]
noncomputable def sv:List (List Int)->(Int->Int)->Int
 | [],f=>f 0
 | d::fs,f=>ws (λi=>sv fs λj=>f (i+j)) 0 d
theorem pg:∀ {fs:List (List Int)} {f g:Int->Int},(∀ x,0<=x->f x=g x)->sv fs f=sv fs g
 | [],f,g,h=>h 0 (by decide)
 | d::fs,f,g,h=>dr λi hi=>pg λj hj=>h _ (by omega)
theorem Zag (f:Int->Int):∀ (fs:List (List Int)) (a:List Int),(∀ l∈fs,0 < l.length)->ws f 0 (fs.foldl cw a)=ws (λi=>sv fs λj=>f (i+j)) 0 a
 | [],a,_=>dr λi _=>by show f i=f (i+0); rw [Int.add_zero]
 | d::fs,a,h=>by
  rw [List.foldl_cons,Zag f fs (cw a d) λl hl=>h l (List.mem_cons_of_mem _ hl),Zfd _ _ _ (h d (by simp))]
  refine dr λi _=>dr λj _=>pg λq _=>?_
  rw [Int.add_assoc]
theorem oR (f:Int->Int) {fs:List (List Int)} (h:∀ l∈fs,0 < l.length):ws f 0 (cj fs)=sv fs f:=by
 unfold cj
 rw [Zag f fs [1] h]
 show 1 * (sv fs λj=>f (((0:Nat):Int)+j))+0=_
 rw [Int.one_mul,Int.add_zero]
 refine pg λx _=>?_
 show f (0+x)=f x
 rw [Int.zero_add]
theorem sc1 (W:Sl):∀ (fs:List (List Int)) (b:Nat) (D:Int) (J:Sl),nb b D->(∀ l∈fs,DayB l)->b+46 * fs.length<=8000->∃ K:Sl,bW (ai 2) nK (fs.map tI) [W,.d (.int D),J]=.ret (.next [W,.d (.int (D * prd fs)),K])
 | [],b,D,J,_,_,_=>⟨J,by rw [prd,Int.mul_one]; rfl⟩
 | d::fs,b,D,J,h,hf,hl=>by
  rw [List.length_cons,Nat.mul_succ] at hl
  have hd:=hf d (by simp)
  have sn:=lJ hd
  obtain ⟨K,e⟩:=sc1 W fs (b+46) (D * d.sum) (.d (tI d)) (bG h sn) (λq hq=>hf q (List.mem_cons_of_mem _ hq)) (by omega)
  refine ⟨K,?_⟩
  have f1:=aP h (by omega)
  have f2:=aP sn (by decide)
  have es:bF cr [tI d]=.ret (.int d.sum):=n4 d
  have et:nK [W,.d (.int D),.d (tI d)]=.ret (.next [W,.d (.int (D * d.sum)),.d (tI d)]):=by
   simp_arith only [nK,es,f1,f2]
  have eg:ai 2 (tI d) [W,.d (.int D),J]=some [W,.d (.int D),.d (tI d)]:=rfl
  have ep:D * d.sum * prd fs=D * prd (d::fs):=by rw [prd,Int.mul_assoc,Int.mul_comm d.sum]
  rw [List.map_cons,dg,eg,Tr.of_some,Tr.ret_bind,eP,et,Tr.ret_bind,dS,e,ep]
theorem kK {fs:List (List Int)} (hf:∀ l∈fs,DayB l) (hl:fs.length<=10):gD [.d (fD fs)]=.ret (.d (.int (prd fs))):=by
 obtain ⟨K,e⟩:=sc1 (.d (fD fs)) fs 1 1 .un (by show (1:Int).natAbs < 2 ^ 1; decide) hf (by omega)
 rw [Int.one_mul] at e
 unfold fD at e
 simp_arith only [gD,fD,e]
theorem wt1 (D W Y:Sl) {n i:Nat} {a:Int} {A:Nat} (ha:nb A a) (hA:A<=8000):∀ (l:List Int) (k:Nat) (r:Nat->Int) (J6 J7:Sl),i+k+l.length<=n->(∀ w∈l,nb 30 w)->∃ K6 K7:Sl,bW (bv (av (ai 6) (av (ai 7) br))) nI (enu k l) [D,W,Y,.own (bu n r),.d (.int i),.d (.int a),J6,J7]=.ret (.next [D,W,Y,.own (bu n λj=>r j+a * ws (λf=>if ((i:Int)+f).toNat=j then 1 else 0) k l),.d (.int i),.d (.int a),K6,K7])
 | [],k,r,J6,J7,_,_=>⟨J6,J7,by
  have e:bu n (λj=>r j+a * ws (λf=>if ((i:Int)+f).toNat=j then 1 else 0) k [])=bu n r:=mx λj _=>by rw [ws,Int.mul_zero,Int.add_zero]
  rw [e]
  rfl⟩
 | w::l,k,r,J6,J7,hn,hw=>by
  rw [List.length_cons] at hn
  have hj:((i:Int)+(k:Int)).toNat < n:=by omega
  obtain ⟨K6,K7,e⟩:=wt1 D W Y (n:=n) (i:=i) ha hA l (k+1) (λj=>if j=((i:Int)+(k:Int)).toNat then r ((i:Int)+(k:Int)).toNat+a * w else r j) (.d (.int k)) (.d (.int w)) (by omega) λq hq=>hw q (List.mem_cons_of_mem _ hq)
  refine ⟨K6,K7,?_⟩
  have f1:=aP ha hA
  have f2:=aP (hw w (by simp)) (by decide)
  have h0:_=_:=ZlG (g:=λi j=>i+j) (k:=3) (i:=ad bz (aa 5) (aa 7)) (ρ:=[D,W,Y,.own (bu n r),.d (.int i),.d (.int a),.d (.int k),.d (.int w)]) (xs:=bu n r) (y:=(i:Int)+k) (a:=r ((i:Int)+(k:Int)).toNat) (by omega) (my hj)
  have et:nI [D,W,Y,.own (bu n r),.d (.int i),.d (.int a),.d (.int k),.d (.int w)]=.ret (.next [D,W,Y,.own (bu n λj=>if j=((i:Int)+(k:Int)).toNat then r ((i:Int)+(k:Int)).toNat+a * w else r j),.d (.int i),.d (.int a),.d (.int k),.d (.int w)]):=by
   unfold nI
   rw [Zls (xs:=bu n r) rfl]
   have en:(ad aO (aa 4) (aa 6)) [D,W,Y,.own (bu n r),.d (.int i),.d (.int a),.d (.int k),.d (.int w)]=.ret (.int ((i:Int)+k)):=by
    simp_arith only [List.isEmpty_cons]
   rw [en,Tr.ret_bind,h0,ZlF]
   have ew:(ad bz (aa 5) (aa 7)) [D,W,Y,.own (bu n r),.d (.int i),.d (.int a),.d (.int k),.d (.int w)]=.ret (.int (a * w)):=by
    simp_arith only [f1,f2]
   rw [ew,Tr.ret_bind,ZlE,ZgD hj]
   rfl
  have eg:(bv (av (ai 6) (av (ai 7) br))) (.tuple [.int (k:Int),.int w]) [D,W,Y,.own (bu n r),.d (.int i),.d (.int a),J6,J7]=some [D,W,Y,.own (bu n r),.d (.int i),.d (.int a),.d (.int k),.d (.int w)]:=rfl
  have er:(bu n λj=>(if j=((i:Int)+(k:Int)).toNat then r ((i:Int)+(k:Int)).toNat+a * w else r j)+a * ws (λf=>if ((i:Int)+f).toNat=j then 1 else 0) (k+1) l)=bu n λj=>r j+a * ws (λf=>if ((i:Int)+f).toNat=j then 1 else 0) k (w::l):=mx λj hj=>by
   rw [ws]
   by_cases q:j=((i:Int)+(k:Int)).toNat
   ·rw [if_pos q,if_pos q.symm,<- q,Int.mul_one,Int.mul_add]
    omega
   ·rw [if_neg q,if_neg (λe=>q e.symm),Int.mul_zero,Int.zero_add]
  rw [enu,dg,eg,Tr.of_some,Tr.ret_bind,eP,et,Tr.ret_bind,dS,e,er]
theorem wt2 (D W:Sl) {b:List Int} (hb:DayB b) {n A:Nat} (hA:A<=8000):∀ (l:List Int) (k:Nat) (r:Nat->Int) (J4 J5 J6 J7:Sl),k+l.length+b.length<=n+1->(∀ w∈l,nb A w)->∃ K4 K5 K6 K7:Sl,bW (bv (av (ai 4) (av (ai 5) br))) nG (enu k l) [D,W,.d (tI b),.own (bu n r),J4,J5,J6,J7]=.ret (.next [D,W,.d (tI b),.own (bu n λj=>r j+ws (λi=>ws (λf=>if (i+f).toNat=j then 1 else 0) 0 b) k l),K4,K5,K6,K7])
 | [],k,r,J4,J5,J6,J7,_,_=>⟨J4,J5,J6,J7,by
  have e:bu n (λj=>r j+ws (λi=>ws (λf=>if (i+f).toNat=j then 1 else 0) 0 b) k [])=bu n r:=mx λj _=>by rw [ws,Int.add_zero]
  rw [e]
  rfl⟩
 | w::l,k,r,J4,J5,J6,J7,hn,hw=>by
  rw [List.length_cons] at hn
  obtain ⟨L6,L7,e0⟩:=wt1 D W (.d (tI b)) (n:=n) (i:=k) (hw w (by simp)) hA b 0 r J6 J7 (by omega) hb.nb
  obtain ⟨K4,K5,K6,K7,e⟩:=wt2 D W hb (n:=n) hA l (k+1) (λj=>r j+w * ws (λf=>if ((k:Int)+f).toNat=j then 1 else 0) 0 b) (.d (.int k)) (.d (.int w)) L6 L7 (by omega) λq hq=>hw q (List.mem_cons_of_mem _ hq)
  refine ⟨K4,K5,K6,K7,?_⟩
  have ee:cC (b.map PyData.int)=enu 0 b:=ij b
  have et:nG [D,W,.d (tI b),.own (bu n r),.d (.int k),.d (.int w),J6,J7]=.ret (.next [D,W,.d (tI b),.own (bu n λj=>r j+w * ws (λf=>if ((k:Int)+f).toNat=j then 1 else 0) 0 b),.d (.int k),.d (.int w),L6,L7]):=by
   unfold tI at e0
   simp_arith only [nG,tI,ee,e0]
  have eg:(bv (av (ai 4) (av (ai 5) br))) (.tuple [.int (k:Int),.int w]) [D,W,.d (tI b),.own (bu n r),J4,J5,J6,J7]=some [D,W,.d (tI b),.own (bu n r),.d (.int k),.d (.int w),J6,J7]:=rfl
  have er:(bu n λj=>r j+w * ws (λf=>if ((k:Int)+f).toNat=j then 1 else 0) 0 b+ws (λi=>ws (λf=>if (i+f).toNat=j then 1 else 0) 0 b) (k+1) l)=bu n λj=>r j+ws (λi=>ws (λf=>if (i+f).toNat=j then 1 else 0) 0 b) k (w::l):=mx λj hj=>by
   rw [ws,Int.add_assoc]
  rw [enu,dg,eg,Tr.of_some,Tr.ret_bind,eP,et,Tr.ret_bind,dS,e,er]
theorem ZdX {a b:List Int} {A:Nat} (ha:∀ w∈a,nb A w) (hb:DayB b):∀ w∈cw a b,nb (A+a.length+63) w:=λw hw=>by
 obtain ⟨k,-,rfl⟩:=List.mem_map.mp hw
 have hl:=hb.len
 refine aX (oV (b:=30+1+b.length) (λx _=>oV (b:=1) (λy _=>?_) hb.nb) ha) (by omega)
 by_cases e:(x+y).toNat=k
 ·rw [if_pos e]; show (1:Int).natAbs < 2 ^ 1; decide
 ·rw [if_neg e]; show (0:Int).natAbs < 2 ^ 1; decide
theorem ZgI {n:Nat} (h:n<=1000):kO iR (.list [.int 0]) (.int (n:Int))=.ret (bu n λ_=>0):=by
 rw [ZgH (by simp; omega),Int.toNat_natCast]
 unfold bu
 congr 1
 clear h
 induction n with
 | zero=>rfl
 | succ m ih=>rw [List.replicate_succ',List.flatten_append,ih,List.range_succ,List.map_append,List.map_append]; rfl
theorem wt3 (D:Sl):∀ (fs:List (List Int)) (a:List Int) (A:Nat) (J2 J3 J4 J5 J6 J7:Sl),0 < a.length->(∀ l∈fs,DayB l/\0 < l.length)->(∀ w∈a,nb A w)->A+600 * fs.length<=8000->a.length+16 * fs.length<=500->∃ K2 K3 K4 K5 K6 K7:Sl,bW (ai 2) nF (fs.map tI) [D,.d (lI a),J2,J3,J4,J5,J6,J7]=.ret (.next [D,.d (lI (fs.foldl cw a)),K2,K3,K4,K5,K6,K7])
 | [],a,A,J2,J3,J4,J5,J6,J7,_,_,_,_,_=>⟨J2,J3,J4,J5,J6,J7,rfl⟩
 | b::fs,a,A,J2,J3,J4,J5,J6,J7,a0,hf,ha,hA,hl=>by
  rw [List.length_cons,Nat.mul_succ] at hA hl
  obtain ⟨hb,b0⟩:=hf b (by simp)
  have hbl:=hb.len
  have hc:(cw a b).length=a.length+b.length - 1:=ZdY a b
  obtain ⟨L4,L5,L6,L7,e0⟩:=wt2 D (.d (lI a)) hb (n:=a.length+b.length - 1) (A:=A) (by omega) a 0 (λ_=>0) J4 J5 J6 J7 (by omega) ha
  obtain ⟨K2,K3,K4,K5,K6,K7,e⟩:=wt3 D fs (cw a b) (A+a.length+63) (.d (tI b)) (.d (lI (cw a b))) L4 L5 L6 L7 (by omega) (λl hl=>hf l (List.mem_cons_of_mem _ hl)) (ZdX ha hb) (by omega) (by omega)
  refine ⟨K2,K3,K4,K5,K6,K7,?_⟩
  have ea:cC (a.map PyData.int)=enu 0 a:=ij a
  have er:bu (a.length+b.length - 1) (λj=>(0:Int)+ws (λi=>ws (λf=>if (i+f).toNat=j then 1 else 0) 0 b) 0 a)=(cw a b).map PyData.int:=by
   unfold bu cw
   congr 1
   exact List.map_congr_left λj _=>by rw [Int.zero_add]; rfl
  rw [er] at e0
  have hrep:=ZgI (n:=a.length+b.length - 1) (by omega)
  rw [show ((a.length+b.length - 1:Nat):Int)=(a.length:Int)+b.length - 1 by omega] at hrep
  have l1:(a.map PyData.int).length=a.length:=List.length_map _
  have l2:(b.map PyData.int).length=b.length:=List.length_map _
  have et:nF [D,.d (lI a),.d (tI b),J3,J4,J5,J6,J7]=.ret (.next [D,.d (lI (cw a b)),.d (tI b),.d (lI (cw a b)),L4,L5,L6,L7]):=by
   unfold tI lI at e0
   simp_arith only [nF,tI,lI,ea,l1,l2,hrep,e0]
  have eg:ai 2 (tI b) [D,.d (lI a),J2,J3,J4,J5,J6,J7]=some [D,.d (lI a),.d (tI b),J3,J4,J5,J6,J7]:=rfl
  rw [List.map_cons,dg,eg,Tr.of_some,Tr.ret_bind,eP,et,Tr.ret_bind,dS,e]
  rfl
theorem rK {fs:List (List Int)} (hf:∀ l∈fs,DayB l/\0 < l.length) (hl:fs.length<=10):i5 [.d (fD fs)]=.ret (.d (lI (cj fs))):=by
 obtain ⟨K2,K3,K4,K5,K6,K7,e⟩:=wt3 (.d (fD fs)) fs [1] 1 .un .un .un .un .un .un (by decide) hf (by intro w hw; rw [List.mem_singleton] at hw; subst hw; show (1:Int).natAbs < 2 ^ 1; decide) (by omega) (by show 1+_<=_; omega)
 unfold fD lI at e
 simp_arith only [i5,fD,lI,cj]
 exact e ▸ rfl
end My
set_option Elab.async false
set_option linter.all false
set_option maxRecDepth 100000
set_option exponentiation.threshold 9000
namespace My
open PySem PySem.Spec PyProof.Rows L2 Tw Bar
theorem jZ (lo:Int) (n:Nat):aB lo (n+1)=lo::aB (lo+1) n:=by
 rw [Nat.add_comm n 1,mD]
 show [lo+((0:Nat):Int)]++_=_
 rw [show lo+((0:Nat):Int)=lo by omega]
 rfl
noncomputable def cS (lo:Int) (n:Nat) (f:Int->Int):PyData:=dD ((aB lo n).map λx=>(x,.int (f x)))
theorem ZdI (f:Int->Int):∀ (n:Nat) (lo:Int) (kvs:List (Int×PyData)),(∀ p∈kvs,p.1 < lo)->fO kvs ((aB lo n).map λx=>.tuple [.int x,.int (f x)])=some (dD (kvs++(aB lo n).map λx=>(x,.int (f x))))
 | 0,lo,kvs,_=>by
  show some (dD kvs)=some (dD (kvs++[]))
  rw [List.append_nil]
 | n+1,lo,kvs,h=>by
  rw [jZ,List.map_cons,List.map_cons,fO]
  have e:cA kvs lo (.int (f lo))=kvs++[(lo,.int (f lo))]:=by
   unfold cA
   rw [if_neg]
   intro z
   obtain ⟨p,hp,e⟩:=List.any_eq_true.mp z
   have:=h p hp
   have:=of_decide_eq_true e
   omega
  rw [e,ZdI f n (lo+1) _ λp hp=>by
   rcases List.mem_append.mp hp with hp | hp
   ·have:=h p hp; omega
   ·rw [List.mem_singleton] at hp; subst hp; show lo < lo+1; omega]
  rw [List.append_assoc]
  rfl
theorem ZdP (f:Int->Int) (lo:Int) (n:Nat):fO [] ((aB lo n).map λx=>.tuple [.int x,.int (f x)])=some (cS lo n f):=ZdI f n lo [] (by simp)
theorem rV {f:Int->Int}:∀ {n:Nat} {lo x:Int},lo<=x->x < lo+n->fm (cS lo n f) (.int x)=some (.int (f x))
 | 0,lo,x,h1,h2=>absurd h2 (by omega)
 | n+1,lo,x,h1,h2=>by
  unfold cS dD
  rw [jZ,List.map_cons,List.map_cons,fm]
  by_cases e:lo=x
  ·subst e
   rw [List.find?_cons_of_pos (by simp)]
   rfl
  ·rw [List.find?_cons_of_neg (by simp [e])]
   have ih:=rV (f:=f) (n:=n) (lo:=lo+1) (x:=x) (by omega) (by omega)
   unfold cS dD at ih
   rw [fm] at ih
   exact ih
theorem qA {h:PyData->Tr PyData} {f:Int->Int}:∀ (l:List Int) (k:Nat),(∀ (w:Int) (x:Int),w∈l->(k:Int)<=x->x < k+l.length->h (.tuple [.int x,.int w])=.ret (.int (w * f x)))->∃ ys:List Int,bL h (enu k l)=.ret (ys.map PyData.int)/\ys.sum=ws f k l/\ys.length=l.length
 | [],k,_=>⟨[],rfl,rfl,rfl⟩
 | w::l,k,hh=>by
  obtain ⟨ys,e1,e2,e3⟩:=qA (h:=h) (f:=f) l (k+1) λv x hv x1 x2=>hh v x (List.mem_cons_of_mem _ hv) (by omega) (by rw [List.length_cons]; omega)
  refine ⟨w * f k::ys,?_,by rw [List.sum_cons,e2,ws],by rw [List.length_cons,List.length_cons,e3]⟩
  rw [enu,bL,hh w k (by simp) (by omega) (by rw [List.length_cons]; omega),Tr.ret_bind,e1]
  rfl
theorem ZcA {h:PyData->Tr (Option PyData)} {f:Int->Int}:∀ (l:List Int) (k:Nat),(∀ w∈l,0<=w)->(∀ (w:Int) (x:Int),w∈l->(0 < w->x∈bJ k l)->(k:Int)<=x->h (.tuple [.int x,.int w])=.ret (if w > 0 then some (.int (w * f x)) else none))->∃ ys:List Int,c6 h (enu k l)=.ret (ys.map PyData.int)/\ys.sum=ws f k l
 | [],k,_,_=>⟨[],rfl,rfl⟩
 | w::l,k,h0,hh=>by
  obtain ⟨ys,e1,e2⟩:=ZcA (h:=h) (f:=f) l (k+1) (λv hv=>h0 v (List.mem_cons_of_mem _ hv)) λv x hv x1 x2=>hh v x (List.mem_cons_of_mem _ hv) (λv0=>by
   rw [bJ]
   by_cases hw:w > 0
   ·rw [if_pos hw]; exact List.mem_cons_of_mem _ (x1 v0)
   ·rw [if_neg hw]; exact x1 v0) (by omega)
  have w0:=h0 w (by simp)
  have e0:=hh w k (by simp) (λv0=>by rw [bJ,if_pos v0]; simp) (by omega)
  by_cases hw:w > 0
  ·rw [if_pos hw] at e0
   refine ⟨w * f k::ys,?_,by rw [List.sum_cons,e2,ws]⟩
   rw [enu,c6,e0,Tr.ret_bind,e1]
   rfl
  ·rw [if_neg hw] at e0
   have:w=0:=by omega
   subst this
   refine ⟨ys,?_,by rw [e2,ws,Int.zero_mul,Int.zero_add]⟩
   rw [enu,c6,e0,Tr.ret_bind,e1]
   rfl
theorem Zdu {s:Shp} (h:s.Ok) {wt:List Int} {A:Nat} (hw:∀ w∈wt,nb A w) (hA:A<=8000) (hl:wt.length<=200) {y:Int} (hy:nb 20 y):i6 [.d s.d,.d (lI wt),.d (.int y)]=.ret (.d (.int (ws (λf=>s.day y f) 0 wt))):=by
 have hs:small (enu 0 wt).length=true:=ck (by rw [kJ]; omega)
 obtain ⟨ys,e1,e2,-⟩:=qA (h:=dO (bv (av (ai 0) (av (ai 1) br))) pW [.un,.un,.d s.d,.d (.int y)]) (f:=λf=>s.day y f) wt 0 λw x hx x1 x2=>by
  have hf:nb 40 x:=bP (by show -((2 ^ 40:Nat):Int) < x; have:((2 ^ 40:Nat):Int)=1099511627776:=rfl; omega) (by show x < ((2 ^ 40:Nat):Int); have:((2 ^ 40:Nat):Int)=1099511627776:=rfl; omega)
  have e:=Zl9 h hy hf
  have f1:=aP (hw w hx) hA
  have f2:=aP (oh h hy hf) (by decide)
  simp_arith only [pW,e,f1,f2]
 have es:bF cr [.list (ys.map PyData.int)]=.ret (.int (ws (λf=>s.day y f) 0 wt)):=by rw [n5,e2]
 have ee:cC (wt.map PyData.int)=enu 0 wt:=ij wt
 simp_arith only [i6,lI,ee,hs,e1,es]
theorem Zdi {s:Shp} (h:s.Ok) {x:Int} (hx:nb 20 x):nb 65 (s.fin x):=by
 unfold Shp.fin
 exact iV (k:=65) (bG (f9 h.back) hx) (bG h.late (f9 hx))
theorem ZlU {s:Shp} (h:s.Ok) {wt:List Int} {A:Nat} (hw:∀ w∈wt,nb A w) (hA:A<=8000) (hl:wt.length<=200) {y:Int} (hy:nb 10 y):m9 [.d s.d,.d (lI wt),.d (.int y)]=.ret (.d (.int (ws (λf=>s.fin (y - f)) 0 wt))):=by
 have hs:small (enu 0 wt).length=true:=ck (by rw [kJ]; omega)
 obtain ⟨ys,e1,e2,-⟩:=qA (h:=dO (bv (av (ai 0) (av (ai 1) br))) pV [.un,.un,.d s.d,.d (.int y)]) (f:=λf=>s.fin (y - f)) wt 0 λw x hx x1 x2=>by
  have hf:nb 19 x:=bP (by show -((2 ^ 19:Nat):Int) < x; have:((2 ^ 19:Nat):Int)=524288:=rfl; omega) (by show x < ((2 ^ 19:Nat):Int); have:((2 ^ 19:Nat):Int)=524288:=rfl; omega)
  have hyx:nb 20 (y - x):=aX (fF hy hf) (by decide)
  have e:=Zl6 h hyx
  have f1:=aP (hw w hx) hA
  have f2:=aP (Zdi h hyx) (by decide)
  simp_arith only [pV,e,f1,f2]
 have es:bF cr [.list (ys.map PyData.int)]=.ret (.int (ws (λf=>s.fin (y - f)) 0 wt)):=by rw [n5,e2]
 have ee:cC (wt.map PyData.int)=enu 0 wt:=ij wt
 simp_arith only [m9,lI,ee,hs,e1,es]
theorem ZlW {day:List Int} (hd:DayB day) {lo:Int} {n:Nat} {f:Int->Int} {b:Nat} (hf:∀ x,lo<=x->x < lo+n->nb b (f x)) (hb:b<=8000) {y:Int} (y1:∀ x∈bJ 0 day,lo<=y - x) (y2:y < lo+n):kn [.d (tI day),.d (cS lo n f),.d (.int y)]=.ret (.d (.int (ws (λx=>f (y - x)) 0 day))):=by
 have hs:small (enu 0 day).length=true:=ck (by rw [kJ]; have:=hd.len; omega)
 obtain ⟨ys,e1,e2⟩:=ZcA (h:=gF (bv (av (ai 0) (av (ai 1) br))) mQ mE [.un,.un,.d (cS lo n f),.d (.int y)]) (f:=λx=>f (y - x)) day 0 hd.w0 λw x hx x1 x2=>by
  by_cases hw:w > 0
  ·have l1:=y1 x (x1 hw)
   have eg:aQ fm (cS lo n f) (.int (y - x))=.ret (.int (f (y - x))):=by
    unfold aQ
    rw [rV l1 (by omega)]
    rfl
   have f1:=aP (hd.nb w hx) (by decide)
   have f2:=aP (hf (y - x) l1 (by omega)) hb
   simp_arith only [mQ,mE,decide_eq_true hw,if_pos hw,eg,f1,f2]
  ·simp_arith only [mQ,mE,decide_eq_false hw,if_neg hw]
 have es:bF cr [.list (ys.map PyData.int)]=.ret (.int (ws (λx=>f (y - x)) 0 day)):=by rw [n5,e2]
 have ee:cC (day.map PyData.int)=enu 0 day:=ij day
 simp_arith only [kn,ZcV,ee,hs,e1,es]
end My
set_option Elab.async false
set_option linter.all false
set_option maxRecDepth 100000
set_option exponentiation.threshold 9000
namespace My
open PySem PySem.Spec PyProof.Rows L2 Tw Bar
theorem ZmY (xs:List PyData) (t:Nat) (h:t<=xs.length):d8 (.tuple xs) none (some (t:Int))=.ret (.tuple (xs.take t)):=by
 show Tr.ret (PyData.tuple (L2.eV xs none (some (t:Int))))=_
 unfold L2.eV
 rw [HT.mr,HT.pJ,Nat.min_eq_left h,List.drop_zero,Nat.sub_zero]
theorem Zm0 (xs:List PyData) (t:Nat):d8 (.tuple xs) (some (t:Int)) none=.ret (.tuple (xs.drop t)):=by
 show Tr.ret (PyData.tuple (L2.eV xs (some (t:Int)) none))=_
 unfold L2.eV
 rw [HT.mr,HT.pJ]
 rcases Nat.le_total t xs.length with hle | hle
 ·rw [Nat.min_eq_left hle,List.take_of_length_le (by rw [List.length_drop]; exact Nat.le_refl _)]
 ·rw [Nat.min_eq_right hle,List.drop_eq_nil_of_le (Nat.le_refl _),List.drop_eq_nil_of_le hle]
  simp
theorem jj (fs:List (List Int)) (t:Nat):d8 (fD fs) (some (t:Int)) none=.ret (fD (fs.drop t)):=by
 unfold fD
 rw [Zm0,List.map_drop]
theorem rW (fs:List (List Int)) {t:Nat} (h:t<=fs.length):d8 (fD fs) none (some (t:Int))=.ret (fD (fs.take t)):=by
 unfold fD
 rw [ZmY _ _ (by rw [List.length_map]; exact h),List.map_take]
structure FOk (fs:List (List Int)):Prop where
 b:∀ l∈fs,DayB l/\∃ n∈l,n > 0
 len:fs.length<=6
theorem FOk.B {fs:List (List Int)} (h:FOk fs):∀ l∈fs,DayB l:=λl hl=>(h.b l hl).1
theorem FOk.drop {fs:List (List Int)} (h:FOk fs) (t:Nat):FOk (fs.drop t):=⟨λl hl=>h.b l (List.mem_of_mem_drop hl),by rw [List.length_drop]; have:=h.len; omega⟩
theorem FOk.take {fs:List (List Int)} (h:FOk fs) (t:Nat):FOk (fs.take t):=⟨λl hl=>h.b l (List.mem_of_mem_take hl),by rw [List.length_take]; have:=h.len; omega⟩
theorem FOk.P {fs:List (List Int)} (h:FOk fs):∀ l∈fs,DayB l/\0 < l.length:=λl hl=>⟨(h.b l hl).1,by obtain ⟨n,hn,-⟩:=(h.b l hl).2; exact List.length_pos_of_mem hn⟩
theorem qB {h:PyData->Tr PyData} {f:List Int->Int}:∀ {fs:List (List Int)},(∀ l∈fs,h (tI l)=.ret (.int (f l)))->bL h (fs.map tI)=.ret ((fs.map f).map PyData.int)
 | [],_=>rfl
 | l::fs,hl=>by
  have ih:=qB (h:=h) (f:=f) (fs:=fs) λq hq=>hl q (List.mem_cons_of_mem _ hq)
  rw [List.map_cons,bL,hl l (by simp),Tr.ret_bind,ih]
  rfl
theorem qN (q:List Sl->Tr PyData) (x:PyData):dO (ai 0) q [.un] x=q [.d x]:=rfl
theorem ZcB {q:List Sl->Tr PyData} (hq:∀ l:List Int,(∃ n∈l,n > 0)->l.length<=100->dO (ai 0) q [.un] (tI l)=.ret (.int (great l))) {fs:List (List Int)} (hf:FOk fs):bL (dO (ai 0) q [.un]) (fs.map tI)=.ret ((fs.map great).map PyData.int) :=
 qB λl hl=>hq l (hf.b l hl).2 (by have:=(hf.b l hl).1.len; omega)
theorem Zcx {ls:List Int} (h:∃ n∈ls,n > 0):bF iZ [.list ((bJ 0 ls).map PyData.int)]=.ret (.int (great ls)):=Zii _ (lK (k:=0) h)
theorem Zbb:∀ (ns:List Int) (k:Nat),c6 (gF (bv (av (ai 0) (av (ai 1) br))) kg j7 [.un,.un]) (enu k ns)=.ret ((bJ k ns).map PyData.int)
 | [],k=>rfl
 | n::ns,k=>by
  have ih:=Zbb ns (k+1)
  have e0:gF (bv (av (ai 0) (av (ai 1) br))) kg j7 [.un,.un] (.tuple [.int k,.int n])=.ret (if n > 0 then some (.int k) else none):=by
   by_cases h:n > 0
   ·simp_arith only [kg,j7,decide_eq_true h,if_pos h]
   ·simp_arith only [kg,j7,decide_eq_false h,if_neg h]
  rw [enu,c6,e0,Tr.ret_bind,ih,Tr.ret_bind,bJ]
  unfold km
  by_cases h:n > 0
  ·rw [if_pos h,if_pos h]; rfl
  ·rw [if_neg h,if_neg h]
theorem Zdz {ls:List Int} (h:∃ n∈ls,n > 0) (hl:ls.length<=100):kz [.d (tI ls)]=.ret (.d (.int (great ls))):=by
 have hs:small (enu 0 ls).length=true:=ck (by rw [kJ]; omega)
 simp_arith only [kz,ZcV,ij,hs,Zbb,Zcx h]
theorem ZdA {s:Shp} {fs:List (List Int)} (hf:FOk fs) (t:Nat):i9 [.d s.d,.d (fD fs),.d (.int t)]=.ret (.d (.int (reach (fs.drop t) - s.depth))):=by
 have hm:=ZcB (q:=pZ) (λl h1 h2=>by
  have e:=Zdz h1 h2
  rw [qN]
  simp_arith only [pZ,e]) (hf.drop t)
 have hs:small ((fs.drop t).map tI).length=true:=ck (by rw [List.length_map]; have:=(hf.drop t).len; omega)
 have er:(List.map great (fs.drop t)).sum=reach (fs.drop t):=rfl
 simp_arith only [i9,jj,nS,hs,hm,er]
theorem Zmc {s:Shp} {fs:List (List Int)} (hf:FOk fs) {x:Int} (hx:reach fs - s.depth<=x):nC [.d s.d,.d (fD fs),.d (.int x)]=.ret (.d .none):=by
 have e:=ZdA (s:=s) hf 0
 rw [List.drop_zero,Int.natCast_zero] at e
 have hn:¬ x < reach fs - s.depth:=by omega
 simp_arith only [nC,e,decide_eq_false hn]
theorem Zdy {fs:List (List Int)} (hf:FOk fs) {t:Nat} (ht:t<=fs.length) (x:Int):kr [.d (fD fs),.d (.int t),.d (.int x)]=.ret (.d (.int (x - reach (fs.take t)))):=by
 have hm:=ZcB (q:=pX) (λl h1 h2=>by
  have e:=Zdz h1 h2
  rw [qN]
  simp_arith only [pX,e]) (hf.take t)
 have hs:small ((fs.take t).map tI).length=true:=ck (by rw [List.length_map]; have:=(hf.take t).len; omega)
 have er:(List.map great (fs.take t)).sum=reach (fs.take t):=rfl
 simp_arith only [kr,rW _ ht,nS,hs,hm,er]
theorem Zdn {is:List Sl->Tr (List PyData)} {n:Nat} {ix:List Nat} {g:PyData->List Sl->Option (List Sl)} {kx i:List Sl->Tr PyData} {ρ:List Sl} {xs ps:List PyData} {d:PyData} (h1:is ρ=.ret xs) (hs:small xs.length=true) (h2:bL (λx=>(Tr.of (g x (blk n ix ρ))).bind (gL kx i)) xs=.ret ps) (h3:fO [] ps=some d):gi is n ix g kx i ρ=.ret d:=by
 unfold gi
 rw [h1,Tr.ret_bind,if_pos hs,h2,Tr.ret_bind,h3]
 rfl
theorem Zac:∀ (fs:List (List Int)) (a:List Int) (A:Nat),0 < a.length->(∀ l∈fs,DayB l/\0 < l.length)->(∀ w∈a,nb A w)->a.length+16 * fs.length<=200->(∀ w∈fs.foldl cw a,nb (A+270 * fs.length) w)/\(fs.foldl cw a).length<=a.length+16 * fs.length
 | [],a,A,_,_,ha,_=>⟨λw hw=>aX (ha w hw) (by omega),by show a.length<=_; omega⟩
 | b::fs,a,A,a0,hf,ha,hl=>by
  rw [List.length_cons,Nat.mul_succ] at hl
  obtain ⟨hb,b0⟩:=hf b (by simp)
  have hbl:=hb.len
  have hc:(cw a b).length=a.length+b.length - 1:=ZdY a b
  obtain ⟨i1,i2⟩:=Zac fs (cw a b) (A+a.length+63) (by omega) (λl hl=>hf l (List.mem_cons_of_mem _ hl)) (ZdX ha hb) (by omega)
  refine ⟨λw hw=>aX (i1 w hw) ?_,?_⟩
  ·rw [List.length_cons]; omega
  ·rw [List.foldl_cons,List.length_cons]; omega
theorem fB:∀ {fs:List (List Int)},(∀ l∈fs,DayB l)->nb (1+46 * fs.length) (prd fs)
 | [],_=>by show (1:Int).natAbs < 2 ^ 1; decide
 | d::fs,h=>by
  rw [prd,List.length_cons]
  exact aX (bG (fB λl hl=>h l (List.mem_cons_of_mem _ hl)) (lJ (h d (by simp)))) (by omega)
theorem oU {f:Int->Int} (hf:∀ x:Int,0<=f x):∀ {l:List Int} {k:Nat},(∀ w∈l,0<=w)->0<=ws f k l
 | [],k,_=>Int.le_refl 0
 | w::l,k,h=>by
  rw [ws]
  exact Int.add_nonneg (Int.mul_nonneg (h w (by simp)) (hf k)) (oU hf λv hv=>h v (List.mem_cons_of_mem _ hv))
theorem ZmW {a b:List Int} (ha:∀ w∈a,0<=w) (hb:∀ w∈b,0<=w):∀ w∈cw a b,0<=w:=λw hw=>by
 obtain ⟨k,-,rfl⟩:=List.mem_map.mp hw
 refine oU (λx=>oU (λy=>?_) hb) ha
 by_cases e:(x+y).toNat=k
 ·rw [if_pos e]; decide
 ·rw [if_neg e]; decide
theorem Zab:∀ (fs:List (List Int)) (a:List Int),(∀ l∈fs,DayB l)->(∀ w∈a,0<=w)->∀ w∈fs.foldl cw a,0<=w
 | [],a,_,ha=>ha
 | b::fs,a,hf,ha=>Zab fs (cw a b) (λl hl=>hf l (List.mem_cons_of_mem _ hl)) (ZmW ha (hf b (by simp)).w0)
theorem Zcw:∀ {l:List Int},(∀ w∈l,0<=w)->0<=l.sum/\∀ w∈l,w<=l.sum
 | [],_=>⟨Int.le_refl 0,λw hw=>by cases hw⟩
 | x::l,h=>by
  obtain ⟨i1,i2⟩:=Zcw (l:=l) λv hv=>h v (List.mem_cons_of_mem _ hv)
  have h0:=h x (by simp)
  rw [List.sum_cons]
  refine ⟨by omega,λw hw=>?_⟩
  rcases List.mem_cons.mp hw with rfl | hw
  ·omega
  ·have:=i2 w hw; omega
theorem ZaP:∀ fs:List (List Int),sv fs (λ_=>1)=prd fs
 | []=>rfl
 | d::fs=>by
  rw [sv,prd,<- ZaP fs]
  exact lv d 0
theorem jC {fs:List (List Int)} (hf:FOk fs):(∀ w∈cj fs,nb 280 w)/\(cj fs).length<=100:=by
 have hl:=hf.len
 obtain ⟨i1,i2⟩:=Zac fs [1] 1 (by decide) hf.P (by intro w hw; rw [List.mem_singleton] at hw; subst hw; show (1:Int).natAbs < 2 ^ 1; decide) (by show 1+_<=_; omega)
 have i3:(cj fs).length<=1+16 * fs.length:=i2
 have h0:∀ w∈cj fs,0<=w:=Zab fs [1] hf.B (by simp)
 have hs:(cj fs).sum=prd fs:=by
  have e:=oR (λ_=>1) (fs:=fs) λl hl=>(hf.P l hl).2
  rw [lv,Int.one_mul,ZaP] at e
  exact e
 have hp:=fB hf.B
 refine ⟨λw hw=>?_,by omega⟩
 have a1:=h0 w hw
 have a2:=(Zcw h0).2 w hw
 rw [hs] at a2
 refine aX (k:=1+46 * fs.length) ?_ (by omega)
 unfold nb at hp ⊢
 omega
noncomputable def eQ (s:Shp) (fs:List (List Int)) (c:Int):Int:=ws (λf=>s.fin (c - f)) 0 (cj fs)
theorem Zl7 {s:Shp} (h:s.Ok) {fs:List (List Int)} (hf:FOk fs) {o:Nat} (ho:o<=fs.length) {x:Int} (x1:-300<=x - reach (fs.take o)) (x2:x - reach (fs.take o)<=s.top+1):nv [.d s.d,.d (fD fs),.d (.int o),.d (.int x)]=.ret (.d (cS (x - reach (fs.take o)) (s.top+1 - (x - reach (fs.take o))).toNat (eQ s (fs.drop o)))):=by
 have t0:=h.t0; have d0:=h.d0; have td:=h.td
 have ew:=rK (hf.drop o).P (by have:=(hf.drop o).len; omega)
 have el:=Zdy hf ho x
 obtain ⟨w1,w2⟩:=jC (hf.drop o)
 generalize hlo:x - reach (fs.take o)=lo at *
 have r1:dB lo=true:=c7 (by omega) (by omega)
 have r2:dB (s.top+1)=true:=c7 (by omega) (by omega)
 have hs:small (aV lo (s.top+1)).length=true:=ck (by rw [cX]; omega)
 have ed:gi (ju (ae (aa 5) (ae (ad aO (ad aE (aa 0) (aC (.int 0))) (aC (.int 1))) al))) 1 [0,4] (ai 0) mI j8 [.d s.d,.d (fD fs),.d (.int o),.d (.int x),.d (lI (cj (fs.drop o))),.d (.int lo)]=.ret (cS lo (s.top+1 - lo).toNat (eQ s (fs.drop o))) :=
  Zdn (xs:=aV lo (s.top+1)) (by simp_arith only [n6 r1 r2]) hs (Zij (f:=λc=>.tuple [.int c,.int (eQ s (fs.drop o) c)]) λz z1 z2=>by
   have ee:=ZlU h w1 (by decide) (by omega) (y:=z) (bP (by show -1024 < z; omega) (by show z < 1024; omega))
   show gL mI j8 [.d (.int z),.d s.d,.d (lI (cj (fs.drop o)))]=_
   unfold gL
   have e1:mI [.d (.int z),.d s.d,.d (lI (cj (fs.drop o)))]=.ret (.int z):=rfl
   have e2:j8 [.d (.int z),.d s.d,.d (lI (cj (fs.drop o)))]=.ret (.int (eQ s (fs.drop o) z)):=by
    simp_arith only [j8,ee]
    rfl
   rw [e1,Tr.ret_bind,ZdQ,e2,Tr.ret_bind]) (ZdP _ _ _)
 simp_arith only [nv,jj,ew,el,ed]
noncomputable def csm (s:Shp) (d:Nat) (fs:List (List Int)) (F:Int->Int) (y:Int):Int:=prd fs * s.piece * y+prd (fs.drop (d+1)) * ws (λf=>s.day y f) 0 (cj (fs.take (d+1)))+ws (λx=>F (y - x)) 0 (fs.headD [])
theorem Zd2 {S:PyData} {day:PyData} {fsD A W:PyData} {Dd L:Sl} {sc pc lt:Int} {P Q:Int->Int} (hS:aQ aE S (.int 3)=.ret (.int pc)) (hD:aQ aE fsD (.int 0)=.ret day) (f1:fit sc=true) (f2:fit pc=true) (f3:fit (sc * pc)=true) (f4:fit lt=true):∀ (n:Nat) (lo:Int) (acc:List PyData) (J9 J10:Sl),acc.length+n<=900->(∀ y,lo<=y->y < lo+n->i6 [.d S,.d W,.d (.int y)]=.ret (.d (.int (P y)))/\kn [.d day,.d A,.d (.int y)]=.ret (.d (.int (Q y)))/\fit y=true/\fit (P y)=true)->∃ K9 K10:Sl,bW (ai 9) nO ((aB lo n).map PyData.int) [.d S,.d fsD,Dd,.d A,L,.d (.int sc),.d (.int lt),.d W,.own acc,J9,J10]=.ret (.next [.d S,.d fsD,Dd,.d A,L,.d (.int sc),.d (.int lt),.d W,.own (acc++(aB lo n).map λy=>.int (sc * pc * y+lt * P y+Q y)),K9,K10])
 | 0,lo,acc,J9,J10,_,_=>⟨J9,J10,by
  show Tr.ret (Ou.next _)=.ret (.next [_,_,_,_,_,_,_,_,.own (acc++[]),_,_])
  rw [List.append_nil]⟩
 | n+1,lo,acc,J9,J10,hl,h=>by
  have hsm:small (acc.length+1)=true:=ck (by omega)
  obtain ⟨h1,h2,h3,h4⟩:=h lo (by omega) (by omega)
  obtain ⟨K9,K10,e⟩:=Zd2 hS hD f1 f2 f3 f4 (Dd:=Dd) (L:=L) (W:=W) (A:=A) (P:=P) (Q:=Q) n (lo+1) (acc++[.int (sc * pc * lo+lt * P lo+Q lo)]) (.d (.int lo)) (.d (.int (sc * pc * lo+lt * P lo))) (by rw [List.length_append]; show acc.length+1+n<=900; omega) λy y1 y2=>h y (by omega) (by omega)
  refine ⟨K9,K10,?_⟩
  have et:nO [.d S,.d fsD,Dd,.d A,L,.d (.int sc),.d (.int lt),.d W,.own acc,.d (.int lo),J10]=.ret (.next [.d S,.d fsD,Dd,.d A,L,.d (.int sc),.d (.int lt),.d W,.own (acc++[.int (sc * pc * lo+lt * P lo+Q lo)]),.d (.int lo),.d (.int (sc * pc * lo+lt * P lo))]):=by
   simp_arith only [nO,hS,hD,f1,f2,f3,f4,h1,h2,h3,h4,hsm]
  have eg:ai 9 (.int lo) [.d S,.d fsD,Dd,.d A,L,.d (.int sc),.d (.int lt),.d W,.own acc,J9,J10]=some [.d S,.d fsD,Dd,.d A,L,.d (.int sc),.d (.int lt),.d W,.own acc,.d (.int lo),J10]:=rfl
  rw [jZ,List.map_cons,dg,eg,Tr.of_some,Tr.ret_bind,eP,et,Tr.ret_bind,dS,e,List.map_cons,List.append_assoc]
  rfl
theorem Zma {s:Shp} (h:s.Ok) {day:List Int} {rest:List (List Int)} (hf:FOk (day::rest)) {d:Nat} (hd:d+1<=rest.length+1) {lo':Int} {n':Nat} {F:Int->Int} {b:Nat} (hF:∀ x,lo'<=x->x < lo'+n'->nb b (F x)) (hb:b<=8000) {low:Int} (l1:-300<=low) (l2:low<=s.top+1) (hlo:∀ x∈bJ 0 day,lo'<=low - x) (hhi:s.top < lo'+n') :
  ny [.d s.d,.d (fD (day::rest)),.d (.int d),.d (cS lo' n' F),.d (.int low)]=.ret (.own ((aB low (s.top+1 - low).toNat).map λy=>.int (csm s d (day::rest) F y))):=by
 have t0:=h.t0; have d0:=h.d0; have td:=h.td
 have hlen:=hf.len
 rw [List.length_cons] at hlen
 have es:=kK hf.B (by rw [List.length_cons]; omega)
 have el:=kK (hf.drop (d+1)).B (by have:=(hf.drop (d+1)).len; omega)
 have ew:=rK (hf.take (d+1)).P (by have:=(hf.take (d+1)).len; omega)
 obtain ⟨w1,w2⟩:=jC (hf.take (d+1))
 have p1:=fB hf.B
 have p2:=fB (hf.drop (d+1)).B
 have q1:((day::rest).drop (d+1)).length<=6:=(hf.drop (d+1)).len
 have r1:dB low=true:=c7 (by omega) (by omega)
 have r2:dB (s.top+1)=true:=c7 (by omega) (by omega)
 have hdd:DayB day:=(hf.b day (by simp)).1
 have hD:aQ aE (fD (day::rest)) (.int 0)=.ret (tI day):=by
  unfold fD
  rw [dR,List.map_cons]
  exact congrArg Tr.of kP
 have c1:d8 (fD (day::rest)) (some ((d:Int)+1)) none=.ret (fD ((day::rest).drop (d+1))):=jj (day::rest) (d+1)
 have c2:d8 (fD (day::rest)) none (some ((d:Int)+1))=.ret (fD ((day::rest).take (d+1))):=rW (day::rest) (t:=d+1) (by rw [List.length_cons]; exact hd)
 obtain ⟨K9,K10,eL⟩:=Zd2 (S:=s.d) (fsD:=fD (day::rest)) (A:=cS lo' n' F) (W:=lI (cj ((day::rest).take (d+1)))) (Dd:=.d (.int d)) (L:=.d (.int low)) (P:=λy=>ws (λf=>s.day y f) 0 (cj ((day::rest).take (d+1)))) (Q:=λy=>ws (λx=>F (y - x)) 0 day) (sc:=prd (day::rest)) (lt:=prd ((day::rest).drop (d+1))) (Za5 s) hD (aP p1 (by rw [List.length_cons]; omega)) (aP h.piece (by decide)) (aP (bG p1 h.piece) (by rw [List.length_cons]; omega)) (aP p2 (by omega)) (s.top+1 - low).toNat low [] .un .un (by show 0+_<=_; omega) λy y1 y2=>by
  have hy:nb 20 y:=bP (by show -1048576 < y; omega) (by show y < 1048576; omega)
  refine ⟨Zdu h w1 (by decide) (by omega) hy,ZlW hdd hF hb (λx hx=>by have:=hlo x hx; omega) (by omega),aP hy (by decide),?_⟩
  exact aP (iy (a:=280) (b:=100) w1 λx x1 x2=>oh h hy (bP (by show -1099511627776 < x; omega) (by show x < 1099511627776; omega))) (by omega)
 have er:aV low (s.top+1)=(aB low (s.top+1 - low).toNat).map PyData.int:=rfl
 simp_arith only [ny,es,c1,el,c2,ew,n6 r1 r2,er,eL]
 rfl
end My
set_option Elab.async false
set_option linter.all false
set_option maxRecDepth 100000
set_option exponentiation.threshold 9000
namespace My
open PySem PySem.Spec PyProof.Rows L2 Tw Bar
noncomputable def aF (s:Shp) (d:Nat):List (List Int)->Int->Int
 | []=>eQ s []
 | day::rest=>if rest.length < d then eQ s (day::rest) else cst (csm s d (day::rest) (aF s d rest)) s.top (prd (day::rest) * s.start) (prd (day::rest) * s.piece)
noncomputable def aL (s:Shp) (d:Nat):List (List Int)->Int->Int
 | []=>λ_=>0
 | day::rest=>lvl (csm s d (day::rest) (aF s d rest)) s.top (prd (day::rest) * s.start)
theorem sP {s:Shp} {d:Nat}:∀ {fs:List (List Int)},fs.length<=d->aF s d fs=eQ s fs
 | [],_=>rfl
 | day::rest,h=>by
  rw [List.length_cons] at h
  rw [aF,if_pos (by omega)]
theorem ZeX {s:Shp} {d:Nat} {day:List Int} {rest:List (List Int)} (h:d<=rest.length):aF s d (day::rest)=cst (csm s d (day::rest) (aF s d rest)) s.top (prd (day::rest) * s.start) (prd (day::rest) * s.piece):=by
 rw [aF,if_neg (by omega)]
theorem Zdt {s:Shp} (h:s.Ok) {fs:List (List Int)} (hf:FOk fs) {c:Int} (c1:-500<=c) (c2:c<=s.top):nb 450 (eQ s fs c):=by
 have t0:=h.t0; have d0:=h.d0; have td:=h.td
 obtain ⟨w1,w2⟩:=jC hf
 exact aX (iy (a:=280) (b:=65) w1 λx x1 x2=>Zdi h (bP (by show -1048576 < _; omega) (by show _ < 1048576; omega))) (by omega)
theorem Zd1 {s:Shp} (h:s.Ok) {d:Nat} {day:List Int} {rest:List (List Int)} (hf:FOk (day::rest)) {F:Int->Int} {k:Nat} (hF:∀ x,-500+16 * (rest.length:Int)<=x->x<=s.top->nb (712+160 * k) (F x)) {y:Int} (y1:-500+16 * ((rest.length:Int)+1)<=y) (y2:y<=s.top):nb (760+160 * k) (csm s d (day::rest) F y):=by
 have t0:=h.t0; have d0:=h.d0; have td:=h.td
 have hlen:=hf.len
 obtain ⟨w1,w2⟩:=jC (hf.take (d+1))
 have hy:nb 20 y:=bP (by show -1048576 < y; omega) (by show y < 1048576; omega)
 have p1:=fB hf.B
 have p2:=fB (hf.drop (d+1)).B
 have q1:((day::rest).drop (d+1)).length<=6:=(hf.drop (d+1)).len
 have hdd:DayB day:=(hf.b day (by simp)).1
 have hdl:=hdd.len
 have a1:=bG (bG p1 h.piece) hy
 have a2:=bG p2 (iy (k:=0) (f:=λf=>s.day y f) (a:=280) (b:=100) w1 λx x1 x2=>oh h hy (bP (by show -1099511627776 < x; omega) (by show x < 1099511627776; omega)))
 have a3:=iy (k:=0) (f:=λx=>F (y - x)) (a:=30) (b:=712+160 * k) hdd.nb λx x1 x2=>hF (y - x) (by omega) (by omega)
 unfold csm
 exact aX (cZ (cZ a1 a2) a3) (by omega)
theorem sO {s:Shp} (h:s.Ok) {d:Nat}:∀ {fs:List (List Int)},FOk fs->∀ y,-500+16 * (fs.length:Int)<=y->y<=s.top->nb (712+160 * fs.length) (aF s d fs y)
 | [],hf,y,y1,y2=>aX (Zdt h hf (by rw [List.length_nil] at y1; omega) y2) (by omega)
 | day::rest,hf,y,y1,y2=>by
  rw [List.length_cons] at y1
  by_cases hd:rest.length < d
  ·rw [aF,if_pos hd]
   exact aX (Zdt h hf (by omega) y2) (by omega)
  ·rw [aF,if_neg hd]
   have t0:=h.t0; have d0:=h.d0; have td:=h.td
   have hr:FOk rest:=hf.drop 1
   have hlen:=hf.len
   rw [List.length_cons] at hlen ⊢
   have ih:=sO h (d:=d) hr
   have hc:∀ z,y<=z->z<=s.top->nb (760+160 * rest.length) (csm s d (day::rest) (aF s d rest) z):=λz z1 z2=>Zd1 h hf ih (by omega) z2
   have p1:=fB hf.B
   rw [List.length_cons] at p1
   have hx:nb 20 y:=bP (by show -1048576 < _; omega) (by show _ < 1048576; omega)
   unfold cst
   have k1:=Zhu (b:=760+160 * rest.length) (K:=prd (day::rest) * s.start) y2 hc (aX (bG p1 h.start) (by omega))
   exact aX (fF k1 (bG (bG p1 h.piece) hx)) (by omega)
theorem mC:∀ (fs:List (List Int)) (t:Nat),reach (fs.take t)+reach (fs.drop t)=reach fs
 | [],t=>by rw [List.take_nil,List.drop_nil]; rfl
 | d::fs,0=>by rw [List.take_zero,List.drop_zero]; show 0+_=_; omega
 | d::fs,t+1=>by
  rw [List.take_succ_cons,List.drop_succ_cons,mB,mB,<- mC fs t]
  omega
theorem ZgL {fs:List (List Int)} {t:Nat} {day:List Int} {rest:List (List Int)} (h:fs.drop t=day::rest):reach (fs.take (t+1))=reach (fs.take t)+great day:=by
 have e1:=mC fs t
 have e2:=mC fs (t+1)
 have e3:fs.drop (t+1)=rest:=by rw [<- List.drop_drop,h]; rfl
 rw [h,mB] at e1
 rw [e3] at e2
 omega
noncomputable def lw (fs:List (List Int)) (x:Int) (t:Nat):Int:=x - reach (fs.take t)
noncomputable def nn (s:Shp) (fs:List (List Int)) (x:Int) (t:Nat):Nat:=(s.top+1 - lw fs x t).toNat
noncomputable def mw (s:Shp) (d:Nat) (fs:List (List Int)) (x:Int) (t:Nat):PyData:=.tuple ((aB (lw fs x t) (nn s fs x t)).map λy=>n8 (aF s d (fs.drop t) y) (prd (fs.drop t)) (aL s d (fs.drop t) y))
noncomputable def fW (s:Shp) (d:Nat) (fs:List (List Int)) (x:Int) (o:Nat):Nat->List PyData
 | 0=>[]
 | p+1=>fW s d fs x o p++[mw s d fs x (o - (p+1))]
theorem Zbj (s:Shp) (d:Nat) (fs:List (List Int)) (x:Int) (o:Nat):∀ p,(fW s d fs x o p).length=p
 | 0=>rfl
 | p+1=>by rw [fW,List.length_append,Zbj s d fs x o p]; rfl
theorem qD {s:Shp} {fs:List (List Int)} (hf:FOk fs) {x:Int} (x1:reach fs - s.depth<=x) (t:Nat):-s.depth<=lw fs x t:=by
 have e:=mC fs t
 have:=fX (fs:=fs.drop t) λl hl=>(hf.b l (List.mem_of_mem_drop hl)).2
 unfold lw
 omega
theorem qC {fs:List (List Int)} (hf:FOk fs) (x:Int) (t:Nat):lw fs x t<=x:=by
 have:=fX (fs:=fs.take t) λl hl=>(hf.b l (List.mem_of_mem_take hl)).2
 unfold lw
 omega
theorem Zdr {g:Int->Int} {top K P B:Int} (hB:B≠0) (hn:nb 7000 B):∀ l:List Int,bL (dO (bv (av (ai 0) (av (ai 1) br))) mH [.un,.un,.d (.int B)]) (l.map (dc g top K P))=.ret (l.map λx=>n8 (cst g top K P x) B (lvl g top K x))
 | []=>rfl
 | x::l=>by
  have ih:=Zdr (g:=g) (top:=top) (K:=K) (P:=P) hB hn l
  have e0:dO (bv (av (ai 0) (av (ai 1) br))) mH [.un,.un,.d (.int B)] (dc g top K P x)=.ret (n8 (cst g top K P x) B (lvl g top K x)):=by
   have e2:=Zdv (t:=cst g top K P x) hB hn
   simp_arith only [mH,dc,e2]
   rfl
  rw [List.map_cons,bL,e0,Tr.ret_bind,ih]
  rfl
theorem ZdH {g:Int->Int} {top K P lo:Int}:∀ (n k:Nat),bL (λx=>(Tr.of (bv (av (ai 0) (av (bv (av (ai 1) (av (ai 2) br))) br)) x [.un,.un,.un,.d (.int lo)])).bind (gL mG mF)) ((List.range' k n).zipWith (λ(i:Nat) x=>PyData.tuple [.int i,x]) ((aB (lo+k) n).map (dc g top K P)))=.ret ((aB (lo+k) n).map λc=>.tuple [.int c,.int (cst g top K P c)])
 | 0,k=>rfl
 | n+1,k=>by
  have ih:=ZdH (g:=g) (top:=top) (K:=K) (P:=P) (lo:=lo) n (k+1)
  rw [show lo+((k+1:Nat):Int)=lo+k+1 by omega] at ih
  rw [jZ,List.map_cons,List.range'_succ,List.zipWith_cons_cons,bL]
  have e0:(Tr.of (bv (av (ai 0) (av (bv (av (ai 1) (av (ai 2) br))) br)) (.tuple [.int (k:Int),dc g top K P (lo+k)]) [.un,.un,.un,.d (.int lo)])).bind (gL mG mF)=.ret (.tuple [.int (lo+k),.int (cst g top K P (lo+k))]):=rfl
  rw [e0,Tr.ret_bind,ih]
  rfl
theorem Zmf {fs:List (List Int)} {t:Nat} (h:t < fs.length):∃ day,fs.drop t=day::fs.drop (t+1):=⟨fs[t],List.drop_eq_getElem_cons h⟩
theorem mK:∀ {fs:List (List Int)},(∀ l∈fs,DayB l)->0 < prd fs
 | [],_=>by show (0:Int) < 1; decide
 | d::fs,h=>by
  rw [prd]
  exact Int.mul_pos (mK λl hl=>h l (List.mem_cons_of_mem _ hl)) (h d (by simp)).pos
theorem Zgf {s:Shp} (h:s.Ok) {fs:List (List Int)} (hf:FOk fs) {d:Nat} {x:Int} (x1:reach fs - s.depth<=x) (x2:x<=s.top) {t:Nat} (ht:t+d < fs.length) (O:Sl) (acc:List PyData) (ha:acc.length<=100) (J8 J9 J10:Sl) :
  ∃ K8 K9 K10:Sl,nJ [.d s.d,.d (fD fs),.d (.int d),.d (.int x),O,.d (cS (lw fs x (t+1)) (nn s fs x (t+1)) (aF s d (fs.drop (t+1)))),.own acc,.d (.int t),J8,J9,J10]=.ret (.next [.d s.d,.d (fD fs),.d (.int d),.d (.int x),O,.d (cS (lw fs x t) (nn s fs x t) (aF s d (fs.drop t))),.own (acc++[mw s d fs x t]),.d (.int t),K8,K9,K10]):=by
 have t0:=h.t0; have d0:=h.d0; have td:=h.td
 obtain ⟨day,hD⟩:=Zmf (show t < fs.length by omega)
 have hF:=hf.drop t
 have hFl:=hF.len
 have hr:FOk (fs.drop (t+1)):=hf.drop (t+1)
 have l1:=qD hf x1 t
 have l2:=qC hf x t
 have l3:=qD hf x1 (t+1)
 have l4:=qC hf x (t+1)
 have hw:lw fs x (t+1)=lw fs x t - great day:=by have:=ZgL hD; unfold lw; omega
 have c1:=Zdy hf (t:=t) (by omega) x
 have c2:=kK hF.B (by omega)
 have hrl:(fs.drop (t+1)).length=fs.length - (t+1):=List.length_drop
 rw [hD] at hF c2
 have hlen:=hF.len
 rw [List.length_cons] at hlen
 have c3:=Zma h hF (d:=d) (by omega) (lo':=lw fs x (t+1)) (n':=nn s fs x (t+1)) (F:=aF s d (fs.drop (t+1))) (b:=712+160 * (fs.drop (t+1)).length) (λz z1 z2=>sO h hr z (by omega) (by unfold nn at z2; omega)) (by omega) (low:=lw fs x t) (by omega) (by omega) (λz hz=>by have:=Zi5 hz; omega) (by unfold nn; omega)
 have p0:=mK hF.B
 have p1:=fB hF.B
 rw [List.length_cons] at p1
 have c4:=Zmb h (low:=lw fs x t) (by omega) (by omega) (g:=csm s d (day::fs.drop (t+1)) (aF s d (fs.drop (t+1)))) (b:=760+160 * (fs.drop (t+1)).length) (λz z1 z2=>Zd1 h hF (sO h hr) (by omega) z2) (sc:=prd (day::fs.drop (t+1))) (aX p1 (by omega)) (Int.mul_nonneg (Int.le_of_lt p0) h.start0) (by omega)
 have em:(aB (lw fs x t) (s.top+1 - lw fs x t).toNat).map (λy=>PyData.int (csm s d (day::fs.drop (t+1)) (aF s d (fs.drop (t+1))) y))=((aB (lw fs x t) (s.top+1 - lw fs x t).toNat).map (csm s d (day::fs.drop (t+1)) (aF s d (fs.drop (t+1))))).map PyData.int:=by rw [List.map_map]; rfl
 rw [em] at c3
 have c5:=Zdr (g:=csm s d (day::fs.drop (t+1)) (aF s d (fs.drop (t+1)))) (top:=s.top) (K:=prd (day::fs.drop (t+1)) * s.start) (P:=prd (day::fs.drop (t+1)) * s.piece) (Int.ne_of_gt p0) (aX p1 (by omega)) (aB (lw fs x t) (s.top+1 - lw fs x t).toNat)
 have e6:aF s d (fs.drop t)=cst (csm s d (day::fs.drop (t+1)) (aF s d (fs.drop (t+1)))) s.top (prd (day::fs.drop (t+1)) * s.start) (prd (day::fs.drop (t+1)) * s.piece):=by rw [hD]; exact ZeX (by omega)
 have erow:mw s d fs x t=.tuple ((aB (lw fs x t) (s.top+1 - lw fs x t).toNat).map λy=>n8 (cst (csm s d (day::fs.drop (t+1)) (aF s d (fs.drop (t+1)))) s.top (prd (day::fs.drop (t+1)) * s.start) (prd (day::fs.drop (t+1)) * s.piece) y) (prd (day::fs.drop (t+1))) (lvl (csm s d (day::fs.drop (t+1)) (aF s d (fs.drop (t+1)))) s.top (prd (day::fs.drop (t+1)) * s.start) y)):=by
  unfold mw nn
  rw [e6,hD]
  rfl
 rw [erow,e6]
 unfold nn
 have cf:=jj fs t
 rw [hD] at cf
 have hlow:x - reach (fs.take t)=lw fs x t:=rfl
 rw [hlow] at c1
 unfold nn at c3
 generalize csm s d (day::fs.drop (t+1)) (aF s d (fs.drop (t+1)))=g at *
 generalize hK:prd (day::fs.drop (t+1))=B at *
 have hsm:small ((aB (lw fs x t) (s.top+1 - lw fs x t).toNat).map (dc g s.top (B * s.start) (B * s.piece))).length=true:=ck (by rw [List.length_map,gu]; omega)
 have hsm2:small (acc.length+1)=true:=ck (by omega)
 have hsm3:small (cC ((aB (lw fs x t) (s.top+1 - lw fs x t).toNat).map (dc g s.top (B * s.start) (B * s.piece)))).length=true:=ck (by rw [ZlS,List.length_map,gu]; omega)
 have ed:=ZdH (g:=g) (top:=s.top) (K:=B * s.start) (P:=B * s.piece) (lo:=lw fs x t) (s.top+1 - lw fs x t).toNat 0
 rw [Int.natCast_zero,Int.add_zero] at ed
 have ee:cC ((aB (lw fs x t) (s.top+1 - lw fs x t).toNat).map (dc g s.top (B * s.start) (B * s.piece)))=(List.range' 0 (s.top+1 - lw fs x t).toNat).zipWith (λ(i:Nat) x=>PyData.tuple [.int i,x]) ((aB (lw fs x t) (s.top+1 - lw fs x t).toNat).map (dc g s.top (B * s.start) (B * s.piece))):=by
  unfold cC
  rw [List.length_map,gu,List.range_eq_range']
 rw [<- ee] at ed
 have edc:∀ X5 X6:Sl,gi (fv (aa 10)) 3 [8] (bv (av (ai 0) (av (bv (av (ai 1) (av (ai 2) br))) br))) mG mF [.d s.d,.d (fD fs),.d (.int d),.d (.int x),O,X5,X6,.d (.int t),.d (.int (lw fs x t)),.d (.int B),.d (.list ((aB (lw fs x t) (s.top+1 - lw fs x t).toNat).map (dc g s.top (B * s.start) (B * s.piece))))]=.ret (cS (lw fs x t) (s.top+1 - lw fs x t).toNat (cst g s.top (B * s.start) (B * s.piece))):=λX5 X6 =>
  Zdn (xs:=cC ((aB (lw fs x t) (s.top+1 - lw fs x t).toNat).map (dc g s.top (B * s.start) (B * s.piece)))) (by simp_arith only [List.isEmpty_cons]) hsm3 ed (ZdP _ _ _)
 unfold lI at c4
 refine ⟨.d (.int (lw fs x t)),.d (.int B),.d (.list ((aB (lw fs x t) (s.top+1 - lw fs x t).toNat).map (dc g s.top (B * s.start) (B * s.piece)))),?_⟩
 simp_arith only [nJ,c1,cf,c2,c3,c4,hsm,c5,hsm2,edc]
theorem ZlX {s:Shp} (h:s.Ok) {fs:List (List Int)} (hf:FOk fs) {d:Nat} (d1:d<=fs.length) {x:Int} (x1:reach fs - s.depth<=x) (x2:x<=s.top) :
  na [.d s.d,.d (fD fs),.d (.int d),.d (.int x)]=.ret (.d (.tuple [.list (fW s d fs x (fs.length - d) (fs.length - d)).reverse,.int (aF s d fs x)])):=by
 have t0:=h.t0; have d0:=h.d0; have td:=h.td
 have hl:=hf.len
 generalize ho:fs.length - d=o
 have ho':(fs.length:Int) - d=(o:Int):=by omega
 have l1:=qD hf x1 o
 have l2:=qC hf x o
 have ea:=Zl7 h hf (o:=o) (by omega) (x:=x) (by unfold lw at l1; omega) (by unfold lw at l2; omega)
 have hend:eQ s (fs.drop o)=aF s d (fs.drop o):=(sP (by rw [List.length_drop]; omega)).symm
 rw [hend] at ea
 have hln:bF cK [fD fs]=.ret (.int fs.length):=by
  unfold fD
  rw [ig,List.length_map]
 have r1:d9 [.int (o:Int)]=.ret (aV 0 (o:Int)):=gK (c7 (by omega) (by omega))
 apply ZeP
 simp_arith only [na,hln,ho',ea,r1,iM]
 refine ft (n:=0) (n':=0) (P:=λz=>∃ J7 J8 J9 J10:Sl,z=.next [.d s.d,.d (fD fs),.d (.int d),.d (.int x),.d (.int o),.d (cS (lw fs x 0) (nn s fs x 0) (aF s d fs)),.own (fW s d fs x o o),J7,J8,J9,J10]) ?_ (by decide) ?_
 ·refine ZeN (n:=0) (λpre ρ=>pre.length<=o/\∃ J7 J8 J9 J10:Sl,ρ=[.d s.d,.d (fD fs),.d (.int d),.d (.int x),.d (.int o),.d (cS (lw fs x (o - pre.length)) (nn s fs x (o - pre.length)) (aF s d (fs.drop (o - pre.length)))),.own (fW s d fs x o pre.length),J7,J8,J9,J10]) ⟨Nat.zero_le _,.un,.un,.un,.un,rfl⟩ (by simp) ?_ ?_
  ·rintro pre v post ρ e ⟨hp,J7,J8,J9,J10,rfl⟩
   obtain ⟨rfl,hpl⟩:=Zbk e
   have ht:(o:Int) - 1 - pre.length=((o - (pre.length+1):Nat):Int):=by omega
   rw [ht]
   refine ⟨_,rfl,?_⟩
   have hq:o - pre.length=o - (pre.length+1)+1:=by omega
   obtain ⟨K8,K9,K10,et⟩:=Zgf h hf (d:=d) x1 x2 (t:=o - (pre.length+1)) (by omega) (.d (.int o)) (fW s d fs x o pre.length) (by rw [Zbj]; omega) J8 J9 J10
   rw [<- hq] at et
   show Al (nJ [.d s.d,.d (fD fs),.d (.int d),.d (.int x),.d (.int o),.d (cS (lw fs x (o - pre.length)) (nn s fs x (o - pre.length)) (aF s d (fs.drop (o - pre.length)))),.own (fW s d fs x o pre.length),.d (.int ((o - (pre.length+1):Nat):Int)),J8,J9,J10]) _ _
   rw [et]
   refine cT ⟨_,rfl,?_,.d (.int ((o - (pre.length+1):Nat):Int)),K8,K9,K10,?_⟩
   ·rw [List.length_append]; show pre.length+1<=o; omega
   ·rw [List.length_append]
    rfl
  ·rintro ρ ⟨hp,J7,J8,J9,J10,rfl⟩
   refine ⟨J7,J8,J9,J10,?_⟩
   rw [List.length_reverse,cX,show ((o:Int) - 0).toNat=o by omega,Nat.sub_self,List.drop_zero]
 ·rintro _ ⟨J7,J8,J9,J10,rfl⟩
  have eg:aQ fm (cS (lw fs x 0) (nn s fs x 0) (aF s d fs)) (.int x)=.ret (.int (aF s d fs x)):=by
   have e0:lw fs x 0=x:=by unfold lw; rw [List.take_zero]; show x - 0=x; omega
   unfold aQ nn
   rw [e0,rV (Int.le_refl x) (by omega)]
   rfl
  simp_arith only [eg]
  exact cT rfl
end My
set_option Elab.async false
set_option linter.all false
set_option maxRecDepth 100000
set_option exponentiation.threshold 9000
namespace My
open PySem PySem.Spec PyProof.Rows L2 Tw Bar
noncomputable def drB (ρ:List Sl) (_:PyData):Tr Ou:=.ret (.next ρ)
theorem Zld {i:List Sl->Tr PyData} {ρ:List Sl}:sQ i ρ=(i ρ).bind (drB ρ):=rfl
theorem Zle {ρ:List Sl} {x:PyData}:drB ρ x=.ret (.next ρ):=rfl
noncomputable def dP (s:Shp) (fs:List (List Int)) (x:Int):Nat->Int
 | 0=>0
 | t+1=>dP s fs x t+prd (fs.drop (t+1)) * ws (λf=>s.day x f) 0 (cj (fs.take (t+1)))
noncomputable def dQ (s:Shp) (d:Nat) (fs:List (List Int)) (x:Int):Int:=aF s d fs x+dP s fs x d
theorem ZcI {s:Shp} (h:s.Ok) {fs:List (List Int)} (hf:FOk fs) {x:Int} (hx:nb 20 x) (Dd T:Sl) (c:Int):∀ (n k:Nat) (J:Sl),k+n<=fs.length->∃ K:Sl,bW (ai 6) nL ((aB k n).map PyData.int) [.d s.d,.d (fD fs),Dd,.d (.int x),T,.d (.int (c+dP s fs x k)),J]=.ret (.next [.d s.d,.d (fD fs),Dd,.d (.int x),T,.d (.int (c+dP s fs x (k+n))),K])
 | 0,k,J,_=>⟨J,rfl⟩
 | n+1,k,J,hk=>by
  obtain ⟨K,e⟩:=ZcI h hf hx Dd T c n (k+1) (.d (.int k)) (by omega)
  refine ⟨K,?_⟩
  have e1:=kK (hf.drop (k+1)).B (by have:=(hf.drop (k+1)).len; omega)
  have e2:=rK (hf.take (k+1)).P (by have:=(hf.take (k+1)).len; omega)
  obtain ⟨w1,w2⟩:=jC (hf.take (k+1))
  have e3:=Zdu h w1 (by decide) (by omega) hx
  have c1:d8 (fD fs) (some ((k:Int)+1)) none=.ret (fD (fs.drop (k+1))):=jj fs (k+1)
  have c2:d8 (fD fs) none (some ((k:Int)+1))=.ret (fD (fs.take (k+1))):=rW fs (t:=k+1) (by omega)
  have p2:=fB (hf.drop (k+1)).B
  have q1:(fs.drop (k+1)).length<=6:=(hf.drop (k+1)).len
  have f1:=aP p2 (by omega)
  have f2:=aP (iy (k:=0) (f:=λf=>s.day x f) (a:=280) (b:=100) w1 λz x1 x2=>oh h hx (bP (by show -1099511627776 < z; omega) (by show z < 1099511627776; omega))) (by omega)
  have et:nL [.d s.d,.d (fD fs),Dd,.d (.int x),T,.d (.int (c+dP s fs x k)),.d (.int k)]=.ret (.next [.d s.d,.d (fD fs),Dd,.d (.int x),T,.d (.int (c+dP s fs x (k+1))),.d (.int k)]):=by
   simp_arith only [nL,c1,e1,c2,e2,e3,f1,f2,dP,Int.add_assoc]
  have eg:ai 6 (.int (k:Int)) [.d s.d,.d (fD fs),Dd,.d (.int x),T,.d (.int (c+dP s fs x k)),J]=some [.d s.d,.d (fD fs),Dd,.d (.int x),T,.d (.int (c+dP s fs x k)),.d (.int k)]:=rfl
  rw [show ((k+1:Nat):Int)=(k:Int)+1 by omega] at e
  rw [jZ,List.map_cons,dg,eg,Tr.of_some,Tr.ret_bind,eP,et,Tr.ret_bind,dS,e,show k+1+n=k+(n+1) by omega]
theorem Zl3 {s:Shp} (h:s.Ok) {fs:List (List Int)} (hf:FOk fs) {d:Nat} (d1:d<=fs.length) {x:Int} (x1:reach fs - s.depth<=x) (x2:x<=s.top) :
  ng [.d s.d,.d (fD fs),.d (.int d),.d (.int x)]=.ret (.d (fT (dQ s d fs x) (prd fs))):=by
 have t0:=h.t0; have d0:=h.d0; have td:=h.td
 have hl:=hf.len
 have hr:=fX (fs:=fs) λl hl=>(hf.b l hl).2
 have hx:nb 20 x:=bP (by show -1048576 < x; omega) (by show x < 1048576; omega)
 have e1:=Zmc hf x1
 have e2:=ZlX h hf d1 x1 x2
 obtain ⟨K,e3⟩:=ZcI h hf hx (.d (.int d)) (.d (.list (fW s d fs x (fs.length - d) (fs.length - d)).reverse)) (aF s d fs x) d 0 .un (by omega)
 have e4:=kK hf.B (by omega)
 have r1:d9 [.int (d:Int)]=.ret (aV 0 (d:Int)):=gK (c7 (by omega) (by omega))
 have er:aV 0 (d:Int)=(aB ((0:Nat):Int) d).map PyData.int:=by
  unfold aV
  rw [show ((d:Int) - 0).toNat=d by omega]
  rfl
 have p1:=fB hf.B
 have e5:=Zdv (t:=aF s d fs x+dP s fs x d) (b:=prd fs) (Int.ne_of_gt (mK hf.B)) (aX p1 (by omega))
 have ez:aF s d fs x+dP s fs x 0=aF s d fs x:=Int.add_zero _
 rw [ez,Nat.zero_add] at e3
 simp_arith only [ng,Zld,Zle,e1,e2,r1,er,e3,e4,e5]
 rfl
end My
set_option Elab.async false
set_option linter.all false
set_option maxRecDepth 100000
set_option exponentiation.threshold 9000
namespace My
open PySem PySem.Spec PyProof.Rows L2 Tw Bar
theorem Zm1 {g:Int->Int} {top K P x y:Int} (h1:x<=y) (h2:y<=top):cst g top K P x<=g y+(if x < y then K else 0) - P * x:=by
 unfold cst
 obtain ⟨p1,p2⟩:=Zhv (g:=g) (K:=K) (show x<=top by omega)
 by_cases e:x < y
 ·rw [if_pos e]; have:=p2 y e h2; omega
 ·rw [if_neg e]
  have:y=x:=by omega
  subst this
  omega
theorem Zm2 {g:Int->Int} {top K P x:Int} (hx:x<=top):∃ y,x<=y/\y<=top/\cst g top K P x=g y+(if x < y then K else 0) - P * x:=by
 obtain ⟨h1,h2,h3⟩:=Zcd (g:=g) (K:=K) hx
 refine ⟨(pck g top K x).2,h1,h2,?_⟩
 unfold cst
 rcases h3 with ⟨e1,e2⟩ | ⟨e1,e2,-⟩
 ·rw [if_neg (by omega),e2,e1]; omega
 ·rw [if_pos e1,e2]; omega
theorem ZdR (s:Shp) (y f w:Int):s.day (y - f) w=s.day y (f+w):=by
 have e:y - f - w=y - (f+w):=by omega
 unfold Shp.day Shp.nx
 rw [e]
theorem oS {day:List Int} {T:List (List Int)} (h:∀ l∈day::T,0 < l.length) (f:Int->Int):ws f 0 (cj (day::T))=ws (λi=>ws (λj=>f (i+j)) 0 (cj T)) 0 day:=by
 rw [oR f h,sv]
 exact dr λi _=>(oR _ λl hl=>h l (List.mem_cons_of_mem _ hl)).symm
end My
set_option Elab.async false
set_option linter.all false
set_option maxRecDepth 100000
set_option exponentiation.threshold 9000
namespace My
open PySem PySem.Spec PyProof.Rows L2 Tw
theorem Zmm (s:Shp) (y f:Int):s.keep * cv (s.nx y f) 0+s.lack * cv (0 - s.nx y f) 0+s.lost * (s.nx y f - y+f)=s.day y f:=by
 unfold Shp.day
 have e:s.nx y f - y+f=s.nx y f - (y - f):=by omega
 rw [e]
 generalize s.nx y f=z
 unfold cv
 by_cases hz:z > 0
 ·rw [if_neg (by omega),if_pos (by omega),if_pos hz,Int.mul_zero,Int.add_zero]
 ·rw [if_neg hz]
  by_cases h0:z=0
  ·subst h0; simp
  ·rw [if_pos (by omega),if_neg (by omega),Int.mul_zero,Int.zero_add]
   have e2:0 - z=-z:=by omega
   rw [e2]
theorem Zjs (s:Shp) (x:Int):s.late * cv (0 - x) 0 - s.back * cv x 0=s.fin x:=by
 unfold Shp.fin cv
 by_cases hx:x > 0
 ·rw [if_pos (by omega),if_neg (by omega),if_pos hx,Int.mul_zero,Int.neg_mul]
  omega
 ·rw [if_neg hx]
  by_cases h0:x=0
  ·subst h0; simp
  ·rw [if_neg (by omega),if_pos (by omega),Int.mul_zero,Int.sub_zero]
   have e2:0 - x=-x:=by omega
   rw [e2]
theorem ZhU (s:Shp) (y f:Int):cv (y - f) (0 - s.depth)=s.nx y f:=by
 unfold Shp.nx
 have e:0 - s.depth=-s.depth:=by omega
 rw [e]
theorem Zl1 {t b:Int} (hb:0 < b) (nB:nb 7000 b):kw [.d (.int t),.d (.int b)]=.ret (.d (fT t b)):=by
 obtain ⟨z,rfl⟩:∃ z:Nat,b=(z:Int):=⟨b.toNat,by omega⟩
 have key:=euclid (p:=oY) (s:=qQ) (E:=λa b'=>[.d (.int t),.d (.int z),.d (.int a),.d (.int b')]) (λa b=>by
  simp_arith only [oY]
  by_cases h:b=0
  ·subst h; rfl
  ·rw [decide_eq_true h]
   congr 1
   simp
   omega) (λa b h=>by
  have h':(b:Int)≠0:=by omega
  simp_arith only [qQ,rD h',Zdh]) 8000 83999 t.natAbs z (Nat.lt_of_lt_of_le (show z < 2 ^ 7000 from by unfold nb at nB; rwa [Int.natAbs_natCast] at nB) (Nat.pow_le_pow_right (by decide) (by decide)))
 have e:2 * 8000+1+83999=100000:=rfl
 rw [e] at key
 have hd:=Gc.rR (t:=t) (b:=(z:Int)) (by omega)
 have hf:=aP (ZdJ (t:=t) nB (by omega)) (by decide)
 have ed:Gc.den t (z:Int)=((Nat.gcd t.natAbs z:Nat):Int):=by unfold Gc.den Gc.gI; rw [if_neg (by omega),Int.natAbs_natCast]
 unfold fT Gc.gb Gc.fH
 rw [ed] at hd hf ⊢
 simp_arith only [kw,ZeU,key,rF hd hf]
end My
set_option Elab.async false
set_option linter.all false
set_option maxRecDepth 100000
set_option exponentiation.threshold 9000
namespace My
open PySem PySem.Spec PyProof.Rows L2 Tw
theorem kj {z:Int} {k:Nat} (h:nb k z):nb k (cv z 0):=by
 unfold cv nb at *
 split <;> omega
theorem ki {z:Int} {k:Nat} (h:nb k z):nb k (cv (0 - z) 0):=by
 unfold cv nb at *
 split <;> omega
theorem ZlY {s:Shp} (h:s.Ok) {x:Int} (hx:nb 20 x):nh [.d s.d,.d (.int x)]=.ret (.d (.int (cW s x))):=by
 have g1:=aP (kj hx) (by decide)
 have g2:=aP (ki hx) (by decide)
 have f1:=aP h.keep (by decide)
 have f2:=aP h.lack (by decide)
 simp_arith only [nh,f1,f2,g1,g2]
 rfl
theorem Zl5 {s:Shp} (h:s.Ok) {x:Int} (hx:nb 20 x):nj [.d s.d,.d (.int x)]=.ret (.d (.int (jh s x))):=by
 have g1:=aP (kj hx) (by decide)
 have g2:=aP (ki hx) (by decide)
 have f1:=aP h.late (by decide)
 have f2:=aP h.back (by decide)
 simp_arith only [nj,f1,f2,g1,g2]
 rfl
theorem ZlZ {s:Shp} (h:s.Ok) {p:Int} (hp:nb 20 p):ky [.d s.d,.d (.int p)]=.ret (.d (.int (cI s p))):=by
 have f1:=aP h.piece (by decide)
 have f2:=aP hp (by decide)
 have f3:=aP (cZ h.start (bG h.piece hp)) (by decide)
 have g1:fit (1:Int)=true:=aP (show nb 20 (1:Int) from bP (by decide) (by decide)) (by decide)
 have g0:fit (0:Int)=true:=aP (show nb 20 (0:Int) from bP (by decide) (by decide)) (by decide)
 unfold cI
 by_cases c:0 < p
 ·simp_arith only [ky,f1,f2,f3,g1,decide_eq_true (show p > 0 from c),if_true,Int.mul_one,if_pos c]
 ·simp_arith only [ky,f1,f2,f3,g0,decide_eq_false (show ¬ p > 0 from c),Bool.false_eq_true,if_false,Int.mul_zero,if_neg c]
theorem qt {s:Shp} (h:s.Ok) {slf:List Sl->Tr Re} {A:PyData} {t:Int} {lies p:Int} {w:List Int} (hw:w.length<=20) {bs:List PyData} {B:Int} (hB:nb 300 B) (hb:bf bs (t+1)=some (.int B)) (X6 X7 X9 X10 X11:Sl) {v:Int->Int} (hx:nb 15 lies) :
  ∀ (l:List Int) (k:Nat) (c:Int) (J14 J15 J16:Sl),k+l.length<=16->(∀ n∈l,0<=n/\nb 30 n)->(∀ f:Nat,k<=f->f < k+l.length->slf [.d A,.pen,.d (.int (t+1)),.d (.int (lies - f)),.d (tI (w++[p]))]=.ret (.d (.int (v (lies - f))))/\nb 1000 (v (lies - f))) ->
  ∃ K14 K15 K16:Sl,bW (bv (av (ai 14) (av (ai 15) br))) (jb slf) (enu k l) [.d A,.pen,.d (.int t),.d (.int lies),.d (tI w),.d s.d,X6,X7,.d (.list bs),X9,X10,X11,.d (.int p),.d (.int c),J14,J15,J16]=.ret (.next [.d A,.pen,.d (.int t),.d (.int lies),.d (tI w),.d s.d,X6,X7,.d (.list bs),X9,X10,X11,.d (.int p),.d (.int (c+ws (λf=>cW s (lies - f) * B+v (lies - f)) k l)),K14,K15,K16])
 | [],k,c,J14,J15,J16,_,_,_=>⟨J14,J15,J16,by rw [enu,Zdb,ws,Int.add_zero]⟩
 | n::l,k,c,J14,J15,J16,hk,hn,hs=>by
  rw [List.length_cons] at hk hs
  have hy:nb 20 (lies - k):=aX (fF hx (show nb 15 (k:Int) from bP (by show -32768 < _; omega) (by show _ < 32768; omega))) (by decide)
  obtain ⟨e1,n1⟩:=hs k (Nat.le_refl _) (by omega)
  have er:=ZlY h hy
  have rn:nb 100 (cW s (lies - k)):=by
   unfold cW
   exact aX (cZ (bG h.keep (kj hy)) (bG h.lack (ki hy))) (by decide)
  have f1:=aP rn (by decide)
  have f2:=aP hB (by decide)
  have f3:=aP (hn n (by simp)).2 (by decide)
  have f4:=aP (cZ (bG rn hB) n1) (by decide)
  have ea:aQ jr (tI w) (.tuple [.int p])=.ret (tI (w++[p])):=by
   unfold tI
   rw [Zog (ck (by rw [List.length_map]; show _+1<=_; omega)),List.map_append]
   rfl
  by_cases c0:n > 0
  ·obtain ⟨K14,K15,K16,e⟩:=qt h hw hB hb X6 X7 X9 X10 X11 hx l (k+1) (c+n * (cW s (lies - k) * B+v (lies - k))) (.d (.int k)) (.d (.int n)) (.d (.int (cW s (lies - k) * B))) (by omega) (λm hm=>hn m (List.mem_cons_of_mem _ hm)) λf a b=>hs f (by omega) (by omega)
   refine ⟨K14,K15,K16,?_⟩
   have et:jb slf [.d A,.pen,.d (.int t),.d (.int lies),.d (tI w),.d s.d,X6,X7,.d (.list bs),X9,X10,X11,.d (.int p),.d (.int c),.d (.int k),.d (.int n),J16]=.ret (.next [.d A,.pen,.d (.int t),.d (.int lies),.d (tI w),.d s.d,X6,X7,.d (.list bs),X9,X10,X11,.d (.int p),.d (.int (c+n * (cW s (lies - k) * B+v (lies - k)))),.d (.int k),.d (.int n),.d (.int (cW s (lies - k) * B))]):=by
    simp_arith only [jb,decide_eq_true c0,er,hb,f1,f2,f3,f4,ea,e1]
   have eg:(bv (av (ai 14) (av (ai 15) br))) (.tuple [.int (k:Int),.int n]) [.d A,.pen,.d (.int t),.d (.int lies),.d (tI w),.d s.d,X6,X7,.d (.list bs),X9,X10,X11,.d (.int p),.d (.int c),J14,J15,J16]=some [.d A,.pen,.d (.int t),.d (.int lies),.d (tI w),.d s.d,X6,X7,.d (.list bs),X9,X10,X11,.d (.int p),.d (.int c),.d (.int k),.d (.int n),J16]:=rfl
   rw [enu,dg,eg,Tr.of_some,Tr.ret_bind,eP,et,Tr.ret_bind,dS,e,ws,Int.add_assoc]
  ·have n0:n=0:=by have:=(hn n (by simp)).1; omega
   obtain ⟨K14,K15,K16,e⟩:=qt h hw hB hb X6 X7 X9 X10 X11 hx l (k+1) c (.d (.int k)) (.d (.int n)) J16 (by omega) (λm hm=>hn m (List.mem_cons_of_mem _ hm)) λf a b=>hs f (by omega) (by omega)
   refine ⟨K14,K15,K16,?_⟩
   have et:jb slf [.d A,.pen,.d (.int t),.d (.int lies),.d (tI w),.d s.d,X6,X7,.d (.list bs),X9,X10,X11,.d (.int p),.d (.int c),.d (.int k),.d (.int n),J16]=.ret (.next [.d A,.pen,.d (.int t),.d (.int lies),.d (tI w),.d s.d,X6,X7,.d (.list bs),X9,X10,X11,.d (.int p),.d (.int c),.d (.int k),.d (.int n),J16]):=by
    simp_arith only [jb,decide_eq_false c0]
   have eg:(bv (av (ai 14) (av (ai 15) br))) (.tuple [.int (k:Int),.int n]) [.d A,.pen,.d (.int t),.d (.int lies),.d (tI w),.d s.d,X6,X7,.d (.list bs),X9,X10,X11,.d (.int p),.d (.int c),J14,J15,J16]=some [.d A,.pen,.d (.int t),.d (.int lies),.d (tI w),.d s.d,X6,X7,.d (.list bs),X9,X10,X11,.d (.int p),.d (.int c),.d (.int k),.d (.int n),J16]:=rfl
   rw [enu,dg,eg,Tr.of_some,Tr.ret_bind,eP,et,Tr.ret_bind,dS,e,ws,n0,Int.zero_mul,Int.zero_add]
end My
set_option Elab.async false
set_option linter.all false
set_option maxRecDepth 100000
set_option exponentiation.threshold 9000
namespace My
open PySem PySem.Spec PyProof.Rows L2 Tw
noncomputable def gY (s:Shp) (day:List Int) (B0 B lies c0:Int) (V:Int->Int->Int) (y:Int):Int:=cI s (y - c0) * B0+ws (λf=>cW s (lies - f) * B+V (y - c0) (lies - f)) 0 day
structure OnD (s:Shp) (slf:List Sl->Tr Re) (A FD:PyData) (bs:List PyData) (t lies:Int) (w day:List Int) (B0 B:Int) (V:Int->Int->Int):Prop where
 h:s.Ok
 wl:w.length<=20
 b0:nb 300 B0
 b1:nb 300 B
 a0:bf bs t=some (.int B0)
 a1:bf bs (t+1)=some (.int B)
 dy:aQ aE FD (.int t)=.ret (tI day)
 dl:day.length<=16
 dn:∀ n∈day,0<=n/\nb 30 n
 lx:nb 15 lies
 wx:nb 15 w.sum
 sl:∀ y:Int,lies+w.sum<=y->y<=s.top\/y=lies+w.sum->∀ f:Nat,f < day.length->slf [.d A,.pen,.d (.int (t+1)),.d (.int (lies - f)),.d (tI (w++[y - (lies+w.sum)]))]=.ret (.d (.int (V (y - (lies+w.sum)) (lies - f))))/\nb 1000 (V (y - (lies+w.sum)) (lies - f))
theorem qr {s:Shp} {slf:List Sl->Tr Re} {A FD:PyData} {bs:List PyData} {t lies:Int} {w day:List Int} {B0 B:Int} {V:Int->Int->Int} (o:OnD s slf A FD bs t lies w day B0 B V) {y:Int} (y1:lies+w.sum<=y) (y2:y<=s.top\/y=lies+w.sum) (X7 X10 J12 J13 J14 J15 J16:Sl) {bt:PyData} {b:Int}
  (hb:(bt=.none/\b=gY s day B0 B lies (lies+w.sum) V y)\/∃ q,bt=.int q/\b=if gY s day B0 B lies (lies+w.sum) V y < q then gY s day B0 B lies (lies+w.sum) V y else q):∃ K12 K13 K14 K15 K16:Sl,
  hZ slf [.d A,.pen,.d (.int t),.d (.int lies),.d (tI w),.d s.d,.d FD,X7,.d (.list bs),.d bt,X10,.d (.int y),J12,J13,J14,J15,J16]=.ret (.next [.d A,.pen,.d (.int t),.d (.int lies),.d (tI w),.d s.d,.d FD,X7,.d (.list bs),.d (.int b),X10,.d (.int y),K12,K13,K14,K15,K16]):=by
 have h:=o.h
 have t0:=h.t0
 have td:=h.td
 have d0:=h.d0
 have lx:=o.lx
 have wx:=o.wx
 have e0:y - lies - w.sum=y - (lies+w.sum):=by omega
 have hp:nb 20 (y - (lies+w.sum)):=by
  clear hb
  unfold nb at *
  have:(2:Nat) ^ 15=32768:=rfl
  have:(2:Nat) ^ 20=1048576:=rfl
  omega
 have eo:=ZlZ h hp
 have on:nb 100 (cI s (y - (lies+w.sum))):=by
  unfold cI
  exact iV (aX (cZ h.start (bG h.piece hp)) (by decide)) (show (0:Int).natAbs < 2 ^ 100 by decide)
 have f1:=aP on (by decide)
 have f2:=aP o.b0 (by decide)
 obtain ⟨K14,K15,K16,e1⟩:=qt h (slf:=slf) (A:=A) (t:=t) (lies:=lies) (p:=y - (lies+w.sum)) o.wl o.b1 o.a1 (.d FD) X7 (.d bt) X10 (.d (.int y)) (v:=V (y - (lies+w.sum))) o.lx day 0 (cI s (y - (lies+w.sum)) * B0) J14 J15 J16 (by have:=o.dl; omega) o.dn λf _ f2=>o.sl y y1 y2 f (by omega)
 have ee:cC (day.map PyData.int)=enu 0 day:=ij day
 have it:fK (tI day)=.ret (day.map PyData.int):=rfl
 have a0:=o.a0
 have dy:=o.dy
 have eg:cI s (y - (lies+w.sum)) * B0+ws (λf=>cW s (lies - f) * B+V (y - (lies+w.sum)) (lies - f)) 0 day=gY s day B0 B lies (lies+w.sum) V y:=rfl
 rw [eg] at e1
 generalize gY s day B0 B lies (lies+w.sum) V y=g at *
 have iN:aQ kD .none .none=.ret (.bool true):=rfl
 have iI:∀ q:Int,aQ kD (.int q) .none=.ret (.bool false):=λ_=>rfl
 rcases hb with ⟨rfl,rfl⟩ | ⟨q,rfl,rfl⟩
 ·refine ⟨.d (.int (y - (lies+w.sum))),.d (.int b),K14,K15,K16,?_⟩
  simp_arith only [hZ,iD,e0,eo,a0,f1,f2,dy,it,ee,e1,iN]
 ·refine ⟨.d (.int (y - (lies+w.sum))),.d (.int g),K14,K15,K16,?_⟩
  by_cases c:g < q
  ·simp_arith only [hZ,iD,e0,eo,a0,f1,f2,dy,it,ee,e1,iI,decide_eq_true c,if_pos c]
  ·simp_arith only [hZ,iD,e0,eo,a0,f1,f2,dy,it,ee,e1,iI,decide_eq_false c,if_neg c]
theorem on3 {s:Shp} {slf:List Sl->Tr Re} {A FD:PyData} {bs:List PyData} {t lies:Int} {w day:List Int} {B0 B:Int} {V:Int->Int->Int} (o:OnD s slf A FD bs t lies w day B0 B V) (X7 X10:Sl):∀ (m n:Nat) (J11 J12 J13 J14 J15 J16:Sl),lies+w.sum+n+m<=s.top->∃ K11 K12 K13 K14 K15 K16:Sl,
  bW (ai 11) (hZ slf) ((aB (lies+w.sum+(n+1:Nat)) m).map PyData.int) [.d A,.pen,.d (.int t),.d (.int lies),.d (tI w),.d s.d,.d FD,X7,.d (.list bs),.d (.int (bM (gY s day B0 B lies (lies+w.sum) V) (lies+w.sum) n)),X10,J11,J12,J13,J14,J15,J16]=.ret (.next [.d A,.pen,.d (.int t),.d (.int lies),.d (tI w),.d s.d,.d FD,X7,.d (.list bs),.d (.int (bM (gY s day B0 B lies (lies+w.sum) V) (lies+w.sum) (n+m))),X10,K11,K12,K13,K14,K15,K16])
 | 0,n,J11,J12,J13,J14,J15,J16,_=>⟨J11,J12,J13,J14,J15,J16,rfl⟩
 | m+1,n,J11,J12,J13,J14,J15,J16,hm=>by
  have er:aB (lies+w.sum+(n+1:Nat)) (m+1)=(lies+w.sum+(n+1:Nat))::aB (lies+w.sum+(n+1+1:Nat)) m:=by
   have:=mD (lies+w.sum+(n+1:Nat)) 1 m
   rw [Nat.add_comm 1 m] at this
   rw [this]
   show [lies+w.sum+(n+1:Nat)+((0:Nat):Int)]++_=_
   rw [show lies+w.sum+(n+1:Nat)+((0:Nat):Int)=lies+w.sum+(n+1:Nat) by omega,show lies+w.sum+(n+1:Nat)+((1:Nat):Int)=lies+w.sum+(n+1+1:Nat) by omega]
   rfl
  obtain ⟨L12,L13,L14,L15,L16,et⟩:=qr o (y:=lies+w.sum+(n+1:Nat)) (by omega) (.inl (by omega)) X7 X10 J12 J13 J14 J15 J16 (bt:=.int (bM (gY s day B0 B lies (lies+w.sum) V) (lies+w.sum) n)) (b:=bM (gY s day B0 B lies (lies+w.sum) V) (lies+w.sum) (n+1)) (.inr ⟨_,rfl,rfl⟩)
  obtain ⟨K11,K12,K13,K14,K15,K16,e⟩:=on3 o X7 X10 m (n+1) (.d (.int (lies+w.sum+(n+1:Nat)))) L12 L13 L14 L15 L16 (by omega)
  rw [show n+1+m=n+(m+1) by omega] at e
  refine ⟨K11,K12,K13,K14,K15,K16,?_⟩
  generalize bM (gY s day B0 B lies (lies+w.sum) V) (lies+w.sum) n=q at *
  have eg:ai 11 (.int (lies+w.sum+(n+1:Nat))) [.d A,.pen,.d (.int t),.d (.int lies),.d (tI w),.d s.d,.d FD,X7,.d (.list bs),.d (.int q),X10,J11,J12,J13,J14,J15,J16]=some [.d A,.pen,.d (.int t),.d (.int lies),.d (tI w),.d s.d,.d FD,X7,.d (.list bs),.d (.int q),X10,.d (.int (lies+w.sum+(n+1:Nat))),J12,J13,J14,J15,J16]:=rfl
  rw [er,List.map_cons,dg,eg,Tr.of_some,Tr.ret_bind,eP,et,Tr.ret_bind,dS,e]
end My
set_option Elab.async false
set_option linter.all false
set_option maxRecDepth 100000
set_option exponentiation.threshold 9000
namespace My
open PySem PySem.Spec PyProof.Rows L2 Tw
theorem Zl8 {s:Shp} {slf:List Sl->Tr Re} {FD:PyData} {bs:List PyData} {t lies d N:Int} {w day:List Int} {B0 B:Int} {V:Int->Int->Int} (o:OnD s slf (.tuple [s.d,FD,.int d,.list bs]) FD bs t lies w day B0 B V) (ln:bF cK [FD]=.ret (.int N)) (ct:lies+w.sum<=s.top) (cl:-500<=lies+w.sum) :
  iW slf [.d (.tuple [s.d,FD,.int d,.list bs]),.pen,.d (.int t),.d (.int lies),.d (tI w)]=.ret (.d (.int (bM (gY s day B0 B lies (lies+w.sum) V) (lies+w.sum) (if t+d < N then (s.top - (lies+w.sum)).toNat else 0)))):=by
 have it:∀ xs:List PyData,fK (.list xs)=.ret xs:=λ_=>rfl
 have h:=o.h
 have t0:=h.t0
 have td:=h.td
 have d0:=h.d0
 have lx:=o.lx
 have wx:=o.wx
 have b1:-100000 < lies+w.sum:=by
  unfold nb at *
  have:(2:Nat) ^ 15=32768:=rfl
  omega
 obtain ⟨L12,L13,L14,L15,L16,e1⟩:=qr o (y:=lies+w.sum) (Int.le_refl _) (.inr rfl) (.d (.int d)) (.d (.list [.int (lies+w.sum)])) .un .un .un .un .un (bt:=.none) (b:=bM (gY s day B0 B lies (lies+w.sum) V) (lies+w.sum) 0) (.inl ⟨rfl,rfl⟩)
 by_cases c:t+d < N
 ·obtain ⟨m,hm⟩:∃ m:Nat,s.top - (lies+w.sum)=(m:Int):=⟨(s.top - (lies+w.sum)).toNat,by omega⟩
  have er:aV (lies+w.sum) (s.top+1)=.int (lies+w.sum)::((aB (lies+w.sum+(0+1:Nat)) m).map PyData.int):=by
   unfold aV
   rw [show (s.top+1 - (lies+w.sum)).toNat=m+1 by omega]
   have:=mD (lies+w.sum) 1 m
   rw [Nat.add_comm 1 m] at this
   rw [this]
   show (([lies+w.sum+((0:Nat):Int)]++aB (lies+w.sum+((1:Nat):Int)) m).map PyData.int)=_
   rw [show lies+w.sum+((0:Nat):Int)=lies+w.sum by omega]
   rfl
  obtain ⟨M12,M13,M14,M15,M16,e1⟩:=qr o (y:=lies+w.sum) (Int.le_refl _) (.inr rfl) (.d (.int d)) (.d (.list (aV (lies+w.sum) (s.top+1)))) .un .un .un .un .un (bt:=.none) (b:=bM (gY s day B0 B lies (lies+w.sum) V) (lies+w.sum) 0) (.inl ⟨rfl,rfl⟩)
  obtain ⟨K11,K12,K13,K14,K15,K16,e2⟩:=on3 o (.d (.int d)) (.d (.list (aV (lies+w.sum) (s.top+1)))) m 0 (.d (.int (lies+w.sum))) M12 M13 M14 M15 M16 (by omega)
  have r1:nD [.int (lies+w.sum),.int (s.top+1)]=.ret (aV (lies+w.sum) (s.top+1)):=Zdl (by
   unfold mz
   rw [c7 (by omega) (by omega),c7 (by omega) (by omega)]
   exact decide_eq_true (by omega))
  rw [if_pos c,hm,Int.toNat_natCast]
  rw [Nat.zero_add m] at e2
  have eL:bW (ai 11) (hZ slf) (aV (lies+w.sum) (s.top+1)) [.d (.tuple [s.d,FD,.int d,.list bs]),.pen,.d (.int t),.d (.int lies),.d (tI w),.d s.d,.d FD,.d (.int d),.d (.list bs),.d .none,.d (.list (aV (lies+w.sum) (s.top+1))),.un,.un,.un,.un,.un,.un]=.ret (.next [.d (.tuple [s.d,FD,.int d,.list bs]),.pen,.d (.int t),.d (.int lies),.d (tI w),.d s.d,.d FD,.d (.int d),.d (.list bs),.d (.int (bM (gY s day B0 B lies (lies+w.sum) V) (lies+w.sum) m)),.d (.list (aV (lies+w.sum) (s.top+1))),K11,K12,K13,K14,K15,K16]):=by
   rw [er] at e1 e2 ⊢
   have eg:ai 11 (.int (lies+w.sum)) [.d (.tuple [s.d,FD,.int d,.list bs]),.pen,.d (.int t),.d (.int lies),.d (tI w),.d s.d,.d FD,.d (.int d),.d (.list bs),.d .none,.d (.list (.int (lies+w.sum)::((aB (lies+w.sum+(0+1:Nat)) m).map PyData.int))),.un,.un,.un,.un,.un,.un]=some [.d (.tuple [s.d,FD,.int d,.list bs]),.pen,.d (.int t),.d (.int lies),.d (tI w),.d s.d,.d FD,.d (.int d),.d (.list bs),.d .none,.d (.list (.int (lies+w.sum)::((aB (lies+w.sum+(0+1:Nat)) m).map PyData.int))),.d (.int (lies+w.sum)),.un,.un,.un,.un,.un]:=rfl
   rw [dg,eg,Tr.of_some,Tr.ret_bind,eP,e1,Tr.ret_bind,dS,e2]
  simp_arith only [iW,iD,ln,decide_eq_true c,r1,it,eL]
 ·rw [if_neg c]
  simp_arith only [iW,iD,ln,decide_eq_false c,it,dg,e1]
end My
set_option Elab.async false
set_option linter.all false
set_option maxRecDepth 100000
set_option exponentiation.threshold 9000
namespace My
open PySem PySem.Spec PyProof.Rows L2 Tw
theorem qE (f:Int->Int) (a:Int):∀ n:Nat,∃ i:Nat,i<=n/\bM f a n=f (a+i)
 | 0=>⟨0,Nat.le_refl _,by rw [bM,show a+((0:Nat):Int)=a by omega]⟩
 | n+1=>by
  obtain ⟨i,h1,h2⟩:=qE f a n
  rw [bM]
  split
  ·exact ⟨n+1,Nat.le_refl _,rfl⟩
  ·exact ⟨i,by omega,h2⟩
theorem Zah {f:Int->Int} {a b:Nat}:∀ {l:List Int} {k:Nat},(∀ w∈l,nb a w)->(∀ x:Nat,k<=x->x < k+l.length->nb b (f x))->nb (a+b+l.length) (ws f k l)
 | [],k,_,_=>by unfold ws nb; exact Nat.pos_of_ne_zero (by simp)
 | w::l,k,h,hf=>by
  have ih:=Zah (f:=f) (l:=l) (k:=k+1) (λv hv=>h v (List.mem_cons_of_mem _ hv)) λx a b=>hf x (by omega) (by rw [List.length_cons]; omega)
  have h1:=bG (h w (by simp)) (hf k (Nat.le_refl _) (by rw [List.length_cons]; omega))
  rw [ws,List.length_cons]
  exact aX (cZ h1 ih) (by omega)
theorem jn:∀ {fs:List (List Int)},(∀ l∈fs,DayB l)->fs.length<=4->nb (1+46 * fs.length) (bH fs)
 | [],_,_=>by show (1:Int).natAbs < 2 ^ 1; decide
 | l::fs,h,hl=>by
  rw [List.length_cons] at hl
  have ih:=jn (fs:=fs) (λv hv=>h v (List.mem_cons_of_mem _ hv)) (by omega)
  rw [bH,List.length_cons]
  exact aX (bG (lJ (h l (by simp))) ih) (by omega)
noncomputable def rL:List (List Int)->Int
 | []=>0
 | l::r=>(l.length:Int) - 1+rL r
theorem ZbJ:∀ {fs:List (List Int)},(∀ l∈fs,DayB l)->0<=rL fs
 | [],_=>by show (0:Int)<=0; decide
 | l::fs,h=>by
  have ih:=ZbJ (fs:=fs) λv hv=>h v (List.mem_cons_of_mem _ hv)
  have hp:=(h l (by simp)).pos
  have:l.length≠0:=λe=>by
   have:=List.length_eq_zero_iff.mp e
   rw [this] at hp
   exact absurd hp (by decide)
  rw [rL]
  omega
structure St0 (s:Shp) (fs:List (List Int)) (x:Int) (way:List Int):Prop where
 ok:s.Ok
 t5:s.top<=5
 fd:∀ l∈fs,DayB l
 fl:fs.length<=4
 lo:-24<=x - rL fs
 w0:∀ a∈way,0<=a
 hi:x+way.sum<=s.top
theorem jH:∀ {l:List Int},(∀ a∈l,0<=a)->0<=l.sum/\∀ a∈l,a<=l.sum
 | [],_=>⟨by simp,λa h=>by cases h⟩
 | b::l,h=>by
  have ih:=jH (l:=l) λv hv=>h v (List.mem_cons_of_mem _ hv)
  have hb:=h b (by simp)
  refine ⟨by rw [List.sum_cons]; omega,λa ha=>?_⟩
  rw [List.sum_cons]
  rcases List.mem_cons.mp ha with rfl | q
  ·omega
  ·have:=ih.2 a q
   omega
theorem Zi3 (l:List Int):l.headD 0+(l.drop 1).sum=l.sum:=by
 cases l with
 | nil=>rfl
 | cons a l=>rw [List.sum_cons]; rfl
theorem St0.step {s:Shp} {day:List Int} {fs:List (List Int)} {x:Int} {way:List Int} (h:St0 s (day::fs) x way) {y:Int} (y1:x+way.sum<=y) (y2:y<=s.top) {f:Nat} (hf:f < day.length):St0 s fs (x+way.headD 0 - f) (way.drop 1++[y - (x+way.sum)]):=by
 have lo:=h.lo
 rw [rL] at lo
 have hh:0<=way.headD 0:=by
  cases hw:way with
  | nil=>exact Int.le_refl 0
  | cons a l=>exact h.w0 a (by rw [hw]; simp)
 have ht:=Zi3 way
 refine ⟨h.ok,h.t5,λl hl=>h.fd l (List.mem_cons_of_mem _ hl),by have:=h.fl; rw [List.length_cons] at this; omega,by omega,λa ha=>?_,?_⟩
 ·rcases List.mem_append.mp ha with q | q
  ·exact h.w0 a (List.mem_of_mem_drop q)
  ·have:a=y - (x+way.sum):=by simpa using q
   omega
 ·rw [List.sum_append]
  have:[y - (x+way.sum)].sum=y - (x+way.sum):=by simp
  rw [this]
  omega
theorem St0.bd {s:Shp} {fs:List (List Int)} {x:Int} {way:List Int} (h:St0 s fs x way):-24<=x/\x<=5/\0<=way.sum/\way.sum<=29/\∀ a∈way,0<=a/\a < 30:=by
 have r0:=ZbJ h.fd
 have lo:=h.lo
 have hi:=h.hi
 have t5:=h.t5
 obtain ⟨q1,q2⟩:=jH h.w0
 refine ⟨by omega,by omega,q1,by omega,λa ha=>⟨h.w0 a ha,?_⟩⟩
 have:=q2 a ha
 omega
theorem o5 {s:Shp} {d:Nat}:∀ {fs:List (List Int)} {x:Int} {way:List Int},St0 s fs x way->nb (330+60 * fs.length) (cH s d fs x way)
 | [],x,way,h=>by
  obtain ⟨b1,b2,b3,b4,_⟩:=h.bd
  have hx:nb 20 (x+way.sum):=bP (by show -1048576 < _; omega) (by show _ < 1048576; omega)
  rw [cH]
  unfold jh
  exact aX (fF (bG h.ok.late (ki hx)) (bG h.ok.back (kj hx))) (by decide)
 | day::fs,x,way,h=>by
  obtain ⟨b1,b2,b3,b4,b5⟩:=h.bd
  have hf:=h.fl
  rw [List.length_cons] at hf
  rw [cH]
  obtain ⟨i,i1,i2⟩:=qE (λy=>cI s (y - (x+way.sum)) * bH (day::fs)+ws (λf=>cW s (x+way.headD 0 - f) * bH fs+cH s d fs (x+way.headD 0 - f) (way.drop 1++[y - (x+way.sum)])) 0 day) (x+way.sum) (if d < (day::fs).length then (s.top - (x+way.sum)).toNat else 0)
  rw [i2]
  have hy:x+way.sum+i<=s.top:=by
   have:=h.hi
   split at i1 <;> omega
  have t5:=h.t5
  have dd:=h.fd day (by simp)
  have hp:nb 20 (x+way.sum+(i:Int) - (x+way.sum)):=bP (by show -1048576 < _; omega) (by show _ < 1048576; omega)
  have on:nb 100 (cI s (x+way.sum+(i:Int) - (x+way.sum))):=by
   unfold cI
   exact iV (aX (cZ h.ok.start (bG h.ok.piece hp)) (by decide)) (show (0:Int).natAbs < 2 ^ 100 by decide)
  have B0:nb 190 (bH (day::fs)):=aX (jn h.fd h.fl) (by rw [List.length_cons]; omega)
  have B1:nb 190 (bH fs):=aX (jn (λl hl=>h.fd l (List.mem_cons_of_mem _ hl)) (by omega)) (by omega)
  have hw:=Zah (f:=λf=>cW s (x+way.headD 0 - f) * bH fs+cH s d fs (x+way.headD 0 - f) (way.drop 1++[x+way.sum+(i:Int) - (x+way.sum)])) (a:=30) (b:=331+60 * fs.length) (l:=day) (k:=0) dd.nb λf _ f2=>by
   have st:=h.step (y:=x+way.sum+i) (by omega) hy (f:=f) (by omega)
   have ih:=o5 (d:=d) st
   obtain ⟨c1,c2,_⟩:=st.bd
   have hz:nb 20 (x+way.headD 0 - (f:Int)):=bP (by show -1048576 < _; omega) (by show _ < 1048576; omega)
   have rn:nb 100 (cW s (x+way.headD 0 - f)):=by
    unfold cW
    exact aX (cZ (bG h.ok.keep (kj hz)) (bG h.ok.lack (ki hz))) (by decide)
   exact aX (cZ (aX (bG rn B1) (show 100+190<=330+60 * fs.length by omega)) ih) (by omega)
  have dl:=dd.len
  rw [List.length_cons]
  exact aX (cZ (aX (bG on B0) (show 100+190<=30+(331+60 * fs.length)+day.length by omega)) hw) (by omega)
end My
set_option Elab.async false
set_option linter.all false
set_option maxRecDepth 100000
set_option exponentiation.threshold 9000
namespace My
open PySem PySem.Spec PyProof.Rows L2 Tw
theorem ZmZ (xs:List PyData) (t:Nat):d8 (.tuple xs) (some (t:Int)) none=.ret (.tuple (xs.drop t)):=by
 show Tr.ret (PyData.tuple (L2.eV xs (some (t:Int)) none))=_
 unfold L2.eV
 rw [HT.mr,HT.pJ]
 rcases Nat.le_total t xs.length with hle | hle
 ·rw [Nat.min_eq_left hle,List.take_of_length_le (by rw [List.length_drop]; exact Nat.le_refl _)]
 ·rw [Nat.min_eq_right hle,List.drop_eq_nil_of_le (Nat.le_refl _),List.drop_eq_nil_of_le hle]
  simp
theorem Zkx {F:List Int->Option Int} {KS:List (List Int)} {jk ik:Nat} {iv:List Sl->Tr PyData} {ρ:List Sl} {xs:List PyData} {ns:List Int} {n:Int} (h1:ρ[jk]?=some .pen) (h2:ρ[ik]?=some (.d (.tuple xs))) (h3:fk xs=some ns) (h5:iv ρ=.ret (.int n)) (h6:F ns=some n) (h7:ns∈KS):k7 F KS jk ik (λρ=>.ret (.next ρ)) iv ρ=.ret (.ret (.d (.int n))):=by
 unfold k7
 rw [h1,h2]
 simp only [h3]
 rw [h1,h2,h5]
 simp only [h3,h6,h7,and_self,if_true]
noncomputable def cE (fs:List (List Int)):List PyData:=(List.range (fs.length+1)).map λt:Nat=>PyData.int (bH (fs.drop t))
noncomputable def aD (s:Shp) (fs:List (List Int)) (d:Nat):PyData:=.tuple [s.d,fD fs,.int d,.list (cE fs)]
theorem sa {fs:List (List Int)} {t:Nat} (h:t<=fs.length):bf (cE fs) (t:Int)=some (.int (bH (fs.drop t))):=by
 refine jp (Int.natCast_nonneg t) ?_
 rw [Int.toNat_natCast]
 unfold cE
 rw [List.getElem?_map,List.getElem?_range (by omega)]
 rfl
theorem Zdj:∀ fs:List (List Int),kH (fs.map tI)=some fs
 | []=>rfl
 | l::fs=>by
  rw [List.map_cons,kH,Zdj fs]
  have:jE (tI l)=some l:=ra l
  rw [this]
  rfl
theorem Zjr (s:Shp) (fs:List (List Int)) (d t:Nat) (x:Int) (way:List Int):fN (aD s fs d) ((t:Int)::x::way)=some (cH s d (fs.drop t) x way):=by
 have h1:jE s.d=some s.l:=by unfold Shp.d; exact ra s.l
 have h2:pC s.l=some s:=rfl
 unfold aD fD
 show (jE s.d).bind (λl=>(pC l).bind λs=>(kH (fs.map tI)).map λfs=>cH s ((d:Nat):Int).toNat (fs.drop ((t:Nat):Int).toNat) x way)=_
 simp only [h1,Option.bind_some,h2,Zdj,Option.map_some,Int.toNat_natCast]
theorem Zak:∀ {way:List Int},(∀ a∈way,0<=a/\a < 30)->way∈fe way.length
 | [],_=>by simp [fe]
 | a::l,h=>by
  have ih:=Zak (way:=l) λv hv=>h v (List.mem_cons_of_mem _ hv)
  have ha:=h a (by simp)
  rw [List.length_cons,fe,List.mem_flatMap]
  refine ⟨l,ih,List.mem_map.mpr ⟨a.toNat,List.mem_range.mpr (by omega),?_⟩⟩
  rw [show ((a.toNat:Nat):Int)=a by omega]
theorem ZiC {s:Shp} {fs:List (List Int)} {d t:Nat} {x:Int} {way:List Int} (ht:t < fs.length) (hx:-30<=x/\x < 10) (hl:way.length=d) (hw:∀ a∈way,0<=a/\a < 30):((t:Int)::x::way)∈eB (aD s fs d):=by
 unfold aD fD
 show _∈(List.range (fs.map tI).length).flatMap λt:Nat=>(List.range 40).flatMap λx:Nat=>(fe ((d:Nat):Int).toNat).map λw=>(t:Int)::((x:Int) - 30)::w
 rw [List.mem_flatMap]
 refine ⟨t,List.mem_range.mpr (by rw [List.length_map]; exact ht),?_⟩
 rw [List.mem_flatMap]
 refine ⟨(x+30).toNat,List.mem_range.mpr (by omega),List.mem_map.mpr ⟨way,?_,?_⟩⟩
 ·rw [Int.toNat_natCast,<- hl]
  exact Zak hw
 ·rw [show (((x+30).toNat:Nat):Int) - 30=x by omega]
theorem Zal:∀ n:Nat,(fe n).length=30 ^ n
 | 0=>rfl
 | n+1=>by
  rw [fe,List.length_flatMap]
  have:(fe n).map (λw=>((List.range 30).map λa:Nat=>(a:Int)::w).length)=(fe n).map λ_=>30:=List.map_congr_left λw _=>by rw [List.length_map,List.length_range]
  rw [this,List.map_const',List.sum_replicate_nat,Zal n,Nat.pow_succ]
theorem Zdw {s:Shp} {fs:List (List Int)} {d:Nat} (d1:1<=d) (d3:d<=20):∀ (rest pre:List (List Int)) (n:Nat) (x:Int) (way:List Int),fs=pre++rest->rest.length < n->St0 s rest x way->way.length=d ->
  eA (fN (aD s fs d)) (eB (aD s fs d)) n [.d (aD s fs d),.pen,.d (.int pre.length),.d (.int x),.d (tI way)]=.ret (.d (.int (cH s d rest x way)))
 | rest,pre,0,x,way,_,hn,_,_=>by omega
 | [],pre,n+1,x,way,hf,hn,st,hw=>by
  have ln:bF cK [fD fs]=.ret (.int fs.length):=by
   unfold fD
   rw [ig,List.length_map]
  have hl:fs.length=pre.length:=by rw [hf,List.length_append]; rfl
  obtain ⟨b1,b2,b3,b4,_⟩:=st.bd
  have hx:nb 20 (x+way.sum):=bP (by show -1048576 < _; omega) (by show _ < 1048576; omega)
  have ee:=Zl5 st.ok hx
  have c:((pre.length:Int) == (pre.length:Int))=true:=by simp
  rw [hl] at ln
  rw [eA,cH]
  generalize fN (aD s fs d)=F
  generalize eB (aD s fs d)=KS
  unfold aD
  simp_arith only [si,ln,c,iD,ee]
 | day::rest,pre,n+1,x,a::l,hf,hn,st,hw=>by
  rw [List.length_cons] at hn hw
  have ln:bF cK [fD fs]=.ret (.int fs.length):=by
   unfold fD
   rw [ig,List.length_map]
  have hl:fs.length=pre.length+(rest.length+1):=by rw [hf,List.length_append,List.length_cons]
  have hdr:fs.drop pre.length=day::rest:=by rw [hf,List.drop_left]
  have hdr1:fs.drop (pre.length+1)=rest:=by rw [hf,<- List.drop_drop,List.drop_left]; rfl
  obtain ⟨b1,b2,b3,b4,b5⟩:=st.bd
  have es:(a::l).sum=a+l.sum:=List.sum_cons
  have fl:=st.fl
  rw [List.length_cons] at fl
  have ha:=b5 a (by simp)
  obtain ⟨l1,_⟩:=jH (l:=l) λv hv=>(b5 v (List.mem_cons_of_mem _ hv)).1
  have dd:=st.fd day (by simp)
  have o:OnD s (eA (fN (aD s fs d)) (eB (aD s fs d)) n) (aD s fs d) (fD fs) (cE fs) pre.length (x+a) l day (bH (day::rest)) (bH rest) (λp z=>cH s d rest z (l++[p])):=by
   refine ⟨st.ok,by omega,aX (jn st.fd st.fl) (by rw [List.length_cons]; omega),aX (jn (λv hv=>st.fd v (List.mem_cons_of_mem _ hv)) (by omega)) (by omega),?_,?_,?_,dd.len,λv hv=>⟨dd.w0 v hv,dd.nb v hv⟩,bP (by show -32768 < _; omega) (by show _ < 32768; omega),bP (by show -32768 < _; omega) (by show _ < 32768; omega),λy y1 y2 f hf'=>?_⟩
   ·rw [sa (by omega),hdr]
   ·have:=sa (fs:=fs) (t:=pre.length+1) (by omega)
    rw [hdr1] at this
    exact this
   ·unfold fD
    rw [dR,jp (v:=tI day) (Int.natCast_nonneg _) (by rw [Int.toNat_natCast,List.getElem?_map,hf,List.getElem?_append_right (Nat.le_refl _),Nat.sub_self]; rfl)]
    rfl
   ·have hi:=st.hi
    have st':=st.step (y:=y) (by omega) (by omega) (f:=f) hf'
    have e1:x+(a::l).headD 0 - (f:Int)=x+a - f:=rfl
    have e2:(a::l).drop 1++[y - (x+(a::l).sum)]=l++[y - (x+a+l.sum)]:=by rw [es,show y - (x+(a+l.sum))=y - (x+a+l.sum) by omega]; rfl
    rw [e1,e2] at st'
    refine ⟨?_,aX (o5 st') (by omega)⟩
    have:=Zdw (s:=s) (fs:=fs) d1 d3 rest (pre++[day]) n (x+a - f) (l++[y - (x+a+l.sum)]) (by rw [hf,List.append_assoc]; rfl) (by omega) st' (by rw [List.length_append]; show l.length+1=d; exact hw)
    rw [List.length_append] at this
    exact this
  have hi:=st.hi
  have ed:=Zl8 (d:=(d:Int)) (N:=fs.length) o ln (by omega) (by omega)
  have ev:bM (gY s day (bH (day::rest)) (bH rest) (x+a) (x+a+l.sum) λp z=>cH s d rest z (l++[p])) (x+a+l.sum) (if (pre.length:Int)+d < fs.length then (s.top - (x+a+l.sum)).toNat else 0)=cH s d (day::rest) x (a::l):=by
   rw [cH,es]
   have e1:x+(a+l.sum)=x+a+l.sum:=by omega
   rw [e1]
   have e2:(if (pre.length:Int)+d < fs.length then (s.top - (x+a+l.sum)).toNat else 0)=if d < (day::rest).length then (s.top - (x+a+l.sum)).toNat else 0:=by
    rw [List.length_cons]
    by_cases c:d < rest.length+1
    ·rw [if_pos c,if_pos (by omega)]
    ·rw [if_neg c,if_neg (by omega)]
   rw [e2]
   rfl
  rw [ev] at ed
  have c:((pre.length:Int) == (fs.length:Int))=false:=beq_eq_false_iff_ne.mpr (by omega)
  have ea:aQ aO (.tuple [.int (pre.length:Int),.int x]) (tI (a::l))=.ret (.tuple ((((pre.length:Int)::x::a::l)).map PyData.int)):=by
   unfold tI
   exact rG rfl (ck (by simp only [List.length_map,List.length_cons,List.length_nil]; omega))
  have a0:aQ aE (tI (a::l)) (.int 0)=.ret (.int a):=by
   unfold tI
   rw [List.map_cons,dR,kP]
   rfl
  have a1:d8 (tI (a::l)) (some 1) none=.ret (tI l):=by
   unfold tI
   exact ZmZ _ 1
  have hF:=Zjr s fs d pre.length x (a::l)
  rw [hdr] at hF
  have hK:=ZiC (s:=s) (fs:=fs) (d:=d) (t:=pre.length) (x:=x) (way:=a::l) (by omega) (by omega) (by rw [List.length_cons]; exact hw) b5
  rw [eA]
  generalize cH s d (day::rest) x (a::l)=v at *
  generalize fN (aD s fs d)=F at *
  generalize eB (aD s fs d)=KS at *
  generalize eA F KS n=slf at *
  have key:(aG (aH (iW slf) (af (aa 0) (bZ 1 (af (aa 2) (af (ad aO (aa 3) (ad aE (aa 4) (aC (.int 0)))) (af (dH (aa 4) (di (aC (.int 1))) dI) ay))))))) [.d (aD s fs d),.pen,.d (.int pre.length),.d (.int x),.d (tI (a::l)),.d s.d,.d (fD fs),.d (.int d),.d (.list (cE fs)),.d (.tuple ((((pre.length:Int)::x::a::l)).map PyData.int))]=.ret (.int v):=by
   simp_arith only [a0,a1]
   unfold aD
   rw [ed]
   rfl
  have em:=Zkx (F:=F) (KS:=KS) (jk:=1) (ik:=9) (ρ:=[.d (aD s fs d),.pen,.d (.int pre.length),.d (.int x),.d (tI (a::l)),.d s.d,.d (fD fs),.d (.int d),.d (.list (cE fs)),.d (.tuple ((((pre.length:Int)::x::a::l)).map PyData.int))]) rfl rfl (ra _) key hF hK
  unfold aD at em ⊢
  simp only [List.map_cons] at em
  simp_arith only [si,ln,c,ea,em]
 | day::rest,pre,n+1,x,[],hf,hn,st,hw=>by
  have:(0:Nat)=d:=hw
  omega
end My
set_option Elab.async false
set_option linter.all false
set_option maxRecDepth 100000
set_option exponentiation.threshold 9000
namespace My
open PySem PySem.Spec PyProof.Rows L2 Tw
section
variable (s:Shp) (r:Int->Int)
noncomputable def eR:List (List Int)->Int->List Int->Int
 | day::rest,x,a::l=>ws (λf=>r (x+a - f) * bH rest+eR rest (x+a - f) l) 0 day
 | _,_,_=>0
noncomputable def lE:List (List Int)->Nat->Int->Int
 | [],_,_=>0
 | day::rest,0,z=>ws (λf=>r (z - f) * bH rest) 0 day
 | day::rest,k+1,z=>ws (λf=>lE rest k (z - f)) 0 day
noncomputable def aR (d:Nat):List (List Int)->Int->Int
 | [],c=>jh s c
 | day::rest,c=>bM (λy=>cI s (y - c) * bH (day::rest)+lE r (day::rest) d y+ws (λf=>aR d rest (y - f)) 0 day) c (if d < (day::rest).length then (s.top - c).toNat else 0)
noncomputable def vR (d:Nat):List (List Int)->Int->List Int->Int
 | [],x,way=>jh s (x+way.sum)
 | day::rest,x,way=>bM (λy=>cI s (y - (x+way.sum)) * bH (day::rest)+ws (λf=>r (x+way.headD 0 - f) * bH rest+vR d rest (x+way.headD 0 - f) (way.drop 1++[y - (x+way.sum)])) 0 day) (x+way.sum) (if d < (day::rest).length then (s.top - (x+way.sum)).toNat else 0)
end
theorem rO (r:Int->Int) (fs:List (List Int)) (x:Int):eR r fs x []=0:=by
 cases fs with
 | nil=>rfl
 | cons d fs=>rfl
theorem rN (r:Int->Int):∀ (fs:List (List Int)) (l:List Int) (x p:Int),eR r fs x (l++[p])=eR r fs x l+lE r fs l.length (x+l.sum+p)
 | [],l,x,p=>by cases l <;> rfl
 | day::rest,[],x,p=>by
  rw [rO,Int.zero_add,List.nil_append,eR]
  show _=lE r (day::rest) 0 (x+([]:List Int).sum+p)
  rw [lE]
  refine dr λf _=>?_
  rw [rO,Int.add_zero,show x+([]:List Int).sum+p=x+p by simp]
 | day::rest,a::l,x,p=>by
  rw [List.cons_append,eR,eR,List.length_cons,lE,<- ly]
  refine dr λf _=>?_
  rw [rN r rest l (x+a - f) p,List.sum_cons,show x+a - f+l.sum+p=x+(a+l.sum)+p - f by omega]
  omega
theorem ZcE {f g:Int->Int} {e a:Int} (h:∀ y,f y=e+g y):∀ n:Nat,bM f a n=e+bM g a n
 | 0=>h a
 | n+1=>by
  rw [bM,bM,ZcE h n,h]
  by_cases c:g (a+(n+1:Nat)) < bM g a n
  ·rw [if_pos c,if_pos (by omega)]
  ·rw [if_neg c,if_neg (by omega)]
theorem Zax (s:Shp) (r:Int->Int) {d:Nat} (hd:1<=d):∀ (fs:List (List Int)) (x:Int) (way:List Int),way.length=d->vR s r d fs x way=eR r fs x way+aR s r d fs (x+way.sum)
 | [],x,way,_=>by
  rw [vR,aR]
  have:eR r [] x way=0:=by cases way <;> rfl
  omega
 | day::rest,x,[],hw=>by
  have:(0:Nat)=d:=hw
  omega
 | day::rest,x,a::l,hw=>by
  have hw':l.length+1=d:=hw
  rw [vR,aR,eR]
  refine ZcE (λy=>?_) _
  have key:ws (λf=>r (x+(a::l).headD 0 - f) * bH rest+vR s r d rest (x+(a::l).headD 0 - f) ((a::l).drop 1++[y - (x+(a::l).sum)])) 0 day=ws (λf=>r (x+a - f) * bH rest+eR r rest (x+a - f) l) 0 day+(lE r (day::rest) d y+ws (λf=>aR s r d rest (y - f)) 0 day):=by
   have el:lE r (day::rest) d y=ws (λf=>lE r rest l.length (y - f)) 0 day:=by rw [<- hw']; rfl
   rw [el,<- ly,<- ly]
   refine dr λf _=>?_
   show r (x+a - f) * bH rest+vR s r d rest (x+a - f) (l++[y - (x+(a::l).sum)])=_
   rw [Zax s r hd rest (x+a - f) (l++[y - (x+(a::l).sum)]) (by rw [List.length_append]; exact hw'),rN,List.sum_append,List.sum_cons]
   have e1:x+a - f+l.sum+(y - (x+(a+l.sum)))=y - f:=by omega
   have e2:x+a - f+(l.sum+[y - (x+(a+l.sum))].sum)=y - f:=by
    have:[y - (x+(a+l.sum))].sum=y - (x+(a+l.sum)):=by simp
    rw [this]
    omega
   rw [e1,e2]
   omega
  rw [key]
  omega
end My
set_option Elab.async false
set_option linter.all false
set_option maxRecDepth 100000
set_option exponentiation.threshold 9000
namespace My
open PySem PySem.Spec PyProof.Rows L2 Tw
theorem jm:∀ fs:List (List Int),bH fs=prd fs
 | []=>rfl
 | d::fs=>by rw [bH,prd,jm fs,Int.mul_comm]
theorem ZcC (f:Int->Int) (a:Int):∀ (n i:Nat),i<=n->bM f a n<=f (a+i)
 | 0,i,h=>by
  have:i=0:=by omega
  subst this
  rw [bM,show a+((0:Nat):Int)=a by omega]
  exact Int.le_refl _
 | n+1,i,h=>by
  rw [bM]
  by_cases e:i=n+1
  ·subst e
   split
   ·exact Int.le_refl _
   ·omega
  ·have:=ZcC f a n i (by omega)
   split <;> omega
theorem Zaj (f:Int->Int):ws f 0 (cj [])=f 0:=by
 show ws f 0 [1]=f 0
 rw [ws,ws]
 show 1 * f ((0:Nat):Int)+0=f 0
 have:((0:Nat):Int)=0:=rfl
 rw [this]
 omega
theorem ZcP (r:Int->Int):∀ (fs:List (List Int)) (d:Nat) (z:Int),fs.length<=d->lE r fs d z=0
 | [],d,z,_=>by rw [lE]
 | day::rest,0,z,h=>by simp at h
 | day::rest,d+1,z,h=>by
  rw [lE]
  rw [List.length_cons] at h
  have:ws (λf=>lE r rest d (z - f)) 0 day=ws (λ_=>0) 0 day:=dr λf _=>ZcP r rest d _ (by omega)
  rw [this,lv,Int.zero_mul]
theorem qV (s:Shp):∀ (fs:List (List Int)) (d:Nat) (y:Int),(∀ l∈fs,0 < l.length)->d < fs.length->lE (λz=>s.day z 0) fs d y=prd (fs.drop (d+1)) * ws (λf=>s.day y f) 0 (cj (fs.take (d+1)))
 | [],d,y,_,h=>by simp at h
 | day::rest,0,y,hl,_=>by
  have h1:∀ l∈[day],0 < l.length:=λl h=>by
   have e:l=day:=by simpa using h
   rw [e]
   exact hl day (by simp)
  rw [lE,List.take_succ_cons,List.take_zero,List.drop_succ_cons,List.drop_zero,oS h1,<- oW,jm]
  refine dr λf _=>?_
  rw [Zaj,ZdR,Int.mul_comm]
 | day::rest,d+1,y,hl,h=>by
  rw [List.length_cons] at h
  have hl':∀ l∈rest,0 < l.length:=λl q=>hl l (List.mem_cons_of_mem _ q)
  rw [lE,List.take_succ_cons,List.drop_succ_cons,oS (λl q=>hl l (by
   rcases List.mem_cons.mp q with rfl | q
   ·simp
   ·exact List.mem_cons_of_mem _ (List.mem_of_mem_take q))),<- oW]
  refine dr λf _=>?_
  rw [qV s rest d (y - f) hl' (by omega)]
  have:(λw=>s.day (y - f) w)=λw=>s.day y (f+w):=funext λw=>ZdR s y f w
  rw [this]
theorem ZeW {s:Shp} {d:Nat}:∀ (fs:List (List Int)),(∀ l∈fs,0 < l.length)->∀ c,c<=s.top->aR s (λz=>s.day z 0) d fs c=aF s d fs c
 | [],_,c,_=>by
  rw [aR,aF]
  unfold eQ jh
  rw [Zaj,Zjs,Int.sub_zero]
 | day::rest,hl,c,hc=>by
  have hl':∀ l∈rest,0 < l.length:=λl q=>hl l (List.mem_cons_of_mem _ q)
  have ih:∀ y,y<=s.top->ws (λf=>aR s (λz=>s.day z 0) d rest (y - f)) 0 day=ws (λf=>aF s d rest (y - f)) 0 day:=λy hy=>dr λf hf=>ZeW rest hl' _ (by omega)
  rw [aR]
  by_cases hd:d < (day::rest).length
  ·have hd':d<=rest.length:=by rw [List.length_cons] at hd; omega
   rw [if_pos hd,ZeX hd']
   have ef:∀ y,c<=y->y<=s.top->cI s (y - c) * bH (day::rest)+lE (λz=>s.day z 0) (day::rest) d y+ws (λf=>aR s (λz=>s.day z 0) d rest (y - f)) 0 day=csm s d (day::rest) (aF s d rest) y+(if c < y then prd (day::rest) * s.start else 0) - prd (day::rest) * s.piece * c:=λy y1 y2=>by
    rw [ih y y2,qV s _ _ _ hl hd,jm]
    have ec:csm s d (day::rest) (aF s d rest) y=prd (day::rest) * s.piece * y+prd ((day::rest).drop (d+1)) * ws (λf=>s.day y f) 0 (cj ((day::rest).take (d+1)))+ws (λf=>aF s d rest (y - f)) 0 day:=rfl
    rw [ec]
    generalize prd (day::rest)=p
    generalize prd ((day::rest).drop (d+1)) * ws (λf=>s.day y f) 0 (cj ((day::rest).take (d+1)))=A
    generalize ws (λf=>aF s d rest (y - f)) 0 day=B
    unfold cI
    by_cases q:c < y
    ·rw [if_pos q,if_pos (by omega)]; grind
    ·have:y=c:=by omega
     rw [if_neg q,if_neg (by omega),this]; grind
   obtain ⟨m,hm⟩:∃ m:Nat,s.top - c=(m:Int):=⟨(s.top - c).toNat,by omega⟩
   rw [hm,Int.toNat_natCast]
   refine Int.le_antisymm ?_ ?_
   ·obtain ⟨y,y1,y2,hy⟩:=Zm2 (g:=csm s d (day::rest) (aF s d rest)) (K:=prd (day::rest) * s.start) (P:=prd (day::rest) * s.piece) hc
    rw [hy,<- ef y y1 y2]
    have:=ZcC (λy=>cI s (y - c) * bH (day::rest)+lE (λz=>s.day z 0) (day::rest) d y+ws (λf=>aR s (λz=>s.day z 0) d rest (y - f)) 0 day) c m (y - c).toNat (by omega)
    rw [show c+(((y - c).toNat:Nat):Int)=y by omega] at this
    exact this
   ·obtain ⟨i,i1,i2⟩:=qE (λy=>cI s (y - c) * bH (day::rest)+lE (λz=>s.day z 0) (day::rest) d y+ws (λf=>aR s (λz=>s.day z 0) d rest (y - f)) 0 day) c m
    rw [i2]
    show _<=cI s (c+(i:Int) - c) * bH (day::rest)+lE (λz=>s.day z 0) (day::rest) d (c+i)+ws (λf=>aR s (λz=>s.day z 0) d rest (c+i - f)) 0 day
    rw [ef (c+i) (by omega) (by omega)]
    exact Zm1 (by omega) (by omega)
  ·have hd':(day::rest).length<=d:=by omega
   rw [if_neg hd,bM,sP hd',ZcP _ _ _ _ hd',ih c hc]
   rw [List.length_cons] at hd'
   have e0:cI s (c - c)=0:=by unfold cI; rw [if_neg (by omega)]
   rw [e0,Int.zero_mul,Int.zero_add,Int.zero_add]
   unfold eQ
   rw [oS hl]
   refine dr λf _=>?_
   rw [sP (by omega)]
   unfold eQ
   have:(λj=>s.fin (c - f - j))=λj=>s.fin (c - (f+j)):=funext λj=>by rw [show c - f - j=c - (f+j) by omega]
   rw [this]
end My
set_option Elab.async false
set_option linter.all false
set_option maxRecDepth 100000
set_option exponentiation.threshold 9000
namespace My
open PySem PySem.Spec PyProof.Rows L2 Tw
theorem ZcD {f g:Int->Int} {a:Int} (h:∀ i:Nat,f (a+i)=g (a+i)):∀ n:Nat,bM f a n=bM g a n
 | 0=>by
  have:=h 0
  rw [show a+((0:Nat):Int)=a by omega] at this
  exact this
 | n+1=>by rw [bM,bM,ZcD h n,h (n+1)]
theorem Zai {f g:Int->Int}:∀ {l:List Int} {k:Nat},(∀ (j:Nat) (n:Int),l[j]?=some n->n≠0->f ((k+j:Nat):Int)=g ((k+j:Nat):Int))->ws f k l=ws g k l
 | [],k,_=>rfl
 | n::l,k,h=>by
  have ih:=Zai (f:=f) (g:=g) (l:=l) (k:=k+1) λj m e hm=>by
   have:=h (j+1) m (by rw [List.getElem?_cons_succ]; exact e) hm
   rw [show k+(j+1)=k+1+j by omega] at this
   exact this
  rw [ws,ws,ih]
  by_cases e:n=0
  ·rw [e,Int.zero_mul,Int.zero_mul]
  ·have:=h 0 n rfl e
   rw [Nat.add_zero] at this
   rw [this]
theorem ZaV:∀ {ns:List Int} {k i:Nat} {v:Int},ns[i]?=some v->0 < v->((k+i:Nat):Int)∈bJ k ns
 | [],k,i,v,h,_=>by simp at h
 | n::ns,k,0,v,h,hv=>by
  simp at h
  subst h
  rw [bJ,if_pos hv]
  exact List.mem_cons_self ..
 | n::ns,k,i+1,v,h,hv=>by
  have ih:=ZaV (ns:=ns) (k:=k+1) (i:=i) (by simpa using h) hv
  have e:k+1+i=k+(i+1):=by omega
  rw [e] at ih
  rw [bJ]
  split
  ·exact List.mem_cons_of_mem _ ih
  ·exact ih
theorem Zc7 {one:List Int} {k:Nat} {v:Int} (h:one[k]?=some v) (hv:0 < v):(k:Int)<=great one:=by
 have hm:=ZaV (k:=0) h hv
 rw [Nat.zero_add] at hm
 exact (iY (List.ne_nil_of_mem hm)).2 _ hm
theorem pP (l:List Int) (fs:List (List Int)):reach (l::fs)=great l+reach fs:=by
 unfold reach
 rw [List.map_cons,List.sum_cons]
theorem fX:∀ {fs:List (List Int)},(∀ l∈fs,∃ n∈l,n > 0)->0<=reach fs
 | [],_=>by unfold reach; simp
 | l::fs,h=>by
  have ih:=fX (fs:=fs) λv hv=>h v (List.mem_cons_of_mem _ hv)
  obtain ⟨n,hn,h0⟩:=h l (by simp)
  obtain ⟨i,hi,e⟩:=List.mem_iff_getElem.mp hn
  have:=Zc7 (one:=l) (k:=i) (v:=n) (by rw [List.getElem?_eq_getElem hi,e]) h0
  rw [pP]
  omega
theorem Zgz {s:Shp} {z:Int} (h:-s.depth<=z):cW s z=s.day z 0:=by
 have e:s.nx z 0=z:=by
  rw [<- ZhU,Int.sub_zero]
  unfold cv
  split <;> omega
 have:=Zmm s z 0
 rw [e] at this
 unfold cW
 rw [<- this,show z - z+0=0 by omega,Int.mul_zero,Int.add_zero]
theorem Zay {s:Shp} {d:Nat}:∀ (fs:List (List Int)) (x:Int) (way:List Int),(∀ l∈fs,DayB l/\∃ n∈l,n > 0)->(∀ a∈way,0<=a)->reach fs - s.depth<=x->cH s d fs x way=vR s (λz=>s.day z 0) d fs x way
 | [],x,way,_,_,_=>by rw [cH,vR]
 | day::rest,x,way,hf,hw,hx=>by
  have hf':∀ l∈rest,DayB l/\∃ n∈l,n > 0:=λl hl=>hf l (List.mem_cons_of_mem _ hl)
  have r0:=fX (fs:=rest) λl hl=>(hf' l hl).2
  have dd:=(hf day (by simp)).1
  rw [pP] at hx
  have hh:0<=way.headD 0:=by
   cases e:way with
   | nil=>exact Int.le_refl 0
   | cons a l=>exact hw a (by rw [e]; simp)
  rw [cH,vR]
  refine ZcD (λi=>?_) _
  congr 1
  refine Zai λj n e hn=>?_
  have n0:=dd.w0 n (List.mem_of_getElem? e)
  have hg:=Zc7 e (by omega)
  rw [Nat.zero_add]
  rw [Zgz (show -s.depth<=x+way.headD 0 - (j:Int) by omega)]
  rw [Zay rest (x+way.headD 0 - (j:Int)) _ hf' (λa ha=>by
   rcases List.mem_append.mp ha with q | q
   ·exact hw a (List.mem_of_mem_drop q)
   ·have:a=x+way.sum+(i:Int) - (x+way.sum):=by simpa using q
    omega) (by omega)]
theorem ZdB (s:Shp) (fs:List (List Int)) (x:Int) (hl:∀ l∈fs,0 < l.length):∀ d:Nat,d<=fs.length->eR (λz=>s.day z 0) fs x (List.replicate d 0)=dP s fs x d
 | 0,_=>by rw [dP]; exact rO _ _ _
 | d+1,h=>by
  have es:(List.replicate d (0:Int)).sum=0:=by
   clear h
   induction d with
   | zero=>rfl
   | succ d ih=>rw [List.replicate_succ,List.sum_cons,ih]; rfl
  rw [List.replicate_succ',rN,ZdB s fs x hl d (by omega),List.length_replicate,es,dP,qV s fs d _ hl (by omega),show x+0+0=x by omega]
theorem Zck {s:Shp} {fs:List (List Int)} (hf:FOk fs) {d:Nat} (d1:1<=d) (d2:d<=fs.length) {x:Int} (x1:reach fs - s.depth<=x) (x2:x<=s.top):cH s d fs x (List.replicate d 0)=dQ s d fs x:=by
 have es:∀ d:Nat,(List.replicate d (0:Int)).sum=0:=λd=>by
  induction d with
  | zero=>rfl
  | succ d ih=>rw [List.replicate_succ,List.sum_cons,ih]; rfl
 have hl:∀ l∈fs,0 < l.length:=λl h=>(hf.P l h).2
 rw [Zay fs x _ hf.b (λa ha=>by rw [(List.mem_replicate.mp ha).2]; exact Int.le_refl 0) x1,Zax s _ d1 fs x _ (List.length_replicate ..),ZdB s fs x hl d d2,es,Int.add_zero,ZeW fs hl x x2]
 unfold dQ
 omega
end My
set_option Elab.async false
set_option linter.all false
set_option maxRecDepth 100000
set_option exponentiation.threshold 9000
namespace My
open PySem PySem.Spec PyProof.Rows L2 Tw Bar
theorem bq (n:Int):cN [.pen,.d (.int n)]=.draw n λr=>.ret (.d (.int r)):=rfl
theorem ZaW:∀ (a:List Int) (k m:Nat),bJ k (a++List.replicate m 0)=bJ k a
 | [],k,m=>by
  have key:∀ (m k:Nat),bJ k (List.replicate m (0:Int))=[]:=by
   intro m
   induction m with
   | zero=>intro k; rfl
   | succ m ih=>intro k; rw [List.replicate_succ,bJ,if_neg (by decide),ih]
  exact key m k
 | w::a,k,m=>by
  rw [List.cons_append,bJ,bJ,ZaW a (k+1) m]
theorem pz:∀ {l:List Int} {k:Nat} {x:Int},x∈bJ k l->x < k+l.length
 | [],_,_,h=>by cases h
 | w::l,k,x,h=>by
  rw [List.length_cons]
  rw [bJ] at h
  split at h
  ·rcases List.mem_cons.mp h with e | e
   ·omega
   ·have:=pz e; omega
  ·have:=pz h; omega
theorem Zgv:Al (nk [.pen,.d (.int 3)]) 11 λr=>∃ d,r=.d (tI d)/\DayOk 8 d/\great d<=2/\d.length<=6:=by
 simp_arith only [nk,bq]
 refine cU (n:=10) (by decide) (by decide) (by decide) λi i0 i1=>?_
 obtain ⟨be,hbe,be0,be1⟩:=qa (xs:=[PyData.int 0,.int 0,.int 1,.int 3]) (lo:=0) (hi:=3) (by simp [ic]) i0 i1
 simp_arith only [bq,hbe]
 refine cU (n:=9) (by decide) (by decide) (by decide) λj j0 j1=>?_
 obtain ⟨bo,hbo,bo0,bo1⟩:=qa (xs:=[PyData.int 2,.int 4,.int 20,.int 1001]) (lo:=2) (hi:=1001) (by simp [ic]) j0 j1
 simp_arith only [bq,hbo]
 refine cU (n:=8) (by omega) (by omega) (by decide) λc c0 c1=>?_
 have rr:d9 [.int c]=.ret (aV 0 c):=gK (c7 (by omega) (by omega))
 have hs:small (aV 0 c).length=true:=ck (by rw [cX]; omega)
 simp_arith only [bq,rr,hs]
 refine ft (n:=7) (n':=1) (sD (n:=1) (P:=ic 0 1000) (Q:=λys=>∃ ps:List Int,ys=ps.map PyData.int/\ps.length=c.toNat/\∀ p∈ps,0<=p/\p<=1000) (by rw [cX]; omega) (λx hx=>?_) λys hl hys=>?_) (by decide) ?_
 ·simp_arith only [ZbW,bq]
  refine cU (n:=0) (by omega) (by omega) (by decide) λv v0 v1=>?_
  try simp_arith only [bq]
  exact cT ⟨v,rfl,v0,by omega⟩
 ·obtain ⟨ns,e,hn⟩:=q9 hys
  refine ⟨ns,e,?_,hn⟩
  rw [e,List.length_map,cX] at hl
  omega
 ·rintro _ ⟨ps,rfl,hl,hb⟩
  try simp_arith only [bq]
  refine cU (n:=0) (by omega) (by omega) (by decide) λw w0 w1=>?_
  have hmul:aQ bz (.list [.int 0]) (.int be)=.ret (.list ((List.replicate be.toNat (0:Int)).map PyData.int)):=by
   have:be=0\/be=1\/be=2\/be=3:=by omega
   rcases this with rfl | rfl | rfl | rfl <;> rfl
  have e2:aQ aO (.list (ps.map PyData.int)) (.list [.int (1+w)])=.ret (.list (ps.map PyData.int++[.int (1+w)])):=rH (ck (by rw [List.length_map]; show ps.length+1<=_; omega))
  have e3:aQ aO (.list (ps.map PyData.int++[.int (1+w)])) (.list ((List.replicate be.toNat (0:Int)).map PyData.int))=.ret (.list (ps.map PyData.int++[.int (1+w)]++(List.replicate be.toNat (0:Int)).map PyData.int)):=rH (ck (by rw [List.length_append,List.length_map,List.length_map,List.length_replicate]; show ps.length+1+_<=_; omega))
  have e4:ps.map PyData.int++[PyData.int (1+w)]++(List.replicate be.toNat (0:Int)).map PyData.int=(ps++[1+w]++List.replicate be.toNat 0).map PyData.int:=by rw [List.map_append,List.map_append]; rfl
  simp_arith only [bq,hmul,e2,e3,e4]
  refine cT ⟨ps++[1+w]++List.replicate be.toNat 0,rfl,?_,?_,by simp; omega⟩
  ·refine ⟨by simp; omega,⟨1+w,by simp,by omega⟩,λn hn=>?_⟩
   simp only [List.mem_append,List.mem_singleton,List.mem_replicate] at hn
   rcases hn with (hn | rfl) | ⟨-,rfl⟩
   ·have:=hb n hn; omega
   ·omega
   ·omega
  ·have hne:=lK (k:=0) (ns:=ps++[1+w]++List.replicate be.toNat 0) ⟨1+w,by simp,by omega⟩
   have hm:=(iY hne).1
   have hg:great (ps++[1+w]++List.replicate be.toNat 0)∈bJ 0 (ps++[1+w]++List.replicate be.toNat 0):=hm
   rw [ZaW (ps++[1+w]) 0] at hg
   have hlt:=pz hg
   rw [List.length_append] at hlt
   have hlt:great (ps++[1+w]++List.replicate be.toNat 0) < ((0:Nat):Int)+((ps.length+1:Nat):Int):=hlt
   omega
theorem Zgu:Al (ni [.pen]) 10 λr=>∃ ps:List Int,r=.d (tI ps)/\ps.length=7/\∀ p∈ps,0<=p/\p<=1000000:=by
 have pw:aQ mM (.int 10) (.int 6)=.ret (.int 1000000):=rfl
 have pa:(1000000:Int)+1=1000001:=rfl
 simp_arith only [ni,bq,pw,pa]
 refine cU (n:=9) (by decide) (by decide) (by decide) λi i0 i1=>?_
 obtain ⟨bo,hbo,bo0,bo1⟩:=qa (xs:=[PyData.int 3,.int 10,.int 60,.int 1000001]) (lo:=3) (hi:=1000001) (by simp [ic]) i0 i1
 have r7:d9 [.int 7]=.ret (aV 0 7):=gK (c7 (by decide) (by decide))
 have hs:small (aV 0 7).length=true:=ck (by rw [cX]; decide)
 simp_arith only [bq,hbo,r7,hs]
 refine ft (n:=7) (n':=2) (sD (n:=1) (P:=ic 0 1000000) (Q:=λys=>∃ ps:List Int,ys=ps.map PyData.int/\ps.length=7/\∀ p∈ps,0<=p/\p<=1000000) (by rw [cX]; decide) (λx hx=>?_) λys hl hys=>?_) (by decide) ?_
 ·simp_arith only [ZbV,bq]
  refine cU (n:=0) (by omega) (by omega) (by decide) λv v0 v1=>?_
  try simp_arith only [bq]
  exact cT ⟨v,rfl,v0,by omega⟩
 ·obtain ⟨ns,e,hn⟩:=q9 hys
  refine ⟨ns,e,?_,hn⟩
  rw [e,List.length_map,cX] at hl
  exact hl
 ·rintro _ ⟨ps,rfl,hl,hb⟩
  obtain ⟨p2,p3,p4,p5,p6,p7,p8,rfl⟩:=ZcJ hl
  have hp5:=hb p5 (by simp)
  have b2:=hb p2 (by simp)
  have b3:=hb p3 (by simp)
  have b4:=hb p4 (by simp)
  have b6:=hb p6 (by simp)
  have b7:=hb p7 (by simp)
  have b8:=hb p8 (by simp)
  have f5:fit p5=true:=aP (k:=40) (bP (by show -1099511627776 < _; omega) (by show _ < 1099511627776; omega)) (by decide)
  have f53:fit (p5 * 3)=true:=aP (k:=40) (bP (by show -1099511627776 < _; omega) (by show _ < 1099511627776; omega)) (by decide)
  have i0:∀ a b c d e f g:PyData,L2.df [a,b,c,d,e,f,g].length 0=some 0:=λ_ _ _ _ _ _ _=>rfl
  have i3:∀ a b c d e f g:PyData,L2.df [a,b,c,d,e,f,g].length 3=some 3:=λ_ _ _ _ _ _ _=>rfl
  have hmod:aQ gA (.int (p5 * 3)) (.int 1000001)=.ret (.int (p5 * 3 % 1000001)):=by rw [rD (by decide),Int.fmod_eq_emod_of_nonneg _ (by decide)]
  have m0:=Int.emod_nonneg (p5 * 3) (show (1000001:Int)≠0 by decide)
  have m1:=Int.emod_lt_of_pos (p5 * 3) (show (0:Int) < 1000001 by decide)
  have f3:fit (3:Int)=true:=aP (k:=40) (bP (by show -1099511627776 < (3:Int); omega) (by show (3:Int) < 1099511627776; omega)) (by decide)
  try simp_arith only [bq]
  refine cU (n:=1) (by decide) (by decide) (by decide) λa a0 a1=>?_
  cases ha:(a == 0)
  ·simp_arith only [bq,ha]
   refine cU (n:=0) (by decide) (by decide) (by decide) λc c0 c1=>?_
   cases hc:(c == 0)
   ·simp_arith only [bq,hc]
    exact cT ⟨[p2,p3,p4,p5,p6,p7,p8],rfl,rfl,λp hp=>by have:=hb p hp; omega⟩
   ·simp_arith only [bq,hc,f5,f3,hmod,rB (i3 _ _ _ _ _ _ _)]
    exact cT ⟨[p2,p3,p4,p5 * 3 % 1000001,p6,p7,p8],rfl,rfl,λp hp=>by
     clear hb
     simp only [List.mem_cons,List.not_mem_nil,or_false] at hp
     rcases hp with rfl | rfl | rfl | rfl | rfl | rfl | rfl <;> omega⟩
  ·simp_arith only [bq,ha,rB (i0 _ _ _ _ _ _ _)]
   refine cU (n:=0) (by decide) (by decide) (by decide) λc c0 c1=>?_
   cases hc:(c == 0)
   ·simp_arith only [bq,hc]
    exact cT ⟨[0,p3,p4,p5,p6,p7,p8],rfl,rfl,λp hp=>by
     clear hb
     simp only [List.mem_cons,List.not_mem_nil,or_false] at hp
     rcases hp with rfl | rfl | rfl | rfl | rfl | rfl | rfl <;> omega⟩
   ·simp_arith only [bq,hc,f5,f3,hmod,rB (i3 _ _ _ _ _ _ _)]
    exact cT ⟨[0,p3,p4,p5 * 3 % 1000001,p6,p7,p8],rfl,rfl,λp hp=>by
     clear hb
     simp only [List.mem_cons,List.not_mem_nil,or_false] at hp
     rcases hp with rfl | rfl | rfl | rfl | rfl | rfl | rfl <;> omega⟩
theorem Zge (ls:List Int) (hl:ls.length<=100):c6 (gF (ai 0) ke j4 [.un,.d (tI ls)]) (aV 0 (ls.length:Int))=.ret ((bJ 0 ls).map PyData.int):=by
 have hmap:=Zcz (h:=gF (ai 0) ke j4 [.un,.d (tI ls)]) (F:=λq=>.int q.1) ls 0 λi v hv=>by
  have e0:((0:Nat):Int)+(i:Int)=i:=by omega
  rw [e0]
  have hat:aQ aE (tI ls) (.int i)=.ret (.int v):=by
   unfold tI
   rw [dR,jp (v:=.int v) (by omega) (by rw [Int.toNat_natCast,List.getElem?_map,hv]; rfl)]
   rfl
  by_cases h:v > 0
  ·simp_arith only [ke,j4,hat,decide_eq_true h,if_pos h]
  ·simp_arith only [ke,j4,hat,decide_eq_false h,if_neg h]
 have z:((0:Nat):Int)+(ls.length:Int)=(ls.length:Int):=by omega
 rw [z] at hmap
 rw [<- ZaX]
 exact hmap
theorem rM {fs:List (List Int)} (hf:∀ l∈fs,DayOk 8 l) (hl:fs.length<=100):i8 [.d (fD fs)]=.ret (.d (.int (reach fs))):=by
 have hq:∀ l∈fs,dO (ai 0) pY [.un] (tI l)=.ret (.int (great l)):=λl hm=>by
  have hlen:=(hf l hm).len
  have hln:bF cK [tI l]=.ret (.int l.length):=by unfold tI; rw [ig,List.length_map]
  have r1:d9 [.int (l.length:Int)]=.ret (aV 0 (l.length:Int)):=gK (c7 (by omega) (by omega))
  have hs:small (aV 0 (l.length:Int)).length=true:=ck (by rw [cX]; omega)
  have h1:=Zge l (by omega)
  have h2:=Zcx (hf l hm).pos
  rw [qN]
  simp_arith only [pY,hln,r1,hs,h1,h2]
 have hm:=qB hq
 have hs:small (fs.map tI).length=true:=ck (by rw [List.length_map]; omega)
 have er:(List.map great fs).sum=reach fs:=rfl
 simp_arith only [i8,nS,hs,hm,er]
end My
set_option Elab.async false
set_option linter.all false
set_option maxRecDepth 100000
set_option exponentiation.threshold 9000
namespace My
open PySem PySem.Spec PyProof.Rows L2 Tw Bar
theorem oi (s:Shp):d8 s.d (some 2) none=.ret (.tuple [.int s.start,.int s.piece,.int s.keep,.int s.lack,.int s.lost,.int s.back,.int s.late]):=by unfold Shp.d; rfl
noncomputable def mL (s:Shp):List Int:=[s.start,s.piece,s.keep,s.lack,s.lost,s.back,s.late]
structure Ask (s:Shp) (fs:List (List Int)) (x:Int):Prop where
 days:∀ l∈fs,DayOk 8 l
 l2:2<=fs.length
 l6:fs.length<=6
 t0:0<=s.top
 tr:s.top+reach fs<=50
 dep:reach fs<=s.depth/\s.depth<=reach fs+2
 x1:reach fs - s.depth<=x
 x2:x<=s.top
 ps:∀ p∈mL s,0<=p/\p<=1000000
 t5:s.top<=5
 l4:fs.length<=4
 d6:∀ l∈fs,l.length<=6
theorem ok_of {s:Shp} {k:Int} (k0:0<=k) (k1:k<=10000000000) (t0:0<=s.top) (d0:0<=s.depth) (td:s.top+s.depth<=100) (ps:∀ p∈mL s,0<=p/\p<=k):s.Ok:=by
 have nbp:∀ p∈mL s,nb 45 p:=λp hp=>by
  have:=ps p hp
  exact bP (by show -35184372088832 < _; omega) (by show _ < 35184372088832; omega)
 unfold mL at *
 exact ⟨t0,d0,td,(ps s.start (by simp)).1,nbp _ (by simp),nbp _ (by simp),nbp _ (by simp),nbp _ (by simp),nbp _ (by simp),nbp _ (by simp),nbp _ (by simp)⟩
theorem Ask.f {s:Shp} {fs:List (List Int)} {x:Int} (h:Ask s fs x):FOk fs:=⟨λl hl=>⟨(h.days l hl).B (by decide),(h.days l hl).pos⟩,h.l6⟩
theorem Ask.r {s:Shp} {fs:List (List Int)} {x:Int} (h:Ask s fs x):0<=reach fs:=fX λl hl=>(h.days l hl).pos
theorem Ask.ok {s:Shp} {fs:List (List Int)} {x:Int} (h:Ask s fs x):s.Ok:=by
 have r:=h.r
 have:=h.dep
 have:=h.t0
 have:=h.tr
 exact ok_of (k:=1000000) (by decide) (by decide) h.t0 (by omega) (by omega) h.ps
noncomputable def ZcX (v:PyData):Prop:=∃ d,v=tI d/\DayOk 8 d/\great d<=2/\d.length<=6
theorem ZdW:∀ {xs:List PyData},(∀ v∈xs,ZcX v)->∃ fs:List (List Int),xs=fs.map tI/\∀ l∈fs,DayOk 8 l/\great l<=2/\l.length<=6
 | [],_=>⟨[],rfl,λ_ q=>nomatch q⟩
 | v::xs,h=>by
  obtain ⟨d,rfl,hd⟩:=h v (by simp)
  obtain ⟨fs,rfl,hf⟩:=ZdW (xs:=xs) λq hq=>h q (List.mem_cons_of_mem _ hq)
  refine ⟨d::fs,rfl,λl hl=>?_⟩
  rcases List.mem_cons.mp hl with rfl | hl
  ·exact hd
  ·exact hf l hl
theorem Zbr {k:Int}:∀ {fs:List (List Int)},(∀ l∈fs,great l<=k)->reach fs<=k * fs.length
 | [],_=>by show (0:Int)<=k * ((0:Nat):Int); rw [Int.natCast_zero,Int.mul_zero]; decide
 | d::fs,h=>by
  have ih:=Zbr (fs:=fs) λl hl=>h l (List.mem_cons_of_mem _ hl)
  have h1:=h d (by simp)
  rw [pP,List.length_cons,show ((fs.length+1:Nat):Int)=(fs.length:Int)+1 by omega,Int.mul_add,Int.mul_one]
  omega
theorem Zgw:Al (nr [.pen]) 90 λr=>∃ (s:Shp) (fs:List (List Int)) (x:Int),r=.d (.tuple [s.d,fD fs,.int x])/\Ask s fs x:=by
 simp_arith only [nr,bq]
 refine cU (n:=89) (by decide) (by decide) (by decide) λa a0 a1=>?_
 have rr:d9 [.int (2+a)]=.ret (aV 0 (2+a)):=gK (c7 (by omega) (by omega))
 have hs:small (aV 0 (2+a)).length=true:=ck (by rw [cX]; omega)
 simp_arith only [bq,rr,hs]
 refine ft (n:=44) (n':=45) (sD (n:=11) (P:=ZcX) (Q:=λys=>∃ fs:List (List Int),ys=fs.map tI/\(fs.length:Int)=2+a/\∀ l∈fs,DayOk 8 l/\great l<=2/\l.length<=6) (by rw [cX]; omega) (λx hx=>?_) λys hl hys=>?_) (by decide) ?_
 ·simp_arith only [ZbX,bq]
  refine ft (n':=0) Zgv (by decide) ?_
  rintro _ ⟨d,rfl,hd⟩
  simp_arith only [bq]
  exact cT ⟨d,rfl,hd⟩
 ·obtain ⟨fs,rfl,hf⟩:=ZdW hys
  rw [List.length_map,cX] at hl
  exact ⟨fs,rfl,by omega,hf⟩
 ·rintro _ ⟨fs,rfl,hl,hd⟩
  have hfD:PyData.tuple (fs.map tI)=fD fs:=rfl
  have r0:0<=reach fs:=fX λl hl=>(hd l hl).1.pos
  have rm:=Zbr (k:=2) λl hl=>(hd l hl).2.1
  rw [hl] at rm
  simp_arith only [bq,hfD]
  refine cU (n:=19) (by decide) (by decide) (by decide) λmo mo0 mo1=>?_
  try simp_arith only [bq]
  refine cU (n:=18) (by decide) (by decide) (by decide) λtp tp0 tp1=>?_
  have eg:=rM (λl hl=>(hd l hl).1) (by omega)
  simp_arith only [bq,eg]
  refine cU (n:=17) (by omega) (by omega) (by decide) λst st0 st1=>?_
  try simp_arith only [bq]
  refine ft (n:=10) (n':=0) Zgu (by decide) ?_
  rintro _ ⟨ps,rfl,hl7,hp⟩
  obtain ⟨p2,p3,p4,p5,p6,p7,p8,rfl⟩:=ZcJ hl7
  simp_arith only [tI,bq]
  refine cT ⟨⟨tp,reach fs+mo,p2,p3,p4,p5,p6,p7,p8⟩,fs,st - mo,by rw [<- Za4],⟨λl hl=>(hd l hl).1,by omega,by omega,tp0,?_,⟨?_,?_⟩,?_,?_,hp,?_,by omega,λl hl=>(hd l hl).2.2⟩⟩
  ·show tp+reach fs<=50; omega
  ·show reach fs<=reach fs+mo; omega
  ·show reach fs+mo<=reach fs+2; omega
  ·show reach fs - (reach fs+mo)<=st - mo; omega
  ·show st - mo<=tp; omega
  ·show tp<=5; omega
theorem Zdx {s:Shp} {fs:List (List Int)} (hf:FOk fs) (d:Int) {x:Int} (hx:x < reach fs - s.depth):hV [.d s.d,.d (fD fs),.d (.int d),.d (.int x)]=.ret (.d (.bool true)):=by
 have e:=ZdA (s:=s) hf 0
 rw [List.drop_zero,Int.natCast_zero] at e
 have p1:mS [.d s.d,.d (fD fs),.d (.int x)]=.ret true:=by
  show ce (ad (cO λi j=>decide (i < j)) (aa 2) (aG (aH i9 (af (aa 0) (af (aa 1) (af (aC (.int 0)) ay)))))) [.d s.d,.d (fD fs),.d (.int x)]=_
  simp_arith only [e,decide_eq_true hx]
 have p2:mR [.d s.d,.d (fD fs),.d (.int d),.d (.int x)]=.ret true:=by
  show Tr.bind (.ret [.d s.d,.d (fD fs),.d (.int x)]) mS=_
  rw [Tr.ret_bind,p1]
 have q:eO 4 2 (λρ=>(af (aa 0) (af (aa 1) (af (aa 2) (af (aa 3) ay))) (ρ.set 4 (.d .none))).bind mR) [.d s.d,.d (fD fs),.d (.int d),.d (.int x)]=.ret true:=by
  have ar:(af (aa 0) (af (aa 1) (af (aa 2) (af (aa 3) ay)))) ((([Sl.d s.d,Sl.d (fD fs),Sl.d (.int d),Sl.d (.int x)]:List Sl)++List.replicate 2 Sl.un).set 4 (Sl.d .none))=.ret [.d s.d,.d (fD fs),.d (.int d),.d (.int x)]:=rfl
  have hd:decide (([Sl.d s.d,Sl.d (fD fs),Sl.d (.int d),Sl.d (.int x)]:List Sl).length=4)=true:=rfl
  unfold eO
  rw [if_pos hd]
  dsimp only
  rw [ar,Tr.ret_bind,p2]
 unfold hV
 rw [q,Tr.ret_bind,if_pos rfl]
theorem Zgt {s:Shp} {fs:List (List Int)} {x:Int} (h:Ask s fs x):Al (ku [.pen,.d s.d,.d (fD fs)]) 3 λr=>r=.d (.bool true):=by
 have hf:=h.f
 have t0:=h.t0
 have tr:=h.tr
 have l2:=h.l2
 have l6:=h.l6
 have eg:=rM h.days (by omega)
 have hln:bF cK [fD fs]=.ret (.int fs.length):=by
  unfold fD
  rw [ig,List.length_map]
 by_cases hr:reach fs - s.top < 1
 ·simp_arith only [ku,bq,eg,decide_eq_true hr]
  exact cT rfl
 ·simp_arith only [ku,bq,eg,decide_eq_false hr]
  refine cU (n:=2) (by omega) (by omega) (by decide) λdp dp0 dp1=>?_
  have ea:aQ aO (.tuple [.int s.top,.int dp]) (.tuple [.int s.start,.int s.piece,.int s.keep,.int s.lack,.int s.lost,.int s.back,.int s.late])=.ret (Shp.mk s.top dp s.start s.piece s.keep s.lack s.lost s.back s.late).d:=by
   rw [rG rfl rfl,<- Za4]
   rfl
  have s0:aQ aE (Shp.mk s.top dp s.start s.piece s.keep s.lack s.lost s.back s.late).d (.int 0)=.ret (.int s.top):=Za7 _
  have s1:aQ aE (Shp.mk s.top dp s.start s.piece s.keep s.lack s.lost s.back s.late).d (.int 1)=.ret (.int dp):=Za6 _
  simp_arith only [bq,oi,ea,s0,s1]
  refine cU (n:=1) (by omega) (by omega) (by decide) λst st0 st1=>?_
  have m1:1<=fh 3 ((fs.length:Int) - 1)/\fh 3 ((fs.length:Int) - 1)<=3:=by unfold fh; split <;> omega
  simp_arith only [bq,hln]
  refine cU (n:=0) (by omega) (by omega) (by decide) λdd dd0 dd1=>?_
  have er:=Zdx (s:=Shp.mk s.top dp s.start s.piece s.keep s.lack s.lost s.back s.late) hf (1+dd) (x:=st - dp) (by show st - dp < reach fs - dp; omega)
  simp_arith only [bq,er]
  exact cT rfl
end My
set_option Elab.async false
set_option linter.all false
set_option maxRecDepth 100000
set_option exponentiation.threshold 9000
namespace My
open PySem PySem.Spec PyProof.Rows L2 Tw
theorem lb1 (W Z:Sl):∀ (fs:List (List Int)) (b:Nat) (D:Int) (J:Sl),nb b D->(∀ l∈fs,DayB l)->b+46 * fs.length<=8000->∃ K:Sl,bW (ai 3) nM (fs.map tI) [W,Z,.d (.int D),J]=.ret (.next [W,Z,.d (.int (D * prd fs)),K])
 | [],b,D,J,_,_,_=>⟨J,by rw [prd,Int.mul_one]; rfl⟩
 | d::fs,b,D,J,h,hf,hl=>by
  rw [List.length_cons,Nat.mul_succ] at hl
  have hd:=hf d (by simp)
  have sn:=lJ hd
  obtain ⟨K,e⟩:=lb1 W Z fs (b+46) (D * d.sum) (.d (tI d)) (bG h sn) (λq hq=>hf q (List.mem_cons_of_mem _ hq)) (by omega)
  refine ⟨K,?_⟩
  have f1:=aP h (by omega)
  have f2:=aP sn (by decide)
  have es:bF cr [tI d]=.ret (.int d.sum):=n4 d
  have et:nM [W,Z,.d (.int D),.d (tI d)]=.ret (.next [W,Z,.d (.int (D * d.sum)),.d (tI d)]):=by
   simp_arith only [nM,es,f1,f2]
  have eg:ai 3 (tI d) [W,Z,.d (.int D),J]=some [W,Z,.d (.int D),.d (tI d)]:=rfl
  have ep:D * d.sum * prd fs=D * prd (d::fs):=by rw [prd,Int.mul_assoc,Int.mul_comm d.sum]
  rw [List.map_cons,dg,eg,Tr.of_some,Tr.ret_bind,eP,et,Tr.ret_bind,dS,e,ep]
theorem Zl2 {fs:List (List Int)} (hf:FOk fs) (t:Nat):nq [.d (fD fs),.d (.int t)]=.ret (.d (.int (prd (fs.drop t)))):=by
 obtain ⟨K,e⟩:=lb1 (.d (fD fs)) (.d (.int t)) (fs.drop t) 1 1 .un (by show (1:Int).natAbs < 2 ^ 1; decide) (hf.drop t).B (by have:=(hf.drop t).len; omega)
 rw [Int.one_mul] at e
 simp_arith only [nq,jj,nS,e]
theorem ZbI:∀ {fs:List (List Int)},(∀ l∈fs,l.length<=6)->rL fs<=5 * fs.length
 | [],_=>by show (0:Int)<=5 * ((0:Nat):Int); decide
 | l::fs,h=>by
  have ih:=ZbI (fs:=fs) λv hv=>h v (List.mem_cons_of_mem _ hv)
  have:=h l (by simp)
  rw [rL,List.length_cons]
  omega
theorem qH {α β:Type} {f:α->List β} {n:Nat}:∀ l:List α,(∀ x∈l,(f x).length=n)->(l.flatMap f).length=l.length * n
 | [],_=>by simp
 | x::l,h=>by rw [List.flatMap_cons,List.length_append,h x (by simp),qH l λy hy=>h y (List.mem_cons_of_mem _ hy),List.length_cons,Nat.add_mul,Nat.one_mul,Nat.add_comm]
theorem ZiD (W:List (List Int)) (t m:Nat):((List.range m).flatMap λx:Nat=>W.map λw=>(t:Int)::((x:Int) - 30)::w).length=m * W.length:=by
 rw [qH (n:=W.length) _ λx _=>List.length_map ..,List.length_range]
theorem ZiE (W:List (List Int)) (n m:Nat):((List.range n).flatMap λt:Nat=>(List.range m).flatMap λx:Nat=>W.map λw=>(t:Int)::((x:Int) - 30)::w).length=n * (m * W.length):=by
 rw [qH (n:=m * W.length) _ λt _=>ZiD W t m,List.length_range]
theorem ZiF (s:Shp) (fs:List (List Int)) (d:Nat):(eB (aD s fs d)).length=fs.length * (40 * 30 ^ d):=by
 have h0:eB (aD s fs d)=(List.range (fs.map tI).length).flatMap λt:Nat=>(List.range 40).flatMap λx:Nat=>(fe ((d:Nat):Int).toNat).map λw=>(t:Int)::((x:Int) - 30)::w:=rfl
 rw [h0,ZiE,Int.toNat_natCast,Zal,List.length_map]
theorem Ask.st {s:Shp} {fs:List (List Int)} {x0 x:Int} (h:Ask s fs x0) (x1:reach fs - s.depth<=x) (x2:x<=s.top) (d:Nat):St0 s fs x (List.replicate d 0):=by
 have es:∀ d:Nat,(List.replicate d (0:Int)).sum=0:=λd=>by
  induction d with
  | zero=>rfl
  | succ d ih=>rw [List.replicate_succ,List.sum_cons,ih]; rfl
 have rl:=ZbI h.d6
 have l4:=h.l4
 have dep:=h.dep
 exact ⟨h.ok,h.t5,h.f.B,h.l4,by omega,λa ha=>by rw [(List.mem_replicate.mp ha).2]; exact Int.le_refl 0,by rw [es]; omega⟩
theorem ZlV {s:Shp} {fs:List (List Int)} {x0 x:Int} (h:Ask s fs x0) (x1:reach fs - s.depth<=x) (x2:x<=s.top) {d:Nat} (d1:1<=d) (d3:d<=3) (dl:d < fs.length) {iA:List Sl->Tr PyData} {js:List Sl->Tr (List PyData)} {ρ:List Sl} (hA:iA ρ=.ret (aD s fs d)) (hj:js ρ=.ret [.int 0,.int x,tI (List.replicate d 0)]) :
  lc fN eB (λF KS=>eA F KS 6) iA js ρ=.ret (.d (.int (dQ s d fs x))):=by
 have l4:=h.l4
 have hL:(eB (aD s fs d)).length < sizeLine:=by
  rw [ZiF,sizeLine_eq]
  have hp:30 ^ d<=30 ^ 3:=Nat.pow_le_pow_right (by decide) d3
  have h1:40 * 30 ^ d<=40 * 30 ^ 3:=Nat.mul_le_mul_left _ hp
  have h2:fs.length * (40 * 30 ^ d)<=4 * (40 * 30 ^ 3):=Nat.mul_le_mul l4 h1
  exact Nat.lt_of_le_of_lt h2 (by decide)
 have e:=Zdw (s:=s) (fs:=fs) d1 (by omega) fs [] 6 x (List.replicate d 0) rfl (by omega) (h.st x1 x2 d) (List.length_replicate ..)
 rw [Zck h.f d1 (by omega) x1 x2] at e
 have e0:(([]:List (List Int)).length:Int)=0:=rfl
 rw [e0] at e
 generalize dQ s d fs x=v at *
 generalize hm:(λ(F:List Int->Option Int) (KS:List (List Int))=>eA F KS 6)=f
 have e':f (fN (aD s fs d)) (eB (aD s fs d)) [.d (aD s fs d),.pen,.d (.int 0),.d (.int x),.d (tI (List.replicate d 0))]=.ret (.d (.int v)):=by rw [<- hm]; exact e
 clear e hm
 unfold lc
 rw [hA,Tr.ret_bind,hj,Tr.ret_bind,if_pos hL]
 simp only [List.map_cons,List.map_nil,e']
end My
set_option Elab.async false
set_option linter.all false
set_option maxRecDepth 100000
set_option exponentiation.threshold 9000
namespace My
open PySem PySem.Spec PyProof.Rows L2 Tw
theorem Zlf {k:Nat} {n i:List Sl->Tr PyData} {ρ:List Sl} {x:PyData} {y:Int} {xs:List (Int×PyData)} (hi:i ρ=.ret x) (hk:ρ[k]?=some (.dic xs)) (hn:n ρ=.ret (.int y)) (hs:small (xs.length+1)=true) :
  oA k n i ρ=.ret (.next (ρ.set k (.dic (cA xs y x)))):=by
 unfold oA
 rw [hi,Tr.ret_bind,hk]
 show (n ρ).bind _=_
 rw [hn,Tr.ret_bind]
 show (if small (xs.length+1)=true then _ else _)=_
 rw [if_pos hs]
theorem Zlg {k:Nat} {n:List Sl->Tr PyData} {ρ:List Sl} {x:PyData} {y:Int} {xs:List (Int×PyData)} (hk:ρ[k]?=some (.dic xs)) (hn:n ρ=.ret (.int y)) (hg:fM xs y=some x):lb k n ρ=.ret x:=by
 unfold lb
 rw [hk]
 show (n ρ).bind _=_
 rw [hn,Tr.ret_bind]
 show Tr.of (fM xs y)=_
 rw [hg]
 rfl
theorem Zbe {d:PyData} {k n:Nat} (h:Rp d k n) (hk:k<=32) (hn:n<=10000000):gr d=true:=by
 unfold gr
 rw [h.hd,h.sh,decide_eq_true (Nat.le_trans h.dp hk),decide_eq_true (Nat.le_trans h.ln (Nat.le_trans hn (by rw [sizeLine_eq]; decide)))]
 rfl
noncomputable def eT (s:Shp) (fs:List (List Int)) (d:Nat) (x:Int):PyData:=fT (dQ s d fs x) (prd fs)
theorem Ask.due {s:Shp} {fs:List (List Int)} {x0 x:Int} (h:Ask s fs x0) (x1:reach fs - s.depth<=x) (x2:x<=s.top) {d:Nat} (d1:1<=d) (dl:d < fs.length):gr (eT s fs d x)=true/\0 < prd fs/\nb 190 (prd fs):=by
 have p1:=mK h.f.B
 have p2:nb 190 (prd fs):=by
  rw [<- jm]
  exact aX (jn h.f.B h.l4) (by have:=h.l4; omega)
 have v:=o5 (d:=d) (h.st x1 x2 d)
 rw [Zck h.f d1 (by omega) x1 x2] at v
 have l4:=h.l4
 obtain ⟨n1,n2⟩:=Zip v p2 (by omega)
 refine ⟨Zbe (mv (xs:=[.int (Gc.gb (dQ s d fs x) (prd fs)),.int (Gc.fH (dQ s d fs x) (prd fs))]) (k:=0) (n:=1901) λy hy=>?_) (by decide) (by show 2 * 1901+2 * 2+10<=10000000; decide),p1,p2⟩
 simp only [List.mem_cons,List.not_mem_nil,or_false] at hy
 rcases hy with rfl | rfl
 ·exact pL (aX n1 (by omega))
 ·exact pL (aX n2 (by decide))
theorem t1 {s:Shp} {fs:List (List Int)} {x0 x:Int} (h:Ask s fs x0) (x1:reach fs - s.depth<=x) (x2:x<=s.top) {d:Nat} (d1:1<=d) (d3:d<=3) (dl:d < fs.length) {xs:List (Int×PyData)} (hx:xs.length<=10) (J2 J5 J6 J8 J9 J13:Sl):∃ K13:Sl,
  qT [.un,.pen,J2,.d s.d,.d (fD fs),J5,J6,.d (.list (cE fs)),J8,J9,.d (.int d),.dic xs,.d (.int x),J13]=.ret (.next [.un,.pen,J2,.d s.d,.d (fD fs),J5,J6,.d (.list (cE fs)),J8,J9,.d (.int d),.dic (cA xs x (.str (eT s fs d x).shown)),.d (.int x),K13]):=by
 obtain ⟨rp,p0,pn⟩:=h.due x1 x2 d1 dl
 have hrep:aQ iS (.tuple [.int 0]) (.int (d:Int))=.ret (tI (List.replicate d 0)):=by
  have:d=1\/d=2\/d=3:=by omega
  rcases this with rfl | rfl | rfl <;> rfl
 have ew:=ZlV h x1 x2 d1 d3 dl (iA:=cb (ae (aa 3) (ae (aa 4) (ae (aa 10) (ae (aa 7) al))))) (js:=ae (aC (.int 0)) (ae (aa 12) (ae (ad iS (cb (ae (aC (.int 0)) al)) (aa 10)) al))) (ρ:=[.un,.pen,J2,.d s.d,.d (fD fs),J5,J6,.d (.list (cE fs)),J8,J9,.d (.int d),.dic xs,.d (.int x),J13]) rfl (by simp_arith only [hrep])
 have es:=Zl1 (t:=dQ s d fs x) p0 (aX pn (by decide))
 have b0:aQ aE (.list (cE fs)) (.int 0)=.ret (.int (prd fs)):=by
  have:=sa (fs:=fs) (t:=0) (Nat.zero_le _)
  rw [List.drop_zero,jm] at this
  have h2:bf (cE fs) 0=some (.int (prd fs)):=this
  rw [Zdm,h2]
  rfl
 have er:=rC rp
 have ed:fT (dQ s d fs x) (prd fs)=eT s fs d x:=rfl
 rw [ed] at es
 refine ⟨.d (.int (dQ s d fs x)),?_⟩
 have e1:aS 13 (aG (lc fN eB (λF KS=>eA F KS 6) (cb (ae (aa 3) (ae (aa 4) (ae (aa 10) (ae (aa 7) al))))) (ae (aC (.int 0)) (ae (aa 12) (ae (ad iS (cb (ae (aC (.int 0)) al)) (aa 10)) al))))) [.un,.pen,J2,.d s.d,.d (fD fs),J5,J6,.d (.list (cE fs)),J8,J9,.d (.int d),.dic xs,.d (.int x),J13]=.ret (.next [.un,.pen,J2,.d s.d,.d (fD fs),J5,J6,.d (.list (cE fs)),J8,J9,.d (.int d),.dic xs,.d (.int x),.d (.int (dQ s d fs x))]):=by
  unfold aS aG
  rw [ew]
  rfl
 have e2:=Zlf (k:=11) (n:=aa 12) (i:=ba gq (ae (aG (aH kw (af (aa 13) (af (ad aE (aa 7) (aC (.int 0))) ay)))) al)) (ρ:=[.un,.pen,J2,.d s.d,.d (fD fs),J5,J6,.d (.list (cE fs)),J8,J9,.d (.int d),.dic xs,.d (.int x),.d (.int (dQ s d fs x))]) (x:=.str (eT s fs d x).shown) (y:=x) (xs:=xs) (by simp_arith only [b0,es,er]) rfl rfl (ck (by omega))
 unfold qT
 rw [Zdk,e1,Tr.ret_bind]
 exact e2
theorem t2 {s:Shp} {fs:List (List Int)} {x0 x:Int} (h:Ask s fs x0) (x1:reach fs - s.depth<=x) (x2:x<=s.top) {d:Nat} (d1:1<=d) (dl:d < fs.length) {xs:List (Int×PyData)} (hg:fM xs x=some (.str (eT s fs d x).shown)) (J2 J5 J6 J7 J8 J9 J13:Sl) :
  qS [.un,.pen,J2,.d s.d,.d (fD fs),J5,J6,J7,J8,J9,.d (.int d),.dic xs,.d (.int x),J13]=.ret (.next [.un,.pen,J2,.d s.d,.d (fD fs),J5,J6,J7,J8,J9,.d (.int d),.dic xs,.d (.int x),J13]):=by
 obtain ⟨rp,p0,pn⟩:=h.due x1 x2 d1 dl
 have e2:=Zl3 h.ok h.f (d:=d) (by omega) x1 x2
 have ed:fT (dQ s d fs x) (prd fs)=eT s fs d x:=rfl
 rw [ed] at e2
 have er:=rC rp
 have e3:=Zlg (k:=11) (n:=aa 12) (ρ:=[.un,.pen,J2,.d s.d,.d (fD fs),J5,J6,J7,J8,J9,.d (.int d),.dic xs,.d (.int x),J13]) (y:=x) (xs:=xs) rfl rfl hg
 simp_arith only [qS,e2,er,e3,ZaS,Bool.not_true]
end My
set_option Elab.async false
set_option linter.all false
set_option maxRecDepth 100000
set_option exponentiation.threshold 9000
namespace My
open PySem PySem.Spec PyProof.Rows L2 Tw
theorem Zi9 {x y:Int} {a b:PyData} (h:x=y->a=b):fM (cA (cA [] x a) y b) x=some a/\fM (cA (cA [] x a) y b) y=some b:=by
 by_cases e:x=y
 ·subst e
  rw [h rfl]
  simp [cA,fM]
 ·have e2:¬ y=x:=λz=>e z.symm
  simp [cA,fM,e,e2]
theorem t3 {s:Shp} {fs:List (List Int)} {x y:Int} (h:Ask s fs x) (y1:reach fs - s.depth<=y) (y2:y<=s.top) {d:Nat} (d1:1<=d) (d3:d<=3) (dl:d < fs.length) (J2 J6 J11 J12 J13:Sl):∃ K11 K12 K13:Sl,
  nN [.un,.pen,J2,.d s.d,.d (fD fs),.d (.int x),J6,.d (.list (cE fs)),.d (.int (reach fs - s.depth)),.d (.int y),.d (.int d),J11,J12,J13]=.ret (.next [.un,.pen,J2,.d s.d,.d (fD fs),.d (.int x),J6,.d (.list (cE fs)),.d (.int (reach fs - s.depth)),.d (.int y),.d (.int d),K11,K12,K13]):=by
 have g:=Zi9 (x:=x) (y:=y) (a:=.str (eT s fs d x).shown) (b:=.str (eT s fs d y).shown) λe=>by rw [e]
 have x1:=h.x1
 have x2:=h.x2
 obtain ⟨K1,e1⟩:=t1 h x1 x2 d1 d3 dl (xs:=[]) (by simp) J2 (.d (.int x)) J6 (.d (.int (reach fs - s.depth))) (.d (.int y)) J13
 obtain ⟨K2,e2⟩:=t1 h y1 y2 d1 d3 dl (xs:=cA [] x (.str (eT s fs d x).shown)) (by simp [cA]) J2 (.d (.int x)) J6 (.d (.int (reach fs - s.depth))) (.d (.int y)) K1
 have f1:=t2 h x1 x2 d1 dl g.1 J2 (.d (.int x)) J6 (.d (.list (cE fs))) (.d (.int (reach fs - s.depth))) (.d (.int y)) K2
 have f2:=t2 h y1 y2 d1 dl g.2 J2 (.d (.int x)) J6 (.d (.list (cE fs))) (.d (.int (reach fs - s.depth))) (.d (.int y)) K2
 have er:=Zdx (s:=s) h.f (d:Int) (x:=reach fs - s.depth - 1) (by omega)
 generalize cA (cA [] x (.str (eT s fs d x).shown)) y (.str (eT s fs d y).shown)=D2 at *
 generalize cA [] x (.str (eT s fs d x).shown)=D1 at *
 have s0:∀ ρ:List Sl,sJ 11 ρ=.ret (.next (ρ.set 11 (.dic []))):=λ_=>rfl
 have it:∀ xs:List PyData,fK (.tuple xs)=.ret xs:=λ_=>rfl
 by_cases c:reach fs - s.depth > 0 - s.depth
 ·refine ⟨.dic D2,.d (.int x),K2,?_⟩
  simp_arith only [nN,s0,it,List.set_cons_succ,List.set_cons_zero,dg,e1,e2,f1,f2,decide_eq_true c,er,Bool.not_true]
 ·refine ⟨.dic D2,.d (.int x),K2,?_⟩
  simp_arith only [nN,s0,it,List.set_cons_succ,List.set_cons_zero,dg,e1,e2,f1,f2,decide_eq_false c]
end My
set_option Elab.async false
set_option linter.all false
set_option maxRecDepth 100000
set_option exponentiation.threshold 9000
namespace My
open PySem PySem.Spec PyProof.Rows L2 Tw
theorem turn (J2 J3 J4 J5 J6 J7 J8 J9 J10 J11 J12 J13:Sl):Al (qR [.un,.pen,J2,J3,J4,J5,J6,J7,J8,J9,J10,J11,J12,J13]) 100 λo=>∃ K3 K4 K5 K6 K7 K8 K9 K10 K11 K12 K13:Sl,o=.next [.un,.pen,J2,K3,K4,K5,K6,K7,K8,K9,K10,K11,K12,K13]:=by
 simp_arith only [qR,bq]
 refine ft (n:=90) (n':=10) Zgw (by decide) ?_
 rintro _ ⟨s,fs,x,rfl,h⟩
 have l2:=h.l2
 have l4:=h.l4
 have t0:=h.t0
 have t5:=h.t5
 have dep:=h.dep
 have r0:=h.r
 have x1:=h.x1
 have x2:=h.x2
 have rp:gr (.tuple [s.d,fD fs])=true:=Zbe (mv (xs:=[s.d,fD fs]) (k:=2) (n:=500000) λv hv=>by
  simp only [List.mem_cons,List.not_mem_nil,or_false] at hv
  rcases hv with rfl | rfl
  ·exact jX (ZgA h.ok) (by decide) (by decide)
  ·exact ZgB h.f.B (by omega)) (by decide) (by show 2 * 500000+2 * 2+10<=10000000; decide)
 have er:=rC rp
 have ln:bF cK [fD fs]=.ret (.int fs.length):=by
  unfold fD
  rw [ig,List.length_map]
 have e1:(fs.length:Int)+1=((fs.length+1:Nat):Int):=by omega
 have r1:d9 [.int ((fs.length+1:Nat):Int)]=.ret ((List.range (fs.length+1)).map λk:Nat=>PyData.int k):=by
  rw [gK (c7 (by omega) (by omega))]
  unfold aV aB
  rw [List.map_map,show (((fs.length+1:Nat):Int) - 0).toNat=fs.length+1 by omega]
  congr 1
  refine List.map_congr_left λk _=>?_
  show PyData.int (0+(k:Int))=_
  rw [Int.zero_add]
 have hs:small ((List.range (fs.length+1)).map λk:Nat=>PyData.int k).length=true:=ck (by rw [List.length_map,List.length_range]; omega)
 have eb:bL (dO (ai 0) j6 [.un,.d (fD fs)]) ((List.range (fs.length+1)).map λk:Nat=>PyData.int k)=.ret (cE fs):=by
  have key:∀ l:List Nat,bL (dO (ai 0) j6 [.un,.d (fD fs)]) (l.map λk:Nat=>PyData.int k)=.ret (l.map λt:Nat=>PyData.int (bH (fs.drop t))):=by
   intro l
   induction l with
   | nil=>rfl
   | cons i l ih =>
    have e0:dO (ai 0) j6 [.un,.d (fD fs)] (.int (i:Int))=.ret (.int (bH (fs.drop i))):=by
     have:=Zl2 h.f i
     rw [jm]
     simp_arith only [j6,this]
    rw [List.map_cons,bL,e0,Tr.ret_bind,ih]
    rfl
  exact key _
 have eg:=rM h.days (by omega)
 simp_arith only [bq,er,ln,e1,r1,hs,eb,eg]
 refine cU (n:=9) (by omega) (by omega) (by decide) λq q0 q1=>?_
 have m1:1<=fh 3 ((fs.length:Int) - 1)/\fh 3 ((fs.length:Int) - 1)<=3/\fh 3 ((fs.length:Int) - 1)<=(fs.length:Int) - 1:=by unfold fh; split <;> omega
 have r2:iQ [.int 1,.int (fh 3 ((fs.length:Int) - 1)+1)]=.ret (aV 1 (fh 3 ((fs.length:Int) - 1)+1)):=n6 (c7 (by omega) (by omega)) (c7 (by omega) (by omega))
 simp_arith only [bq,ln,r2]
 refine ft (n:=0) (n':=3) (P:=λo=>∃ K10 K11 K12 K13:Sl,o=.next [.un,.pen,J2,.d s.d,.d (fD fs),.d (.int x),.d (.str (PyData.tuple [s.d,fD fs]).shown),.d (.list (cE fs)),.d (.int (reach fs - s.depth)),.d (.int (reach fs - s.depth+q)),K10,K11,K12,K13]) ?_ (by decide) ?_
 ·refine ZeO (n:=0) (λρ=>∃ K10 K11 K12 K13:Sl,ρ=[.un,.pen,J2,.d s.d,.d (fD fs),.d (.int x),.d (.str (PyData.tuple [s.d,fD fs]).shown),.d (.list (cE fs)),.d (.int (reach fs - s.depth)),.d (.int (reach fs - s.depth+q)),K10,K11,K12,K13]) ⟨_,_,_,_,rfl⟩ (by omega) ?_ (λρ hz=>by obtain ⟨K10,K11,K12,K13,rfl⟩:=hz; exact ⟨_,_,_,_,rfl⟩)
  rintro v ρ hv ⟨K10,K11,K12,K13,rfl⟩
  unfold aV at hv
  obtain ⟨d,hd,rfl⟩:=List.mem_map.mp hv
  have hd':=Zbv hd
  obtain ⟨k,rfl⟩:∃ k:Nat,d=(k:Int):=⟨d.toNat,by omega⟩
  obtain ⟨L11,L12,L13,e⟩:=t3 h (y:=reach fs - s.depth+q) (by omega) (by omega) (d:=k) (by omega) (by omega) (by omega) J2 (.d (.str (PyData.tuple [s.d,fD fs]).shown)) K11 K12 K13
  exact ⟨_,rfl,Zn4 e ⟨_,rfl,_,_,_,_,rfl⟩⟩
 ·rintro _ ⟨K10,K11,K12,K13,rfl⟩
  simp_arith only [bq,er,ZaS,Bool.not_true]
  refine ft (n:=3) (n':=0) (Zgt h) (by decide) ?_
  rintro _ rfl
  simp_arith only [bq,Bool.not_true]
  exact cT ⟨_,_,_,_,_,_,_,_,_,_,_,rfl⟩
theorem law_true:Al (nu qP) 2000 λo=>o=.ret (.d (.bool true)):=by
 have r3:d9 [.int 2]=.ret (aV 0 2):=gK rfl
 simp_arith only [nu,qP,bq,r3]
 refine ft (n:=200) (n':=0) (P:=λo=>∃ ρ,o=.next ρ) ?_ (by decide) ?_
 ·refine ZeO (n:=100) (λρ=>∃ J2 J3 J4 J5 J6 J7 J8 J9 J10 J11 J12 J13:Sl,ρ=[.un,.pen,J2,J3,J4,J5,J6,J7,J8,J9,J10,J11,J12,J13]) ⟨_,_,_,_,_,_,_,_,_,_,_,_,rfl⟩ (by rw [cX]; decide) ?_ (λρ _=>⟨ρ,rfl⟩)
  rintro x ρ hx ⟨J2,J3,J4,J5,J6,J7,J8,J9,J10,J11,J12,J13,rfl⟩
  refine ⟨_,rfl,Zn5 (turn (.d x) J3 J4 J5 J6 J7 J8 J9 J10 J11 J12 J13) (Nat.le_refl _) ?_⟩
  rintro _ ⟨K3,K4,K5,K6,K7,K8,K9,K10,K11,K12,K13,rfl⟩
  exact ⟨_,rfl,_,_,_,_,_,_,_,_,_,_,_,_,rfl⟩
 ·rintro _ ⟨ρ,rfl⟩
  simp_arith only [bq]
  exact cT rfl
end My
set_option Elab.async false
set_option linter.all false
set_option maxRecDepth 100000
open PySem PySem.W PyProof.Rows L2
set_option maxRecDepth 100000 in
set_option maxHeartbeats 0 in
theorem PySem.Challenge.cw_twomarks_k42_goods_under_way_walked_holds : PySem.Challenge.rw_twomarks_k42_goods_under_way_walked.Holds := by
 refine My.hd ?_
 k_fill
 refine L2.Zfe (l:=PySem.Challenge.rw_twomarks_k42_goods_under_way_walked) (n:=63) (k:=16) (x:="_law_script") (CX:=gk) (sp:=L2.ZaT) rfl (by decide) rfl ⟨rfl,by decide,by decide,rfl⟩ (λw h Y=>PySem.W.kIn_of Y) ?F ?S ?C
 case F =>
  intro w mg fa h KX G hmg
  have d_common_divisor:Def (L2.aw KX) mg "common_divisor" My.l5 ["one","other"]:=by
   dsimp only [L2.aw]
   refine' L2.bB KX G ?a ?l ?c ?k ?b
   (case a=>k_is); (case l=>k_is); (case c=>k_is); (case k=>k_is)
   (case b=>intro _ _ _ _ _ _ us hl; obtain ⟨_,_,rfl⟩:=L2.fi hl; rfl)
  have d_share:Def (L2.aw KX) mg "share" My.lU ["top","bottom"]:=by
   dsimp only [L2.aw]
   refine' L2.bB KX G ?a ?l ?c ?k ?b
   (case a=>k_is); (case l=>k_is); (case c=>k_is); (case k=>k_is)
   (case b=>intro _ _ _ _ _ _ us hl; obtain ⟨_,_,rfl⟩:=L2.fi hl; rfl)
  have d_greatest_seen:Def (L2.aw KX) mg "greatest_seen" My.jQ ["day"]:=by
   dsimp only [L2.aw]
   refine' L2.bB KX G ?a ?l ?c ?k ?b
   (case a=>k_is); (case l=>k_is); (case c=>k_is); (case k=>k_is)
   (case b=>intro _ _ _ _ _ _ us hl; obtain ⟨_,rfl⟩:=L2.gc hl; rfl)
  have d_next_stock:Def (L2.aw KX) mg "next_stock" My.lW ["shop","level","fall"]:=by
   dsimp only [L2.aw]
   refine' L2.bB KX G ?a ?l ?c ?k ?b
   (case a=>k_is); (case l=>k_is); (case c=>k_is); (case k=>k_is)
   (case b=>intro _ _ _ _ _ _ us hl; obtain ⟨_,_,_,rfl⟩:=L2.fI hl; rfl)
  have d_day_cost:Def (L2.aw KX) mg "day_cost" My.lZ ["shop","level","fall"]:=by
   dsimp only [L2.aw]
   refine' L2.bB KX G ?a ?l ?c ?k ?b
   (case a=>k_is); (case l=>k_is); (case c=>k_is); (case k=>k_is)
   (case b=>intro _ _ _ _ _ _ us hl; obtain ⟨_,_,_,rfl⟩:=L2.fI hl; rfl)
  have d_end_cost:Def (L2.aw KX) mg "end_cost" My.lY ["shop","stock"]:=by
   dsimp only [L2.aw]
   refine' L2.bB KX G ?a ?l ?c ?k ?b
   (case a=>k_is); (case l=>k_is); (case c=>k_is); (case k=>k_is)
   (case b=>intro _ _ _ _ _ _ us hl; obtain ⟨_,_,rfl⟩:=L2.fi hl; rfl)
  have d_cheapest_from:Def (L2.aw KX) mg "cheapest_from" My.l7 ["shop","low","by_level","scale"]:=by
   dsimp only [L2.aw]
   refine' L2.bB KX G ?a ?l ?c ?k ?b
   (case a=>k_is); (case l=>k_is); (case c=>k_is); (case k=>k_is)
   (case b=>intro _ _ _ _ _ _ us hl; obtain ⟨_,_,_,_,rfl⟩:=L2.hW hl; rfl)
  have d_free_from:Def (L2.aw KX) mg "free_from" My.jR ["shop","falls","t"]:=by
   dsimp only [L2.aw]
   refine' L2.bB KX G ?a ?l ?c ?k ?b
   (case a=>k_is); (case l=>k_is); (case c=>k_is); (case k=>k_is)
   (case b=>intro _ _ _ _ _ _ us hl; obtain ⟨_,_,_,rfl⟩:=L2.fI hl; rfl)
  have d_ask_free:Def (L2.aw KX) mg "ask_free" My.l8 ["shop","falls","stock"]:=by
   dsimp only [L2.aw]
   refine' L2.bB KX G ?a ?l ?c ?k ?b
   (case a=>k_is); (case l=>k_is); (case c=>k_is); (case k=>k_is)
   (case b=>intro _ _ _ _ _ _ us hl; obtain ⟨_,_,_,rfl⟩:=L2.fI hl; rfl)
  have d_scale_of:Def (L2.aw KX) mg "scale_of" My.lV ["days"]:=by
   dsimp only [L2.aw]
   refine' L2.bB KX G ?a ?l ?c ?k ?b
   (case a=>k_is); (case l=>k_is); (case c=>k_is); (case k=>k_is)
   (case b=>intro _ _ _ _ _ _ us hl; obtain ⟨_,rfl⟩:=L2.gc hl; rfl)
  have d_weights_together:Def (L2.aw KX) mg "weights_together" My.lT ["days"]:=by
   dsimp only [L2.aw]
   refine' L2.bB KX G ?a ?l ?c ?k ?b
   (case a=>k_is); (case l=>k_is); (case c=>k_is); (case k=>k_is)
   (case b=>intro _ _ _ _ _ _ us hl; obtain ⟨_,rfl⟩:=L2.gc hl; rfl)
  have d_weighed_day:Def (L2.aw KX) mg "weighed_day" My.jN ["shop","weights","stock"]:=by
   dsimp only [L2.aw]
   refine' L2.bB KX G ?a ?l ?c ?k ?b
   (case a=>k_is); (case l=>k_is); (case c=>k_is); (case k=>k_is)
   (case b=>intro _ _ _ _ _ _ us hl; obtain ⟨_,_,_,rfl⟩:=L2.fI hl; rfl)
  have d_weighed_end:Def (L2.aw KX) mg "weighed_end" My.jM ["shop","weights","stock"]:=by
   dsimp only [L2.aw]
   refine' L2.bB KX G ?a ?l ?c ?k ?b
   (case a=>k_is); (case l=>k_is); (case c=>k_is); (case k=>k_is)
   (case b=>intro _ _ _ _ _ _ us hl; obtain ⟨_,_,_,rfl⟩:=L2.fI hl; rfl)
  have d_weighed_ahead:Def (L2.aw KX) mg "weighed_ahead" My.jO ["day","ahead","level"]:=by
   dsimp only [L2.aw]
   refine' L2.bB KX G ?a ?l ?c ?k ?b
   (case a=>k_is); (case l=>k_is); (case c=>k_is); (case k=>k_is)
   (case b=>intro _ _ _ _ _ _ us hl; obtain ⟨_,_,_,rfl⟩:=L2.fI hl; rfl)
  have d_counted_sums:Def (L2.aw KX) mg "counted_sums" My.l0 ["shop","falls","days","ahead","low"]:=by
   dsimp only [L2.aw]
   refine' L2.bB KX G ?a ?l ?c ?k ?b
   (case a=>k_is); (case l=>k_is); (case c=>k_is); (case k=>k_is)
   (case b=>intro _ _ _ _ _ _ us hl; obtain ⟨_,_,_,_,_,rfl⟩:=L2.qI hl; rfl)
  have d_least_counted:Def (L2.aw KX) mg "least_counted" My.jP ["falls","t","stock"]:=by
   dsimp only [L2.aw]
   refine' L2.bB KX G ?a ?l ?c ?k ?b
   (case a=>k_is); (case l=>k_is); (case c=>k_is); (case k=>k_is)
   (case b=>intro _ _ _ _ _ _ us hl; obtain ⟨_,_,_,rfl⟩:=L2.fI hl; rfl)
  have d_end_ahead:Def (L2.aw KX) mg "end_ahead" My.jS ["shop","falls","orders","stock"]:=by
   dsimp only [L2.aw]
   refine' L2.bB KX G ?a ?l ?c ?k ?b
   (case a=>k_is); (case l=>k_is); (case c=>k_is); (case k=>k_is)
   (case b=>intro _ _ _ _ _ _ us hl; obtain ⟨_,_,_,_,rfl⟩:=L2.hW hl; rfl)
  have d_short_days:Def (L2.aw KX) mg "short_days" My.iK ["shop","falls","days","stock"]:=by
   dsimp only [L2.aw]
   refine' L2.bB KX G ?a ?l ?c ?k ?b
   (case a=>k_is); (case l=>k_is); (case c=>k_is); (case k=>k_is)
   (case b=>intro _ _ _ _ _ _ us hl; obtain ⟨_,_,_,_,rfl⟩:=L2.hW hl; rfl)
  have d_least_late:Def (L2.aw KX) mg "least_late" My.lX ["shop","falls","days","stock"]:=by
   dsimp only [L2.aw]
   refine' L2.bB KX G ?a ?l ?c ?k ?b
   (case a=>k_is); (case l=>k_is); (case c=>k_is); (case k=>k_is)
   (case b=>intro _ _ _ _ _ _ us hl; obtain ⟨_,_,_,_,rfl⟩:=L2.hW hl; rfl)
  have d__law_pen:Def (L2.aw KX) mg "_law_pen" My.mf ["_law_script"]:=by
   dsimp only [L2.aw]
   refine' L2.bB KX G ?a ?l ?c ?k ?b
   (case a=>k_is); (case l=>k_is); (case c=>k_is); (case k=>k_is)
   (case b=>intro _ _ _ _ _ _ us hl; obtain ⟨_,rfl⟩:=L2.gc hl; rfl)
  have d__law_draw:Def (L2.aw KX) mg "_law_draw" My.ml ["_law_pen_here","_law_many"]:=by
   dsimp only [L2.aw]
   refine' L2.bB KX G ?a ?l ?c ?k ?b
   (case a=>k_is); (case l=>k_is); (case c=>k_is); (case k=>k_is)
   (case b=>intro _ _ _ _ _ _ us hl; obtain ⟨_,_,rfl⟩:=L2.fi hl; rfl)
  have d__law_day:Def (L2.aw KX) mg "_law_day" My.jV ["_law_pen_here","_law_most"]:=by
   dsimp only [L2.aw]
   refine' L2.bB KX G ?a ?l ?c ?k ?b
   (case a=>k_is); (case l=>k_is); (case c=>k_is); (case k=>k_is)
   (case b=>intro _ _ _ _ _ _ us hl; obtain ⟨_,_,rfl⟩:=L2.fi hl; rfl)
  have d__law_greatest:Def (L2.aw KX) mg "_law_greatest" My.jU ["_law_falls"]:=by
   dsimp only [L2.aw]
   refine' L2.bB KX G ?a ?l ?c ?k ?b
   (case a=>k_is); (case l=>k_is); (case c=>k_is); (case k=>k_is)
   (case b=>intro _ _ _ _ _ _ us hl; obtain ⟨_,rfl⟩:=L2.gc hl; rfl)
  have d__law_prices:Def (L2.aw KX) mg "_law_prices" My.jT ["_law_pen_here"]:=by
   dsimp only [L2.aw]
   refine' L2.bB KX G ?a ?l ?c ?k ?b
   (case a=>k_is); (case l=>k_is); (case c=>k_is); (case k=>k_is)
   (case b=>intro _ _ _ _ _ _ us hl; obtain ⟨_,rfl⟩:=L2.gc hl; rfl)
  have d__law_asked:Def (L2.aw KX) mg "_law_asked" My.jW ["_law_pen_here"]:=by
   dsimp only [L2.aw]
   refine' L2.bB KX G ?a ?l ?c ?k ?b
   (case a=>k_is); (case l=>k_is); (case c=>k_is); (case k=>k_is)
   (case b=>intro _ _ _ _ _ _ us hl; obtain ⟨_,rfl⟩:=L2.gc hl; rfl)
  have d__law_order:Def (L2.aw KX) mg "_law_order" My.mh ["_law_shop","_law_pieces"]:=by
   dsimp only [L2.aw]
   refine' L2.bB KX G ?a ?l ?c ?k ?b
   (case a=>k_is); (case l=>k_is); (case c=>k_is); (case k=>k_is)
   (case b=>intro _ _ _ _ _ _ us hl; obtain ⟨_,_,rfl⟩:=L2.fi hl; rfl)
  have d__law_rest_cost:Def (L2.aw KX) mg "_law_rest_cost" My.md ["_law_shop","_law_rest"]:=by
   dsimp only [L2.aw]
   refine' L2.bB KX G ?a ?l ?c ?k ?b
   (case a=>k_is); (case l=>k_is); (case c=>k_is); (case k=>k_is)
   (case b=>intro _ _ _ _ _ _ us hl; obtain ⟨_,_,rfl⟩:=L2.fi hl; rfl)
  have d__law_end:Def (L2.aw KX) mg "_law_end" My.mj ["_law_shop","_law_rest"]:=by
   dsimp only [L2.aw]
   refine' L2.bB KX G ?a ?l ?c ?k ?b
   (case a=>k_is); (case l=>k_is); (case c=>k_is); (case k=>k_is)
   (case b=>intro _ _ _ _ _ _ us hl; obtain ⟨_,_,rfl⟩:=L2.fi hl; rfl)
  have d__law_bottom:Def (L2.aw KX) mg "_law_bottom" My.mq ["_law_falls","_law_t"]:=by
   dsimp only [L2.aw]
   refine' L2.bB KX G ?a ?l ?c ?k ?b
   (case a=>k_is); (case l=>k_is); (case c=>k_is); (case k=>k_is)
   (case b=>intro _ _ _ _ _ _ us hl; obtain ⟨_,_,rfl⟩:=L2.fi hl; rfl)
  have d__law_share:Def (L2.aw KX) mg "_law_share" My.ma ["_law_top","_law_bottom_here"]:=by
   dsimp only [L2.aw]
   refine' L2.bB KX G ?a ?l ?c ?k ?b
   (case a=>k_is); (case l=>k_is); (case c=>k_is); (case k=>k_is)
   (case b=>intro _ _ _ _ _ _ us hl; obtain ⟨_,_,rfl⟩:=L2.fi hl; rfl)
  have d__law_day_on:Def (L2.aw KX) mg "_law_day_on" My.mn ["_law_asked_here","_law_known","_law_t","_law_lies","_law_way"]:=by
   dsimp only [L2.aw]
   refine' L2.bB KX G ?a ?l ?c ?k ?b
   (case a=>k_is); (case l=>k_is); (case c=>k_is); (case k=>k_is)
   (case b=>intro _ _ _ _ _ _ us hl; obtain ⟨_,_,_,_,_,rfl⟩:=L2.qI hl; rfl)
  have d__law_on:Def (L2.aw KX) mg "_law_on" My.mi ["_law_asked_here","_law_known","_law_t","_law_stock","_law_way"]:=by
   dsimp only [L2.aw]
   refine' L2.bB KX G ?a ?l ?c ?k ?b
   (case a=>k_is); (case l=>k_is); (case c=>k_is); (case k=>k_is)
   (case b=>intro _ _ _ _ _ _ us hl; obtain ⟨_,_,_,_,_,rfl⟩:=L2.qI hl; rfl)
  have d__law_refused:Def (L2.aw KX) mg "_law_refused" My.me ["_law_shop","_law_falls","_law_days","_law_stock"]:=by
   dsimp only [L2.aw]
   refine' L2.bB KX G ?a ?l ?c ?k ?b
   (case a=>k_is); (case l=>k_is); (case c=>k_is); (case k=>k_is)
   (case b=>intro _ _ _ _ _ _ us hl; obtain ⟨_,_,_,_,rfl⟩:=L2.hW hl; rfl)
  have d__law_tight_right:Def (L2.aw KX) mg "_law_tight_right" My.l9 ["_law_pen_here","_law_shop","_law_falls"]:=by
   dsimp only [L2.aw]
   refine' L2.bB KX G ?a ?l ?c ?k ?b
   (case a=>k_is); (case l=>k_is); (case c=>k_is); (case k=>k_is)
   (case b=>intro _ _ _ _ _ _ us hl; obtain ⟨_,_,_,rfl⟩:=L2.fI hl; rfl)
  have d_law:Def (L2.aw KX) mg "law" My.iL ["_law_script"]:=by
   dsimp only [L2.aw]
   refine' L2.bB KX G ?a ?l ?c ?k ?b
   (case a=>k_is); (case l=>k_is); (case c=>k_is); (case k=>k_is)
   (case b=>intro _ _ _ _ _ _ us hl; obtain ⟨_,rfl⟩:=L2.gc hl; rfl)
  have x_err:∃ C D a0 a1 a2 a3 a4 a5 a6:Addr,mg "NoStand"=some (.ref C)/\mg "ShopError"=some (.ref D)/\mg "NoBack"=some (.ref a0)/\mg "NoFall"=some (.ref a1)/\mg "NoLevel"=some (.ref a2)/\mg "NoMean"=some (.ref a3)/\mg "NoRow"=some (.ref a4)/\mg "NoShare"=some (.ref a5)/\mg "NoText"=some (.ref a6)/\L2.Exc (L2.aw KX) C D [a0,a1,a2,a3,a4,a5,a6]:=by
   dsimp only [L2.aw]
   refine' My.ZlQ KX G ?c ?d ?z0 ?z1 ?z2 ?z3 ?z4 ?z5 ?z6 ?q ?q2 ?u ?v ?y
   (case c=>k_is); (case d=>k_is); (case z0=>k_is); (case z1=>k_is); (case z2=>k_is); (case z3=>k_is); (case z4=>k_is); (case z5=>k_is); (case z6=>k_is)
   (case q=>kernel_rfl!); (case q2=>kernel_rfl!); (case u=>kernel_rfl!); (case v=>kit_is); (case y=>kit_is)
  have T:My.Txt (L2.aw KX) mg:=by
   dsimp only [L2.aw] at *
   refine' My.Zft KX G ?z_len ?z_abs ?z_max ?z_min ?z_repr ?z_int ?z_list ?z_tuple ?z_range ?z_isinstance ?z_sum ?z_enumerate ?z_ValueError ?z_reversed ?z_TOP ?z_DEPTH ?z_START ?z_PIECE ?z_KEEP ?z_LACK ?z_LOST ?z_BACK ?z_LATE d_common_divisor d_share d_greatest_seen d_next_stock d_day_cost d_end_cost d_cheapest_from d_free_from d_ask_free d_scale_of d_weights_together d_weighed_day d_weighed_end d_weighed_ahead d_counted_sums d_least_counted d_end_ahead d_short_days d_least_late d__law_pen d__law_draw d__law_day d__law_greatest d__law_prices d__law_asked d__law_order d__law_rest_cost d__law_end d__law_bottom d__law_share d__law_day_on d__law_on d__law_refused d__law_tight_right d_law x_err
   (case z_len=>k_is)
   (case z_abs=>k_is)
   (case z_max=>k_is)
   (case z_min=>k_is)
   (case z_repr=>k_is)
   (case z_int=>k_is)
   (case z_list=>k_is)
   (case z_tuple=>k_is)
   (case z_range=>k_is)
   (case z_isinstance=>k_is)
   (case z_sum=>k_is)
   (case z_enumerate=>k_is)
   (case z_ValueError=>k_is)
   (case z_reversed=>k_is)
   (case z_TOP=>k_is)
   (case z_DEPTH=>k_is)
   (case z_START=>k_is)
   (case z_PIECE=>k_is)
   (case z_KEEP=>k_is)
   (case z_LACK=>k_is)
   (case z_LOST=>k_is)
   (case z_BACK=>k_is)
   (case z_LATE=>k_is)
  obtain ⟨f,fd,F,hm,_⟩:=T.Zmy.ex
  have e0:=hmg.symm.trans hm
  cases e0
  refine ⟨fd,?_,λbase _ _=>My.ZhP T F (L2.Tr.ok_mono (L2.Tr.all_ok My.law_true.out (by decide)) λ_ _ h=>h.2)⟩
  obtain ⟨oc,od,kV,doc,pm,an,cdv,ct,osl,rfl,lk,hcd⟩:=F.ex
  exact λs u=>.of_eq rfl
 case S=>exact λK H a ns hl _ hS=>⟨a,ns,rfl,hS,hl,λ_=>rfl⟩
 case C=>exact λ_ _ _ _ z=>z
