import PyProof.Rows.All
import Wide.All
import OpenK.AllK
import Wide.FinOn
import Lean
import PyProof.EqAt
import PyProof.EqKinds
import PyProof.TupleCall
import PySem.Challenge.RW_twomarks_k60_whole_goods_under_way_by_tw
set_option Elab.async false
set_option linter.all false
set_option maxRecDepth 100000
set_option maxHeartbeats 0
noncomputable abbrev My.vw : PySem.Program := PySem.W.view
 PySem.Challenge.rw_twomarks_k60_whole_goods_under_way_by_tw.row.prog [1, 2, 3, 5, 6, 8, 9, 10, 11, 12, 13, 14, 15, 16, 17, 18, 19, 20, 22, 24, 26, 27, 28, 29, 30, 31, 32, 33, 34, 35, 36, 37, 39, 40, 41, 42, 43, 44, 45, 46, 47, 48, 49, 50, 51, 52]
open PySem PySem.W in
theorem My.hd_l {p q:Program} {loose:List Str} {Xt:Shared->Bool} {α:Type} {Yf:Shared->α} {Ya:World->α} {N:Nat} (a:∀ w,(openEnds treeTable p w N).map (λs=>openSeen q loose (importedModules p.main.body) Xt true s)=some (openGood q loose)) (b:∀ w,(openEnds treeTable p w N).map Yf=some (Ya w)):LeftO p q loose Xt Yf Ya N:=λw=>by
 have h:=a w
 have g:=b w
 cases e:openEnds treeTable p w N with
 | none=>rw [e] at h;exact nomatch h
 | some s=>rw [e,Option.map_some] at h g;rw [Option.map_some,Option.some.inj h,Option.some.inj g]
theorem My.hd_b {A B C H:Prop} (f:A->B->C->H) (p:A∧B∧C):H:=f p.1 p.2.1 p.2.2
local macro_rules
 | `(tactic| o_head $H:term) => `(tactic| (
  refine My.hd_b (λa b c => PySem.W.holds_open (q := My.vw) (loose := [])
   (Xt := λs => PySem.W.xlAt My.vw [] s && PySem.W.recOk
    (PySem.W.RowW.records PySem.Challenge.rw_twomarks_k60_whole_goods_under_way_by_tw.row.toRowW) s)
   (XP := PySem.W.XL My.vw []) (Yf := ($H).obs)
   (Ya := ($H).val) (YP := ($H).says) (N := 20000) (My.hd_l a b)
   ($H).of ($H).keeps (λs e => PySem.W.xl_of s
    (Bool.and_eq_true_iff.mp e).1) PySem.W.XL.keeps
   (by rfl) (by rfl) (by rfl)
   (λs e => PySem.W.recFacts_of
    (Bool.and_eq_true_iff.mp e).2)
   (by rfl) ?k1 (by decide +kernel)
   ⟨rfl, rfl, rfl, rfl, rfl, by decide +kernel⟩ ?hw c) ?hc
  (case k1 => assumption)))
open_top My.hd_0 for PySem.Challenge.rw_twomarks_k60_whole_goods_under_way_by_tw
noncomputable def My.hd_1:=λb c=>My.hd_0 ⟨λw=>by kernel_rfl,b,c⟩
noncomputable def My.hd:=λc=>My.hd_1 (λw=>by kernel_rfl) c
set_option maxHeartbeats 4000000
namespace L2
open PySem PySem.Spec PyProof.Rows
noncomputable abbrev am:=Sum Int Str
noncomputable def nX:am->Value->Bool
 | .inl k,v=>Value.isInt k v
 | .inr x,v=>Value.isStrOf x v
noncomputable def Zjh (w:World):am->Int
 | .inl k=>hashInt k
 | .inr x=>hashStr w x
theorem gi:∀ {k:am} {v:Value},nX k v=true->(∃ i t,k=Sum.inl i/\v=Value.int i t)\/(∃ x t,k=Sum.inr x/\v=Value.str x t)
 | .inl i,v,h=>by
  obtain ⟨t,e⟩:=Value.isInt_shape (k:=i) (v:=v) h
  exact .inl ⟨i,t,rfl,e⟩
 | .inr x,v,h=>by
  obtain ⟨t,e⟩:=Value.isStrOf_shape (x:=x) (v:=v) h
  exact .inr ⟨x,t,rfl,e⟩
theorem Zjg (i:Int) (t:Tok):nX (.inl i) (.int i t)=true:=by simp [nX,Value.isInt]
theorem Zjf (x:Str) (t:Tok):nX (.inr x) (.str x t)=true:=by simp [nX,Value.isStrOf]
theorem Zje (a b:Int):decide ((Sum.inl a:am)=Sum.inl b)=(a == b):=by
 by_cases e:a=b
 ·subst e; simp
 ·have h:¬ (Sum.inl a:am)=Sum.inl b:=λq=>e (Sum.inl.inj q)
  rw [decide_eq_false h]
  exact (beq_eq_false_iff_ne.mpr e).symm
theorem Zjb (a b:Str):decide ((Sum.inr a:am)=Sum.inr b)=decide (a=b):=by
 by_cases e:a=b
 ·subst e; simp
 ·have h:¬ (Sum.inr a:am)=Sum.inr b:=λq=>e (Sum.inr.inj q)
  rw [decide_eq_false h,decide_eq_false e]
theorem Zjd (a:Int) (b:Str):decide ((Sum.inl a:am)=Sum.inr b)=false:=decide_eq_false (λq=>nomatch q)
theorem Zjc (a:Str) (b:Int):decide ((Sum.inr a:am)=Sum.inl b)=false:=decide_eq_false (λq=>nomatch q)
noncomputable def cp (prog:Program) (w:World):PySem.KeyKind prog w am where
 is:=nX
 hash:=Zjh w
 inj:=λv a b ha hb=>by
  rcases gi ha with ⟨i,t,rfl,rfl⟩ | ⟨x,t,rfl,rfl⟩
  ·rcases gi hb with ⟨j,u,rfl,e⟩ | ⟨y,u,rfl,e⟩
   ·injection e with e1 _; rw [e1]
   ·exact nomatch e
  ·rcases gi hb with ⟨j,u,rfl,e⟩ | ⟨y,u,rfl,e⟩
   ·exact nomatch e
   ·injection e with e1 _; rw [e1]
 byValue:=λk v h=>by
  rcases gi h with ⟨i,t,rfl,rfl⟩ | ⟨x,t,rfl,rfl⟩ <;> rfl
 pyHash:=λhv h=>by
  rcases gi hv with ⟨i,t,rfl,rfl⟩ | ⟨x,t,rfl,rfl⟩
  ·exact wpAny_pyHash_int h
  ·exact wpAny_pyHash_str h
 eqBool:=λhu hv h=>by
  rcases gi hu with ⟨i,t,rfl,rfl⟩ | ⟨x,t,rfl,rfl⟩
  ·rcases gi hv with ⟨j,u,rfl,rfl⟩ | ⟨y,u,rfl,rfl⟩
   ·rw [Zje] at h; exact wpAny_eqBool_int h
   ·rw [Zjd] at h; exact SeqAt.EqAt.int_str i t y u _ _ _ _ h
  ·rcases gi hv with ⟨j,u,rfl,rfl⟩ | ⟨y,u,rfl,rfl⟩
   ·rw [Zjc] at h; exact SeqAt.EqAt.str_int x t j u _ _ _ _ h
   ·rw [Zjb] at h; exact wpAny_eqBool_str h
 «strs»:=λk x t v h=>by
  rcases gi h with ⟨i,u,rfl,e⟩ | ⟨y,u,rfl,e⟩
  ·exact nomatch e
  ·injection e with e1 _
   subst e1
   cases v <;> rfl
theorem ZcO (prog:Program) (w:World) (i:Int) (t:Tok):(cp prog w).is (.inl i) (.int i t)=true:=Zjg i t
theorem ZiF (prog:Program) (w:World) (x:Str) (t:Tok):(cp prog w).is (.inr x) (.str x t)=true:=Zjf x t
inductive V where
 | non | bl (b:Bool) | int (i:Int) | str (x:Str) | byt (b:Array UInt8) | flt (b:UInt64) | ref (a:Addr) | ty (n:String)
 deriving DecidableEq
noncomputable def RelV:V->Value->Prop
 | .non,u=>u=Value.none
 | .bl b,u=>u=Value.bool b
 | .int i,u=>∃ t,u=Value.int i t
 | .str x,u=>∃ t,u=Value.str x t
 | .byt b,u=>∃ t,u=Value.bytes b t
 | .flt b,u=>∃ t,u=Value.float b t
 | .ref a,u=>u=Value.ref a
 | .ty n,u=>u=Value.type n
noncomputable abbrev Vals:List V->List Value->Prop:=Paired RelV
theorem Vals.length {xs:List V} {us:List Value} (r:Vals xs us):xs.length=us.length:=Paired.length r
theorem Vals.get {xs:List V} {us:List Value} {i:Nat} {x:V} (h:Vals xs us) (e:xs[i]?=some x):∃ u,us[i]?=some u/\RelV x u:=by
 induction h generalizing i with
 | nil=>cases e
 | cons r t ih=>cases i with | zero=>cases e; exact ⟨_,rfl,r⟩ | succ i=>exact ih (i:=i) e
theorem Vals.set {x:V} {u:Value} (r:RelV x u) {xs:List V} {us:List Value} (i:Nat) (h:Vals xs us):Vals (xs.set i x) (us.set i u):=by
 induction h generalizing i with
 | nil=>exact .nil
 | cons q t ih=>cases i with | zero=>exact .cons r t | succ i=>exact .cons q (ih i)
theorem Vals.append {xs ys:List V} {us ws:List Value} (h:Vals xs us) (s:Vals ys ws):Vals (xs++ys) (us++ws):=by
 induction h with
 | nil=>exact s
 | cons r t ih=>exact .cons r ih
theorem Vals.take {xs:List V} {us:List Value} (n:Nat) (h:Vals xs us):Vals (xs.take n) (us.take n):=by
 induction h generalizing n with
 | nil=>rw [List.take_nil,List.take_nil]; exact .nil
 | cons r t ih=>cases n with | zero=>exact .nil | succ n=>exact .cons r (ih n)
theorem Vals.drop {xs:List V} {us:List Value} (n:Nat) (h:Vals xs us):Vals (xs.drop n) (us.drop n):=by
 induction h generalizing n with
 | nil=>rw [List.drop_nil,List.drop_nil]; exact .nil
 | cons r t ih=>cases n with | zero=>exact .cons r t | succ n=>exact ih n
noncomputable def RelO:Option V->Option Value->Prop
 | some v,some u=>RelV v u
 | none,none=>True
 | _,_=>False
noncomputable def KV {κ:Type}:List (κ×V)->List (κ×Value)->Prop:=Paired λ(p:κ×V) (q:κ×Value)=>p.1=q.1/\RelV p.2 q.2
noncomputable def kV:am->V
 | .inl i=>.int i
 | .inr x=>.str x
inductive HO where
 /-- a list -/
 | lst (xs:List V)
 /-- a tuple (never changes) -/
 | tup (xs:List V)
 /-- a dict whose keys are ints and texts; one whose keys are tuples of ints and texts (the empty one is both) -/
 | dK (kvs:List (am×V)) | dT (kvs:List (List am×V))
 /-- a set of ints: its members,its size -/
 | set (S:Int->Bool) (n:Nat)
 /-- an instance of the class at C,its dict at dx,its attributes -/
 | ins (C dx:Addr) (fs:List (Str×V))
 /-- the dict of the instance at x -/
 | own (x:Addr)
 /-- the dict of an exception -/
 | xd (fs:List (Str×V))
 /-- a bound method,f of x -/
 | met (f x:Addr)
 /-- a range object lo,lo+1,.. below hi -/
 | rng (lo hi:Int)
 /-- a thing that is known to the object (the script; a dict while a loop walks it): read,never written while it is so -/
 | frz (o:Obj) (u:HO)
 /-- a code object's table -/
 | tbl (ps:Array Value)
 /-- any other thing,by what is true of its one object (a def of one's own: SetO a S n:=HO.ext λh=>..) -/
 | ext (φ:Heap->Prop)
noncomputable abbrev Hp:=Addr->Option HO
noncomputable def upd (H:Hp) (a:Addr) (o:HO):Hp:=λb=>if b=a then some o else H b
theorem bE {H:Hp} {a:Addr} {o:HO}:upd H a o a=some o:=by unfold upd; rw [if_pos rfl]
theorem az {H:Hp} {a b:Addr} {o:HO} (h:b≠a):upd H a o b=H b:=by unfold upd; rw [if_neg h]
theorem o9 {H:Hp} {a b:Addr} {o u:HO} (h:H a=some o) (h':H b=some u) (d:o≠u):a≠b:=by
 intro e; subst e; rw [h] at h'; exact d (Option.some.inj h')
theorem cL {H:Hp} {a b:Addr} {o:HO} (h:H a=some o) (h':H b=none):a≠b:=by
 intro e; subst e; rw [h] at h'; cases h'
section
variable (P:Program) (w:World)
noncomputable def ObjOk (H:Hp) (h:Heap) (a:Addr):HO->Prop
 | .lst xs=>xs.length<=sizeLine/\∃ (its:List Value) (n:Nat),Vals xs its/\h.get? a=some { cls:=.type "list",data:=.seq its.toArray n }
 | .tup xs=>xs.length<=sizeLine/\∃ its:List Value,Vals xs its/\IsTup h a its.toArray
 | .dK kvs=>kvs.length<=sizeLine/\(a == sysModules)=false/\∃ vs,KV kvs vs/\h.DictOf (cp P w) a vs
 | .dT kvs=>kvs.length<=sizeLine/\(a == sysModules)=false/\∃ xs:List (List am×Addr×Value),
   Paired (λ(p:List am×V) (q:List am×Addr×Value)=>p.1=q.1/\H q.2.1=some (.tup (p.1.map kV))/\RelV p.2 q.2.2) kvs xs /\
   ∃ o es ep,h.get? a=some o/\o.ExactDict/\o.data=.dict es ep/\es.toList=xs.map (entryOfKey (tupleKind (cp P w)))/\(xs.map (·.1)).Nodup
 | .set S n=>h.SetOf (intKind P w) a S n
 | .ins C dx fs=>H dx=some (.own a)/\fs.length<=1000/\dx≠a/\h.get? a=some (PySem.W.instObj C dx) /\
   ∃ mA,h.Ns1 dx mA/\(∀ f,RelO (fs.lookup f) (mA f))/\PySem.Within mA (fs.map (·.1))
 | .own _=>∃ o,h.get? a=some o
 | .xd fs=>∃ mA,h.Ns1 a mA/\∀ f,RelO (fs.lookup f) (mA f)
 | .rng lo hi=>∃ t u v,h.get? a=some { cls:=.type "range",data:=.fields #[.int lo t,.int hi u,.int 1 v] }
 | .frz o u=>h.get? a=some o/\ObjOk H h a u
 | .tbl ps=>h.get? a=some { cls:=.none,data:=.fields ps }
 | .met f x=>h.get? a=some (PySem.W.methodObj (.ref f) (.ref x))
 | .ext φ=>φ h/\(∃ o,h.get? a=some o)/\∀ h1 h2:Heap,φ h1->(∀ o,h1.get? a=some o->h2.get? a=some o)->φ h2
noncomputable def HOk (H:Hp) (h:Heap):Prop:=∀ a o,H a=some o->ObjOk P w H h a o
end
section
variable {P:Program} {w:World} {H H':Hp} {h h':Heap} {a:Addr} {o:HO}
theorem ObjOk.lt (x:ObjOk P w H h a o):a < h.objs.size:=by
 cases o with
 | lst xs=>obtain ⟨_,_,_,_,e⟩:=x; exact Heap.lt_size e
 | tup xs=>obtain ⟨_,_,_,p⟩:=x; exact p.lt
 | dK kvs=>obtain ⟨_,_,_,_,o,_,_,e,_⟩:=x; exact Heap.lt_size e
 | dT kvs=>obtain ⟨_,_,_,_,o,_,_,e,_⟩:=x; exact Heap.lt_size e
 | set S n=>obtain ⟨o,_,_,_,e,_⟩:=x; exact Heap.lt_size e
 | ins C dx fs=>obtain ⟨_,_,_,e,_⟩:=x; exact Heap.lt_size e
 | own y=>obtain ⟨_,e⟩:=x; exact Heap.lt_size e
 | xd fs=>obtain ⟨_,⟨_,_,_,e,_⟩,_⟩:=x; exact Heap.lt_size e
 | rng lo hi=>obtain ⟨_,_,_,e⟩:=x; exact Heap.lt_size e
 | frz ob u=>obtain ⟨e,_⟩:=x; exact Heap.lt_size e
 | tbl ps=>exact Heap.lt_size (show h.get? a=some _ from x)
 | met f y=>exact Heap.lt_size (show h.get? a=some _ from x)
 | ext φ=>obtain ⟨_,⟨_,e⟩,_⟩:=x; exact Heap.lt_size e
theorem Paired.mapP {α β:Type} {F G:α->β->Prop} {l₁:List α} {l₂:List β} (h:Paired F l₁ l₂) (f:∀ a b,F a b->G a b):Paired G l₁ l₂:=by
 induction h with
 | nil=>exact .nil
 | cons r t ih=>exact .cons (f _ _ r) ih
theorem ObjOk.stay (x:ObjOk P w H h a o) (k:∀ b u,(b=a\/H b=some (.own a))->h.get? b=some u->h'.get? b=some u)
  (ho:∀ b,H b=some (.own a)->H' b=some (.own a)) (ht:∀ b xs,H b=some (.tup xs)->H' b=some (.tup xs)):ObjOk P w H' h' a o:=by
 induction o with
 | lst xs=>obtain ⟨z,its,n,r,e⟩:=x; exact ⟨z,its,n,r,k _ _ (.inl rfl) e⟩
 | tup xs=>obtain ⟨z,its,r,ob,e,c⟩:=x; exact ⟨z,its,r,ob,k _ _ (.inl rfl) e,c⟩
 | dK kvs=>obtain ⟨z,y,vs,r,ob,es,ep,e,c⟩:=x; exact ⟨z,y,vs,r,ob,es,ep,k _ _ (.inl rfl) e,c⟩
 | dT kvs =>
  obtain ⟨z,y,xs,r,ob,es,ep,e,c⟩:=x
  exact ⟨z,y,xs,Paired.mapP r λp q z=>⟨z.1,ht _ _ z.2.1,z.2.2⟩,ob,es,ep,k _ _ (.inl rfl) e,c⟩
 | set S n=>obtain ⟨ob,es,ep,t,e,c⟩:=x; exact ⟨ob,es,ep,t,k _ _ (.inl rfl) e,c⟩
 | ins C dx fs =>
  obtain ⟨d,z,ne,e,mA,⟨od,es,ep,e2,c⟩,r⟩:=x
  exact ⟨ho _ d,z,ne,k _ _ (.inl rfl) e,mA,⟨od,es,ep,k _ _ (.inr d) e2,c⟩,r⟩
 | own y=>obtain ⟨ob,e⟩:=x; exact ⟨ob,k _ _ (.inl rfl) e⟩
 | xd fs=>obtain ⟨mA,⟨od,es,ep,e,c⟩,r⟩:=x; exact ⟨mA,⟨od,es,ep,k _ _ (.inl rfl) e,c⟩,r⟩
 | rng lo hi=>obtain ⟨t,u,v,e⟩:=x; exact ⟨t,u,v,k _ _ (.inl rfl) e⟩
 | frz ob u ih=>obtain ⟨e,q⟩:=x; exact ⟨k _ _ (.inl rfl) e,ih q⟩
 | tbl ps =>
  have e:h.get? a=some { cls:=.none,data:=.fields ps }:=x
  show h'.get? a=some { cls:=.none,data:=.fields ps }
  exact k a _ (.inl rfl) e
 | met f y =>
  have e:h.get? a=some (PySem.W.methodObj (.ref f) (.ref y)):=x
  show h'.get? a=some (PySem.W.methodObj (.ref f) (.ref y))
  exact k a _ (.inl rfl) e
 | ext φ=>obtain ⟨p,⟨o,e⟩,st⟩:=x; exact ⟨st _ _ p λo q=>k _ _ (.inl rfl) q,⟨o,k _ _ (.inl rfl) e⟩,st⟩
theorem HOk.lt (x:HOk P w H h) (e:H a=some o):a < h.objs.size:=(x a o e).lt
theorem HOk.fresh (x:HOk P w H h) (e:h.objs.size<=a):H a=none:=by
 cases q:H a with
 | none=>rfl
 | some u=>exact absurd (Nat.lt_of_lt_of_le (x.lt q) e) (Nat.lt_irrefl _)
theorem HOk.kept (x:HOk P w H h) (k:∀ b u,h.get? b=some u->h'.get? b=some u):HOk P w H h':=λa o e =>
 (x a o e).stay (λb u _ q=>k b u q) (λ_ q=>q) λ_ _ q=>q
theorem HOk.laid (x:HOk P w H h) (k:∀ b u,h.get? b=some u->h'.get? b=some u) (hp:h.objs.size<=a) (new:ObjOk P w (upd H a o) h' a o):HOk P w (upd H a o) h':=λb u e=>by
 have hn:=x.fresh hp
 by_cases hb:b=a
 ·subst hb; rw [bE] at e; cases e; exact new
 ·rw [az hb] at e
  exact (x b u e).stay (λc v _ q=>k c v q) (λc q=>by rw [az (cL q hn)]; exact q) λc xs q=>by rw [az (cL q hn)]; exact q
end
noncomputable def Rd (H:Hp) (a:Addr) (u:HO):Prop:=H a=some u\/∃ o,H a=some (.frz o u)
theorem Rd.ok {P:Program} {w:World} {H:Hp} {h:Heap} {a:Addr} {u:HO} (r:Rd H a u) (x:HOk P w H h):ObjOk P w H h a u:=by
 rcases r with r | ⟨o,r⟩
 ·exact x a u r
 ·obtain ⟨_,q⟩:=x a _ r
  exact q
noncomputable def qu:Option HO->Prop
 | some (.lst _)=>True
 | some (.dK _)=>True
 | some (.dT _)=>True
 | some (.set _ _)=>True
 | some (.ins _ _ _)=>True
 | some (.ext _)=>True
 | _=>False
section
variable {P:Program} {w:World} {H:Hp} {h h':Heap} {x e:Addr} {o':HO}
theorem HOk.write (ok:HOk P w H h) (mu:qu (H x)) (he:e=x\/H e=some (.own x)) (k:∀ b u,b≠e->h.get? b=some u->h'.get? b=some u) (heo:∃ u,h'.get? e=some u)
  (new:ObjOk P w (upd H x o') h' x o'):HOk P w (upd H x o') h':=λb u q=>by
 have nown:∀ c y,H c=some (.own y)->c≠x:=λc y r z=>by subst z; rw [r] at mu; exact mu
 have ntup:∀ c xs,H c=some (.tup xs)->c≠x:=λc xs r z=>by subst z; rw [r] at mu; exact mu
 by_cases hb:b=x
 ·subst hb; rw [bE] at q; cases q; exact new
 ·rw [az hb] at q
  by_cases hbe:b=e
  ·have q':H b=some (.own x):=by
    rcases he with z | z
    ·exact absurd (hbe.trans z) hb
    ·rw [hbe]; exact z
   rw [q] at q'; cases q'
   obtain ⟨v,hv⟩:=heo
   exact ⟨v,by rw [hbe]; exact hv⟩
  ·refine (ok b u q).stay (λc v hc r=>k c v ?_ r) (λc r=>by rw [az (nown c b r)]; exact r) λc xs r=>by rw [az (ntup c xs r)]; exact r
   rcases hc with rfl | hc
   ·exact hbe
   ·rintro rfl
    rcases he with z | z
    ·exact nown c b hc z
    ·rw [hc] at z; cases z; exact hb rfl
end
structure Un (fs ex:List Addr) (H H':Hp) (h h':Heap):Prop where
 keep:∀ b o,h.get? b=some o->H b=none->b ∉ fs->b ∉ ex->h'.get? b=some o
 slot:∀ b o,h.get? b=some o->H b=none->b∈fs->b ∉ ex->∃ sl,h'.get? b=some { o with slots:=sl }
 free:∀ b o,h.get? b=some o->H b=none->b ∉ ex->H' b=none
 there:∀ b o,h.get? b=some o->b ∉ ex->∃ o',h'.get? b=some o'
 tups:∀ b xs,H b=some (.tup xs)->H' b=some (.tup xs)
 frzs:∀ b o u,H b=some (.frz o u)->H' b=some (.frz o u)
 tbls:∀ b ps,H b=some (.tbl ps)->∃ more,H' b=some (.tbl (ps++more))
section
variable {fs fs' ex ex':List Addr} {H H1 H2:Hp} {h h1 h2 h':Heap} {a x e:Addr} {o:HO}
theorem Un.any (u:Un fs ex H H1 h h1) {b:Addr} {ob:Obj} (q:h.get? b=some ob) (n:H b=none) (hx:b ∉ ex):∃ sl,h1.get? b=some { ob with slots:=sl }:=by
 by_cases hb:b∈fs
 ·exact u.slot b ob q n hb hx
 ·exact ⟨ob.slots,u.keep b ob q n hb hx⟩
theorem Un.kept (k:∀ b u,h.get? b=some u->h'.get? b=some u):Un fs ex H H h h' :=
 ⟨λb ob q _ _ _=>k b ob q,λb ob q _ _ _=>⟨ob.slots,k b ob q⟩,λ_ _ _ n _=>n,λb ob q _=>⟨ob,k b ob q⟩,λ_ _ q=>q,λ_ _ _ q=>q,λ_ ps q=>⟨#[],by rw [q]; simp⟩⟩
theorem Un.refl:Un fs ex H H h h:=Un.kept λ_ _ q=>q
theorem Un.laid (k:∀ b u,h.get? b=some u->h'.get? b=some u) (hp:h.objs.size<=a) (hn:H a=none):Un fs ex H (upd H a o) h h' where
 keep:=λb u q _ _ _=>k b u q
 slot:=λb u q _ _ _=>⟨u.slots,k b u q⟩
 free:=λb u q n _=>by rw [az (Nat.ne_of_lt (Nat.lt_of_lt_of_le (Heap.lt_size q) hp))]; exact n
 there:=λb u q _=>⟨u,k b u q⟩
 tups:=λb xs q=>by rw [az (cL q hn)]; exact q
 frzs:=λb u xs q=>by rw [az (cL q hn)]; exact q
 tbls:=λb ps q=>⟨#[],by rw [az (cL q hn),q]; simp⟩
theorem Un.write (mu:qu (H x)) (he:e=x\/H e=some (.own x)) (k:∀ b u,b≠e->h.get? b=some u->h'.get? b=some u) (heo:∃ u,h'.get? e=some u):Un fs ex H (upd H x o) h h':=by
 have hx:∀ b,H b=none->b≠x:=λb n z=>by subst z; rw [n] at mu; exact mu
 have hb:∀ b,H b=none->b≠e:=λb n z=>by
  subst z
  rcases he with r | r
  ·exact hx b n r
  ·rw [n] at r; cases r
 have hm:∀ b u,H b=some u->¬ qu (some u)->b≠x:=λb u q nm z=>by subst z; rw [q] at mu; exact nm mu
 refine ⟨λb u q n _ _=>k b u (hb b n) q,λb u q n _ _=>⟨u.slots,k b u (hb b n) q⟩,λb u q n _=>by rw [az (hx b n)]; exact n,λb u q _=>?_,
  λb xs q=>by rw [az (hm b _ q λz=>z)]; exact q,λb u xs q=>by rw [az (hm b _ q λz=>z)]; exact q,λb ps q=>⟨#[],by rw [az (hm b _ q λz=>z),q]; simp⟩⟩
 by_cases hbe:b=e
 ·subst hbe; exact heo
 ·exact ⟨u,k b u hbe q⟩
end
noncomputable def trk (h:Heap) (H:Hp):List Addr:=(List.range h.objs.size).filter λa=>(H a).isSome
noncomputable def gl (h:Heap) (H:Hp):Heap:=PySem.W.hideAll h (trk h H)
theorem ZjE (h:Heap) (H:Hp):(gl h H).objs.size=h.objs.size:=PySem.W.hideAll_size _ _
theorem ZjF {h:Heap} {H:Hp} {b:Addr} {o:Obj} (e:h.get? b=some o) (n:H b=none):(gl h H).get? b=some o :=
 PySem.W.hideAll_get _ e λhm=>by
  have q:(H b).isSome=true:=(List.mem_filter.mp hm).2
  rw [n] at q; simp at q
theorem Zij {h:Heap} {H:Hp} {b:Addr} {o:Obj} (e:(gl h H).get? b=some o):h.get? b=some o/\H b=none:=by
 have e':h.get? b=some o:=PySem.W.of_hideAll (trk h H) e
 refine ⟨e',?_⟩
 cases q:H b with
 | none=>rfl
 | some x =>
  have hm:b∈trk h H:=List.mem_filter.mpr ⟨List.mem_range.mpr (Heap.lt_size e'),by simp [q]⟩
  have z:(gl h H).get? b=none:=PySem.W.hideAll_none (trk h H) hm
  rw [z] at e; cases e
noncomputable def Zml (g h:Heap) (L:Addr):List (Addr×Obj):=(List.range h.objs.size).filterMap λa=>if a=L\/(g.get? a).isSome=true then none else (h.get? a).map λo=>(a,o)
noncomputable def rest (g h:Heap) (L d:Addr):List (Addr×Obj):=(Zml g h L).filter λp=>decide (p.1≠d)
structure Mod (K:PySem.W.Frag) (mg:Str->Option Value) (base:Heap):Prop where
 kin:K.In base
 glob:base.Ns mainGlobals mg
 blt:∃ mb,base.Ns builtinsNs mb/\∀ x:Str,x≠"__name__"->mb x=bootBuiltins x
 nolimit:base.NoLimit
 nodig:base.NoDigits
structure Cx where
 prog:Program
 w:World
 K:PySem.W.Frag
 mg:Str->Option Value
 base:Heap
 A:Around
 N:List Str
 s₀:Shared
 H₀:Hp
 env:Env
 outer:List Env
 stack:List Env
 ex:List Addr
 fn:Str->Bool
 calm:Bool
 pn:List (Addr×Obj)
 xe:Value->Shared->Prop
noncomputable def frs (l:List Env):List Addr:=l.filterMap (·.frame)
noncomputable abbrev Cx.fs (X:Cx):List Addr:=frs X.outer
noncomputable def tq (sc:Scope) (x:Str):Prop:=sc.names.lookup x=some .local\/sc.names.lookup x=some .cell\/sc.names.lookup x=some .free
noncomputable def qv (sc:Scope) (x:Str):Prop:=sc.names.lookup x=some .local\/sc.names.lookup x=some .cell
noncomputable def Zm3 (env:Env) (h:Heap) (m:Str->Option Value) (x:Str) (u:Value):Prop :=
 (env.kindOf x=some .local/\m x=some u)\/((env.kindOf x=some .cell\/env.kindOf x=some .free)/\∃ c,env.cells.lookup x=some c/\h.IsCell c (some u))
structure Cx.Ok (X:Cx):Prop where
 mod:Mod X.K X.mg X.base
 kind:X.env.scope.kind=.function
 glob:X.env.globals=mainGlobals
 blt:X.env.builtins=builtinsNs
 above:X.s₀.heap.objs.size<=X.env.locals
 inj:∀ x y c,X.env.cells.lookup x=some c->X.env.cells.lookup y=some c->x=y
 has:∀ x,(X.env.kindOf x=some .cell\/X.env.kindOf x=some .free)->∃ c,X.env.cells.lookup x=some c
 cab:∀ x c,X.fn x=true->X.env.cells.lookup x=some c->X.s₀.heap.objs.size<=c
 hd:X.calm=true->X.A.handled=none
 frames:X.A.frames=some X.stack
 stk:X.stack=X.outer\/(X.stack=X.env::X.outer/\X.env.frame=some X.env.locals)
 exf:∀ b∈X.ex,b≠X.env.locals/\∀ x c,X.env.cells.lookup x=some c->c≠b
 bs:∀ b o,X.base.get? b=some o->X.s₀.heap.get? b=some o/\X.H₀ b=none
 bsz:X.base.objs.size<=X.s₀.heap.objs.size
 noex:∀ b o,X.base.get? b=some o->b ∉ X.ex
 exfs:∀ b∈X.ex,b ∉ X.fs
 funs:X.s₀.heap.FunFrames X.base X.outer
 frf:∀ b∈X.fs,X.H₀ b=none
structure Inv (X:Cx) (pins:List (Addr×Obj)) (σ:List (Option V)) (H:Hp) (s:Shared):Prop where
 ok:X.Ok
 os:s.os=X.s₀.os
 bare:AllBare s.gens
 base:Un X.fs X.ex X.H₀ H X.s₀.heap s.heap
 loc:∃ m,s.heap.Ns X.env.locals m/\∀ (i:Nat) (x:Str) (v:V),X.N[i]?=some x->σ[i]?=some (some v)->tq X.env.scope x->∃ u,RelV v u/\Zm3 X.env s.heap m x u
 cell:∀ x c,X.env.cells.lookup x=some c->∃ v,s.heap.IsCell c v
 free:H X.env.locals=none
 freeC:∀ x c,X.env.cells.lookup x=some c->H c=none
 pin:∀ p∈X.pn++pins,s.heap.get? p.1=some p.2/\H p.1=none/\p.1≠X.env.locals/\p.1 ∉ X.fs/\∀ v,p.2.data≠.cell v
 hok:HOk X.prog X.w H s.heap
 len:σ.length=X.N.length
section
variable {X:Cx} {pins:List (Addr×Obj)} {σ:List (Option V)} {H H':Hp} {s:Shared} {h':Heap}
theorem Cx.Ok.nofr (ok:X.Ok) {b:Addr} {o:Obj} (e:X.base.get? b=some o):b ∉ X.fs:=λhb=>by
 have:=(ok.funs.mem hb).1
 rw [e] at this; cases this
theorem Inv.bs (I:Inv X pins σ H s):∀ b o,X.base.get? b=some o->s.heap.get? b=some o/\H b=none:=λb o e =>
 ⟨I.base.keep b o (I.ok.bs b o e).1 (I.ok.bs b o e).2 (I.ok.nofr e) (I.ok.noex b o e),I.base.free b o (I.ok.bs b o e).1 (I.ok.bs b o e).2 (I.ok.noex b o e)⟩
theorem Inv.bk (I:Inv X pins σ H s):∀ b o,X.base.get? b=some o->s.heap.get? b=some o:=λb o e=>(I.bs b o e).1
theorem Inv.mod (I:Inv X pins σ H s):Mod X.K X.mg X.base:=I.ok.mod
theorem Inv.kIn (I:Inv X pins σ H s):X.K.In s.heap:=I.ok.mod.kin.keeps I.bk
theorem Inv.lt (I:Inv X pins σ H s):X.env.locals < s.heap.objs.size:=let ⟨_,hn,_⟩:=I.loc; hn.lt
theorem Inv.sz (I:Inv X pins σ H s):X.s₀.heap.objs.size<=s.heap.objs.size:=Nat.le_trans I.ok.above (Nat.le_of_lt I.lt)
theorem Inv.nofs (I:Inv X pins σ H s) {a:Addr} (h:s.heap.objs.size<=a):a ∉ X.fs:=λhb=>by
 obtain ⟨_,o,ho,_⟩:=I.ok.funs.mem hb
 exact absurd (Nat.lt_of_lt_of_le (Heap.lt_size ho) (Nat.le_trans I.sz h)) (Nat.lt_irrefl _)
theorem Inv.cne (I:Inv X pins σ H s):∀ x c,X.env.cells.lookup x=some c->c≠X.env.locals:=λx c e z=>by
 obtain ⟨v,o,ho,hd⟩:=I.cell x c e
 obtain ⟨m,⟨o',es,ep,ho',hd',_⟩,_⟩:=I.loc
 rw [z,ho'] at ho; cases ho; rw [hd'] at hd; cases hd
theorem Inv.funs (I:Inv X pins σ H s):s.heap.FunFrames X.base X.outer:=by
 have all:∀ (l:List Env),(∀ b∈frs l,b∈X.fs)->X.s₀.heap.FunFrames X.base l->s.heap.FunFrames X.base l:=by
  intro l
  induction l with
  | nil=>intro _ _; trivial
  | cons env r ih =>
   intro hs hl
   obtain ⟨hk,⟨L,o,hf,hn,ho,hd⟩,hr⟩:=hl
   have hL:L∈X.fs:=hs L (by unfold frs; rw [List.filterMap_cons,hf]; exact List.mem_cons_self)
   obtain ⟨sl,e⟩:=I.base.slot L o ho (I.ok.frf L hL) hL λz=>I.ok.exfs L z hL
   exact ⟨hk,⟨L,_,hf,hn,e,hd⟩,ih (λb hb=>hs b (by unfold frs; rw [List.filterMap_cons,hf]; exact List.mem_cons_of_mem _ hb)) hr⟩
 exact all X.outer (λ_ hb=>hb) I.ok.funs
theorem Inv.stack (I:Inv X pins σ H s):s.heap.FunFrames X.base X.stack:=by
 rcases I.ok.stk with e | ⟨e,hf⟩
 ·rw [e]; exact I.funs
 ·rw [e]
  obtain ⟨m,hn,_⟩:=I.loc
  refine .cons (by rw [I.ok.kind]; decide) hf hn ?_ I.funs
  exact Heap.get?_none_of_le (Nat.le_trans I.ok.bsz I.ok.above)
theorem Inv.stkSub (I:Inv X pins σ H s):∀ b∈frs X.stack,b∈X.env.locals::X.fs:=λb hb=>by
 rcases I.ok.stk with e | ⟨e,hf⟩
 ·rw [e] at hb; exact List.mem_cons_of_mem _ hb
 ·rw [e] at hb
  unfold frs at hb
  rw [List.filterMap_cons,hf] at hb
  exact hb
theorem Inv.stkFree (I:Inv X pins σ H s):∀ b∈frs X.stack,H b=none:=λb hb=>by
 rcases List.mem_cons.mp (I.stkSub b hb) with e | hb
 ·rw [e]; exact I.free
 ·obtain ⟨_,o,ho,_⟩:=I.ok.funs.mem hb
  exact I.base.free b o ho (I.ok.frf b hb) λz=>I.ok.exfs b z hb
theorem Inv.step {g':Array GenState} {t':Nat} {d':Drawn} {ch:List Addr} (I:Inv X pins σ H s)
  (hch:∀ b∈ch,(b∈X.ex\/X.s₀.heap.objs.size<=b)/\b≠X.env.locals/\(∀ x c,X.env.cells.lookup x=some c->c≠b)/\∀ p∈X.pn++pins,p.1≠b)
  (keep:∀ b o,b≠X.env.locals->b ∉ X.fs->b ∉ ch->s.heap.get? b=some o->H b=none->h'.get? b=some o)
  (slot:∀ b o,b≠X.env.locals->b∈X.fs->b ∉ ch->s.heap.get? b=some o->H b=none->∃ sl,h'.get? b=some { o with slots:=sl }) (free:∀ b o,b ∉ ch->s.heap.get? b=some o->H b=none->H' b=none)
  (there:∀ b o,b ∉ ch->s.heap.get? b=some o->∃ o',h'.get? b=some o')
  (tups:∀ b xs,H b=some (.tup xs)->H' b=some (.tup xs)) (frzs:∀ b o u,H b=some (.frz o u)->H' b=some (.frz o u)) (tbls:∀ b ps,H b=some (.tbl ps)->∃ more,H' b=some (.tbl (ps++more)))
  (ns:∀ m,s.heap.Ns X.env.locals m->h'.Ns X.env.locals m) (hok:HOk X.prog X.w H' h') (hg:AllBare g') :
  Inv X pins σ H' { s with heap:=h',gens:=g',drawn:=d',toks:=t' }:=by
 have neL:∀ b o,X.s₀.heap.get? b=some o->b≠X.env.locals:=λb o e=>Nat.ne_of_lt (Nat.lt_of_lt_of_le (Heap.lt_size e) I.ok.above)
 have neC:∀ b o,X.s₀.heap.get? b=some o->b ∉ X.ex->b ∉ ch:=λb o e hx hb=>by
  rcases (hch b hb).1 with z | z
  ·exact hx z
  ·exact absurd (Nat.lt_of_lt_of_le (Heap.lt_size e) z) (Nat.lt_irrefl _)
 have cellK:∀ x c,X.env.cells.lookup x=some c->∀ v,s.heap.IsCell c v->h'.IsCell c v:=λx c e v hz0=>by
  obtain ⟨o,ho,hd⟩:=hz0
  have nch:c ∉ ch:=λz=>(hch c z).2.2.1 x c e rfl
  by_cases hc:c∈X.fs
  ·obtain ⟨sl,q⟩:=slot c o (I.cne x c e) hc nch ho (I.freeC x c e)
   exact ⟨_,q,hd⟩
  ·exact ⟨o,keep c o (I.cne x c e) hc nch ho (I.freeC x c e),hd⟩
 refine ⟨I.ok,I.os,hg,⟨λb o e n hb hx=>?_,λb o e n hb hx=>?_,λb o e n hx=>?_,λb o e hx=>?_,λb xs e=>tups b xs (I.base.tups b xs e),λb o xs e=>frzs b o xs (I.base.frzs b o xs e),λb ps e=>?_⟩,?_,λx c e=>?_,?_,λx c e=>?_,λp hp=>?_,hok,I.len⟩
 ·exact keep b o (neL b o e) hb (neC b o e hx) (I.base.keep b o e n hb hx) (I.base.free b o e n hx)
 ·obtain ⟨sl,e1⟩:=I.base.slot b o e n hb hx
  obtain ⟨sl',e2⟩:=slot b _ (neL b o e) hb (neC b o e hx) e1 (I.base.free b o e n hx)
  exact ⟨sl',e2⟩
 ·obtain ⟨o',e1⟩:=I.base.there b o e hx
  exact free b o' (neC b o e hx) e1 (I.base.free b o e n hx)
 ·obtain ⟨o',e1⟩:=I.base.there b o e hx
  exact there b o' (neC b o e hx) e1
 ·obtain ⟨m1,e1⟩:=I.base.tbls b ps e
  obtain ⟨m2,e2⟩:=tbls b _ e1
  exact ⟨m1++m2,by rw [e2,Array.append_assoc]⟩
 ·obtain ⟨m,hn,hl⟩:=I.loc
  refine ⟨m,ns m hn,λi x v e1 e2 e3=>?_⟩
  obtain ⟨u,r,l⟩:=hl i x v e1 e2 e3
  refine ⟨u,r,?_⟩
  rcases l with l | ⟨k,c,e,z⟩
  ·exact .inl l
  ·exact .inr ⟨k,c,e,cellK x c e _ z⟩
 ·obtain ⟨v,z⟩:=I.cell x c e
  exact ⟨v,cellK x c e v z⟩
 ·obtain ⟨m,⟨o,_,_,ho,_⟩,_⟩:=I.loc
  exact free _ o (λz=>(hch _ z).2.1 rfl) ho I.free
 ·obtain ⟨v,o,ho,hd⟩:=I.cell x c e
  exact free c o (λz=>(hch c z).2.2.1 x c e rfl) ho (I.freeC x c e)
 ·obtain ⟨e,n,ne,nf,d⟩:=I.pin p hp
  have nch:p.1 ∉ ch:=λz=>(hch p.1 z).2.2.2 p hp rfl
  exact ⟨keep p.1 p.2 ne nf nch e n,free p.1 p.2 nch e n,ne,nf,d⟩
theorem Inv.un {t':Nat} (I:Inv X pins σ H s) (u:Un X.fs [] H H' s.heap h') (hok:HOk X.prog X.w H' h'):Inv X pins σ H' { s with heap:=h',toks:=t' }:=by
 obtain ⟨m,⟨o,es,ep,ho,r⟩,_⟩:=id I.loc
 obtain ⟨sl,hL⟩:=u.any ho I.free (by simp)
 exact I.step (g':=s.gens) (d':=s.drawn) (ch:=[]) (λ_ z=>nomatch z) (λb o _ hb _ e n=>u.keep b o e n hb (by simp)) (λb o _ hb _ e n=>u.slot b o e n hb (by simp)) (λb o _ e n=>u.free b o e n (by simp)) (λb o _ e=>u.there b o e (by simp)) u.tups u.frzs u.tbls (λm' hm=>by
  obtain ⟨o',es',ep',ho',r'⟩:=hm
  rw [ho] at ho'; cases ho'
  exact ⟨_,es',ep',hL,r'⟩) hok I.bare
theorem Inv.call {g':Array GenState} {t':Nat} {d':Drawn} {ch:List Addr} (I:Inv X pins σ H s) (u:Un (frs X.stack) ch H H' s.heap h') (hok:HOk X.prog X.w H' h') (hg:AllBare g')
  (hch:∀ b∈ch,(b∈X.ex\/X.s₀.heap.objs.size<=b)/\b≠X.env.locals/\(∀ x c,X.env.cells.lookup x=some c->c≠b)/\∀ p∈X.pn++pins,p.1≠b) :
  Inv X pins σ H' { s with heap:=h',gens:=g',drawn:=d',toks:=t' }:=by
 obtain ⟨m,⟨o,es,ep,ho,r⟩,_⟩:=id I.loc
 obtain ⟨sl,hL⟩:=u.any ho I.free λz=>(hch _ z).2.1 rfl
 exact I.step (ch:=ch) hch (λb o hL hb hc e n=>u.keep b o e n (λz=>(List.mem_cons.mp (I.stkSub b z)).elim hL hb) hc) (λb o _ _ hc e n=>u.any e n hc) (λb o hc e n=>u.free b o e n hc) (λb o hc e=>u.there b o e hc) u.tups u.frzs u.tbls (λm' hm=>by
  obtain ⟨o',es',ep',ho',r'⟩:=hm
  rw [ho] at ho'; cases ho'
  exact ⟨_,es',ep',hL,r'⟩) hok hg
theorem Inv.turned {t':Nat} {it:Addr} (I:Inv X pins σ H s) (k:∀ b o,b≠it->s.heap.get? b=some o->h'.get? b=some o) (hn:H it=none) (hL:it≠X.env.locals)
  (h1:it∈X.ex\/X.s₀.heap.objs.size<=it) (h2:∀ x c,X.env.cells.lookup x=some c->c≠it) (h3:∀ p∈X.pn++pins,p.1≠it):Inv X pins σ H { s with heap:=h',toks:=t' }:=by
 have nit:∀ b u,H b=some u->b≠it:=λb u e z=>by rw [z,hn] at e; cases e
 refine I.step (g':=s.gens) (d':=s.drawn) (ch:=[it]) (λb hb=>?_) (λb o _ _ hc e _=>k b o (λz=>hc (by simp [z])) e) (λb o _ _ hc e _=>⟨o.slots,k b o (λz=>hc (by simp [z])) e⟩) (λ_ _ _ _ n=>n)
  (λb o hc e=>⟨o,k b o (λz=>hc (by simp [z])) e⟩) (λ_ _ e=>e) (λ_ _ _ e=>e) (λb ps e=>⟨#[],by rw [e]; simp⟩) (λm hm=>?_) (λb u e=>?_) I.bare
 ·have e:b=it:=by simpa using hb
  subst e
  exact ⟨h1,hL,h2,h3⟩
 ·obtain ⟨o,es,ep,ho,r⟩:=hm
  exact ⟨o,es,ep,k _ o (Ne.symm hL) ho,r⟩
 ·refine (I.hok b u e).stay (λc v hc q=>k c v ?_ q) (λ_ q=>q) λ_ _ q=>q
  rcases hc with z | z
  ·rw [z]; exact nit b u e
  ·exact nit c _ z
theorem Inv.tok (I:Inv X pins σ H s) (t:Nat):Inv X pins σ H { s with toks:=t }:=I.un (h':=s.heap) (t':=t) Un.refl I.hok
theorem Inv.kept {t':Nat} (I:Inv X pins σ H s) (k:∀ b u,s.heap.get? b=some u->h'.get? b=some u):Inv X pins σ H { s with heap:=h',toks:=t' }:=I.un (Un.kept k) (I.hok.kept k)
theorem Inv.laid {a:Addr} {o:HO} {t':Nat} (I:Inv X pins σ H s) (k:∀ b u,s.heap.get? b=some u->h'.get? b=some u) (hp:s.heap.objs.size<=a) (new:ObjOk X.prog X.w (upd H a o) h' a o) :
  Inv X pins σ (upd H a o) { s with heap:=h',toks:=t' }:=I.un (Un.laid k hp (I.hok.fresh hp)) (I.hok.laid k hp new)
theorem Inv.write {x e:Addr} {o:HO} {t':Nat} (I:Inv X pins σ H s) (mu:qu (H x)) (he:e=x\/H e=some (.own x)) (k:∀ b u,b≠e->s.heap.get? b=some u->h'.get? b=some u) (heo:∃ u,h'.get? e=some u)
  (new:ObjOk X.prog X.w (upd H x o) h' x o):Inv X pins σ (upd H x o) { s with heap:=h',toks:=t' }:=I.un (Un.write mu he k heo) (I.hok.write mu he k heo new)
theorem Inv.pins_of {pins':List (Addr×Obj)} (I:Inv X pins σ H s) (h:∀ p∈pins',s.heap.get? p.1=some p.2/\H p.1=none/\p.1≠X.env.locals/\p.1 ∉ X.fs/\∀ v,p.2.data≠.cell v):Inv X pins' σ H s :=
 ⟨I.ok,I.os,I.bare,I.base,I.loc,I.cell,I.free,I.freeC,λp hp=>(List.mem_append.mp hp).elim (λz=>I.pin p (List.mem_append_left _ z)) (h p),I.hok,I.len⟩
theorem ZcC {N:List Str} (hN:N.Nodup) {i j:Nat} {x:Str} (a:N[i]?=some x) (b:N[j]?=some x):i=j:=by
 obtain ⟨h1,e1⟩:=List.getElem?_eq_some_iff.mp a
 obtain ⟨h2,e2⟩:=List.getElem?_eq_some_iff.mp b
 exact (List.getElem_inj hN).mp (e1.trans e2.symm)
theorem ui {M:Model} {A:Around} {E:Value->Shared->Prop} {i:Nat} {x:Str} {v:V} {u:Value} {Q:Unit->Shared->Prop} (I:Inv X pins σ H s) (hN:X.N.Nodup) (hi:X.N[i]?=some x) (hx:qv X.env.scope x) (r:RelV v u)
  (h:∀ s',Inv X pins (σ.set i (some v)) H s'->(∃ a,Heap.SameBut a s.heap s'.heap/\(a=X.env.locals\/X.env.cells.lookup x=some a))->Q () s') (hf:X.fn x=true\/X.env.scope.names.lookup x=some .local:=by first | exact .inl rfl | exact .inr rfl | assumption):wpAny M A (storeName X.env x u) Q E s:=by
 obtain ⟨m,hn,hl⟩:=id I.loc
 have hcls:(X.env.scope.kind == .class || (X.env.scope.kind == .module && X.env.locals != X.env.globals))=false:=by rw [I.ok.kind]; rfl
 have hiσ:i < σ.length:=by rw [I.len]; exact (List.getElem?_eq_some_iff.mp hi).1
 have cne:=I.cne
 have tracked:∀ {a:Addr} {h':Heap},(∃ o,s.heap.get? a=some o/\H a=none)->Heap.SameBut a s.heap h'->HOk X.prog X.w H h':=λ{a h'} ha hs b ob e=>by
  obtain ⟨_,_,hfree⟩:=ha
  refine (I.hok b ob e).stay (λc w' hc q=>(hs.2 c ?_).trans q) (λ_ q=>q) λ_ _ q=>q
  rintro rfl
  rcases hc with rfl | hc
  ·rw [hfree] at e; cases e
  ·rw [hfree] at hc; cases hc
 rcases hx with hk | hk
 ·refine wpAny_storeName_local hk hn (λh' hn' hs=>?_) hcls
  obtain ⟨oL,_,_,hoL,_⟩:=id hn
  refine h _ ⟨I.ok,I.os,I.bare,⟨λb o e n hb hx=>?_,λb o e n hb hx=>?_,I.base.free,λb o e hx=>?_,I.base.tups,I.base.frzs,I.base.tbls⟩,⟨_,hn',λj y v' e1 e2 e3=>?_⟩,λy c e=>?_,I.free,I.freeC,λp hp=>?_,tracked ⟨oL,hoL,I.free⟩ hs,by simpa using I.len⟩ ⟨_,hs,.inl rfl⟩
  ·exact (hs.2 b (Nat.ne_of_lt (Nat.lt_of_lt_of_le (Heap.lt_size e) I.ok.above))).trans (I.base.keep b o e n hb hx)
  ·obtain ⟨sl,e1⟩:=I.base.slot b o e n hb hx
   exact ⟨sl,(hs.2 b (Nat.ne_of_lt (Nat.lt_of_lt_of_le (Heap.lt_size e) I.ok.above))).trans e1⟩
  ·obtain ⟨o',e1⟩:=I.base.there b o e hx
   exact ⟨o',(hs.2 b (Nat.ne_of_lt (Nat.lt_of_lt_of_le (Heap.lt_size e) I.ok.above))).trans e1⟩
  ·by_cases hj:j=i
   ·subst hj
    rw [hi] at e1; cases e1
    rw [List.getElem?_set_self hiσ] at e2
    cases e2
    exact ⟨u,r,.inl ⟨hk,by simp⟩⟩
   ·rw [List.getElem?_set_ne (Ne.symm hj)] at e2
    obtain ⟨u',r',q⟩:=hl j y v' e1 e2 e3
    refine ⟨u',r',?_⟩
    rcases q with ⟨k,e⟩ | ⟨k,c,e,z⟩
    ·refine .inl ⟨k,?_⟩
     have:y≠x:=λe=>hj (ZcC hN e1 (e ▸ hi))
     simp [this,e]
    ·exact .inr ⟨k,c,e,z.sameBut hs (cne y c e)⟩
  ·obtain ⟨w',z⟩:=I.cell y c e
   exact ⟨w',z.sameBut hs (cne y c e)⟩
  ·obtain ⟨e,n,ne,nf,d⟩:=I.pin p hp
   exact ⟨(hs.2 p.1 ne).trans e,n,ne,nf,d⟩
 ·have hfn:X.fn x=true:=by
   rcases hf with z | z
   ·exact z
   ·rw [z] at hk; cases hk
  obtain ⟨c,hc⟩:=I.ok.has x (.inl hk)
  obtain ⟨w',z⟩:=I.cell x c hc
  refine wpAny_storeName_cell I.ok.kind hk hc z (λh' hc' hs=>?_)
  obtain ⟨oc,hoc,hocd⟩:=id z
  refine h { s with heap:=h' } ⟨I.ok,I.os,I.bare,⟨λb o e n hb hx=>?_,λb o e n hb hx=>?_,I.base.free,λb o e hx=>?_,I.base.tups,I.base.frzs,I.base.tbls⟩,⟨m,hn.sameBut hs (Ne.symm (cne x c hc)),λj y v' e1 e2 e3=>?_⟩,λy c' e=>?_,I.free,I.freeC,λp hp=>?_,tracked ⟨oc,hoc,I.freeC x c hc⟩ hs,by simpa using I.len⟩ ⟨c,hs,.inr hc⟩
  ·exact (hs.2 b (Nat.ne_of_lt (Nat.lt_of_lt_of_le (Heap.lt_size e) (I.ok.cab x c hfn hc)))).trans (I.base.keep b o e n hb hx)
  ·obtain ⟨sl,e1⟩:=I.base.slot b o e n hb hx
   exact ⟨sl,(hs.2 b (Nat.ne_of_lt (Nat.lt_of_lt_of_le (Heap.lt_size e) (I.ok.cab x c hfn hc)))).trans e1⟩
  ·obtain ⟨o',e1⟩:=I.base.there b o e hx
   exact ⟨o',(hs.2 b (Nat.ne_of_lt (Nat.lt_of_lt_of_le (Heap.lt_size e) (I.ok.cab x c hfn hc)))).trans e1⟩
  ·by_cases hj:j=i
   ·subst hj
    rw [hi] at e1; cases e1
    rw [List.getElem?_set_self hiσ] at e2
    cases e2
    exact ⟨u,r,.inr ⟨.inl hk,c,hc,hc'⟩⟩
   ·rw [List.getElem?_set_ne (Ne.symm hj)] at e2
    obtain ⟨u',r',q⟩:=hl j y v' e1 e2 e3
    refine ⟨u',r',?_⟩
    rcases q with q | ⟨k,c',e,z'⟩
    ·exact .inl q
    ·refine .inr ⟨k,c',e,z'.sameBut hs ?_⟩
     rintro rfl
     exact hj (ZcC hN e1 (I.ok.inj _ _ _ e hc ▸ hi))
  ·by_cases hcc:c'=c
   ·subst hcc; exact ⟨_,hc'⟩
   ·obtain ⟨w2,z2⟩:=I.cell y c' e
    exact ⟨w2,z2.sameBut hs hcc⟩
  ·obtain ⟨e,n,ne,nf,d⟩:=I.pin p hp
   refine ⟨(hs.2 p.1 ?_).trans e,n,ne,nf,d⟩
   intro q
   rw [q,hoc] at e
   have q':oc=p.2:=Option.some.inj e
   exact d w' (by rw [<- q']; exact hocd)
theorem oE {M:Model} {A:Around} {E:Value->Shared->Prop} {i:Nat} {x:Str} {v:V} {u:Value} {Q:Unit->Shared->Prop} (I:Inv X pins σ H s) (hN:X.N.Nodup) (hi:X.N[i]?=some x) (hx:qv X.env.scope x) (r:RelV v u)
  (h:∀ s',Inv X pins (σ.set i (some v)) H s'->Q () s') (hf:X.fn x=true\/X.env.scope.names.lookup x=some .local:=by first | exact .inl rfl | exact .inr rfl | assumption):wpAny M A (storeName X.env x u) Q E s :=
 ui I hN hi hx r (λs' I' _=>h s' I') hf
theorem Inv.call' {s':Shared} {ch:List Addr} (I:Inv X pins σ H s) (ho:s'.os=s.os) (u:Un (frs X.stack) ch H H' s.heap s'.heap) (hok:HOk X.prog X.w H' s'.heap) (hg:AllBare s'.gens)
  (hch:∀ b∈ch,(b∈X.ex\/X.s₀.heap.objs.size<=b)/\b≠X.env.locals/\(∀ x c,X.env.cells.lookup x=some c->c≠b)/\∀ p∈X.pn++pins,p.1≠b):Inv X pins σ H' s':=by
 obtain ⟨h',g',d',t',o'⟩:=s'
 have e:o'=s.os:=ho
 subst e
 exact I.call (g':=g') (t':=t') (d':=d') u hok hg hch
end
noncomputable abbrev XK:=Value->Option Addr->Hp->Prop
noncomputable abbrev St:=List (Option V)
noncomputable abbrev VK:=V->Hp->Prop
noncomputable abbrev TE:=St->Hp->VK->Prop
noncomputable abbrev TT:=St->Hp->(Bool->Hp->Prop)->Prop
noncomputable abbrev TA:=St->Hp->(List V->Hp->Prop)->Prop
structure Ends where
 nx:St->Hp->Prop
 rt:VK
 bk:St->Hp->Prop:=λ_ _=>False
 ct:St->Hp->Prop:=λ_ _=>False
noncomputable abbrev TS:=Ends->St->Hp->Prop
noncomputable def EP (X:Cx) (pins:List (Addr×Obj)) (σ:St) (Q:VK) (u:Value) (s':Shared):Prop:=∃ v H',Inv X pins σ H' s'/\RelV v u/\Q v H'
noncomputable def TP (X:Cx) (pins:List (Addr×Obj)) (σ:St) (Q:Bool->Hp->Prop) (b:Bool) (s':Shared):Prop:=∃ H',Inv X pins σ H' s'/\Q b H'
noncomputable def AP (X:Cx) (pins:List (Addr×Obj)) (σ:St) (Q:List V->Hp->Prop) (us:List Value) (s':Shared):Prop:=∃ vs H',Inv X pins σ H' s'/\Vals vs us/\Q vs H'
noncomputable def SP (X:Cx) (pins:List (Addr×Obj)) (D:Ends) (f:Flow) (s':Shared):Prop :=
 match f with
 | .next=>∃ σ' H',Inv X pins σ' H' s'/\D.nx σ' H'
 | .brk=>∃ σ' H',Inv X pins σ' H' s'/\D.bk σ' H'
 | .cont=>∃ σ' H',Inv X pins σ' H' s'/\D.ct σ' H'
 | .ret u=>∃ v σ' H',Inv X pins σ' H' s'/\RelV v u/\D.rt v H'
noncomputable def PE (X:Cx) (e:Expr) (t:TE):Prop :=
 ∀ (pins:List (Addr×Obj)) (s:Shared) (σ:St) (H:Hp) (Q:VK),Inv X pins σ H s->t σ H Q->wpAny (model X.prog X.w) X.A (eval e X.env) (EP X pins σ Q) X.xe s
noncomputable def PT (X:Cx) (e:Expr) (t:TT):Prop :=
 ∀ (pins:List (Addr×Obj)) (s:Shared) (σ:St) (H:Hp) (Q:Bool->Hp->Prop),Inv X pins σ H s->t σ H Q->wpAny (model X.prog X.w) X.A (isTrue e X.env (eval e X.env)) (TP X pins σ Q) X.xe s
noncomputable def PW (X:Cx) (e:Expr) (t:TT):Prop :=
 ∀ (whole:Sem Value) (pins:List (Addr×Obj)) (s:Shared) (σ:St) (H:Hp) (Q:Bool->Hp->Prop),Inv X pins σ H s->t σ H Q->wpAny (model X.prog X.w) X.A (isTrue e X.env whole) (TP X pins σ Q) X.xe s
theorem PW.pt {X:Cx} {e:Expr} {t:TT} (h:PW X e t):PT X e t:=h _
noncomputable def PA (X:Cx) (es:List Expr) (t:TA):Prop :=
 ∀ (pos:Pos) (pins:List (Addr×Obj)) (s:Shared) (σ:St) (H:Hp) (Q:List V->Hp->Prop),Inv X pins σ H s->t σ H Q->wpAny (model X.prog X.w) X.A (spliced (backTo pos (starEach es X.env))) (AP X pins σ Q) X.xe s
noncomputable def PS (X:Cx) (st:Stmt) (t:TS):Prop :=
 ∀ (pins:List (Addr×Obj)) (s:Shared) (σ:St) (H:Hp) (D:Ends),Inv X pins σ H s->t D σ H->wpAny (model X.prog X.w) X.A (exec st X.env) (SP X pins D) X.xe s
noncomputable def PSs (X:Cx) (st:List Stmt) (t:TS):Prop :=
 ∀ (pins:List (Addr×Obj)) (s:Shared) (σ:St) (H:Hp) (D:Ends),Inv X pins σ H s->t D σ H->wpAny (model X.prog X.w) X.A (execs st X.env) (SP X pins D) X.xe s
theorem thn {α:Type} {t:Sem α} {Q Q':α->Shared->Prop} {M:Model} {A:Around} {E:Value->Shared->Prop} {s:Shared} (h:wpAny M A t Q E s) (hQ:∀ a s,Q a s->Q' a s):wpAny M A t Q' E s:=wpAny_mono h hQ λ_ _ x=>x
section
variable {X:Cx}
noncomputable def dm (i:Nat):TE:=λσ H Q=>∃ v,σ[i]?=some (some v)/\Q v H
noncomputable def tC (v:V):TE:=λ_ H Q=>Q v H
theorem ZhJ {i:Nat} {x:Str} {pos:Pos} (hN:X.N[i]?=some x) (hv:tq X.env.scope x) (hd:(x == ("__debug__":Str))=false:=by decide) (hcd:(x == ("__classdict__":Str))=false:=by decide):PE X (.Name x pos) (dm i):=by
 intro pins s σ H Q I h
 obtain ⟨v,e,h⟩:=h
 obtain ⟨m,hn,hl⟩:=I.loc
 obtain ⟨u,r,l⟩:=hl i x v hN e hv
 have fin:EP X pins σ Q u s:=⟨v,H,I,r,h⟩
 rcases l with ⟨hk,hm⟩ | ⟨hk,c,hc,hcell⟩
 ·exact wpAny_Name (wpAny_loadName_local I.ok.kind hk hn hm fin) hd
 ·rcases hk with hk | hk
  ·exact wpAny_Name (wpAny_loadName_cell I.ok.kind hk hc hcell fin) hd
  ·exact wpAny_Name (wpAny_loadName_free I.ok.kind hk hc hcell fin hcd) hd
theorem bH {i j pos}:PE X (.Constant (.int i) j pos) (tC (.int i)):=λ_ _ _ H _ I h=>wpAny_Constant_int ⟨.int i,H,I.tok _,⟨_,rfl⟩,h⟩
theorem ZhX {b j pos}:PE X (.Constant (.bool b) j pos) (tC (.bl b)):=λ_ _ _ H _ I h=>Constant_bool ⟨.bl b,H,I,rfl,h⟩
theorem ZhO {j pos}:PE X (.Constant .none j pos) (tC .non):=λ_ _ _ H _ I h=>Constant_none ⟨.non,H,I,rfl,h⟩
theorem fb {x j pos}:PE X (.Constant (.str x) j pos) (tC (.str x)):=λ_ _ _ H _ I h=>Calls.Constant_str ⟨.str x,H,I.tok _,⟨_,rfl⟩,h⟩
noncomputable def Gl (X:Cx) (x:Str):Prop:=X.env.kindOf x=some .globalImplicit
theorem Zc8 {E:Value->Shared->Prop} {pins:List (Addr×Obj)} {s:Shared} {σ:St} {H:Hp} {x:Str} {u:Value} {pos:Pos} {Q:Value->Shared->Prop} (I:Inv X pins σ H s) (hg:Gl X x) (hm:X.mg x=some u) (h:Q u s)
  (hd:(x == ("__debug__":Str))=false:=by decide):wpAny (model X.prog X.w) X.A (eval (.Name x pos) X.env) Q E s :=
 Calls.Name_function_global I.ok.kind hg (Calls.loadGlobal_global (by rw [I.ok.glob]; exact I.mod.glob.keeps I.bk) hm h) hd
theorem i8 {E:Value->Shared->Prop} {pins:List (Addr×Obj)} {s:Shared} {σ:St} {H:Hp} {x:Str} {u:Value} {pos:Pos} {Q:Value->Shared->Prop} (I:Inv X pins σ H s) (hg:Gl X x) (hm:X.mg x=none) (hv:bootBuiltins x=some u) (h:Q u s)
  (hn:x≠"__name__":=by decide) (hd:(x == ("__debug__":Str))=false:=by decide):wpAny (model X.prog X.w) X.A (eval (.Name x pos) X.env) Q E s:=by
 obtain ⟨mb,h1,h2⟩:=I.mod.blt
 exact Calls.Name_function_global I.ok.kind hg (Calls.loadGlobal_builtin (by rw [I.ok.glob]; exact I.mod.glob.keeps I.bk) hm (by rw [I.ok.blt]; exact h1.keeps I.bk) ((h2 x hn).trans hv) h) hd
theorem ZhQ {x:Str} {v:V} {u:Value} {pos:Pos} (hg:Gl X x) (hm:X.mg x=some u) (r:RelV v u) (hd:(x == ("__debug__":Str))=false:=by decide):PE X (.Name x pos) (tC v) :=
 λ_ _ _ H _ I h=>Zc8 I hg hm ⟨v,H,I,r,h⟩ hd
theorem uZ {x:Str} {v:V} {u:Value} {pos:Pos} (hg:Gl X x) (hm:X.mg x=none) (hv:bootBuiltins x=some u) (r:RelV v u) (hn:x≠"__name__":=by decide) (hd:(x == ("__debug__":Str))=false:=by decide):PE X (.Name x pos) (tC v) :=
 λ_ _ _ H _ I h=>i8 I hg hm hv ⟨v,H,I,r,h⟩ hn hd
variable {a b:Expr} {ta tb:TE} {pos:Pos}
noncomputable def PC (X:Cx) (op:CmpOp) (a b:Expr) (t:TE):Prop :=
 ∀ (pins:List (Addr×Obj)) (s:Shared) (σ:St) (H:Hp) (Q:VK),Inv X pins σ H s->t σ H Q ->
  wpAny (model X.prog X.w) X.A (eval a X.env) (λv s₁=>wpAny (model X.prog X.w) X.A (eval b X.env) (λu s₂=>wpAny (model X.prog X.w) X.A (compareOp op v u) (EP X pins σ Q) X.xe s₂) X.xe s₁) X.xe s
noncomputable def tB (t:TE):TT:=λσ H Q=>t σ H λx H1=>∃ c,x=.bl c/\Q c H1
theorem Zhm {op:CmpOp} {t:TE} (h:PC X op a b t) (h1:behindInMarks op b=false:=by first | exact nobehind _ (by decide) (by decide) | rfl):PT X (.Compare a [op] [b] pos) (tB t):=by
 intro pins s σ H Q I hw
 refine wpAny_isTrue_Compare1 (thn (h pins s σ H _ I hw) λv s1 h1=>thn h1 λu s2 h2=>thn h2 λc s3 hz0=>?_) h1
 obtain ⟨x,H1,I1,r1,q1⟩:=hz0
 obtain ⟨d,rfl,q⟩:=q1
 cases r1
 exact wpAny_truthy_bool ⟨H1,I1,q⟩
variable {tA tB':TT} {rest:List Expr}
noncomputable def Zgn (t u:TT):TT:=λσ H Q=>t σ H λc H1=>if c=true then u σ H1 Q else Q false H1
noncomputable def tOr (t u:TT):TT:=λσ H Q=>t σ H λc H1=>if c=true then Q true H1 else u σ H1 Q
noncomputable def Zgd (t:TT):TT:=λσ H Q=>t σ H λc H1=>Q (!c) H1
theorem Zcf (ha:PT X a tA):PW X (.BoolOp .And [a] pos) tA:=by
 intro wh pins s σ H Q I h
 refine isTrue_and (thn (ha pins s σ H Q I h) λc s1 e=>?_)
 cases c with
 | true=>exact isTrue_and_nil e
 | false=>exact e
theorem Zhh (ha:PT X a tA):PW X (.BoolOp .Or [a] pos) tA:=by
 intro wh pins s σ H Q I h
 refine isTrue_or (thn (ha pins s σ H Q I h) λc s1 e=>?_)
 cases c with
 | false=>exact isTrue_or_nil e
 | true=>exact e
theorem Zcg (ha:PT X a tA) (hb:PW X (.BoolOp .And (b::rest) pos) tB'):PW X (.BoolOp .And (a::b::rest) pos) (Zgn tA tB'):=by
 intro wh pins s σ H Q I h
 refine isTrue_and (thn (ha pins s σ H _ I h) λc s1 hz0=>?_)
 obtain ⟨H1,I1,q1⟩:=hz0
 cases c with
 | true=>exact hb wh pins s1 σ H1 Q I1 q1
 | false=>exact ⟨H1,I1,q1⟩
theorem Zhi (ha:PT X a tA) (hb:PW X (.BoolOp .Or (b::rest) pos) tB'):PW X (.BoolOp .Or (a::b::rest) pos) (tOr tA tB'):=by
 intro wh pins s σ H Q I h
 refine isTrue_or (thn (ha pins s σ H _ I h) λc s1 hz0=>?_)
 obtain ⟨H1,I1,q1⟩:=hz0
 cases c with
 | true=>exact ⟨H1,I1,q1⟩
 | false=>exact hb wh pins s1 σ H1 Q I1 q1
theorem Zhl (ha:PT X a tA):PT X (.UnaryOp .Not a pos) (Zgd tA):=by
 intro pins s σ H Q I h
 exact isTrue_not (ha pins s σ H (λc H1=>Q (!c) H1) I h)
noncomputable def Zgm (ta tb:TE):TE:=λσ H Q=>ta σ H λx H1=>∃ c,x=.bl c/\if c=true then tb σ H1 Q else Q (.bl false) H1
theorem ZhN {op} {t:TE} (h:PE X a t):PE X (.BoolOp op [a] pos) t:=λpins s σ H Q I hw=>BoolOp_one (h pins s σ H Q I hw)
theorem ZhY (ha:PE X a ta) (hb:PE X (.BoolOp .And (b::rest) pos) tb):PE X (.BoolOp .And (a::b::rest) pos) (Zgm ta tb):=by
 intro pins s σ H Q I h
 refine BoolOp_and (thn (ha pins s σ H _ I h) λv s1 hz0=>?_)
 obtain ⟨x,H1,I1,r1,q1⟩:=hz0
 obtain ⟨c,rfl,q1⟩:=q1
 cases r1
 refine wpAny_truthy_bool ?_
 cases c with
 | true=>exact hb pins s1 σ H1 Q I1 q1
 | false=>exact ⟨.bl false,H1,I1,rfl,q1⟩
noncomputable def tIf (t:TT) (ta tb:TE):TE:=λσ H Q=>t σ H λc H1=>if c=true then ta σ H1 Q else tb σ H1 Q
theorem ZhP {c:Expr} (hc:PT X c tA) (ha:PE X a ta) (hb:PE X b tb):PE X (.IfExp c a b pos) (tIf tA ta tb):=by
 intro pins s σ H Q I h
 refine wpAny_IfExp (thn (hc pins s σ H _ I h) λd s1 hz0=>?_)
 obtain ⟨H1,I1,q1⟩:=hz0
 cases d with
 | true=>exact ha pins s1 σ H1 Q I1 q1
 | false=>exact hb pins s1 σ H1 Q I1 q1
end
noncomputable def SqL (K:PySem.W.Frag) (H:Hp) (a:Addr) (xs:List V):Prop :=
 Rd H a (.lst xs) \/
  ∃ (o:Obj) (its:Array Value) (n:Nat),K.lookup a=some o/\o.cls=.type "list"/\o.dict=none/\o.data=.seq its n/\its.size<=sizeLine/\Vals xs its.toList
noncomputable def SqT (K:PySem.W.Frag) (H:Hp) (a:Addr) (xs:List V):Prop :=
 Rd H a (.tup xs) \/
  ∃ (o:Obj) (its:Array Value) (n:Nat),K.lookup a=some o/\o.cls=.type "tuple"/\o.data=.seq its n/\its.size<=sizeLine/\Vals xs its.toList
noncomputable def Zmz:Value->Option V
 | .none=>some .non
 | .bool b=>some (.bl b)
 | .int i _=>some (.int i)
 | .str x _=>some (.str x)
 | .bytes b _=>some (.byt b)
 | .float b _=>some (.flt b)
 | .ref a=>some (.ref a)
 | .type n=>some (.ty n)
 | _=>none
theorem RelV.abs {x:V} {u:Value} (r:RelV x u):Zmz u=some x:=by
 cases x with
 | non=>cases r; rfl
 | bl _=>cases r; rfl
 | int _=>obtain ⟨t,rfl⟩:=r; rfl
 | str _=>obtain ⟨t,rfl⟩:=r; rfl
 | byt _=>obtain ⟨t,rfl⟩:=r; rfl
 | flt _=>obtain ⟨t,rfl⟩:=r; rfl
 | ref _=>cases r; rfl
 | ty _=>cases r; rfl
theorem RelV.inj {x y:V} {u:Value} (r:RelV x u) (q:RelV y u):x=y:=Option.some.inj (r.abs.symm.trans q.abs)
theorem Vals.inj {xs ys:List V} {us:List Value} (h:Vals xs us) (h':Vals ys us):xs=ys:=by
 induction h generalizing ys with
 | nil=>cases h'; rfl
 | cons r t ih=>cases h' with | cons r' t'=>rw [r.inj r',ih t']
section
variable {X:Cx} {pins:List (Addr×Obj)} {σ:St} {H:Hp} {s:Shared} {a:Addr} {xs ys:List V}
theorem SqL.of {K:PySem.W.Frag} (h:H a=some (.lst xs)):SqL K H a xs:=.inl (.inl h)
theorem SqT.of {K:PySem.W.Frag} (h:H a=some (.tup xs)):SqT K H a xs:=.inl (.inl h)
theorem Inv.list (I:Inv X pins σ H s) (h:SqL X.K H a xs):∃ its:List Value,Vals xs its/\PlainL s.heap a its.toArray/\xs.length<=sizeLine:=by
 rcases h with h | ⟨o,its,n,hk,hc,hd,hs,hz,r⟩
 ·obtain ⟨z,its,n,r,e⟩:=h.ok I.hok
  exact ⟨its,r,⟨_,n,e,rfl,rfl,rfl⟩,z⟩
 ·refine ⟨its.toList,r,⟨o,n,I.kIn a o hk,hc,hd,by simpa using hs⟩,?_⟩
  have e:=r.length
  simp only [Array.length_toList] at e
  omega
theorem Inv.tuple (I:Inv X pins σ H s) (h:SqT X.K H a xs):∃ its:List Value,Vals xs its/\IsTup s.heap a its.toArray/\xs.length<=sizeLine:=by
 rcases h with h | ⟨o,its,n,hk,hc,hs,hz,r⟩
 ·obtain ⟨z,its,r,p⟩:=h.ok I.hok
  exact ⟨its,r,p,z⟩
 ·refine ⟨its.toList,r,⟨o,I.kIn a o hk,hc,n,by simpa using hs⟩,?_⟩
  have e:=r.length
  simp only [Array.length_toList] at e
  omega
theorem Inv.list_inj (I:Inv X pins σ H s) (h:SqL X.K H a xs) (h':SqL X.K H a ys):xs=ys:=by
 obtain ⟨its,r,⟨o,n,e,_,_,d⟩,_⟩:=I.list h
 obtain ⟨its',r',⟨o',n',e',_,_,d'⟩,_⟩:=I.list h'
 rw [e] at e'; cases e'
 rw [d] at d'
 injection d' with d1 _
 have:its=its':=by simpa using congrArg Array.toList d1
 subst this
 exact r.inj r'
theorem Inv.tuple_inj (I:Inv X pins σ H s) (h:SqT X.K H a xs) (h':SqT X.K H a ys):xs=ys:=by
 obtain ⟨its,r,⟨o,e,_,n,d⟩,_⟩:=I.tuple h
 obtain ⟨its',r',⟨o',e',_,n',d'⟩,_⟩:=I.tuple h'
 rw [e] at e'; cases e'
 rw [d] at d'
 injection d' with d1 _
 have:its=its':=by simpa using congrArg Array.toList d1
 subst this
 exact r.inj r'
end
noncomputable abbrev Cx.wish (X:Cx) (E:Value->Shared->Prop):Cx:={ X with xe:=E }
noncomputable abbrev Cx.nox (X:Cx):Cx:=X.wish λ_ _=>False
theorem Cx.Ok.wish {X:Cx} (ok:X.Ok) (E:Value->Shared->Prop):(X.wish E).Ok :=
 ⟨ok.mod,ok.kind,ok.glob,ok.blt,ok.above,ok.inj,ok.has,ok.cab,ok.hd,ok.frames,ok.stk,ok.exf,ok.bs,ok.bsz,ok.noex,ok.exfs,ok.funs,ok.frf⟩
theorem Cx.Ok.unwish {X:Cx} {E:Value->Shared->Prop} (ok:(X.wish E).Ok):X.Ok :=
 ⟨ok.mod,ok.kind,ok.glob,ok.blt,ok.above,ok.inj,ok.has,ok.cab,ok.hd,ok.frames,ok.stk,ok.exf,ok.bs,ok.bsz,ok.noex,ok.exfs,ok.funs,ok.frf⟩
section
variable {X:Cx} {pins:List (Addr×Obj)} {σ:St} {H:Hp} {s:Shared} {E:Value->Shared->Prop}
theorem Inv.wish (I:Inv X pins σ H s) (E:Value->Shared->Prop):Inv (X.wish E) pins σ H s:=⟨I.ok.wish E,I.os,I.bare,I.base,I.loc,I.cell,I.free,I.freeC,I.pin,I.hok,I.len⟩
theorem Inv.unwish (I:Inv (X.wish E) pins σ H s):Inv X pins σ H s:=⟨I.ok.unwish,I.os,I.bare,I.base,I.loc,I.cell,I.free,I.freeC,I.pin,I.hok,I.len⟩
theorem SP.unwish {D:Ends} {f:Flow} {s':Shared} (h:SP (X.wish E) pins D f s'):SP X pins D f s':=by
 cases f with
 | next=>obtain ⟨σ',H',I,q⟩:=h; exact ⟨σ',H',I.unwish,q⟩
 | brk=>obtain ⟨σ',H',I,q⟩:=h; exact ⟨σ',H',I.unwish,q⟩
 | cont=>obtain ⟨σ',H',I,q⟩:=h; exact ⟨σ',H',I.unwish,q⟩
 | ret u=>obtain ⟨v,σ',H',I,r,q⟩:=h; exact ⟨v,σ',H',I.unwish,r,q⟩
theorem PSs.nox {st:List Stmt} {t:TS} (h:PSs X.nox st t):PSs X st t:=λpins s σ H D I hw =>
 wpAny_mono (h pins s σ H D (I.wish _) hw) (λ_ _ q=>q.unwish) λ_ _ z=>False.elim z
end
section
variable {X:Cx} {st:Stmt} {rest:List Stmt} {t u:TS} {e:Expr} {te:TE} {pos:Pos}
noncomputable def ZaB:TS:=λD σ H=>D.nx σ H
noncomputable def iw (t u:TS):TS:=λD σ H=>t { D with nx:=u D } σ H
theorem oZ:PSs X [] ZaB:=λ_ _ σ H _ I h=>wpAny_execs_nil ⟨σ,H,I,h⟩
theorem cK (h1:PS X st t) (h2:PSs X rest u):PSs X (st::rest) (iw t u):=by
 intro pins s σ H D I h
 refine wpAny_execs_cons (thn (h1 pins s σ H { D with nx:=u D } I h) λf s1 q=>?_)
 cases f with
 | next =>
  obtain ⟨σ',H',I',q⟩:=q
  exact h2 pins s1 σ' H' D I' q
 | ret v=>exact q
 | brk=>exact q
 | cont=>exact q
theorem gT (h1:PS X st t):PSs X [st] t:=by
 intro pins s σ H D I h
 refine wpAny_execs_cons (thn (h1 pins s σ H D I h) λf s1 q=>?_)
 cases f with
 | next=>exact wpAny_execs_nil q
 | ret v=>exact q
 | brk=>exact q
 | cont=>exact q
theorem Inv.quiet {pins:List (Addr×Obj)} {σ:St} {H:Hp} {s:Shared} (I:Inv X pins σ H s):interactive X.env=false:=by simp [interactive,I.ok.kind]
noncomputable def t6 (te:TE):TS:=λD σ H=>te σ H λ_ H1=>D.nx σ H1
theorem fF (he:PE X e te) (hs:swapsWith e none pos.line X.env=pure false:=by rfl):PS X (.Expr e pos) (t6 te):=by
 intro pins s σ H D I h
 exact wpAny_Expr_any (thn (he pins s σ H _ I h) λv s1 ⟨x,H1,I1,r1,q1⟩=>⟨σ,H1,I1,q1⟩) I.quiet hs
noncomputable def Zaz (te:TE):TS:=λD σ H=>te σ H D.rt
theorem fZ (he:PE X e te):PS X (.Return (some e) pos) (Zaz te):=by
 intro pins s σ H D I h
 exact wpAny_Return_some (thn (he pins s σ H _ I h) λv s1 ⟨x,H1,I1,r1,q1⟩=>⟨x,σ,H1,I1,r1,q1⟩)
noncomputable def ZaC (c:TT) (t u:TS):TS:=λD σ H=>c σ H λb H1=>if b=true then t D σ H1 else u D σ H1
theorem o0 {c:Expr} {a b:List Stmt} {tc:TT} (hc:PT X c tc) (ha:PSs X a t) (hb:PSs X b u):PS X (.If c a b pos) (ZaC tc t u):=by
 intro pins s σ H D I h
 refine wpAny_If (thn (hc pins s σ H _ I h) λd s1 hz0=>?_)
 obtain ⟨H1,I1,q1⟩:=hz0
 cases d with
 | true=>exact ha pins s1 σ H1 D I1 q1
 | false=>exact hb pins s1 σ H1 D I1 q1
end
noncomputable abbrev TG:=V->St->Hp->(St->Hp->Prop)->Prop
noncomputable abbrev fv:=List V->St->Hp->(St->Hp->Prop)->Prop
noncomputable def PG (X:Cx) (target:Expr) (t:TG):Prop :=
 ∀ (pins:List (Addr×Obj)) (s:Shared) (σ:St) (H:Hp) (v:V) (u:Value) (Q:St->Hp->Prop),Inv X pins σ H s->RelV v u->t v σ H Q ->
  wpAny (model X.prog X.w) X.A (assign target X.env u) (λ_ s'=>∃ σ' H',Inv X pins σ' H' s'/\Q σ' H') X.xe s
noncomputable def PGs (X:Cx) (ts:List Expr) (t:fv):Prop :=
 ∀ (pins:List (Addr×Obj)) (s:Shared) (σ:St) (H:Hp) (vs:List V) (us:List Value) (Q:St->Hp->Prop),Inv X pins σ H s->Vals vs us->t vs σ H Q ->
  wpAny (model X.prog X.w) X.A (assignInOrder ((assignEach ts X.env).map (·.2)) us) (λ_ s'=>∃ σ' H',Inv X pins σ' H' s'/\Q σ' H') X.xe s
noncomputable abbrev ql:=V->V->V->Hp->(Hp->Prop)->Prop
noncomputable def xa (X:Cx) (t:ql):Prop :=
 ∀ (pins:List (Addr×Obj)) (s:Shared) (σ:St) (H:Hp) (o i v:V) (ov iv u:Value) (Q:Hp->Prop),Inv X pins σ H s->RelV o ov->RelV i iv->RelV v u->t o i v H Q ->
  wpAny (model X.prog X.w) X.A (setItem ov iv u) (λ_ s'=>∃ H',Inv X pins σ H' s'/\Q H') X.xe s
noncomputable abbrev ow:=V->V->Hp->VK->Prop
noncomputable def tD (X:Cx) (op:Operator) (t:ow):Prop :=
 ∀ (pins:List (Addr×Obj)) (s:Shared) (σ:St) (H:Hp) (x y:V) (v u:Value) (Q:VK),Inv X pins σ H s->RelV x v->RelV y u->t x y H Q ->
  wpAny (model X.prog X.w) X.A (inplaceOp op v u) (EP X pins σ Q) X.xe s
section
variable {X:Cx} {pos:Pos}
noncomputable def fi (i:Nat):TG:=λv σ H Q=>Q (σ.set i (some v)) H
theorem aT {i:Nat} {x:Str} (hN:X.N.Nodup) (hi:X.N[i]?=some x) (hx:qv X.env.scope x) (hf:X.fn x=true\/X.env.scope.names.lookup x=some .local:=by first | exact .inl rfl | exact .inr rfl | assumption):PG X (.Name x pos) (fi i):=by
 intro pins s σ H v u Q I r h
 exact wpAny_assign_Name (oE I hN hi hx r (λs' I'=>⟨_,H,I',h⟩) hf)
noncomputable def ZjS:fv:=λvs σ H Q=>vs=[]/\Q σ H
noncomputable def ZjU (t:TG) (u:fv):fv:=λvs σ H Q=>∃ v r,vs=v::r/\t v σ H λσ' H'=>u r σ' H' Q
theorem ZhC:PGs X [] ZjS:=by
 intro pins s σ H vs us Q I r h
 obtain ⟨e,h⟩:=h
 subst e
 cases r
 exact assignInOrder_nil ⟨σ,H,I,h⟩
theorem ZhD {e:Expr} {es:List Expr} {t:TG} {u:fv} (h1:PG X e t) (h2:PGs X es u)
  (hs:(assignEach (e::es) X.env).map (·.2)=assign e X.env::(assignEach es X.env).map (·.2):=by rfl):PGs X (e::es) (ZjU t u):=by
 intro pins s σ H vs us Q I r h
 obtain ⟨v,vr,e1,h⟩:=h
 subst e1
 cases r with
 | cons r rr =>
  rw [hs]
  refine assignInOrder_cons (thn (h1 pins s σ H _ _ _ I r h) λ_ s1 hz0=>?_)
  obtain ⟨σ1,H1,I1,q1⟩:=hz0
  exact h2 pins s1 σ1 H1 _ _ Q I1 rr q1
noncomputable def ZjR (K:PySem.W.Frag) (n:Nat) (t:fv):TG:=λv σ H Q=>∃ a xs,v=.ref a/\SqT K H a xs/\xs.length=n/\t xs σ H Q
theorem ZhE {es:List Expr} {k:Nat} {t:fv} {n:Nat} (hc:X.calm=true) (h:PGs X es t)
  (hn:(assignEach es X.env).length=n:=by rfl) (hst:(assignEach es X.env).findIdx? (·.1)=none:=by rfl):PG X (.Tuple es k pos) (ZjR X.K n t):=by
 intro pins s σ H v u Q I r hw
 obtain ⟨a,xs,e1,hq,hl,hw⟩:=hw
 subst e1
 cases r
 obtain ⟨its,rv,ht,hz⟩:=I.tuple hq
 refine assign_Tuple_tuple (I.ok.hd hc) ht (by simp [hn,<- hl,rv.length]) hst λh' hx=>?_
 have I1:Inv X pins σ H { s with heap:=h' }:=I.kept (t':=s.toks) λb o e=>hx b o (Nat.ne_of_lt (Heap.lt_size e)) e
 exact h pins _ σ H xs _ Q I1 (by simpa using rv) hw
noncomputable def ZdF (to ti:TE) (t:ql):TG:=λv σ H Q=>to σ H λo H1=>ti σ H1 λi H2=>t o i v H2 λH3=>Q σ H3
theorem Zcm {o i:Expr} {to ti:TE} {t:ql} (ho:PE X o to) (hi:PE X i ti) (hs:xa X t)
  (ha:∀ v,assign (.Subscript o i pos) X.env v=(do
   let ov <- holding [v] (eval o X.env)
   let iv <- holding [v,ov] (eval i X.env)
   standAt pos
   holding [v,ov,iv] (setItem ov iv v)
   release [v,ov,iv] []):=by intro _; rfl):PG X (.Subscript o i pos) (ZdF to ti t):=by
 intro pins s σ H v u Q I r h
 rw [ha]
 refine wpAny_bind (wpAny_holding (thn (ho pins s σ H _ I h) λov s1 hz0=>?_))
 obtain ⟨x,H1,I1,r1,q1⟩:=hz0
 refine wpAny_bind (wpAny_holding (thn (hi pins s1 σ H1 _ I1 q1) λiv s2 hz0=>?_))
 obtain ⟨y,H2,I2,r2,q2⟩:=hz0
 refine wpAny_bind (wpAny_standAt (wpAny_bind (wpAny_holding (thn (hs pins s2 σ H2 x y v ov iv u _ I2 r1 r2 r q2) λ_ s3 hz0=>?_))))
 obtain ⟨H3,I3,q3⟩:=hz0
 exact wpAny_release ⟨σ,H3,I3,q3⟩
noncomputable def eK (te:TE) (g:TG):TS:=λD σ H=>te σ H λx H1=>g x σ H1 D.nx
theorem iL {tg e:Expr} {te:TE} {g:TG} (he:PE X e te) (hg:PG X tg g) (hs:swapsWithSole [tg] e pos.line X.env=pure false:=by rfl) (hw:swappedStores [tg] e X.env=pure none:=by rfl)
  (h1:(assignEach [tg] X.env).map (·.2)=[assign tg X.env]:=by rfl):PS X (.Assign [tg] e pos) (eK te g):=by
 intro pins s σ H D I h
 refine wpAny_Assign_stores (thn (he pins s σ H _ I h) λv s1 hz0=>?_) hs hw
 obtain ⟨x,H1,I1,r1,q1⟩:=hz0
 rw [h1]
 exact thn (hg pins s1 σ H1 x v _ I1 r1 q1) λ_ s2 q=>q
theorem aG {i:Nat} {x:Str} {e:Expr} {te:TE} {pos':Pos} (hN:X.N.Nodup) (hi:X.N[i]?=some x) (hx:qv X.env.scope x) (he:PE X e te) (hs:swapsWith e (some (.Name x pos')) pos.line X.env=pure false:=by rfl) (hf:X.fn x=true\/X.env.scope.names.lookup x=some .local:=by first | exact .inl rfl | exact .inr rfl | assumption) :
  PS X (.Assign [.Name x pos'] e pos) (eK te (fi i)):=by
 intro pins s σ H D I h
 refine wpAny_Assign_Name (thn (he pins s σ H _ I h) λv s1 hz0=>?_) hs
 obtain ⟨y,H1,I1,r1,q1⟩:=hz0
 exact oE I1 hN hi hx r1 (λs2 I2=>⟨_,H1,I2,q1⟩) hf
noncomputable def ZaA (i j:Nat) (ta:TA):TS:=λD σ H=>ta σ H λvs H1=>∃ v w,vs=[v,w]/\D.nx ((σ.set i (some v)).set j (some w)) H1
theorem qV {i j:Nat} {x y:Str} {a b:Expr} {ta:TA} {px py pt:Pos} {kt k2 pt2} (hc:X.calm=true) (hN:X.N.Nodup) (hi:X.N[i]?=some x) (hj:X.N[j]?=some y) (hij:i≠j)
  (hx:X.env.scope.names.lookup x=some .local) (hy:X.env.scope.names.lookup y=some .local) (ha:PA X [a,b] ta)
  (hw:swappedStores [.Tuple [.Name x px,.Name y py] kt pt] (.Tuple [a,b] k2 pt2) X.env=pure (some [x,y]))
  (hs:swapsWithSole [.Tuple [.Name x px,.Name y py] kt pt] (.Tuple [a,b] k2 pt2) pos.line X.env=pure false:=by rfl) :
  PS X (.Assign [.Tuple [.Name x px,.Name y py] kt pt] (.Tuple [a,b] k2 pt2) pos) (ZaA i j ta):=by
 intro pins s σ H D I h
 rw [exec_Assign_arm]
 refine wpAny_bind (wpAny_standAt ?_)
 rw [hs]
 refine wpAny_bind (wpAny_pure ?_)
 rw [if_neg (by decide)]
 refine wpAny_bind (Tuple_ (thn (ha _ pins s σ H _ I h) λus s1 hz0=>?_))
 obtain ⟨vs,H1,I1,r1,q1⟩:=hz0
 obtain ⟨v,w,e1,q1⟩:=q1
 subst e1
 obtain ⟨u1,u2,rfl,rv,rw'⟩:∃ u1 u2,us=[u1,u2]/\RelV v u1/\RelV w u2:=by
  cases r1 with
  | cons p q =>
   cases q with
   | cons p' q' =>
    cases q'
    exact ⟨_,_,rfl,p,p'⟩
 refine wpAny_newObj_type ?_ (by show 2<=sizeLine; decide)
 have I2:Inv X pins σ H1 { s1 with heap:=s1.heap.push { cls:=.type "tuple",data:=.seq [u1,u2].toArray } }:=I1.kept (t':=s1.toks) λb o e=>Heap.get?_push_of_some _ e
 rw [hw]
 refine wpAny_bind (wpAny_pure ?_)
 show wpAny (model X.prog X.w) X.A (do rule "assign.swapped-stores"; let items <- unpackItems (.ref s1.heap.objs.size) 2 none; assignInOrder [λv=>bindName X.env y v,λv=>bindName X.env x v] items.reverse; pure Flow.next) _ _ _
 refine wpAny_bind (wpAny_rule (wpAny_bind (unpackItems_tuple (items:=#[u1,u2]) (I.ok.hd hc) (IsTup.new s1.heap _) λh' hx'=>?_)))
 have I3:=I2.kept (h':=h') (t':=s1.toks) λb o e=>hx' b o (Nat.ne_of_lt (Heap.lt_size e)) e
 show wpAny _ _ (assignInOrder [λv=>bindName X.env y v,λv=>bindName X.env x v] [u2,u1] >>= λ_=>pure Flow.next) _ _ _
 refine wpAny_bind (assignInOrder_cons (wpAny_bindName (oE I3 hN hj (.inl hy) rw' (λs2 I4=>?_) (.inr hy))))
 refine assignInOrder_cons (wpAny_bindName (oE I4 hN hi (.inl hx) rv (λs3 I5=>assignInOrder_nil (wpAny_pure ?_)) (.inr hx)))
 rw [List.set_comm _ _ (Ne.symm hij)] at I5
 exact ⟨_,H1,I5,q1⟩
noncomputable def ZaI (i:Nat) (te:TE) (ti:ow):TS:=λD σ H=>∃ x,σ[i]?=some (some x)/\te σ H λy H1=>ti x y H1 λz H2=>D.nx (σ.set i (some z)) H2
theorem Zch {i:Nat} {x:Str} {e:Expr} {te:TE} {op:Operator} {ti:ow} {pos':Pos} (hN:X.N.Nodup) (hi:X.N[i]?=some x) (hx:qv X.env.scope x) (he:PE X e te) (ho:tD X op ti) (hf:X.fn x=true\/X.env.scope.names.lookup x=some .local:=by first | exact .inl rfl | exact .inr rfl | assumption) :
  PS X (.AugAssign (.Name x pos') op e pos) (ZaI i te ti):=by
 intro pins s σ H D I h
 obtain ⟨v,e1,h⟩:=h
 obtain ⟨m,hn,hl⟩:=I.loc
 have vis:tq X.env.scope x:=by rcases hx with k | k; exact .inl k; exact .inr (.inl k)
 obtain ⟨u,r,l⟩:=hl i x v hi e1 vis
 refine wpAny_AugAssign_Name ?_
 have go:wpAny (model X.prog X.w) X.A (eval e X.env) (λw s₂=>wpAny (model X.prog X.w) X.A (inplaceOp op u w) (λr s₃=>wpAny (model X.prog X.w) X.A (storeName X.env x r) (λ_=>SP X pins D .next) X.xe s₃) X.xe s₂) X.xe s:=by
  refine thn (he pins s σ H _ I h) λw s1 hz0=>?_
  obtain ⟨y,H1,I1,r1,q1⟩:=hz0
  refine thn (ho pins s1 σ H1 v y u w _ I1 r r1 q1) λz s2 hz0=>?_
  obtain ⟨zv,H2,I2,r2,q2⟩:=hz0
  exact oE I2 hN hi hx r2 (λs3 I3=>⟨_,H2,I3,q2⟩) hf
 rcases l with ⟨hk,hm⟩ | ⟨hk,c,hc,hcell⟩
 ·exact wpAny_loadName_local I.ok.kind hk hn hm go
 ·rcases hk with hk | hk
  ·exact wpAny_loadName_cell I.ok.kind hk hc hcell go
  ·rcases hx with k | k
   ·have:X.env.scope.names.lookup x=some .free:=hk
    rw [k] at this; cases this
   ·have:X.env.scope.names.lookup x=some .free:=hk
    rw [k] at this; cases this
noncomputable def ZaH (to ti te:TE) (tget:V->V->Hp->VK->Prop) (tip:ow) (tset:ql):TS:=λD σ H=>to σ H λo H1=>ti σ H1 λi H2=>tget o i H2 λx H3=>te σ H3 λy H4=>tip x y H4 λz H5=>tset o i z H5 λH6=>D.nx σ H6
noncomputable def Zfx (X:Cx) (t:V->V->Hp->VK->Prop):Prop :=
 ∀ (pins:List (Addr×Obj)) (s:Shared) (σ:St) (H:Hp) (o i:V) (ov iv:Value) (Q:VK),Inv X pins σ H s->RelV o ov->RelV i iv->t o i H Q ->
  wpAny (model X.prog X.w) X.A (getItem ov iv) (EP X pins σ Q) X.xe s
theorem Zhs {o i e:Expr} {to ti te:TE} {tget:V->V->Hp->VK->Prop} {tip:ow} {tset:ql} {op:Operator} {tpos:Pos} (ho:PE X o to) (hi:PE X i ti) (hg:Zfx X tget) (he:PE X e te) (hp:tD X op tip) (hs:xa X tset)
  (ha:∀ ov iv new,augStore i ov iv new=(do holding [new,ov,iv] (setItem ov iv new); release [new,ov,iv] []; pure .next):=by intros; rfl):PS X (.AugAssign (.Subscript o i tpos) op e pos) (ZaH to ti te tget tip tset):=by
 intro pins s σ H D I h
 refine wpAny_AugAssign_SubscriptAny (thn (ho pins s σ H _ I h) λov s1 hz0=>?_) ha
 obtain ⟨x1,H1,I1,r1,q1⟩:=hz0
 refine thn (hi pins s1 σ H1 _ I1 q1) λiv s2 hz0=>?_
 obtain ⟨x2,H2,I2,r2,q2⟩:=hz0
 refine thn (hg pins s2 σ H2 x1 x2 ov iv _ I2 r1 r2 q2) λold s3 hz0=>?_
 obtain ⟨x3,H3,I3,r3,q3⟩:=hz0
 refine thn (he pins s3 σ H3 _ I3 q3) λv s4 hz0=>?_
 obtain ⟨x4,H4,I4,r4,q4⟩:=hz0
 refine thn (hp pins s4 σ H4 x3 x4 old v _ I4 r3 r4 q4) λnew s5 hz0=>?_
 obtain ⟨x5,H5,I5,r5,q5⟩:=hz0
 exact thn (hs pins s5 σ H5 x1 x2 x5 ov iv new _ I5 r1 r2 r5 q5) λ_ s6 hz0=>by
  obtain ⟨H6,I6,q6⟩:=hz0
  exact ⟨σ,H6,I6,q6⟩
noncomputable def ipI (f:Int->Int->Int):ow:=λx y H Q=>∃ i j,x=.int i/\y=.int j/\Q (.int (f i j)) H
theorem Zjy:tD X .Add (ipI λi j=>i+j):=by
 intro pins s σ H x y v u Q I r1 r2 h
 obtain ⟨i,j,e1,e2,q⟩:=h
 subst e1; subst e2
 obtain ⟨t,rfl⟩:=r1
 obtain ⟨t',rfl⟩:=r2
 exact iadd_int ⟨.int _,H,I.tok _,⟨_,rfl⟩,q⟩
end
section
variable {X:Cx} {pos:Pos}
noncomputable def Zf3 (c:TT) (tb:TS):TS:=λD σ H=>∃ W:Nat->St->Hp->Prop,(∃ m,W m σ H)/\∀ m σ H,W m σ H ->
 c σ H λb H1=>if b=true then ∃ N:St->Hp->Prop,(∀ σ' H',N σ' H'->∃ m',m' < m/\W m' σ' H')/\tb { D with nx:=N,ct:=N,bk:=D.nx } σ H1 else D.nx σ H1
theorem Zho {c:Expr} {body:List Stmt} {tc:TT} {tb:TS} (hp:PassesOwn (model X.prog X.w) X.A X.env X.xe) (hc:PT X c tc) (hb:PSs X body tb):PS X (.While c body [] pos) (Zf3 tc tb):=by
 intro pins s σ H D I h
 obtain ⟨W,⟨m0,w0⟩,turn⟩:=h
 refine wpAny_While (codeAny_whileLoop (λn s'=>∃ σ' H',Inv X pins σ' H' s'/\W n σ' H') ?_ m0 ⟨σ,H,I,w0⟩)
 rintro n s1 ⟨σ1,H1,I1,w1⟩
 refine wpAny_passesOwn hp (thn (hc pins s1 σ1 H1 _ I1 (turn n σ1 H1 w1)) λb s2 hz0=>?_)
 obtain ⟨H2,I2,q2⟩:=hz0
 cases b with
 | true =>
  obtain ⟨N,hN,q2⟩:=q2
  rw [if_pos rfl]
  refine wpAny_passesOwn hp (thn (hb pins s2 σ1 H2 _ I2 q2) λf s3 q3=>?_)
  cases f with
  | next =>
   obtain ⟨σ3,H3,I3,n3⟩:=q3
   obtain ⟨m',hm,w3⟩:=hN σ3 H3 n3
   exact ⟨m',hm,σ3,H3,I3,w3⟩
  | cont =>
   obtain ⟨σ3,H3,I3,n3⟩:=q3
   obtain ⟨m',hm,w3⟩:=hN σ3 H3 n3
   exact ⟨m',hm,σ3,H3,I3,w3⟩
  | brk=>exact q3
  | ret v=>exact q3
 | false =>
  rw [if_neg Bool.false_ne_true]
  exact wpAny_execs_nil ⟨σ1,H2,I2,q2⟩
end
structure It where
 go:Nat->Hp->Prop
 yld:Nat->Hp->V->Hp->Prop
 stop:Nat->Hp->Prop
noncomputable def eY (X:Cx) (pins:List (Addr×Obj)) (H:Hp) (b:Addr):Prop :=
 H b=none/\b≠X.env.locals/\b ∉ X.fs/\(b∈X.ex\/X.s₀.heap.objs.size<=b)/\(∀ x c,X.env.cells.lookup x=some c->c≠b)/\∀ p∈X.pn++pins,p.1≠b
theorem Inv.fpOk {X:Cx} {pins:List (Addr×Obj)} {σ:St} {H H':Hp} {s:Shared} {b:Addr} (I:Inv X pins σ H s) (hb:s.heap.objs.size<=b) (hn:H' b=none):eY X pins H' b:=by
 refine ⟨hn,Nat.ne_of_gt (Nat.lt_of_lt_of_le I.lt hb),I.nofs hb,.inr (Nat.le_trans I.sz hb),λx c e z=>?_,λp hp z=>?_⟩
 ·obtain ⟨v,q⟩:=I.cell x c e
  exact absurd (Nat.lt_of_lt_of_le q.lt (by rw [z]; exact hb)) (Nat.lt_irrefl _)
 ·exact absurd (Nat.lt_of_lt_of_le (Heap.lt_size (I.pin p hp).1) (by rw [z]; exact hb)) (Nat.lt_irrefl _)
structure Turn (P:Program) (w:World) (K:PySem.W.Frag) (tg:Expr) (J:It) (fp:List Addr) (it:Addr) (tn:Nat->Heap->Prop):Prop where
 mem:it∈fp
 obj:∀ i h,tn i h->∀ b∈fp,∃ o,h.get? b=some o/\∀ v,o.data≠.cell v
 keep:∀ i h h',tn i h->(∀ b∈fp,∀ o,h.get? b=some o->h'.get? b=some o)->tn i h'
 item:∀ (X:Cx),X.prog=P->X.w=w->X.K=K->X.calm=true->∀ (i:Nat) (pins:List (Addr×Obj)) (s:Shared) (σ:St) (H:Hp) (E:Value->Shared->Prop),Inv X pins σ H s->(∀ b∈fp,eY X pins H b)->tn i s.heap->J.go i H ->
  wpAny (model P w) X.A (pyNext (.ref it)) (λr s1=>∃ u,r=some u /\
   wpAny (model P w) X.A (letOwnedTupleGo tg (.ref it) u) (λ_ s2=>∃ x H',Inv X pins σ H' s2/\RelV x u/\J.yld i H x H'/\tn (i+1) s2.heap/\∀ b∈fp,H' b=none) E s1) E s
 done:∀ (X:Cx),X.prog=P->X.w=w->X.K=K->X.calm=true->∀ (i:Nat) (pins:List (Addr×Obj)) (s:Shared) (σ:St) (H:Hp) (E:Value->Shared->Prop),Inv X pins σ H s->(∀ b∈fp,eY X pins H b)->tn i s.heap->J.stop i H ->
  wpAny (model P w) X.A (pyNext (.ref it)) (λr s1=>r=none/\Inv X pins σ H s1) E s
 self:∀ (A:Around) (i:Nat) (s:Shared) (Q:Value->Shared->Prop) (E:Value->Shared->Prop),tn i s.heap->Q (.ref it) s->wpAny (model P w) A (pyIter (.ref it)) Q E s
noncomputable abbrev TI:=St->Hp->(It->Hp->Prop)->Prop
noncomputable def qo (X:Cx) (pins:List (Addr×Obj)) (σ:St) (tg:Expr) (R:It->Hp->Prop) (itv:Value) (s2:Shared):Prop :=
 ∃ (it:Addr) (fp:List Addr) (tn:Nat->Heap->Prop) (J:It) (H':Hp),itv=.ref it/\Inv X pins σ H' s2/\Turn X.prog X.w X.K tg J fp it tn/\tn 0 s2.heap/\(∀ b∈fp,eY X pins H' b)/\R J H'
noncomputable def PI (X:Cx) (tg iter:Expr) (wi:TI):Prop :=
 ∀ (pins:List (Addr×Obj)) (s:Shared) (σ:St) (H:Hp) (R:It->Hp->Prop),Inv X pins σ H s->wi σ H R ->
  wpAny (model X.prog X.w) X.A (eval iter X.env) (λv s1=>wpAny (model X.prog X.w) X.A (pyIter v) (qo X pins σ tg R) X.xe s1) X.xe s
theorem pO {M:Model} {A:Around} {E:Value->Shared->Prop} {s:Shared} {tg:Expr} {it:Addr} {u:Value} {o:Obj} {n:String} {vs:Array Value} {Q:Unit->Shared->Prop} (ho:s.heap.get? it=some o) (hc:o.cls=.type n) (hd:o.data=.fields vs)
  (hn:["enumerate","zip","dict_itemiterator","dict_reverseitemiterator","odict_iterator","itertools.zip_longest","itertools.pairwise"].contains n=false) (hQ:Q () s):wpAny M A (letOwnedTupleGo tg (.ref it) u) Q E s:=by
 unfold letOwnedTupleGo
 cases tg <;> first
  | exact wpAny_pure hQ
  | (cases u <;> first
    | exact wpAny_pure hQ
    | (refine wpAny_bind (wpAny_load ho ?_)
       rw [hc,hd]
       show wpAny M A (if (["enumerate","zip","dict_itemiterator","dict_reverseitemiterator","odict_iterator","itertools.zip_longest","itertools.pairwise"].contains n && vs[0]? == some (rawInt _))=true then _ else _) Q E s
       rw [if_neg (by intro h; rw [hn,Bool.false_and] at h; cases h)]
       exact wpAny_pure hQ))
noncomputable def xc (K:PySem.W.Frag) (a:Addr):It :=
 ⟨λi H=>∃ xs x,SqL K H a xs/\xs[i]?=some x,λi H x H'=>H'=H/\∀ xs,SqL K H a xs->xs[i]?=some x,λi H=>∃ xs,SqL K H a xs/\xs.length<=i⟩
noncomputable def xb (K:PySem.W.Frag) (a:Addr):It :=
 ⟨λi H=>∃ xs x,SqT K H a xs/\xs[i]?=some x,λi H x H'=>H'=H/\∀ xs,SqT K H a xs->xs[i]?=some x,λi H=>∃ xs,SqT K H a xs/\xs.length<=i⟩
noncomputable def nr (lo:Int) (n:Nat):It:=⟨λi _=>i < n,λi H x H'=>H'=H/\x=.int (lo+i),λi _=>n<=i⟩
theorem ZfZ {P:Program} {w:World} {K:PySem.W.Frag} {tg:Expr} (a it:Addr):Turn P w K tg (xc K a) [it] it (λi h=>h.IsListIter it a i) where
 mem:=by simp
 obj:=λi h st b hb=>by
  have e:b=it:=by simpa using hb
  subst e
  obtain ⟨o,e,c,d⟩:=st
  exact ⟨o,e,λv z=>by rw [d] at z; cases z⟩
 keep:=λi h h' st k=>st.at λo e=>k it (by simp) o e
 item:=by
  intro X hP hw hK hc i pins s σ H E I hf st hg
  subst hP hw hK
  obtain ⟨xs,x,hq,hx⟩:=hg
  obtain ⟨its,rv,p,hz⟩:=I.list hq
  obtain ⟨u,hu,ru⟩:=rv.get hx
  obtain ⟨f0,f1,f2,f3,f4,f5⟩:=hf it (by simp)
  refine wpAny_pyNext_list_item st p.isList (x:=u) (by simpa using hu) λh' st' sb=>?_
  have I1:Inv X pins σ H { s with heap:=h' }:=I.turned (t':=s.toks) (λb o hb e=>(sb.2 b hb).trans e) f0 f1 f3 f4 f5
  obtain ⟨o,e,c,d⟩:=id st'
  exact ⟨u,rfl,pO (s:={ s with heap:=h' }) e c d (by decide) ⟨x,H,I1,ru,⟨rfl,λys hy=>by rw [I.list_inj hy hq]; exact hx⟩,st',λb hb=>(hf b hb).1⟩⟩
 done:=by
  intro X hP hw hK hc i pins s σ H E I hf st hg
  subst hP hw hK
  obtain ⟨xs,hq,hx⟩:=hg
  obtain ⟨its,rv,p,hz⟩:=I.list hq
  obtain ⟨f0,f1,f2,f3,f4,f5⟩:=hf it (by simp)
  have hl:=rv.length
  exact wpAny_pyNext_list_end (I.ok.hd hc) st p.isList (by simp; omega) λh' eb=>⟨rfl,I.turned (t':=s.toks) (λb o hb e=>eb b o hb e) f0 f1 f3 f4 f5⟩
 self:=λ_ _ _ _ _ st h=>wpAny_pyIter_listiter st h
theorem ZfW {P:Program} {w:World} {K:PySem.W.Frag} {tg:Expr} (a it:Addr):Turn P w K tg (xb K a) [it] it (λi h=>h.IsTupleIter it a i) where
 mem:=by simp
 obj:=λi h st b hb=>by
  have e:b=it:=by simpa using hb
  subst e
  obtain ⟨o,e,c,d⟩:=st
  exact ⟨o,e,λv z=>by rw [d] at z; cases z⟩
 keep:=λi h h' st k=>st.at λo e=>k it (by simp) o e
 item:=by
  intro X hP hw hK hc i pins s σ H E I hf st hg
  subst hP hw hK
  obtain ⟨xs,x,hq,hx⟩:=hg
  obtain ⟨its,rv,p,hz⟩:=I.tuple hq
  obtain ⟨u,hu,ru⟩:=rv.get hx
  obtain ⟨f0,f1,f2,f3,f4,f5⟩:=hf it (by simp)
  refine wpAny_pyNext_tuple_item st (show s.heap.IsTuple a its.toArray from p) (x:=u) (by simpa using hu) λh' st' sb=>?_
  have I1:Inv X pins σ H { s with heap:=h' }:=I.turned (t':=s.toks) (λb o hb e=>(sb.2 b hb).trans e) f0 f1 f3 f4 f5
  obtain ⟨o,e,c,d⟩:=id st'
  exact ⟨u,rfl,pO (s:={ s with heap:=h' }) e c d (by decide) ⟨x,H,I1,ru,⟨rfl,λys hy=>by rw [I.tuple_inj hy hq]; exact hx⟩,st',λb hb=>(hf b hb).1⟩⟩
 done:=by
  intro X hP hw hK hc i pins s σ H E I hf st hg
  subst hP hw hK
  obtain ⟨xs,hq,hx⟩:=hg
  obtain ⟨its,rv,p,hz⟩:=I.tuple hq
  obtain ⟨f0,f1,f2,f3,f4,f5⟩:=hf it (by simp)
  have hl:=rv.length
  exact wpAny_pyNext_tuple_end (I.ok.hd hc) st (show s.heap.IsTuple a its.toArray from p) (by simp; omega) λh' eb=>⟨rfl,I.turned (t':=s.toks) (λb o hb e=>eb b o hb e) f0 f1 f3 f4 f5⟩
 self:=λ_ _ _ _ _ st h=>wpAny_pyIter_tupleiter st h
theorem ZfY {P:Program} {w:World} {K:PySem.W.Frag} {tg:Expr} (it:Addr) (lo:Int) (n:Nat):Turn P w K tg (nr lo n) [it] it (λi h=>IsRangeIter h it (lo+(i:Nat) * 1) ((n:Int) - (i:Nat)) 1) where
 mem:=by simp
 obj:=λi h st b hb=>by
  have e:b=it:=by simpa using hb
  subst e
  exact ⟨_,st,λv z=>by
   have z':Data.fields _=Data.cell v:=z
   cases z'⟩
 keep:=λi h h' st k=>k it (by simp) _ st
 item:=by
  intro X hP hw hK hc i pins s σ H E I hf st hg
  subst hP hw hK
  obtain ⟨f0,f1,f2,f3,f4,f5⟩:=hf it (by simp)
  have W:=Walks.range (prog:=X.prog) (w:=X.w) (I.ok.hd hc) it lo 1 n
  refine W.item i s _ _ hg st λv h' tk hv st' kk=>?_
  obtain ⟨t,rfl⟩:=hv
  have I1:Inv X pins σ H { s with heap:=h',toks:=tk }:=I.turned (λb o hb e=>kk b o (by simpa using hb) e) f0 f1 f3 f4 f5
  refine ⟨_,rfl,pO (s:={ s with heap:=h',toks:=tk }) (n:="range_iterator") st' rfl rfl (by decide) ⟨.int (lo+i),H,I1,⟨t,?_⟩,⟨rfl,rfl⟩,st',λb hb=>(hf b hb).1⟩⟩
  rw [Int.mul_one]
 done:=by
  intro X hP hw hK hc i pins s σ H E I hf st hg
  subst hP hw hK
  obtain ⟨f0,f1,f2,f3,f4,f5⟩:=hf it (by simp)
  exact wpAny_pyNext_range_end (I.ok.hd hc) st (by have:n<=i:=hg; omega) λh' eb=>⟨rfl,I.turned (t':=s.toks) (λb o hb e=>eb b o hb e) f0 f1 f3 f4 f5⟩
 self:=λ_ _ _ _ _ st h=>wpAny_pyIter_rangeiter st h
section
variable {X:Cx} {tg:Expr}
theorem ZbO {pins:List (Addr×Obj)} {σ:St} {H:Hp} {s:Shared} {R:It->Hp->Prop} {E:Value->Shared->Prop} {lo hi:Int} {t u v:Tok} {tk:Nat} (I:Inv X pins σ H s) (h1:-(2 ^ 62)<=lo) (h2:lo < 2 ^ 62) (h3:-(2 ^ 62)<=hi) (h4:hi < 2 ^ 62)
  (q:R (nr lo (hi - lo).toNat) H):wpAny (model X.prog X.w) X.A (pyIter (.ref s.heap.objs.size)) (qo X pins σ tg R) E { s with heap:=s.heap.push { cls:=.type "range",data:=.fields #[.int lo t,.int hi u,.int 1 v] },toks:=tk }:=by
 refine wpAny_pyIter_range (IsRange.new ..) (small_one h1 h2 h3 h4) ?_
 have I1:Inv X pins σ H { s with heap:=s.heap.push { cls:=.type "range",data:=.fields #[.int lo t,.int hi u,.int 1 v] },toks:=tk }:=I.kept λb o e=>Heap.get?_push_of_some _ e
 refine ⟨(s.heap.push { cls:=.type "range",data:=.fields #[.int lo t,.int hi u,.int 1 v] }).objs.size,[(s.heap.push { cls:=.type "range",data:=.fields #[.int lo t,.int hi u,.int 1 v] }).objs.size],_,_,H,rfl,
  I1.kept (t':=tk) λb o e=>Heap.get?_push_of_some _ e,ZfY _ lo (hi - lo).toNat,?_,λb hb=>?_,q⟩
 ·have e1:lo+((0:Nat):Int) * 1=lo:=by simp
  have e2:(((hi - lo).toNat:Nat):Int) - ((0:Nat):Int)=Builtin.Range.rangeSize lo hi 1:=by rw [rangeSize_one]; split <;> omega
  show IsRangeIter _ _ (lo+((0:Nat):Int) * 1) ((((hi - lo).toNat:Nat):Int) - ((0:Nat):Int)) 1
  rw [e1,e2]
  exact Heap.get?_push_size _ rfl
 ·have e:b=(s.heap.push { cls:=.type "range",data:=.fields #[.int lo t,.int hi u,.int 1 v] }).objs.size:=by simpa using hb
  subst e
  exact I1.fpOk (Nat.le_refl _) (I1.hok.fresh (Nat.le_refl _))
noncomputable def Zdy (ta:TA):TI:=λσ H R=>ta σ H λvs H1=>∃ j:Int,vs=[.int j]/\-(2 ^ 62)<=j/\j < 2 ^ 62/\R (nr 0 j.toNat) H1
noncomputable def Zdx (ta:TA):TI:=λσ H R=>ta σ H λvs H1=>∃ i j:Int,vs=[.int i,.int j]/\(-(2 ^ 62)<=i/\i < 2 ^ 62/\-(2 ^ 62)<=j/\j < 2 ^ 62)/\R (nr i (j - i).toNat) H1
theorem gX {a:Expr} {ta:TA} {p pos:Pos} (hg:Gl X "range") (hm:X.mg "range"=none) (ha:PA X [a] ta) (hs:starEach [a] X.env=[(false,eval a X.env)]:=by rfl):PI X tg (.Call (.Name "range" p) [a] [] pos) (Zdy ta):=by
 intro pins s σ H R I h
 refine Call_ (i8 I hg hm boot_range (PyProof.Rows.callWith_type1 (thn (ha pos pins s σ H _ I h) λus s1 hz0=>?_) hs rfl))
 obtain ⟨vs,H1,I1,r1,q1⟩:=hz0
 obtain ⟨j,e,q1,q2,q⟩:=q1
 subst e
 cases r1 with
 | cons r rr =>
  cases rr
  obtain ⟨t,rfl⟩:=r
  exact call_range_1 (ZbO I1 (by omega) (by omega) q1 q2 (by simpa using q))
theorem uW {a b:Expr} {ta:TA} {p pos:Pos} (hg:Gl X "range") (hm:X.mg "range"=none) (ha:PA X [a,b] ta) (hs:starEach [a,b] X.env=[(false,eval a X.env),(false,eval b X.env)]:=by rfl) (hs2:starEach [b] X.env=[(false,eval b X.env)]:=by rfl) :
  PI X tg (.Call (.Name "range" p) [a,b] [] pos) (Zdx ta):=by
 intro pins s σ H R I h
 refine Call_ (i8 I hg hm boot_range (PyProof.Rows.callWith_type1 (thn (ha pos pins s σ H _ I h) λus s1 hz0=>?_) (by rw [hs,hs2]) (by rw [hs2]; rfl)))
 obtain ⟨vs,H1,I1,r1,q1⟩:=hz0
 obtain ⟨i,j,e,⟨q1,q2,q3,q4⟩,q⟩:=q1
 subst e
 cases r1 with
 | cons r rr =>
  cases rr with
  | cons r' rr =>
   cases rr
   obtain ⟨t,rfl⟩:=r
   obtain ⟨t',rfl⟩:=r'
   exact call_range_2 (ZbO I1 q1 q2 q3 q4 q)
noncomputable def Zgj (wi:TI) (g:TG) (tb:TS):TS:=λD σ H=>wi σ H λJ H1=>∃ W:Nat->Nat->St->Hp->Prop,(∃ m,W 0 m σ H1)/\∀ i m σ H,W i m σ H ->
 (J.stop i H/\D.nx σ H)\/(J.go i H/\∃ N:St->Hp->Prop,(∀ σ' H',N σ' H'->∃ m',m' < m/\W (i+1) m' σ' H')/\∀ x H',J.yld i H x H'->g x σ H' λσ2 H2=>tb { D with nx:=N,ct:=N,bk:=D.nx } σ2 H2)
noncomputable def qX (fp:List Addr) (h:Heap):List (Addr×Obj):=fp.filterMap λb=>(h.get? b).map λo=>(b,o)
theorem fI {fp:List Addr} {h:Heap} {b:Addr} {o:Obj} (hb:b∈fp) (e:h.get? b=some o):(b,o)∈qX fp h:=List.mem_filterMap.mpr ⟨b,hb,by rw [e]; rfl⟩
theorem Zii {fp:List Addr} {h:Heap} {p:Addr×Obj} (hp:p∈qX fp h):p.1∈fp/\h.get? p.1=some p.2:=by
 obtain ⟨b,hb,e⟩:=List.mem_filterMap.mp hp
 cases q:h.get? b with
 | none=>rw [q] at e; cases e
 | some o =>
  rw [q] at e
  have e':(b,o)=p:=Option.some.inj e
  subst e'
  exact ⟨hb,q⟩
theorem Inv.pinned {pins:List (Addr×Obj)} {σ:St} {H:Hp} {s:Shared} {fp:List Addr} (I:Inv X pins σ H s) (hf:∀ b∈fp,eY X pins H b) (ho:∀ b∈fp,∃ o,s.heap.get? b=some o/\∀ v,o.data≠.cell v):Inv X (pins++qX fp s.heap) σ H s :=
 I.pins_of λp hp=>(List.mem_append.mp hp).elim (λz=>I.pin p (List.mem_append_right _ z)) λz=>by
  obtain ⟨hb,e⟩:=Zii z
  obtain ⟨f0,f1,f2,_⟩:=hf p.1 hb
  obtain ⟨o,e',d⟩:=ho p.1 hb
  rw [e] at e'; cases e'
  exact ⟨e,f0,f1,f2,d⟩
theorem Inv.unpinned {pins pl:List (Addr×Obj)} {σ:St} {H:Hp} {s:Shared} (I:Inv X (pins++pl) σ H s):Inv X pins σ H s:=I.pins_of λp hp=>I.pin p (List.mem_append_right _ (List.mem_append_left _ hp))
theorem Zhr {iter:Expr} {body:List Stmt} {wi:TI} {g:TG} {tb:TS} {pos:Pos} (hp:PassesOwn (model X.prog X.w) X.A X.env X.xe) (hc:X.calm=true) (hi:PI X tg iter wi) (hg:PG X tg g) (hb:PSs X body tb)
  (hs:∀ x,foldedSetIterable iter X.env x=pure x:=by intro _; rfl):PS X (.For tg iter body [] pos) (Zgj wi g tb):=by
 intro pins s σ H D I h
 refine wpAny_For (thn (hi pins s σ H _ I h) λv s1 h1=>thn h1 λitv s2 h2=>?_) hs
 obtain ⟨it,fp,tn,J,H2,e,I2,T,st2,f2,W,⟨m0,w0⟩,turn⟩:=h2
 subst e
 -- what stays true of the iterator's objects through the loop
 have stat:∀ {H':Hp},(∀ b∈fp,H' b=none)->∀ b∈fp,eY X pins H' b:=λhn b hb=>⟨hn b hb,(f2 b hb).2⟩
 refine codeAny_forLoop_any (λn s'=>∃ i σ' H',Inv X pins σ' H' s'/\tn i s'.heap/\(∀ b∈fp,H' b=none)/\W i n σ' H') ?_ m0 ⟨0,σ,H2,I2,st2,λb hb=>(f2 b hb).1,w0⟩
 rintro n s3 ⟨i,σ3,H3,I3,st3,fr3,w3⟩
 rcases turn i n σ3 H3 w3 with ⟨stop,qn⟩ | ⟨go,N,hN,step⟩
 ·refine wpAny_passesOwn hp (thn (T.done X rfl rfl rfl hc i pins s3 σ3 H3 X.xe I3 (stat fr3) st3 stop) λr s4 hz0=>?_)
  obtain ⟨hr,I4⟩:=hz0
  subst hr
  exact wpAny_execs_nil ⟨σ3,H3,I4,qn⟩
 ·refine wpAny_passesOwn hp (thn (T.item X rfl rfl rfl hc i pins s3 σ3 H3 X.xe I3 (stat fr3) st3 go) λr s4 hz0=>?_)
  obtain ⟨u,hr,h4⟩:=hz0
  subst hr
  refine wpAny_passesOwn hp (thn h4 λ_ s5 hz0=>?_)
  obtain ⟨x,H5,I5,r5,y5,st5,fr5⟩:=hz0
  have I5':=I5.pinned (stat fr5) (T.obj _ _ st5)
  refine wpAny_passesOwn hp (thn (hg _ s5 σ3 H5 x u _ I5' r5 (step x H5 y5)) λ_ s6 hz0=>?_)
  obtain ⟨σ6,H6,I6,q6⟩:=hz0
  refine wpAny_passesOwn hp (thn (hb _ s6 σ6 H6 _ I6 q6) λf s7 q7=>?_)
  have again:∀ {σ7:St} {H7:Hp},Inv X (pins++qX fp s5.heap) σ7 H7 s7->N σ7 H7->∃ m,m < n/\∃ i σ' H',Inv X pins σ' H' s7/\tn i s7.heap/\(∀ b∈fp,H' b=none)/\W i m σ' H':=λ{σ7 H7} I7 n7=>by
   obtain ⟨m',hm,w7⟩:=hN σ7 H7 n7
   refine ⟨m',hm,i+1,σ7,H7,I7.unpinned,T.keep _ _ _ st5 λb hb o e=>(I7.pin (b,o) (List.mem_append_right _ (List.mem_append_right _ (fI hb e)))).1,λb hb=>?_,w7⟩
   obtain ⟨o,e,d⟩:=T.obj _ _ st5 b hb
   exact (I7.pin (b,o) (List.mem_append_right _ (List.mem_append_right _ (fI hb e)))).2.1
  cases f with
  | next=>obtain ⟨σ7,H7,I7,n7⟩:=q7; exact again I7 n7
  | cont=>obtain ⟨σ7,H7,I7,n7⟩:=q7; exact again I7 n7
  | brk=>obtain ⟨σ7,H7,I7,q7⟩:=q7; exact ⟨σ7,H7,I7.unpinned,q7⟩
  | ret v=>obtain ⟨x7,σ7,H7,I7,r7,q7⟩:=q7; exact ⟨x7,σ7,H7,I7.unpinned,r7,q7⟩
end
noncomputable abbrev R2:=V->V->Hp->VK->Prop
noncomputable def OpR (X:Cx) (f:Value->Value->Sem Value) (r:R2):Prop :=
 ∀ (pins:List (Addr×Obj)) (s:Shared) (σ:St) (H:Hp) (x y:V) (v u:Value) (Q:VK),Inv X pins σ H s->RelV x v->RelV y u->r x y H Q ->
  wpAny (model X.prog X.w) X.A (f v u) (EP X pins σ Q) X.xe s
noncomputable def wZ (X:Cx) (f:Value->Sem Value) (r:V->Hp->VK->Prop):Prop :=
 ∀ (pins:List (Addr×Obj)) (s:Shared) (σ:St) (H:Hp) (x:V) (v:Value) (Q:VK),Inv X pins σ H s->RelV x v->r x H Q ->
  wpAny (model X.prog X.w) X.A (f v) (EP X pins σ Q) X.xe s
noncomputable def db (X:Cx) (f:Value) (r:List V->Hp->VK->Prop):Prop :=
 ∀ (pins:List (Addr×Obj)) (s:Shared) (σ:St) (H:Hp) (xs:List V) (us:List Value) (Q:VK),Inv X pins σ H s->Vals xs us->r xs H Q ->
  wpAny (model X.prog X.w) X.A (call f us) (EP X pins σ Q) X.xe s
noncomputable def ZmE (X:Cx) (r:V->Hp->(Bool->Hp->Prop)->Prop):Prop :=
 ∀ (pins:List (Addr×Obj)) (s:Shared) (σ:St) (H:Hp) (x:V) (v:Value) (Q:Bool->Hp->Prop),Inv X pins σ H s->RelV x v->r x H Q ->
  wpAny (model X.prog X.w) X.A (truthy v) (TP X pins σ Q) X.xe s
noncomputable def nz (r:R2) (ta tb:TE):TE:=λσ H Q=>ta σ H λx H1=>tb σ H1 λy H2=>r x y H2 Q
noncomputable def tUn (r:V->Hp->VK->Prop) (ta:TE):TE:=λσ H Q=>ta σ H λx H1=>r x H1 Q
noncomputable def rI (C:Int->Int->Prop) (g:Int->Int->V):R2:=λx y H Q=>∃ i j,x=.int i/\y=.int j/\C i j/\Q (g i j) H
noncomputable def eO (g:Int->Int->V):R2:=λx y H Q=>∃ i j,x=.int i/\y=.int j/\Q (g i j) H
noncomputable def rU (g:Int->V):V->Hp->VK->Prop:=λx H Q=>∃ i,x=.int i/\Q (g i) H
section
variable {X:Cx} {a b c:Expr} {ta tb tc:TE} {pos:Pos}
theorem wz (ha:PE X a ta) (hb:PE X b tb) {pins:List (Addr×Obj)} {s:Shared} {σ:St} {H:Hp} {R:V->V->Hp->Prop} (I:Inv X pins σ H s)
  (h:ta σ H λx H1=>tb σ H1 λy H2=>R x y H2) {Q:Value->Shared->Prop} {f:Value->Value->Sem Value}
  (hf:∀ v u s2 x y H2,Inv X pins σ H2 s2->RelV x v->RelV y u->R x y H2->wpAny (model X.prog X.w) X.A (f v u) Q X.xe s2) :
  wpAny (model X.prog X.w) X.A (eval a X.env) (λv s₁=>wpAny (model X.prog X.w) X.A (eval b X.env) (λu s₂=>wpAny (model X.prog X.w) X.A (f v u) Q X.xe s₂) X.xe s₁) X.xe s:=by
 refine thn (ha pins s σ H _ I h) λv s1 hz0=>?_
 obtain ⟨x,H1,I1,r1,q1⟩:=hz0
 refine thn (hb pins s1 σ H1 _ I1 q1) λu s2 hz0=>?_
 obtain ⟨y,H2,I2,r2,q2⟩:=hz0
 exact hf v u s2 x y H2 I2 r1 r2 q2
theorem bY {op:Operator} {r:R2} (ho:OpR X (binaryOp op) r) (ha:PE X a ta) (hb:PE X b tb):PE X (.BinOp a op b pos) (nz r ta tb):=by
 intro pins s σ H Q I h
 exact wpAny_BinOp (wz ha hb I h λv u s2 x y H2 I2 rx ry q=>ho pins s2 σ H2 x y v u Q I2 rx ry q)
theorem ZhK {op:UnaryOp} {r:V->Hp->VK->Prop} (ho:wZ X (unaryOp op) r) (ha:PE X a ta):PE X (.UnaryOp op a pos) (tUn r ta):=by
 intro pins s σ H Q I h
 exact UnaryOp_ (thn (ha pins s σ H _ I h) λv s1 ⟨x,H1,I1,r1,q1⟩=>ho pins s1 σ H1 x v Q I1 r1 q1)
theorem gZ {f:Value->Value->Sem Value} {C:Int->Int->Prop} {g:Int->Int->Int}
  (rule:∀ (i j:Int) (t u:Tok) (s:Shared) (Q:Value->Shared->Prop) (E:Value->Shared->Prop),C i j->Q (.int (g i j) s.toks) { s with toks:=s.toks+1 }->wpAny (model X.prog X.w) X.A (f (.int i t) (.int j u)) Q E s) :
  OpR X f (rI C λi j=>.int (g i j)):=by
 intro pins s σ H x y v u Q I rx ry h
 obtain ⟨i,j,rfl,rfl,hc,q⟩:=h
 obtain ⟨t,rfl⟩:=rx
 obtain ⟨t',rfl⟩:=ry
 exact rule i j t t' s _ _ hc ⟨.int (g i j),H,I.tok _,⟨_,rfl⟩,q⟩
theorem ve {f:Value->Value->Sem Value} {g:Int->Int->Int}
  (rule:∀ (i j:Int) (t u:Tok) (s:Shared) (Q:Value->Shared->Prop) (E:Value->Shared->Prop),Q (.int (g i j) s.toks) { s with toks:=s.toks+1 }->wpAny (model X.prog X.w) X.A (f (.int i t) (.int j u)) Q E s) :
  OpR X f (eO λi j=>.int (g i j)):=by
 intro pins s σ H x y v u Q I rx ry h
 obtain ⟨i,j,rfl,rfl,q⟩:=h
 obtain ⟨t,rfl⟩:=rx
 obtain ⟨t',rfl⟩:=ry
 exact rule i j t t' s _ _ ⟨.int (g i j),H,I.tok _,⟨_,rfl⟩,q⟩
theorem vf {f:Value->Value->Sem Value} {g:Int->Int->Bool}
  (rule:∀ (i j:Int) (t u:Tok) (s:Shared) (Q:Value->Shared->Prop) (E:Value->Shared->Prop),Q (.bool (g i j)) s->wpAny (model X.prog X.w) X.A (f (.int i t) (.int j u)) Q E s) :
  OpR X f (eO λi j=>.bl (g i j)):=by
 intro pins s σ H x y v u Q I rx ry h
 obtain ⟨i,j,rfl,rfl,q⟩:=h
 obtain ⟨t,rfl⟩:=rx
 obtain ⟨t',rfl⟩:=ry
 exact rule i j t t' s _ _ ⟨.bl (g i j),H,I,rfl,q⟩
noncomputable def Zm5 (i j:Int):Prop:=0 < j/\j < 1073741824
noncomputable def Zm4 (i j:Int):Prop:=0<=j/\j<=1000000/\i.natAbs < 2 ^ 64
noncomputable def CMul (i j:Int):Prop:=(-(2 ^ 64) < i/\i < 2 ^ 64)\/(-(2 ^ 64) < j/\j < 2 ^ 64)
theorem CMul.ok {i j:Int} (h:CMul i j):IntMulOk i j:=by
 rcases h with ⟨h1,h2⟩ | ⟨h1,h2⟩
 ·exact .of_left (intBits_le_64 h1 h2)
 ·exact .of_right (intBits_le_64 h1 h2)
theorem iQ:OpR X (binaryOp .Add) (eO λi j=>.int (i+j)):=ve λ_ _ _ _ _ _ _ q=>add_int q
theorem bZ:OpR X (binaryOp .Sub) (eO λi j=>.int (i - j)):=ve λ_ _ _ _ _ _ _ q=>sub_int q
theorem u9:OpR X (binaryOp .Mult) (rI CMul λi j=>.int (i * j)):=gZ λ_ _ _ _ _ _ _ hc q=>mul_int q hc.ok
theorem vc:OpR X (binaryOp .FloorDiv) (rI Zm5 λi j=>.int (i / j)):=gZ λi j _ _ _ _ _ hc q=>by
 have h1:(0:Int) < j:=hc.1
 have h2:j < 1073741824:=hc.2
 exact floordiv_int (by omega) (by rw [Int.fdiv_eq_ediv_of_nonneg i (by omega)]; exact q) (.inl (PyProof.noPylong_small (by omega)))
theorem gb:OpR X (binaryOp .Mod) (rI (λ_ j=>0 < j) λi j=>.int (i % j)):=gZ λi j _ _ _ _ _ hc q=>by
 have h1:(0:Int) < j:=hc
 exact mod_int' (by omega) (by rw [Int.fmod_eq_emod_of_nonneg i (by omega)]; exact q)
theorem Zcv:OpR X (binaryOp .Mod) (rI (λ_ j=>j≠0) λi j=>.int (i.fmod j)):=gZ λ_ _ _ _ _ _ _ hc q=>mod_int' hc q
theorem u8:OpR X (binaryOp .Pow) (rI Zm4 λi j=>.int (i ^ j.toNat)):=gZ λ_ _ _ _ _ _ _ hc q=>pow_int_small hc.1 hc.2.1 hc.2.2 q
theorem ZjA:OpR X (inplaceOp .Add) (eO λi j=>.int (i+j)):=ve λ_ _ _ _ _ _ _ q=>iadd_int q
theorem unI {f:Value->Sem Value} {g:Int->Int}
  (rule:∀ (i:Int) (t:Tok) (s:Shared) (Q:Value->Shared->Prop) (E:Value->Shared->Prop),Q (.int (g i) s.toks) { s with toks:=s.toks+1 }->wpAny (model X.prog X.w) X.A (f (.int i t)) Q E s) :
  wZ X f (rU λi=>.int (g i)):=by
 intro pins s σ H x v Q I rx h
 obtain ⟨i,rfl,q⟩:=h
 obtain ⟨t,rfl⟩:=rx
 exact rule i t s _ _ ⟨.int (g i),H,I.tok _,⟨_,rfl⟩,q⟩
theorem ZfU:wZ X (unaryOp .USub) (rU λi=>.int (-i)):=unI λ_ _ _ _ _ q=>neg_int q
end
noncomputable def scal:V->V->Bool
 | .non,.non=>true | .non,.int _=>true | .int _,.non=>true | .non,.bl _=>true | .bl _,.non=>true | .non,.str _=>true | .str _,.non=>true
 | .int _,.int _=>true | .bl _,.bl _=>true | .str _,.str _=>true | .byt _,.byt _=>true
 | .int _,.str _=>true | .str _,.int _=>true | .bl _,.str _=>true | .str _,.bl _=>true
 | _,_=>false
noncomputable def rEq:R2:=λx y H Q=>scal x y=true/\Q (.bl (decide (x=y))) H
noncomputable def rNe:R2:=λx y H Q=>scal x y=true/\Q (.bl (!decide (x=y))) H
theorem Zem {i j:Int}:decide (V.int i=V.int j)=(i == j):=by
 rw [Bool.eq_iff_iff]
 simp
theorem Zeo {i j:Bool}:decide (V.bl i=V.bl j)=(i == j):=by
 rw [Bool.eq_iff_iff]
 simp
theorem sJ {i j:Str}:decide (V.str i=V.str j)=(i == j):=by
 rw [Bool.eq_iff_iff]
 simp
theorem Zen {i j:Array UInt8}:decide (V.byt i=V.byt j)=(i.toList == j.toList):=by
 rw [Bool.eq_iff_iff]
 cases i
 cases j
 simp
section
variable {X:Cx} {a b c:Expr} {ta tb tc:TE} {pos:Pos}
theorem bL {pins:List (Addr×Obj)} {σ:St} {H:Hp} {s:Shared} {Q:VK} {k k':Bool} (I:Inv X pins σ H s) (q:Q (.bl k) H) (e:k=k'):EP X pins σ Q (.bool k') s:=by
 subst e
 exact ⟨.bl k,H,I,rfl,q⟩
theorem Zic:OpR X (compareOp .Eq) rEq:=by
 intro pins s σ H x y v u Q I rx ry h
 obtain ⟨hs,q⟩:=h
 cases x with
 | non =>
  cases rx
  cases y with
  | non=>cases ry; exact PySem.EqNone.eq_none_none (bL I q (by simp))
  | bl j=>cases ry; exact PySem.EqNone.eq_none_bool (bL I q (by simp))
  | int j=>obtain ⟨t',rfl⟩:=ry; exact PySem.EqNone.eq_none_int (bL I q (by simp))
  | str j=>obtain ⟨t',rfl⟩:=ry; exact PySem.EqNone.eq_none_str (bL I q (by simp))
  | _=>exact absurd (show false=true from hs) Bool.false_ne_true
 | bl i =>
  cases rx
  cases y with
  | non=>cases ry; exact PySem.EqNone.eq_bool_none (bL I q (by simp))
  | bl j=>cases ry; exact eq_bool (bL I q Zeo)
  | str j=>obtain ⟨t',rfl⟩:=ry; exact PySem.EqMixed.eq_bool_str (bL I q (by simp))
  | _=>exact absurd (show false=true from hs) Bool.false_ne_true
 | int i =>
  obtain ⟨t,rfl⟩:=rx
  cases y with
  | non=>cases ry; exact PySem.EqNone.eq_int_none (bL I q (by simp))
  | int j=>obtain ⟨t',rfl⟩:=ry; exact eq_int (bL I q Zem)
  | str j=>obtain ⟨t',rfl⟩:=ry; exact PySem.EqMixed.eq_int_str (bL I q (by simp))
  | _=>exact absurd (show false=true from hs) Bool.false_ne_true
 | str i =>
  obtain ⟨t,rfl⟩:=rx
  cases y with
  | non=>cases ry; exact PySem.EqNone.eq_str_none (bL I q (by simp))
  | bl j=>cases ry; exact PySem.EqMixed.eq_str_bool (bL I q (by simp))
  | int j=>obtain ⟨t',rfl⟩:=ry; exact PySem.EqMixed.eq_str_int (bL I q (by simp))
  | str j=>obtain ⟨t',rfl⟩:=ry; exact eq_str (bL I q sJ)
  | _=>exact absurd (show false=true from hs) Bool.false_ne_true
 | byt i =>
  obtain ⟨t,rfl⟩:=rx
  cases y with
  | byt j=>obtain ⟨t',rfl⟩:=ry; exact PySem.W.eq_bytes (bL I q Zen)
  | _=>exact absurd (show false=true from hs) Bool.false_ne_true
 | _=>cases y <;> exact absurd (show false=true from hs) Bool.false_ne_true
theorem Zh6:OpR X (compareOp .NotEq) rNe:=by
 intro pins s σ H x y v u Q I rx ry h
 obtain ⟨hs,q⟩:=h
 cases x with
 | non =>
  cases rx
  cases y with
  | non=>cases ry; exact PySem.EqNone.ne_none_none (bL I q (by simp))
  | bl j=>cases ry; exact PySem.EqNone.ne_none_bool (bL I q (by simp))
  | int j=>obtain ⟨t',rfl⟩:=ry; exact PySem.EqNone.ne_none_int (bL I q (by simp))
  | str j=>obtain ⟨t',rfl⟩:=ry; exact PySem.EqNone.ne_none_str (bL I q (by simp))
  | _=>exact absurd (show false=true from hs) Bool.false_ne_true
 | bl i =>
  cases rx
  cases y with
  | non=>cases ry; exact PySem.EqNone.ne_bool_none (bL I q (by simp))
  | bl j=>cases ry; exact ne_bool (bL I q (congrArg not Zeo))
  | str j=>obtain ⟨t',rfl⟩:=ry; exact PySem.EqMixed.ne_bool_str (bL I q (by simp))
  | _=>exact absurd (show false=true from hs) Bool.false_ne_true
 | int i =>
  obtain ⟨t,rfl⟩:=rx
  cases y with
  | non=>cases ry; exact PySem.EqNone.ne_int_none (bL I q (by simp))
  | int j=>obtain ⟨t',rfl⟩:=ry; exact ne_int (bL I q (congrArg not Zem))
  | str j=>obtain ⟨t',rfl⟩:=ry; exact PySem.EqMixed.ne_int_str (bL I q (by simp))
  | _=>exact absurd (show false=true from hs) Bool.false_ne_true
 | str i =>
  obtain ⟨t,rfl⟩:=rx
  cases y with
  | non=>cases ry; exact PySem.EqNone.ne_str_none (bL I q (by simp))
  | bl j=>cases ry; exact PySem.EqMixed.ne_str_bool (bL I q (by simp))
  | int j=>obtain ⟨t',rfl⟩:=ry; exact PySem.EqMixed.ne_str_int (bL I q (by simp))
  | str j=>obtain ⟨t',rfl⟩:=ry; exact ne_str (bL I q (congrArg not sJ))
  | _=>exact absurd (show false=true from hs) Bool.false_ne_true
 | byt i =>
  obtain ⟨t,rfl⟩:=rx
  cases y with
  | byt j=>obtain ⟨t',rfl⟩:=ry; exact PySem.W.ne_bytes (bL I q (congrArg not Zen))
  | _=>exact absurd (show false=true from hs) Bool.false_ne_true
 | _=>cases y <;> exact absurd (show false=true from hs) Bool.false_ne_true
theorem nO:OpR X (compareOp .Lt) (eO λi j=>.bl (decide (i < j))):=vf λ_ _ _ _ _ _ _ q=>lt_int q
theorem fe:OpR X (compareOp .Gt) (eO λi j=>.bl (decide (j < i))):=vf λ_ _ _ _ _ _ _ q=>gt_int q
theorem Zia:OpR X (compareOp .GtE) (eO λi j=>.bl (decide (j<=i))):=vf λ_ _ _ _ _ _ _ q=>ge_int q
theorem Zh8:OpR X (compareOp .Is) (λx y H Q=>y=.non/\Q (.bl (decide (x=.non))) H):=by
 intro pins s σ H x y v u Q I rx ry h
 obtain ⟨rfl,q⟩:=h
 cases ry
 refine is_none_gen (bL I q ?_)
 cases x <;> first
  | (cases rx; rfl)
  | (obtain ⟨t,rfl⟩:=rx; rfl)
theorem OpR.or {f:Value->Value->Sem Value} {r r':R2} (h:OpR X f r) (h':OpR X f r'):OpR X f (λx y H Q=>r x y H Q\/r' x y H Q):=by
 intro pins s σ H x y v u Q I rx ry q
 rcases q with q | q
 ·exact h pins s σ H x y v u Q I rx ry q
 ·exact h' pins s σ H x y v u Q I rx ry q
theorem nomark (b:Expr) {op:CmpOp} (h:op≠.In:=by decide) (h2:op≠.NotIn:=by decide):behindInMarks op b=false:=by
 have e1:(op == CmpOp.In)=false:=by cases op <;> first | rfl | exact absurd rfl h
 have e2:(op == CmpOp.NotIn)=false:=by cases op <;> first | rfl | exact absurd rfl h2
 cases b <;> first | rfl | (show (_ && (op == CmpOp.In || op == CmpOp.NotIn) && _)=false; rw [e1,e2,Bool.or_false,Bool.and_false,Bool.false_and])
theorem ZhV {op:CmpOp} {r:R2} (ho:OpR X (compareOp op) r) (ha:PE X a ta) (hb:PE X b tb) (hm:behindInMarks op b=false):PE X (.Compare a [op] [b] pos) (nz r ta tb):=by
 intro pins s σ H Q I h
 exact wpAny_Compare1 (wz ha hb I h λv u s2 x y H2 I2 rx ry q=>ho pins s2 σ H2 x y v u Q I2 rx ry q) hm
noncomputable def qA (t:TE):TT:=λσ H Q=>t σ H λx H'=>∃ k,x=.bl k/\Q k H'
theorem oY {op:CmpOp} {r:R2} (ho:OpR X (compareOp op) r) (ha:PE X a ta) (hb:PE X b tb) (hm:behindInMarks op b=false):PT X (.Compare a [op] [b] pos) (qA (nz r ta tb)):=by
 intro pins s σ H Q I h
 refine wpAny_isTrue_Compare1 (thn (ha pins s σ H _ I h) λv s1 ⟨x,H1,I1,r1,q1⟩=>thn (hb pins s1 σ H1 _ I1 q1) λu s2 ⟨y,H2,I2,r2,q2⟩ =>
  thn (ho pins s2 σ H2 x y v u _ I2 r1 r2 q2) λc s3 ⟨z,H3,I3,r3,k,e,q3⟩=>?_) hm
 subst e
 cases r3
 exact wpAny_truthy_bool ⟨H3,I3,q3⟩
noncomputable def Zfv (K:PySem.W.Frag) (x:V) (H:Hp) (k:Bool):Prop :=
 match x with
 | .non=>k=false
 | .bl b=>k=b
 | .int i=>k=(i != 0)
 | .str y=>y.length<=sizeLine/\k=((y.length:Int) != 0)
 | .byt y=>y.size<=sizeLine/\k=((y.size:Int) != 0)
 | .ref p=>(∃ xs,SqL K H p xs/\k=!xs.isEmpty)\/(∃ xs,SqT K H p xs/\k=!xs.isEmpty)\/∃ kvs,H p=some (.dK kvs)/\k=!kvs.isEmpty
 | _=>False
theorem Zjx {κ:Type} {kvs:List (κ×V)} {vs:List (κ×Value)} (r:KV kvs vs):(!vs.isEmpty)=!kvs.isEmpty:=by
 cases r <;> rfl
theorem Zds {xs:List V} {its:List Value} (r:Vals xs its):(!its.toArray.isEmpty)=!xs.isEmpty:=by
 cases r <;> simp
theorem hU:(sizeLine:Nat) < 2 ^ 63:=by rw [sizeLine_eq]; decide
theorem Zf2:ZmE X (λx H Q=>∃ k,Zfv X.K x H k/\Q k H):=by
 intro pins s σ H x v Q I rx h
 obtain ⟨k,e,q⟩:=h
 have hl:=hU
 have hs:sizeLine=16777216:=sizeLine_eq
 cases x with
 | non =>
  cases rx
  have e':k=false:=e
  subst e'
  exact truthy_none ⟨H,I,q⟩
 | bl b =>
  cases rx
  have e':k=b:=e
  subst e'
  exact wpAny_truthy_bool ⟨H,I,q⟩
 | int i =>
  obtain ⟨t,rfl⟩:=rx
  have e':k=(i != 0):=e
  subst e'
  exact PySem.P.truthy_int ⟨H,I,q⟩
 | str y =>
  obtain ⟨t,rfl⟩:=rx
  obtain ⟨hy,e'⟩:y.length<=sizeLine/\k=((y.length:Int) != 0):=e
  subst e'
  exact PySem.P.truthy_str (by omega) ⟨H,I.tok _,q⟩
 | byt y =>
  obtain ⟨t,rfl⟩:=rx
  obtain ⟨hy,e'⟩:y.size<=sizeLine/\k=((y.size:Int) != 0):=e
  subst e'
  exact PySem.W.truthy_bytes (by omega) ⟨H,I.tok _,q⟩
 | ref p =>
  cases rx
  have e':(∃ xs,SqL X.K H p xs/\k=!xs.isEmpty)\/(∃ xs,SqT X.K H p xs/\k=!xs.isEmpty)\/∃ kvs,H p=some (.dK kvs)/\k=!kvs.isEmpty:=e
  rcases e' with ⟨xs,hx,e'⟩ | ⟨xs,hx,e'⟩ | ⟨kvs,hx,e'⟩
  ·subst e'
   obtain ⟨its,r,pl,hz⟩:=I.list hx
   have hlen:=r.length
   exact wpAny_truthy_list pl.isList (by simp only [List.size_toArray]; omega) ⟨H,I.tok _,by rw [Zds r]; exact q⟩
  ·subst e'
   obtain ⟨its,r,pl,hz⟩:=I.tuple hx
   have hlen:=r.length
   exact truthy_tuple pl (by simp only [List.size_toArray]; omega) ⟨H,I.tok _,by rw [Zds r]; exact q⟩
  ·subst e'
   obtain ⟨hz,hS,vs,r,m⟩:kvs.length<=sizeLine/\(p == sysModules)=false/\∃ vs,KV kvs vs/\s.heap.DictOf (cp X.prog X.w) p vs:=I.hok p _ hx
   have hlen:kvs.length=vs.length:=Paired.length r
   exact wpAny_truthy_dict hS m (by omega) ⟨H,I.tok _,by rw [Zjx r]; exact q⟩
 | _=>exact (show False from e).elim
theorem Zhk (ha:PE X a ta) (he:∀ whole,isTrue a X.env whole=(do let v <- whole; standAt a.pos; holding [v] (truthy v))) :
  PT X a (λσ H Q=>ta σ H λx H'=>∃ k,Zfv X.K x H' k/\Q k H'):=by
 intro pins s σ H Q I h
 exact isTrue_plain (thn (ha pins s σ H _ I h) λv s1 ⟨x,H1,I1,r1,q1⟩=>Zf2 pins s1 σ H1 x v Q I1 r1 q1) (he _)
theorem eh {x:V} {us:List Value} (r:Vals [x] us):∃ u,us=[u]/\RelV x u:=by
 cases r with
 | cons r1 r2=>cases r2; exact ⟨_,rfl,r1⟩
theorem qz {x y:V} {us:List Value} (r:Vals [x,y] us):∃ u w',us=[u,w']/\RelV x u/\RelV y w':=by
 cases r with
 | cons r1 r2 =>
  cases r2 with
  | cons r3 r4=>cases r4; exact ⟨_,_,rfl,r1,r3⟩
theorem oj:db X (.builtin "abs") (λxs H Q=>∃ i,xs=[.int i]/\Q (.int (if i < 0 then -i else i)) H):=by
 intro pins s σ H xs us Q I r h
 obtain ⟨i,rfl,q⟩:=h
 obtain ⟨u,rfl,t,rfl⟩:=eh r
 exact call_abs_int λu tk=>⟨.int (if i < 0 then -i else i),H,I.tok _,⟨_,rfl⟩,q⟩
theorem pW (hc:X.calm=true):db X (.builtin "max") (λxs H Q=>∃ i j,xs=[.int i,.int j]/\Q (.int (if j > i then j else i)) H):=by
 intro pins s σ H xs us Q I r h
 obtain ⟨i,j,rfl,q⟩:=h
 obtain ⟨u,w',rfl,⟨t,rfl⟩,⟨t',rfl⟩⟩:=qz r
 refine max_two_ints (I.ok.hd hc) λh' tk k=>⟨_,H,I.kept k,?_,q⟩
 by_cases hj:j > i
 ·rw [if_pos hj,if_pos hj]; exact ⟨_,rfl⟩
 ·rw [if_neg hj,if_neg hj]; exact ⟨_,rfl⟩
theorem wu (hc:X.calm=true):db X (.builtin "min") (λxs H Q=>∃ i j,xs=[.int i,.int j]/\Q (.int (if j < i then j else i)) H):=by
 intro pins s σ H xs us Q I r h
 obtain ⟨i,j,rfl,q⟩:=h
 obtain ⟨u,w',rfl,⟨t,rfl⟩,⟨t',rfl⟩⟩:=qz r
 refine min_two_ints (I.ok.hd hc) λh' tk k=>⟨_,H,I.kept k,?_,q⟩
 by_cases hj:j < i
 ·rw [if_pos hj,if_pos hj]; exact ⟨_,rfl⟩
 ·rw [if_neg hj,if_neg hj]; exact ⟨_,rfl⟩
theorem ZlK:db X (.type "int") (λxs H Q=>(∃ i,xs=[.int i]/\Q (.int i) H)\/∃ k,xs=[.bl k]/\Q (.int (if k then 1 else 0)) H):=by
 intro pins s σ H xs us Q I r h
 rcases h with ⟨i,rfl,q⟩ | ⟨k,rfl,q⟩
 ·obtain ⟨u,rfl,t,rfl⟩:=eh r
  exact call_int_int ⟨.int i,H,I,⟨_,rfl⟩,q⟩
 ·obtain ⟨u,rfl,r1⟩:=eh r
  cases r1
  exact call_int_bool ⟨.int (if k then 1 else 0),H,I.tok _,⟨_,rfl⟩,q⟩
end
structure ObjM (h:Heap) (x dx C:Addr) (mA:Str->Option Value):Prop where
 obj:h.get? x=some (PySem.W.instObj C dx)
 ns:h.Ns1 dx mA
 ne:dx≠x
theorem ZiW {h:Heap} {dx:Addr} {mA:Str->Option Value} (n:h.Ns1 dx mA):∃ od,h.get? dx=some od/\∀ name,PySem.W.lookIn name od=some (mA name):=by
 obtain ⟨o,es,ep,ho,hd,hk,_,hm⟩:=n
 refine ⟨o,ho,λname=>?_⟩
 have e:=hm name
 unfold nsFind findBy at e
 rw [<- Array.find?_toList] at e
 unfold PySem.W.lookIn
 rw [hd]
 dsimp only
 split
 ·rename_i y q
  rw [q] at e
  exact congrArg some e
 ·rename_i q
  rw [q] at e
  have a:es.toList.any (·.refKey)=false:=by
   rw [List.any_eq_false]
   intro y hy
   obtain ⟨z,t,hkey⟩:=hk y (Array.mem_toList_iff.mp hy)
   simp [DictEntry.refKey,hkey]
  have a':¬ es.toList.any (·.refKey)=true:=by rw [a]; exact Bool.false_ne_true
  rw [if_neg a']
  exact congrArg some e
theorem ObjM.look {h:Heap} {x dx C:Addr} {mA:Str->Option Value} (I:ObjM h x dx C mA):∃ od,PySem.W.InstAt h x (PySem.W.instObj C dx) C (some od)/\∀ name,PySem.W.lookIn name od=some (mA name) :=
 let ⟨od,ho,hl⟩:=ZiW I.ns
 ⟨od,⟨I.obj,rfl,rfl,ho⟩,hl⟩
section
variable {prog:Program} {w:World} {A:Around} {E:Value->Shared->Prop} {s:Shared} {K:PySem.W.Frag} {x dx C f:Addr} {mA:Str->Option Value} {name:Str} {v:Value}
end
theorem RelO.some_of {v:V} {o:Option Value} (r:RelO (some v) o):∃ u,o=some u/\RelV v u:=by
 cases o with
 | none=>exact (show False from r).elim
 | some u=>exact ⟨u,rfl,r⟩
section
variable {P:Program} {w:World} {H H':Hp} {h h':Heap} {a C dx:Addr} {fs fs':List (Str×V)}
theorem ZjC (hok:HOk P w H h) (e:H a=some (.ins C dx fs)):∃ mA,ObjM h a dx C mA/\(∀ f,RelO (fs.lookup f) (mA f))/\PySem.Within mA (fs.map (·.1))/\fs.length<=1000/\H dx=some (.own a):=by
 obtain ⟨d,z,ne,ob,mA,n,r,q⟩:=(show ObjOk P w H h a (.ins C dx fs) from hok a _ e)
 exact ⟨mA,⟨ob,n,ne⟩,r,q,z,d⟩
end
structure Cls (K:PySem.W.Frag) (C:Addr):Prop where
 pg:PySem.W.plainGet K C Str.empty=true
 hd:PySem.W.hasDictIn K C=true
 po:PySem.W.plainOver K C=true
 sa:PySem.W.findIn K (.ref C) "__setattr__"=some (some (.builtin "object.__setattr__"))
theorem Cls.get {K:PySem.W.Frag} {C:Addr} (c:Cls K C) (f:Str):PySem.W.plainGet K C f=true:=c.pg
section
variable {X:Cx} {pins:List (Addr×Obj)} {σ:St} {H:Hp} {s:Shared} {a C dx:Addr} {fs:List (Str×V)} {f:Str} {v:V} {A:Around} {E:Value->Shared->Prop}
end
section
variable {X:Cx} {o e value:Expr} {f:Str} {pos pos' tpos:Pos} {ta tv:TE}
end
section
variable {X:Cx} {pins:List (Addr×Obj)} {σ:St} {H:Hp} {s:Shared} {A:Around} {E:Value->Shared->Prop} {Q:Value->Shared->Prop} {c:Value} {b:Bool}
inductive TyOf (K:PySem.W.Frag) (H:Hp):V->Value->Prop where
 | non:TyOf K H .non (.type "NoneType")
 | bl (x:Bool):TyOf K H (.bl x) (.type "bool")
 | int (i:Int):TyOf K H (.int i) (.type "int")
 | str (x:Str):TyOf K H (.str x) (.type "str")
 | flt (x:UInt64):TyOf K H (.flt x) (.type "float")
 | lst {a:Addr} {xs:List V} (e:H a=some (.lst xs)):TyOf K H (.ref a) (.type "list")
 | frz {a:Addr} {o:Obj} {xs:List V} (e:H a=some (.frz o (.lst xs))):TyOf K H (.ref a) (.type "list")
 | tup {a:Addr} {xs:List V} (e:H a=some (.tup xs)):TyOf K H (.ref a) (.type "tuple")
 | dK {a:Addr} {kvs:List (am×V)} (e:H a=some (.dK kvs)):TyOf K H (.ref a) (.type "dict")
 | dT {a:Addr} {kvs:List (List am×V)} (e:H a=some (.dT kvs)):TyOf K H (.ref a) (.type "dict")
 | frzD {a:Addr} {o:Obj} {kvs:List (am×V)} (e:H a=some (.frz o (.dK kvs))):TyOf K H (.ref a) (.type "dict")
 | ins {a C dx:Addr} {fs:List (Str×V)} (e:H a=some (.ins C dx fs)) (cl:Cls K C) (ha:PySem.W.findIn K (.ref C) "__class__"=some (some (.builtin "object.__class__")))
   (hn:PySem.W.specialIn K (.builtin "object.__class__") "__get__"=some (some (.builtin "getset_descriptor.__get__"))) (htk:PySem.W.takesIn K (.builtin "object.__class__")=some true)
   (hm:PySem.W.mroIn K C (.type "object")=some true):TyOf K H (.ref a) (.ref C)
theorem Zjt {x:V} {u t:Value} (I:Inv X pins σ H s) (rx:RelV x u) (ty:TyOf X.K H x t) (e:PySem.W.kitOne X.K t c=some b) (h:∀ tk,Q (.bool b) { s with toks:=tk }) :
  wpAny (model X.prog X.w) A (call (.builtin "isinstance") [u,c]) Q E s:=by
 cases ty with
 | non=>cases (show u=Value.none from rx); exact PySem.W.kia_one PySem.W.kitx_none I.kIn True.intro e (λz=>nomatch z) h
 | bl y=>cases (show u=Value.bool y from rx); exact PySem.W.kia_one PySem.W.kitx_bool I.kIn True.intro e (λz=>nomatch z) h
 | int i=>obtain ⟨t,q⟩:=(show ∃ t,u=Value.int i t from rx); cases q; exact PySem.W.kia_one PySem.W.kitx_int I.kIn True.intro e (λz=>nomatch z) h
 | str y=>obtain ⟨t,q⟩:=(show ∃ t,u=Value.str y t from rx); cases q; exact PySem.W.kia_one PySem.W.kitx_str I.kIn True.intro e (λz=>nomatch z) h
 | flt y=>obtain ⟨t,q⟩:=(show ∃ t,u=Value.float y t from rx); cases q; exact PySem.W.kia_one PySem.W.kitx_float I.kIn True.intro e (λz=>nomatch z) h
 | @lst a xs ea =>
  cases (show u=Value.ref a from rx)
  obtain ⟨_,_,n,_,h1⟩:=(show ObjOk X.prog X.w H s.heap a (.lst xs) from I.hok a _ ea)
  exact PySem.W.kia_one PySem.W.kitx_list I.kIn ⟨_,h1,rfl⟩ e (λz=>nomatch z) h
 | @frz a ob xs ea =>
  cases (show u=Value.ref a from rx)
  obtain ⟨_,_,_,n,_,h1⟩:=(show ObjOk X.prog X.w H s.heap a (.frz ob (.lst xs)) from I.hok a _ ea)
  exact PySem.W.kia_one PySem.W.kitx_list I.kIn ⟨_,h1,rfl⟩ e (λz=>nomatch z) h
 | @tup a xs ea =>
  cases (show u=Value.ref a from rx)
  obtain ⟨_,_,_,p⟩:=(show ObjOk X.prog X.w H s.heap a (.tup xs) from I.hok a _ ea)
  obtain ⟨o,h1,h2,_⟩:=p
  exact PySem.W.kia_one PySem.W.kitx_tuple I.kIn ⟨o,h1,h2⟩ e (λz=>nomatch z) h
 | @dK a kvs ea =>
  cases (show u=Value.ref a from rx)
  obtain ⟨_,_,vs,_,p⟩:=(show ObjOk X.prog X.w H s.heap a (.dK kvs) from I.hok a _ ea)
  obtain ⟨o,es,ep,h1,h2,_⟩:=p
  exact PySem.W.kia_one PySem.W.kitx_dict I.kIn ⟨o,h1,h2.1⟩ e (λz=>nomatch z) h
 | @frzD a ob kvs ea =>
  cases (show u=Value.ref a from rx)
  obtain ⟨_,_,_,vs,_,p⟩:=(show ObjOk X.prog X.w H s.heap a (.frz ob (.dK kvs)) from I.hok a _ ea)
  obtain ⟨o,es,ep,h1,h2,_⟩:=p
  exact PySem.W.kia_one PySem.W.kitx_dict I.kIn ⟨o,h1,h2.1⟩ e (λz=>nomatch z) h
 | @dT a kvs ea =>
  cases (show u=Value.ref a from rx)
  obtain ⟨_,_,xs,_,o,es,ep,h1,h2,_⟩:=(show ObjOk X.prog X.w H s.heap a (.dT kvs) from I.hok a _ ea)
  exact PySem.W.kia_one PySem.W.kitx_dict I.kIn ⟨o,h1,h2.1⟩ e (λz=>nomatch z) h
 | @ins a C dx fs ea cl ha hn htk hm =>
  cases (show u=Value.ref a from rx)
  obtain ⟨mA,O,_⟩:=ZjC I.hok ea
  obtain ⟨od,J,_⟩:=O.look
  exact PySem.W.kia_one (PySem.W.kitx_own (cl.get _) cl.hd ha hn htk hm) I.kIn J e (λz=>nomatch z) h
end
structure Room (k:Nat) (A:Around):Prop where
 hd:A.handled=none
 dp:A.depth+3 * k+5 < recursionLimit
 un:A.units+16 * k+200 < cLine
 gd:A.guards=some []
theorem Room.mono {j k:Nat} {A:Around} (r:Room k A) (h:j<=k):Room j A:=⟨r.hd,by have:=r.dp; omega,by have:=r.un; omega,r.gd⟩
theorem Room.deeper {k:Nat} {A:Around} (r:Room (k+1) A) (env:Env):Room k (A.deeper env) :=
 ⟨r.hd,by have:=r.dp; show A.depth+1+3 * k+5 < _; omega,by have:=r.un; show A.units+3+16 * k+200 < _; omega,r.gd⟩
theorem Room.depth {k:Nat} {A:Around} (r:Room k A):A.depth < recursionLimit:=by have:=r.dp; omega
theorem Room.units {k:Nat} {A:Around} (r:Room k A):A.units+64 < cLine:=by have:=r.un; omega
noncomputable def aP:TA:=λ_ H Q=>Q [] H
noncomputable def fW (ta:TE) (tr:TA):TA:=λσ H Q=>ta σ H λx H1=>tr σ H1 λxs H2=>Q (x::xs) H2
section
variable {X:Cx} {e:Expr} {es:List Expr} {te:TE} {t:TA} {pos:Pos}
theorem cb:PA X [] aP:=λ_ _ _ _ H Q I h=>Calls.spliced_nil ⟨[],H,I,.nil,h⟩
theorem bo (ha:PE X e te) (hr:PA X es t) (hs:starEach (e::es) X.env=(false,eval e X.env)::starEach es X.env:=by rfl):PA X (e::es) (fW te t):=by
 intro pos pins s σ H Q I h
 rw [hs]
 show wpAny _ _ (spliced ((false,eval e X.env)::backTo pos (starEach es X.env))) _ _ s
 refine Calls.spliced_cons (thn (ha pins s σ H _ I h) λu s1 hz0=>?_)
 obtain ⟨x,H1,I1,r1,q1⟩:=hz0
 exact thn (hr pos pins s1 σ H1 _ I1 q1) λus s2 hz0=>by
  obtain ⟨xs,H2,I2,r2,q2⟩:=hz0
  exact ⟨x::xs,H2,I2,.cons r1 r2,q2⟩
noncomputable def Zf5 (t:TA):TE:=λσ H Q=>t σ H λxs H1=>xs.length<=sizeLine/\∀ p,H1 p=none->Q (.ref p) (upd H1 p (.tup xs))
noncomputable def Zgf (t:TA):TE:=λσ H Q=>t σ H λxs H1=>xs.length<=sizeLine/\∀ p,H1 p=none->Q (.ref p) (upd H1 p (.lst xs))
theorem ZhL {x1} (h:PA X es t):PE X (.Tuple es x1 pos) (Zf5 t):=by
 intro pins s σ H Q I hq
 refine wpAny_Tuple_spliced (thn (h pos pins s σ H _ I hq) λus s1 ⟨xs,H1,I1,r,z,q⟩=>⟨by rw [<- r.length]; exact z,?_⟩)
 have hf:H1 s1.heap.objs.size=none:=I1.hok.fresh (Nat.le_refl _)
 refine ⟨.ref s1.heap.objs.size,upd H1 s1.heap.objs.size (.tup xs),I1.laid (t':=s1.toks) (λb u e=>Heap.get?_push_of_some _ e) (Nat.le_refl _) ?_,rfl,q _ hf⟩
 exact ⟨z,us,r,⟨_,Heap.get?_push_size _ rfl,rfl,_,rfl⟩⟩
theorem uX (h:PA X es t):PE X (.List es pos) (Zgf t):=by
 intro pins s σ H Q I hq
 refine wpAny_List_spliced (thn (h pos pins s σ H _ I hq) λus s1 ⟨xs,H1,I1,r,z,q⟩=>⟨by rw [<- r.length]; exact z,?_⟩)
 have hf:H1 s1.heap.objs.size=none:=I1.hok.fresh (Nat.le_refl _)
 refine ⟨.ref s1.heap.objs.size,upd H1 s1.heap.objs.size (.lst xs),I1.laid (t':=s1.toks) (λb u e=>Heap.get?_push_of_some _ e) (Nat.le_refl _) ?_,rfl,q _ hf⟩
 exact ⟨z,us,0,r,Heap.get?_push_size _ rfl⟩
end
noncomputable abbrev Sp:=List V->Hp->VK->XK->Prop
noncomputable abbrev eI:=List Env->Hp->Shared->XK->Value->Shared->Prop
structure Env0 (P:Program) (w:World) (K:PySem.W.Frag) (mg:Str->Option Value) (base:Heap) (A:Around) (outer:List Env) (s:Shared) (H:Hp):Prop where
 frames:A.frames=some outer
 mod:Mod K mg base
 bs:∀ b o,base.get? b=some o->s.heap.get? b=some o/\H b=none
 bsz:base.objs.size<=s.heap.objs.size
 funs:s.heap.FunFrames base outer
 frf:∀ b∈frs outer,H b=none
 hok:HOk P w H s.heap
 bare:AllBare s.gens
noncomputable def CE (outer:List Env) (P:Program) (w:World) (H:Hp) (s:Shared) (Q:VK) (u:Value) (s':Shared):Prop :=
 ∃ v H',s'.os=s.os/\AllBare s'.gens/\Un (frs outer) [] H H' s.heap s'.heap/\HOk P w H' s'.heap/\RelV v u/\Q v H'
noncomputable def CR (CX:eI) (outer:List Env) (P:Program) (w:World) (H:Hp) (s:Shared) (Q:VK) (E:XK) (r:Result) (s':Shared):Prop :=
 match r with
 | .ok (.ret u)=>CE outer P w H s Q u s'
 | .ok _=>False
 | .error e=>CX outer H s E e s'
structure FnOk (P:Program) (w:World) (K:PySem.W.Frag) (mg:Str->Option Value) (base:Heap) (CX:eI) (k:Nat) (f:Addr) (fd:FuncData) (ps:List Str) (sp:Sp):Prop where
 len:∀ vs H Q E,sp vs H Q E->vs.length=ps.length
 run:∀ (A:Around) (outer:List Env) (s:Shared) (H:Hp) (args:Args) (us:List Value) (vs:List V) (Q:VK) (E:XK),Room k A->Env0 P w K mg base A outer s H->BindsTo s fd args (ps.zip us)->Vals vs us->sp vs H Q E ->
  codeAny (model P w) A (.call (.ref f) args) (CR CX outer P w H s Q E) s
theorem FnOk.imp {P:Program} {w:World} {K:PySem.W.Frag} {mg:Str->Option Value} {base:Heap} {CX:eI} {k:Nat} {f:Addr} {fd:FuncData} {ps:List Str} {sp sp':Sp} (F:FnOk P w K mg base CX k f fd ps sp)
  (h:∀ vs H Q E,sp' vs H Q E->sp vs H Q E):FnOk P w K mg base CX k f fd ps sp' :=
 ⟨λvs H Q E q=>F.len vs H Q E (h _ _ _ _ q),λA outer s H args us vs Q E hr he hb hv hs=>F.run A outer s H args us vs Q E hr he hb hv (h _ _ _ _ hs)⟩
section
variable {X:Cx} {pins:List (Addr×Obj)} {σ:St} {H:Hp} {s s':Shared}
theorem Inv.env0 (I:Inv X pins σ H s):Env0 X.prog X.w X.K X.mg X.base X.A X.stack s H :=
 ⟨I.ok.frames,I.ok.mod,I.bs,Nat.le_trans I.ok.bsz I.sz,I.stack,I.stkFree,I.hok,I.bare⟩
theorem Inv.after {Q:VK} {u:Value} (I:Inv X pins σ H s) (h:CE X.stack X.prog X.w H s Q u s'):EP X pins σ Q u s':=by
 obtain ⟨v,H',os,bare,un,hok,r,q⟩:=h
 obtain ⟨hh,g,d,t,os'⟩:=s'
 obtain rfl:os'=s.os:=os
 exact ⟨v,H',I.call (h':=hh) (g':=g) (d':=d) (t':=t) (ch:=[]) un hok bare (λb z=>absurd z (by simp)),r,q⟩
end
noncomputable def ZaE (sp:Sp) (dvs:List V) (E:XK) (t:TA):TE:=λσ H Q=>t σ H λvs H1=>sp (vs++dvs) H1 Q E
noncomputable def Binds (K:PySem.W.Frag) (fd:FuncData) (ps:List Str) (ds:List Value):Prop :=
 ∀ (s:Shared) (us:List Value),K.In s.heap->(us++ds).length=ps.length->BindsTo s fd ⟨us,[]⟩ (ps.zip (us++ds))
theorem Binds.all {K:PySem.W.Frag} {fd:FuncData} {ps:List Str} (h:∀ us:List Value,us.length=ps.length->bindArgs fd ⟨us,[]⟩=pure (ps.zip us)):Binds K fd ps []:=λs us _ hl=>by
 rw [List.append_nil] at hl ⊢
 exact .of_eq (h us hl)
noncomputable def w8 (CX:eI) (X:Cx) (E:XK):Prop:=∀ (pins:List (Addr×Obj)) (σ:St) (H:Hp) (s:Shared) (e:Value) (s':Shared),Inv X pins σ H s->CX X.stack H s E e s'->X.xe e s'
section
variable {X:Cx} {CX:eI} {k:Nat} {f C:Addr} {fd:FuncData} {ps:List Str} {sp:Sp} {dvs:List V} {ds:List Value} {E:XK} {x m:Str} {p pos apos:Pos} {e o:Expr} {es:List Expr} {ta:TE} {t:TA}
theorem ZgW {pins:List (Addr×Obj)} {σ:St} {H:Hp} {s:Shared} {Q:VK} {us:List Value} {vs:List V} (F:FnOk X.prog X.w X.K X.mg X.base CX k f fd ps sp) (hr:Room k X.A) (hb:Binds X.K fd ps ds) (hd:Vals dvs ds) (hx:w8 CX X E)
  (I:Inv X pins σ H s) (r:Vals vs us) (h:sp (vs++dvs) H Q E):wpAny (model X.prog X.w) X.A (call (.ref f) us) (EP X pins σ Q) X.xe s:=by
 have r2:Vals (vs++dvs) (us++ds):=r.append hd
 have hl:(us++ds).length=ps.length:=by rw [<- r2.length]; exact F.len _ _ _ _ h
 refine wpAny_call (codeAny_mono (F.run X.A X.stack s H ⟨us,[]⟩ (us++ds) (vs++dvs) Q E hr I.env0 (hb s us I.kIn hl) r2 h) λr s' hq=>?_)
 cases r with
 | error e=>exact hx pins σ H s e s' I hq
 | ok fl =>
  cases fl with
  | ret u=>exact I.after hq
  | next=>exact False.elim hq
  | brk=>exact False.elim hq
  | cont=>exact False.elim hq
theorem ZhW (F:FnOk X.prog X.w X.K X.mg X.base CX k f fd ps sp) (hr:Room k X.A) (hg:Gl X x) (hm:X.mg x=some (.ref f)) (hk:PySem.W.keepIn X.K (.ref f)=true) (hb:Binds X.K fd ps ds) (hd:Vals dvs ds) (hx:w8 CX X E)
  (ha:PA X (e::es) t) (hdb:(x == ("__debug__":Str))=false:=by decide) (he:starEach (e::es) X.env=(false,eval e X.env)::starEach es X.env:=by rfl) (hpl:(backTo pos (starEach es X.env)).any (·.1)=false:=by rfl) :
  PE X (.Call (.Name x p) (e::es) [] pos) (ZaE sp dvs E t):=by
 intro pins s σ H Q I h
 refine wpAny_Call_Name_kw (Zc8 I hg hm ?_ hdb)
 refine PySem.W.callWith_K (h₀:=X.base) I.ok.mod.kin hk (thn (ha pos pins s σ H _ I h) λus s1 ⟨vs,H1,I1,r,q⟩=>⟨I1.kIn,?_⟩) he hpl
 exact ZgW F hr hb hd hx I1 r q
structure Mk (K:PySem.W.Frag) (C f:Addr):Prop where
 makes:PySem.W.makesIn K C=true
 init:PySem.W.findIn K (.ref C) "__init__"=some (some (.ref f))
 fn:PySem.W.isFn K (.ref f)=true
 kp:PySem.W.keepIn K (.ref C)=true
end
noncomputable def PK (X:Cx) (kws:List Keyword) (t:TA):Prop :=
 ∀ (pos:Pos) (pins:List (Addr×Obj)) (s:Shared) (σ:St) (H:Hp) (Q:List V->Hp->Prop),Inv X pins σ H s->t σ H Q->wpAny (model X.prog X.w) X.A (evalAll ((backToKw pos (keywordEach kws X.env)).map (·.2))) (AP X pins σ Q) X.xe s
section
variable {X:Cx} {CX:eI} {k:Nat} {f C:Addr} {fd:FuncData} {ps ks:List Str} {sp:Sp} {E:XK} {x m:Str} {p pos apos kpos:Pos} {e o:Expr} {es:List Expr} {kws:List Keyword} {te ta:TE} {t tk:TA} {nm:Option Str}
variable {g:List Value->List Value->List Value} {gV:List V->List V->List V}
end
structure FnScope (N P:List Str) (sc:Scope):Prop where
 kind:sc.kind=.function
 co:sc.isCoroutine=false
 gen:sc.isGenerator=false
 nd:N.Nodup
 pre:N.take P.length=P
 par:∀ x∈P,sc.names.lookup x=some .local\/sc.names.lookup x=some .cell
 nofree:∀ y∈sc.names,y.2≠.free
theorem ZeY {kindOf:Str->Option NameKind} {x:Str}:∀ {binds:List (Str×Value)} {m:Str->Option Value},(∀ v,(x,v) ∉ binds)->bindL kindOf binds m x=m x
 | [],_,_=>rfl
 | (n,v)::r,m,h=>by
  unfold bindL
  rw [ZeY λw hw=>h w (List.mem_cons_of_mem _ hw)]
  split
  ·have:x≠n:=by rintro rfl; exact h v List.mem_cons_self
   simp [this]
  ·rfl
theorem Ze0 {kindOf:Str->Option NameKind} {x:Str}:∀ {binds:List (Str×Value)} {m:Str->Option Value},(∀ v,(x,v) ∉ binds)->bindC kindOf binds m x=m x
 | [],_,_=>rfl
 | (n,v)::r,m,h=>by
  unfold bindC
  rw [Ze0 λw hw=>h w (List.mem_cons_of_mem _ hw)]
  split
  ·rfl
  ·have:x≠n:=by rintro rfl; exact h v List.mem_cons_self
   simp [this]
theorem ZeZ {kindOf:Str->Option NameKind} {x:Str} {v:Value}:∀ {P:List Str} {vs:List Value} {i:Nat} {m:Str->Option Value},P.Nodup->P[i]?=some x->vs[i]?=some v->kindOf x=some .local ->
  bindL kindOf (P.zip vs) m x=some v
 | [],_,_,_,_,h,_,_=>by simp at h
 | _::_,[],_,_,_,_,h,_=>by simp at h
 | p::P,w::vs,0,m,nd,h1,h2,hk=>by
  simp at h1 h2; subst h1; subst h2
  show bindL kindOf ((p,w)::P.zip vs) m p=_
  unfold bindL
  rw [ZeY λv hv=>(List.nodup_cons.mp nd).1 (List.of_mem_zip hv).1,if_pos hk]
  simp
 | p::P,w::vs,i+1,m,nd,h1,h2,hk=>by
  show bindL kindOf ((p,w)::P.zip vs) m x=_
  unfold bindL
  exact ZeZ (i:=i) (List.nodup_cons.mp nd).2 (by simpa using h1) (by simpa using h2) hk
theorem Ze1 {kindOf:Str->Option NameKind} {x:Str} {v:Value}:∀ {P:List Str} {vs:List Value} {i:Nat} {m:Str->Option Value},P.Nodup->P[i]?=some x->vs[i]?=some v->kindOf x≠some .local ->
  bindC kindOf (P.zip vs) m x=some v
 | [],_,_,_,_,h,_,_=>by simp at h
 | _::_,[],_,_,_,_,h,_=>by simp at h
 | p::P,w::vs,0,m,nd,h1,h2,hk=>by
  simp at h1 h2; subst h1; subst h2
  show bindC kindOf ((p,w)::P.zip vs) m p=_
  unfold bindC
  rw [Ze0 λv hv=>(List.nodup_cons.mp nd).1 (List.of_mem_zip hv).1,if_neg hk]
  simp
 | p::P,w::vs,i+1,m,nd,h1,h2,hk=>by
  show bindC kindOf ((p,w)::P.zip vs) m x=_
  unfold bindC
  exact Ze1 (i:=i) (List.nodup_cons.mp nd).2 (by simpa using h1) (by simpa using h2) hk
noncomputable def start (N:List Str) (vs:List V):St:=vs.map some++List.replicate (N.length - vs.length) none
noncomputable def gy (CX:eI) (P:Program) (w:World) (K:PySem.W.Frag) (mg:Str->Option Value) (base:Heap) (N:List Str) (qual:Str) (scope:Scope) (f:Addr) (cd:Value) (A:Around) (outer:List Env) (s:Shared) (H:Hp) (E:XK):Cx where
 prog:=P
 w:=w
 K:=K
 mg:=mg
 base:=base
 A:=A.deeper (envOfC qual scope s.heap.objs.size f cd)
 N:=N
 s₀:=s
 H₀:=H
 env:=envOfC qual scope s.heap.objs.size f cd
 outer:=outer
 stack:=envOfC qual scope s.heap.objs.size f cd::outer
 ex:=[]
 calm:=true
 fn:=λ_=>true
 pn:=[]
 xe:=λe s'=>wpAny (model P w) (A.deeper (envOfC qual scope s.heap.objs.size f cd)) (leaving (envOfC qual scope s.heap.objs.size f cd) e) (λ_ s''=>CX outer H s E e s'') (λe' s''=>CX outer H s E e' s'') s'
theorem ZeF {sc:Scope} {n:Nat} {x:Str} (h:sc.names.lookup x=some .cell):∃ c,(cellsFrom n sc.names []).lookup x=some c:=by
 have q:=PySem.W.cellsFrom_some sc.names n [] (.inl h)
 exact Option.isSome_iff_exists.mp q
theorem ZjB {CX:eI} {P:Program} {w:World} {K:PySem.W.Frag} {mg:Str->Option Value} {base:Heap} {N ps:List Str} {qual:Str} {scope:Scope} {f:Addr} {cd:Value} {A:Around} {outer:List Env} {s s1:Shared} {H:Hp} {E:XK} {us:List Value} {vs:List V}
  (S:FnScope N ps scope) (hd:A.handled=none) (e0:Env0 P w K mg base A outer s H) (hl:vs.length=ps.length) (r:Vals vs us)
  (x:InCallC s s.heap.objs.size (bindL (envOfC qual scope s.heap.objs.size f cd).kindOf (ps.zip us) λ_=>none) (cellsFrom (s.heap.objs.size+1) scope.names []) (bindC (envOfC qual scope s.heap.objs.size f cd).kindOf (ps.zip us) λ_=>none) s1) :
  Inv (gy CX P w K mg base N qual scope f cd A outer s H E) [] (start N vs) H s1:=by
 have hpl:ps.length<=N.length:=by have:=congrArg List.length S.pre; rw [List.length_take] at this; omega
 obtain ⟨h1,tk,rfl,hk⟩:=x.done
 have noA:∀ b:Addr,b ∉ (gy CX P w K mg base N qual scope f cd A outer s H E).ex:=λb z=>absurd (show b∈([]:List Addr) from z) (by simp)
 refine ⟨⟨e0.mod,S.kind,rfl,rfl,Nat.le_refl _,λy z c h1 h2=>?_,λy hy=>?_,λy c _ h=>?_,λ_=>hd,Around.frames_deeper e0.frames,.inr ⟨rfl,rfl⟩,λb z=>absurd z (noA b),e0.bs,e0.bsz,λb _ _=>noA b,λb z=>absurd z (noA b),e0.funs,e0.frf⟩,
  rfl,e0.bare,Un.kept hk,⟨_,x.toInCall.ns,λi y v h1 h2 h3=>?_⟩,λy c h=>⟨_,x.cell y c h⟩,e0.hok.fresh (Nat.le_refl _),λy c h=>?_,λp hp=>absurd (show p∈([]:List (Addr×Obj)) from hp) (by simp),e0.hok.kept hk,?_⟩
 ·exact name_of_addr x.apart (PySem.mem_of_lookup h1) (PySem.mem_of_lookup h2)
 ·have hy:scope.names.lookup y=some .cell\/scope.names.lookup y=some .free:=hy
  rcases hy with hy | hy
  ·exact ZeF hy
  ·exact absurd rfl (S.nofree _ (PySem.mem_of_lookup hy))
 ·exact Nat.le_of_lt (x.above y c (PySem.mem_of_lookup h))
 ·have hi:i < vs.length:=by
   unfold start at h2
   by_cases hi:i < vs.length
   ·exact hi
   ·rw [List.getElem?_append_right (by simpa using hi)] at h2
    rw [List.getElem?_replicate] at h2
    split at h2 <;> cases h2
  have ha:vs[i]?=some v:=by
   unfold start at h2
   rw [List.getElem?_append_left (by simpa using hi),List.getElem?_map] at h2
   cases e:vs[i]? with
   | none=>rw [e] at h2; cases h2
   | some a=>rw [e] at h2; cases h2; rfl
  obtain ⟨u,hu,rv⟩:=r.get ha
  have hp:ps[i]?=some y:=by
   rw [<- S.pre,List.getElem?_take_of_lt (by omega)]; exact h1
  have ndP:ps.Nodup:=by rw [<- S.pre]; exact S.nd.sublist (List.take_sublist _ _)
  refine ⟨u,rv,?_⟩
  rcases S.par y (List.mem_of_getElem? hp) with k | k
  ·exact .inl ⟨k,ZeZ ndP hp hu k⟩
  ·obtain ⟨c,e⟩:=ZeF (n:=s.heap.objs.size+1) k
   refine .inr ⟨.inl k,c,e,?_⟩
   have q:=x.cell y c e
   rw [Ze1 ndP hp hu (by show scope.names.lookup y≠_; rw [k]; decide)] at q
   exact q
 ·exact e0.hok.fresh (Nat.le_of_lt (x.above y c (PySem.mem_of_lookup h)))
 ·unfold start
  show _=N.length
  rw [List.length_append,List.length_map,List.length_replicate]
  omega
theorem ZjX {CX:eI} {P:Program} {w:World} {K:PySem.W.Frag} {mg:Str->Option Value} {base:Heap} {k:Nat} {f:Addr} {name qual:Str} {params:Arguments} {body:List Stmt} {scope:Scope} {dV kV doc pm cdv ct oc:Value} {an od:Option Addr}
  {osl:Array (Option Value)} {N ps:List Str} {sp:Sp} (lk:K.lookup f=some ⟨oc,od,.func (PySem.W.fnOf name qual params body scope dV kV doc pm an cdv ct),osl⟩) (hcd:PySem.W.codeIn K cdv qual=true) (S:FnScope N ps scope)
  (len:∀ vs H Q E,sp vs H Q E->vs.length=ps.length)
  (hbody:∀ (A:Around) (outer:List Env) (s:Shared) (H:Hp) (vs:List V) (Q:VK) (E:XK),Room k (A.deeper (envOfC qual scope s.heap.objs.size f cdv))->sp vs H Q E ->
   ∃ t,PSs (gy CX P w K mg base N qual scope f cdv A outer s H E) body t/\t { nx:=λ_ H'=>Q .non H',rt:=Q } (start N vs) H) :
  FnOk P w K mg base CX (k+1) f (PySem.W.fnOf name qual params body scope dV kV doc pm an cdv ct) ps sp:=by
 refine ⟨len,λA outer s H args us vs Q E hr e0 hb r hsp=>?_⟩
 have hl:=len _ _ _ _ hsp
 have KX:K.In s.heap:=e0.mod.kin.keeps λb o e=>(e0.bs b o e).1
 have lim:s.heap.NoLimit:=e0.mod.nolimit.keeps λb o e=>(e0.bs b o e).1
 have hkind:∀ y∈ps.zip us,scope.names.lookup y.1=some .local\/(scope.names.lookup y.1=some .cell/\((cellsFrom (s.heap.objs.size+1) scope.names []).lookup y.1).isSome=true):=λ⟨n,v⟩ hy=>by
  rcases S.par n (List.of_mem_zip hy).1 with q | q
  ·exact .inl q
  ·exact .inr ⟨q,PySem.W.cellsFrom_some _ _ _ (.inl q)⟩
 refine codeAny_call_function hr.depth (KX _ _ lk) rfl S.co S.gen rfl (PySem.W.codeRec_of KX hcd) (hb _ _ _ _ ?_)
 refine wpAny_newFunctionEnv_cells S.kind hkind λenv he s1 x=>?_
 subst he
 refine ⟨lim.keeps x.toInCall.keep,codeAny_func ?_⟩
 obtain ⟨t,ht,hq⟩:=hbody A outer s H vs Q E (hr.deeper _) hsp
 have I:Inv (gy CX P w K mg base N qual scope f cdv A outer s H E) [] (start N vs) H s1:=ZjB S hr.hd e0 hl r x
 refine wpAny_mono (ht [] s1 (start N vs) H _ I hq) (λfl s' hs=>?_) λe s' hs=>hs
 have fin:∀ {σ':St} {H':Hp} {v:V} {u:Value},Inv (gy CX P w K mg base N qual scope f cdv A outer s H E) [] σ' H' s'->RelV v u->Q v H'->CE outer P w H s Q u s' :=
  λ{σ' H' v u} J rv q=>⟨v,H',J.os,J.bare,J.base,J.hok,rv,q⟩
 cases fl with
 | ret u =>
  obtain ⟨v,σ',H',J,rv,q⟩:=hs
  exact fin J rv q
 | next =>
  obtain ⟨σ',H',J,q⟩:=hs
  exact fin (v:=V.non) (u:=Value.none) J rfl q
 | brk =>
  obtain ⟨_,_,_,q⟩:=hs
  exact False.elim q
 | cont =>
  obtain ⟨_,_,_,q⟩:=hs
  exact False.elim q
section
variable {X:Cx} {x:Str} {p pos:Pos} {e:Expr} {es:List Expr} {t:TA} {id T:String} {r:List V->Hp->VK->Prop}
noncomputable def eJ (r:List V->Hp->VK->Prop) (t:TA):TE:=λσ H Q=>t σ H λvs H1=>r vs H1 Q
theorem aU (hc:db X (.builtin id) r) (hg:Gl X x) (hm:X.mg x=none) (hv:bootBuiltins x=some (.builtin id)) (ha:PA X (e::es) t) (hn:x≠"__name__":=by decide) (hdb:(x == ("__debug__":Str))=false:=by decide)
  (he:starEach (e::es) X.env=(false,eval e X.env)::starEach es X.env:=by rfl) (hpl:(backTo pos (starEach es X.env)).any (·.1)=false:=by rfl):PE X (.Call (.Name x p) (e::es) [] pos) (eJ r t):=by
 intro pins s σ H Q I h
 refine wpAny_Call_Name_kw (i8 I hg hm hv ?_ hn hdb)
 exact PyProof.Rows.callWith_builtin1 (thn (ha pos pins s σ H _ I h) λus s1 ⟨vs,H1,I1,r1,q1⟩=>hc pins s1 σ H1 vs us Q I1 r1 q1) he hpl
theorem fc (hc:db X (.type T) r) (hg:Gl X x) (hm:X.mg x=none) (hv:bootBuiltins x=some (.type T)) (ha:PA X (e::es) t) (hn:x≠"__name__":=by decide) (hdb:(x == ("__debug__":Str))=false:=by decide)
  (he:starEach (e::es) X.env=(false,eval e X.env)::starEach es X.env:=by rfl) (hpl:(backTo pos (starEach es X.env)).any (·.1)=false:=by rfl):PE X (.Call (.Name x p) (e::es) [] pos) (eJ r t):=by
 intro pins s σ H Q I h
 refine wpAny_Call_Name_kw (i8 I hg hm hv ?_ hn hdb)
 exact PyProof.Rows.callWith_type1 (thn (ha pos pins s σ H _ I h) λus s1 ⟨vs,H1,I1,r1,q1⟩=>hc pins s1 σ H1 vs us Q I1 r1 q1) he hpl
end
end L2
namespace HT
open PySem PyProof.Rows
noncomputable def cO:List Int->List Int->Bool
 | [],[]=>false
 | [],_::_=>true
 | _::_,[]=>false
 | x::xs,y::ys=>if x=y then cO xs ys else decide (x < y)
theorem Zc2 (x y:Int) (xs ys:List Int):cO (x::xs) (y::ys)=if x=y then cO xs ys else decide (x < y):=rfl
theorem Zc1:cO [] []=false:=rfl
theorem ZiX (y:Int) (ys:List Int):cO [] (y::ys)=true:=rfl
theorem ZiY (x:Int) (xs:List Int):cO (x::xs) []=false:=rfl
theorem Zkf (A:Around) (s:Shared) (a:Int) (t:Tok) (c:Int) (u:Tok):∃ e,SeqAt.EqAt A s (.int a t) (.int c u) e/\(e=true ↔ a=c) :=
 ⟨(a == c),SeqAt.EqAt.int_int a t c u,by simp⟩
theorem Zha (A:Around) (s:Shared) (a:Int) (t:Tok) (c:Int) (u:Tok) (prog:Program) (w:World) (E:Value->Shared->Prop) (Q:Value->Shared->Prop) (h:Q (.bool (decide (a < c))) s) :
  wpAny (model prog w) A (richCompare .Lt (.int a t) (.int c u)) Q E s :=
 (PyProof.Rows.lt_int h:wpAny (model prog w) A (compareOp .Lt (.int a t) (.int c u)) Q E s)
section
open PySem.SeqAt
open PySem.AutoSeq1 (wpAny_loadPart')
open PySem.MeetsSeq PySem.MeetsSeq2 PySem.MeetsSeq3
theorem Zf1 (l b:Addr) (items items2:Array Value) (n n2:Nat) (dd dd2:Option Addr) (sl eM:Array (Option Value)) (ns ms:List Int) (hi:IntsAre items.toList ns) (hj:IntsAre items2.toList ms) :
  Meets (Builtin.«tuple.__lt__» ⟨[.ref l,.ref b],[]⟩)
   (λ_ R s=>s.heap.get? l=some { cls:=.type "tuple",dict:=dd,data:=.seq items n,slots:=sl }/\s.heap.get? b=some { cls:=.type "tuple",dict:=dd2,data:=.seq items2 n2,slots:=eM } /\
    R (.ok (.ret (.bool (cO ns ms)))) s) :=
 .of_wp λprog w A R s h=>by
  obtain ⟨hp,g,d,tk,os⟩:=s; obtain ⟨hl,hb,h⟩:=h
  have f2:=AutoSeq1.sub_tuple_tuple
  have z1:items.size=ns.length:=by rw [<- hi.length]; simp
  have z2:items2.size=ms.length:=by rw [<- hj.length]; simp
  wp_walk using wpAny_loadPart' hl,wpAny_loadPart' hb,wpAny_forIn_list _ (λrest b s'=>b.1=none/\s'=⟨hp,g,d,tk,os⟩/\∃ (vs ws:List Value) (ns' ms':List Int),rest=vs.zip ws /\
   IntsAre vs ns'/\IntsAre ws ms'/\ns'.length+items2.size=ms'.length+items.size/\R (.ok (.ret (.bool (cO ns' ms')))) ⟨hp,g,d,tk,os⟩) _
  case turn =>
   rintro ⟨y,x⟩ rest b s' ⟨hb',rfl,vs,ws,ns',ms',hz,hvi,hwi,hlen,hR⟩
   cases hvi with
   | nil=>rw [List.zip_nil_left] at hz; cases hz
   | cons a t hvi' =>
    cases hwi with
    | nil=>rw [List.zip_nil_right] at hz; cases hz
    | cons c u hwi' =>
     rw [List.zip_cons_cons] at hz
     injection hz with hyx hrest
     injection hyx with hy hx
     subst hy hx
     rw [Zc2] at hR
     simp only [List.length_cons] at hlen
     obtain ⟨e,he,hiff⟩:=Zkf A.in1 ⟨hp,g,d,tk,os⟩ a t c u
     refine wpAny_bind (he prog w _ _ ?_)
     cases e with
     | true =>
      rw [if_pos (hiff.mp rfl)] at hR
      wp_walk
      exact ⟨rfl,rfl,_,_,_,_,hrest,hvi',hwi',by omega,hR⟩
     | false =>
      rw [if_neg (λq=>absurd (hiff.mpr q) Bool.false_ne_true)] at hR
      have hri:=Zha A.in1 ⟨hp,g,d,tk,os⟩ a t c u prog w
      wp_walk using hri
      exact ⟨_,rfl,by simpa using hR⟩
  case fin =>
   rintro ⟨b1,b2⟩ s' ⟨hb',rfl,vs,ws,ns',ms',hz,hvi,hwi,hlen,hR⟩
   simp only at hb'
   subst hb'
   have hv:cO ns' ms'=decide (items.size < items2.size):=by
    cases hvi with
    | nil =>
     cases hwi with
     | nil =>
      simp only [List.length_nil] at hlen
      rw [Zc1]
      exact (decide_eq_false (by omega)).symm
     | cons c u hw =>
      simp only [List.length_nil,List.length_cons] at hlen
      rw [ZiX]
      exact (decide_eq_true (by omega)).symm
    | cons a t hv =>
     cases hwi with
     | nil =>
      simp only [List.length_nil,List.length_cons] at hlen
      rw [ZiY]
      exact (decide_eq_false (by omega)).symm
     | cons c u hw =>
      rw [List.zip_cons_cons] at hz
      cases hz
   rw [hv] at hR
   wp_walk
   exact ⟨_,rfl,by simpa [Builtin.Tuple.tupleCompareSizes] using hR⟩
  case h =>
   exact ⟨rfl,rfl,items.toList,items2.toList,ns,ms,rfl,hi,hj,by omega,h⟩
end
section
variable {prog:Program} {w:World} {A:Around} {E:Value->Shared->Prop} {s:Shared}
theorem ZiT {l b:Addr} {items items2:Array Value} {ns ms:List Int} {Q:Value->Shared->Prop} (hl:IsTup s.heap l items) (hb:IsTup s.heap b items2) (hi:IntsAre items.toList ns) (hj:IntsAre items2.toList ms)
  (hu:A.units < cLine) (h:Q (.bool (cO ns ms)) s):wpAny (model prog w) A (compareOp .Lt (.ref l) (.ref b)) Q E s:=by
 obtain ⟨⟨cls,dd,data,sl⟩,ho,hc,n,hd⟩:=id hl
 obtain ⟨⟨cls2,dd2,data2,eM⟩,ho2,hc2,n2,hd2⟩:=id hb
 simp only at hc hd hc2 hd2
 subst hc hd hc2 hd2
 exact richCompare_meets_room (op:=.Lt) ⟨_,ho,rfl⟩ ⟨_,ho2,rfl⟩ PySem.F.slot_tuple_lt PySem.F.entry_tuple_lt (PySem.F.args_tuple_lt_2 _ _) (Zf1 l b items items2 n n2 dd dd2 sl eM ns ms hi hj)
  ⟨ho,ho2,show Value.bool (cO ns ms)≠Value.notImplemented/\Q (.bool (cO ns ms)) s from ⟨(λx=>nomatch x),h⟩⟩ hu
theorem ZlB {t b:Addr} {vs ws:List Value} {Q:Value->Shared->Prop} (ht:IsTup s.heap t vs.toArray) (hb:IsTup s.heap b ws.toArray) (hv:vs≠[])
  (h1:ws=[]->Q (.ref t) s) (h2:ws≠[]->Q (.ref s.heap.objs.size) { s with heap:=s.heap.push { cls:=.type "tuple",data:=.seq (vs++ws).toArray } })
  (hsz:vs.length+ws.length<=sizeLine):wpAny (model prog w) A (binaryOp .Add (.ref t) (.ref b)) Q E s:=by
 obtain ⟨⟨cls,dd,data,sl⟩,ho,hc,n,hd⟩:=id ht
 obtain ⟨⟨cls2,dd2,data2,eM⟩,ho2,hc2,n2,hd2⟩:=id hb
 simp only at hc hd hc2 hd2
 subst hc hd hc2 hd2
 have e:vs.toArray++ws.toArray=(vs++ws).toArray:=by simp
 by_cases hw:ws=[]
 ·exact concat_meets ⟨_,ho,rfl⟩ ⟨_,ho2,rfl⟩ noFill_tuple_add seq_tuple_add PySem.F.slot_tuple_add PySem.F.entry_tuple_add (PySem.F.args_tuple_add_2 _ _)
   (tuple_addW1 t b vs.toArray ws.toArray n n2 dd dd2 sl eM (by simpa using hv) (by simp [hw])) ⟨ho,ho2,h1 hw⟩
 ·refine concat_meets ⟨_,ho,rfl⟩ ⟨_,ho2,rfl⟩ noFill_tuple_add seq_tuple_add PySem.F.slot_tuple_add PySem.F.entry_tuple_add (PySem.F.args_tuple_add_2 _ _)
   (tuple_addW2 t b vs.toArray ws.toArray n n2 dd dd2 sl eM (by simpa using hv) (by simpa using hw) (by rw [List.size_toArray,List.size_toArray]; exact hsz)) ⟨ho,ho2,?_⟩
  rw [e]
  exact h2 hw
noncomputable def aE (n d:Nat):Option Int->Nat
 | none=>d
 | some v=>if v < 0 then (v+(n:Int)).toNat else min v.toNat n
theorem uE (n d:Nat):aE n d none=d:=rfl
theorem uF (n d k:Nat):aE n d (some (k:Int))=min k n:=by
 show (if (k:Int) < 0 then ((k:Int)+(n:Int)).toNat else min (k:Int).toNat n)=min k n
 rw [if_neg (by omega),Int.toNat_natCast]
theorem ZgV (n d:Nat) (hd:d<=n) (o:Option Int):aE n d o<=n:=by
 cases o with
 | none=>exact hd
 | some v =>
  show (if v < 0 then (v+(n:Int)).toNat else min v.toNat n)<=n
  by_cases hv:v < 0
  ·rw [if_pos hv]; omega
  ·rw [if_neg hv]; exact Nat.min_le_right _ _
theorem ZeE (v:Int) (n d:Nat):(if v < 0 then max (v+(n:Int)) 0 else min v (n:Int))=((aE n d (some v):Nat):Int):=by
 show (if v < 0 then max (v+(n:Int)) 0 else min v (n:Int))=(((if v < 0 then (v+(n:Int)).toNat else min v.toNat n):Nat):Int)
 by_cases hv:v < 0
 ·rw [if_pos hv,if_pos hv,Int.ofNat_toNat]
 ·rw [if_neg hv,if_neg hv]
  obtain ⟨k,rfl⟩:=Int.eq_ofNat_of_zero_le (Int.not_lt.mp hv)
  rw [Int.toNat_natCast,<- Lean.Omega.Int.ofNat_min]
theorem Zmw (lo hi:Option Int) (n:Nat):Builtin.Slice.sliceAdjust lo hi 1 (n:Int)=(((aE n 0 lo:Nat):Int),((aE n n hi:Nat):Int)):=by
 have h1:¬ ((1:Int) < 0):=by omega
 unfold Builtin.Slice.sliceAdjust
 simp only [h1,if_false]
 refine Prod.ext ?_ ?_
 ·cases lo with
  | none=>rfl
  | some v=>exact ZeE v n 0
 ·cases hi with
  | none=>rfl
  | some v=>exact ZeE v n n
theorem Zhz (i j:Nat):Builtin.Slice.slicePlaces (i:Int) (j:Int) 1=j - i:=by
 unfold Builtin.Slice.slicePlaces
 have h1:(1:Int) > 0:=by omega
 simp only [h1,if_true,Int.ediv_one]
 split <;> omega
theorem ZaT {v:Value} {o:Option Int} {Q:Option Int->Shared->Prop} (p:IsPart v o) (h:Q o s):wpAny (model prog w) A (Builtin.Slice.slicePartIndex v) Q E s:=by
 cases p with
 | none=>exact slicePart_none h
 | int i t=>exact slicePart_int h
theorem ZaV {sl:Addr} {vl vu:Value} {lo hi:Option Int} {n:Nat} {Q:Int×Int×Nat->Shared->Prop} (hs:s.heap.IsSliceOf sl vl vu .none) (pl:IsPart vl lo) (pu:IsPart vu hi)
  (h:Q (((aE n 0 lo:Nat):Int),1,aE n n hi - aE n 0 lo) s):wpAny (model prog w) A (Builtin.Slice.sliceApplied (.ref sl) (pure (n:Int))) Q E s:=by
 obtain ⟨os,hos,hcs,hds⟩:=id hs
 unfold Builtin.Slice.sliceApplied Builtin.Slice.sliceFields
 refine wpAny_bind (wpAny_bind (wpAny_field hos hds (x:=vl) rfl (wpAny_bind (wpAny_field hos hds (x:=vu) rfl (wpAny_bind (wpAny_field hos hds (x:=.none) rfl (wpAny_pure ?_)))))))
 refine wpAny_bind (slicePart_none ?_)
 show wpAny _ _ (if ((1:Int) == 0)=true then _ else _) _ _ s
 rw [if_neg (by decide)]
 refine wpAny_bind (ZaT pl (wpAny_bind (ZaT pu (wpAny_bind (wpAny_pure ?_)))))
 show wpAny _ _ (match Builtin.Slice.sliceAdjust lo hi 1 (n:Int) with | (lo,hi)=>pure (lo,(1:Int),Builtin.Slice.slicePlaces lo hi 1)) _ _ s
 rw [Zmw lo hi n]
 show wpAny _ _ (pure (((aE n 0 lo:Nat):Int),(1:Int),Builtin.Slice.slicePlaces ((aE n 0 lo:Nat):Int) ((aE n n hi:Nat):Int) 1)) _ _ s
 rw [Zhz]
 exact wpAny_pure h
theorem ZhA (xs:Array Value) (i k:Nat):((List.range k).filterMap λ(m:Nat)=>xs[((i:Int)+(m:Int) * 1).toNat]?).toArray=((xs.toList.drop i).take k).toArray:=by
 have e:(λ(m:Nat)=>xs[((i:Int)+(m:Int) * 1).toNat]?)=λm=>xs[i+m]?:=by
  funext m
  have:((i:Int)+(m:Int) * 1).toNat=i+m:=by omega
  rw [this]
 rw [e]
 have:=pick_run xs i k
 rw [List.filterMap_map] at this
 have e2:((λx=>xs[x]?) ∘ λx=>i+x)=λm=>xs[i+m]?:=rfl
 rw [e2] at this
 rw [this]
theorem ZjK {t sl:Addr} {items:Array Value} {vl vu:Value} {lo hi:Option Int} {Q:Value->Shared->Prop} (ht:IsTup s.heap t items) (hs:s.heap.IsSliceOf sl vl vu .none) (pl:IsPart vl lo) (pu:IsPart vu hi)
  (hw:¬ (aE items.size 0 lo=0/\aE items.size items.size hi=items.size))
  (h:Q (.ref s.heap.objs.size) { s with heap:=s.heap.push { cls:=.type "tuple",data:=.seq ((items.toList.drop (aE items.size 0 lo)).take (aE items.size items.size hi - aE items.size 0 lo)).toArray } })
  (hsz:items.size<=sizeLine):wpAny (model prog w) A (getItem (.ref t) (.ref sl)) Q E s:=by
 have htake:sizeOk (.seq ((items.toList.drop (aE items.size 0 lo)).take (aE items.size items.size hi - aE items.size 0 lo)).toArray):=by
  show ((items.toList.drop (aE items.size 0 lo)).take (aE items.size items.size hi - aE items.size 0 lo)).toArray.size<=sizeLine
  rw [List.size_toArray,List.length_take,List.length_drop,Array.length_toList]
  exact Nat.le_trans (Nat.min_le_right _ _) (Nat.le_trans (Nat.sub_le _ _) hsz)
 have hj:aE items.size items.size hi<=items.size:=ZgV _ _ (Nat.le_refl _) hi
 obtain ⟨os,hos,hcs,hds⟩:=id hs
 have hTs:s.TypeIs (.ref sl) "slice":=⟨os,hos,hcs⟩
 unfold getItem
 try with_reducible refine wpAny_holding ?_
 first | refine wpAny_bind (wpAny_pure ?_) | skip
 refine wpAny_bind (wpAny_sequenceKey ht.typeIs (by decide) ?_)
 refine wpAny_bind (wpAny_callSpecial?_slot (name:=Str.ofString "__getitem__") ht.typeIs PyProof.Rows.slot_tuple_getitem
  (wpAny_call_entry PyProof.Rows.slot_tuple_getitem ht.typeIs entry_tuple_getitem ?_ (args_tuple_getitem _ _)))
 show wpAny _ _ (Builtin.Tuple.tupleItemsOf (.ref t) >>= _) _ _ s
 refine wpAny_bind (tupleItemsOf_ ht ?_)
 refine wpAny_bind (wpAny_typeOf hTs ?_)
 rw [if_pos (by decide)]
 refine wpAny_bind (ZaV hs pl pu ?_)
 have hno:¬ ((((aE items.size 0 lo:Nat):Int) == 0 && (1:Int) == 1 && (aE items.size items.size hi - aE items.size 0 lo) == items.size)=true):=by
  intro q
  rw [Bool.and_eq_true,Bool.and_eq_true] at q
  have q1:((aE items.size 0 lo:Nat):Int)=0:=eq_of_beq q.1.1
  have q2:aE items.size items.size hi - aE items.size 0 lo=items.size:=eq_of_beq q.2
  exact hw ⟨by omega,by omega⟩
 show wpAny _ _ (if (((aE items.size 0 lo:Nat):Int) == 0 && (1:Int) == 1 && (aE items.size items.size hi - aE items.size 0 lo) == items.size)=true then _ else _) _ _ s
 rw [if_neg hno,ZhA]
 first
  | exact wpAny_bind (m:=Builtin.Tuple.tupleExact _) (wpAny_newObj_type (wpAny_pure ⟨_,rfl,wpAny_pure h⟩) htake)
  | exact wpAny_bind (m:=Builtin.Tuple.tupleExact _) (wpAny_newObj_type (wpAny_bind (wpAny_pure (wpAny_pure ⟨_,rfl,wpAny_pure h⟩))) htake)
  | exact wpAny_bind (wpAny_bind (m:=Builtin.Tuple.tupleExact _) (wpAny_newObj_type (wpAny_pure (wpAny_pure ⟨_,rfl,wpAny_pure h⟩)) htake))
  | exact wpAny_bind (wpAny_bind (m:=Builtin.Tuple.tupleExact _) (wpAny_newObj_type (wpAny_pure ⟨_,rfl,wpAny_pure h⟩) htake))
end
end HT
namespace L2
open PySem PySem.Spec PyProof.Rows
noncomputable abbrev TO:=St->Hp->(Option Int->Hp->Prop)->Prop
noncomputable def PO (X:Cx) (e:Option Expr) (t:TO):Prop :=
 ∀ (pins:List (Addr×Obj)) (s:Shared) (σ:St) (H:Hp) (Q:Option Int->Hp->Prop),Inv X pins σ H s->t σ H Q ->
  wpAny (model X.prog X.w) X.A (evalPart e X.env) (λu s'=>∃ o H',Inv X pins σ H' s'/\IsPart u o/\Q o H') X.xe s
noncomputable def Zge:TO:=λ_ H Q=>Q none H
noncomputable def Zgb (t:TE):TO:=λσ H Q=>t σ H λx H1=>∃ i,x=.int i/\Q (some i) H1
theorem Zdv {ns:List Int}:∀ {us:List Value},Vals (ns.map V.int) us->IntsAre us ns:=by
 induction ns with
 | nil=>intro us r; rw [List.map_nil] at r; cases r; exact .nil
 | cons n ns ih =>
  intro us r
  rw [List.map_cons] at r
  cases r with
  | cons r1 r2 =>
   obtain ⟨t,e⟩:=r1
   subst e
   exact .cons n t (ih r2)
section
variable {X:Cx} {e:Expr} {te:TE} {lo hi:Option Expr} {tl th:TO} {pos p2:Pos}
theorem Zhy:PO X none Zge:=by
 intro pins s σ H Q I h
 rw [evalPart_none]
 exact wpAny_pure ⟨none,H,I,.none,h⟩
theorem Zhx (h:PE X e te):PO X (some e) (Zgb te):=by
 intro pins s σ H Q I hw
 rw [evalPart_some]
 refine thn (h pins s σ H _ I hw) λu s1 hz0=>?_
 obtain ⟨x,H1,I1,r1,q1⟩:=hz0
 obtain ⟨i,rfl,q⟩:=q1
 obtain ⟨t,rfl⟩:=r1
 exact ⟨some i,H1,I1,.int i t,q⟩
noncomputable def SlR (X:Cx) (r:V->Option Int->Option Int->Hp->VK->Prop):Prop :=
 ∀ (pins:List (Addr×Obj)) (s:Shared) (σ:St) (H:Hp) (x:V) (v vl vu:Value) (lo hi:Option Int) (sl:Addr) (Q:VK),Inv X pins σ H s->RelV x v->s.heap.IsSliceOf sl vl vu .none->IsPart vl lo->IsPart vu hi->r x lo hi H Q ->
  ∃ T id,typeLookup (.type T) "__getitem__"=pure (some (.builtin id))/\s.TypeIs v T/\wpAny (model X.prog X.w) X.A (getItem v (.ref sl)) (EP X pins σ Q) X.xe s
theorem SlR.or {r r':V->Option Int->Option Int->Hp->VK->Prop} (h:SlR X r) (h':SlR X r'):SlR X (λx lo hi H Q=>r x lo hi H Q\/r' x lo hi H Q):=by
 intro pins s σ H x v vl vu lo hi sl Q I rx hs pl pu q
 rcases q with q | q
 ·exact h pins s σ H x v vl vu lo hi sl Q I rx hs pl pu q
 ·exact h' pins s σ H x v vl vu lo hi sl Q I rx hs pl pu q
noncomputable def tSl (r:V->Option Int->Option Int->Hp->VK->Prop) (te:TE) (tl th:TO):TE:=λσ H Q=>te σ H λx H1=>tl σ H1 λl H2=>th σ H2 λu H3=>r x l u H3 Q
theorem ZhM {r:V->Option Int->Option Int->Hp->VK->Prop} (hr:SlR X r) (he:PE X e te) (hl:PO X lo tl) (hu:PO X hi th):PE X (.Subscript e (.Slice lo hi none p2) pos) (tSl r te tl th):=by
 intro pins s σ H Q I h
 refine Subscript_ (thn (he pins s σ H _ I h) λv s1 hz0=>?_)
 obtain ⟨x,H1,I1,r1,q1⟩:=hz0
 refine wpAny_Slice (thn (hl pins s1 σ H1 _ I1 q1) λvl s2 ⟨l,H2,I2,pl,q2⟩=>thn (hu pins s2 σ H2 _ I2 q2) λvu s3 hz0=>?_)
 obtain ⟨u,H3,I3,pu,q3⟩:=hz0
 rw [evalPart_none]
 refine wpAny_pure ?_
 have I4:Inv X pins σ H3 { s3 with heap:=s3.heap.push { cls:=.type "slice",data:=.fields #[vl,vu,.none] } }:=I3.kept (t':=s3.toks) λb ob q=>Heap.get?_push_of_some _ q
 obtain ⟨T,id,hT,ht,hg⟩:=hr pins { s3 with heap:=s3.heap.push { cls:=.type "slice",data:=.fields #[vl,vu,.none] } } σ H3 x v vl vu l u s3.heap.objs.size Q I4 r1 (Heap.IsSliceOf.new ..) pl pu q3
 show wpAny (model X.prog X.w) X.A (subscriptTail e (.Slice lo hi none p2) v (.ref s3.heap.objs.size)) (EP X pins σ Q) X.xe { s3 with heap:=s3.heap.push { cls:=.type "slice",data:=.fields #[vl,vu,.none] } }
 exact tail_any (ops:=[.ref s3.heap.objs.size,v]) ht hT hg (by with_unfolding_all rfl)
noncomputable def ic (xs:List V) (lo hi:Option Int):List V:=(xs.drop (HT.aE xs.length 0 lo)).take (HT.aE xs.length xs.length hi - HT.aE xs.length 0 lo)
theorem ZeA (xs:List V) (lo hi:Option Int):(ic xs lo hi).length<=xs.length:=by
 unfold ic
 rw [List.length_take,List.length_drop]
 exact Nat.le_trans (Nat.min_le_right _ _) (Nat.sub_le _ _)
noncomputable def ZbR (K:PySem.W.Frag):V->Option Int->Option Int->Hp->VK->Prop:=λx lo hi H Q=>∃ a xs,x=.ref a/\SqT K H a xs /\
 ¬ (HT.aE xs.length 0 lo=0/\HT.aE xs.length xs.length hi=xs.length)/\∀ p,H p=none->Q (.ref p) (upd H p (.tup (ic xs lo hi)))
theorem Zgz:SlR X (ZbR X.K):=by
 intro pins s σ H x v vl vu lo hi sl Q I rx hs pl pu h
 obtain ⟨a,xs,rfl,hx,hw,q⟩:=h
 cases rx
 obtain ⟨its,r,ht,hz⟩:=I.tuple hx
 have hlen:its.toArray.size=xs.length:=by rw [List.size_toArray]; exact r.length.symm
 refine ⟨"tuple",_,PyProof.Rows.slot_tuple_getitem.lookup,ht.typeIs,?_⟩
 refine HT.ZjK ht hs pl pu (by rw [hlen]; exact hw) ?_ (by rw [hlen]; exact hz)
 rw [hlen]
 refine ⟨.ref s.heap.objs.size,_,I.laid (t':=s.toks) (o:=.tup (ic xs lo hi)) (λb ob q=>Heap.get?_push_of_some _ q) (Nat.le_refl _) ?_,rfl,q _ (I.hok.fresh (Nat.le_refl _))⟩
 exact ⟨Nat.le_trans (ZeA xs lo hi) hz,_,(r.drop (HT.aE xs.length 0 lo)).take (HT.aE xs.length xs.length hi - HT.aE xs.length 0 lo),IsTup.new _ _⟩
noncomputable def Zb9 (K:PySem.W.Frag):R2:=λx y H Q=>∃ a b xs ys,x=.ref a/\y=.ref b/\SqT K H a xs/\SqT K H b ys/\xs≠[]/\xs.length+ys.length<=sizeLine /\
 (ys=[]->Q (.ref a) H)/\(ys≠[]->∀ p,H p=none->Q (.ref p) (upd H p (.tup (xs++ys))))
theorem Vals.nil_iff {xs:List V} {us:List Value} (r:Vals xs us):us=[] ↔ xs=[]:=by
 cases r with
 | nil=>simp
 | cons _ _=>simp
theorem Zid:OpR X (binaryOp .Add) (Zb9 X.K):=by
 intro pins s σ H x y v u Q I rx ry h
 obtain ⟨a,b,xs,ys,rfl,rfl,ha,hb,hx,hz,q1,q2⟩:=h
 cases rx
 cases ry
 obtain ⟨its,r1,p1,_⟩:=I.tuple ha
 obtain ⟨its2,r2,p2,_⟩:=I.tuple hb
 refine HT.ZlB p1 p2 (λz=>hx (r1.nil_iff.mp z)) (λz=>⟨.ref a,H,I,rfl,q1 (r2.nil_iff.mp z)⟩) (λz=>?_) (by rw [<- r1.length,<- r2.length]; exact hz)
 refine ⟨.ref s.heap.objs.size,_,I.laid (t':=s.toks) (o:=.tup (xs++ys)) (λb ob q=>Heap.get?_push_of_some _ q) (Nat.le_refl _) ?_,rfl,q2 (λw=>z (r2.nil_iff.mpr w)) _ (I.hok.fresh (Nat.le_refl _))⟩
 exact ⟨by rw [List.length_append]; exact hz,_,r1.append r2,IsTup.new _ _⟩
end
noncomputable def dJ (n:Nat) (i:Int):Option Nat:=if 0<=i then (if i < n then some i.toNat else none) else if -(n:Int)<=i then some (i+n).toNat else none
noncomputable def bw {α:Type} (xs:List α) (i:Int):Option α:=(dJ xs.length i).bind λj=>xs[j]?
theorem Zdo {n:Nat} {i:Int} {j:Nat} (h:dJ n i=some j):seqIndex? i n=some j/\j < n/\-(n:Int)<=i/\i < n:=by
 unfold dJ at h
 by_cases h0:0<=i
 ·rw [if_pos h0] at h
  by_cases h1:i < n
  ·rw [if_pos h1] at h
   have e:i.toNat=j:=Option.some.inj h
   exact ⟨by rw [seqIndex_of h0 h1,e],by omega,by omega,h1⟩
  ·rw [if_neg h1] at h; cases h
 ·rw [if_neg h0] at h
  by_cases h1:-(n:Int)<=i
  ·rw [if_pos h1] at h
   have e:(i+n).toNat=j:=Option.some.inj h
   exact ⟨by rw [seqIndex_neg (by omega) h1,e],by omega,h1,by omega⟩
  ·rw [if_neg h1] at h; cases h
theorem sP {α:Type} {xs:List α} {i:Int} {v:α} (h:bw xs i=some v):∃ j,seqIndex? i xs.length=some j/\xs[j]?=some v/\j < xs.length/\-(xs.length:Int)<=i/\i < xs.length:=by
 unfold bw at h
 cases e:dJ xs.length i with
 | none=>rw [e] at h; cases h
 | some j =>
  rw [e] at h
  obtain ⟨h1,h2,h3,h4⟩:=Zdo e
  exact ⟨j,h1,h,h2,h3,h4⟩
theorem eV {α:Type} {xs:List α} {j:Nat} {v:α} (h:xs[j]?=some v):bw xs (j:Int)=some v:=by
 have hj:j < xs.length:=(List.getElem?_eq_some_iff.mp h).1
 have e:dJ xs.length (j:Int)=some j:=by
  unfold dJ
  rw [if_pos (by omega),if_pos (by omega)]; simp
 unfold bw; rw [e]; exact h
noncomputable def Zfw (b:Expr):Prop:=∀ o i,subscripted b false o i=operate [o,i] (getItem o i)
noncomputable def IxR (X:Cx) (r:R2):Prop :=
 ∀ (value slice:Expr) (pins:List (Addr×Obj)) (s:Shared) (σ:St) (H:Hp) (x y:V) (v u:Value) (Q:VK),Inv X pins σ H s->RelV x v->RelV y u->r x y H Q ->
  subscripted slice false v u=operate [v,u] (getItem v u)->wpAny (model X.prog X.w) X.A (subscriptTail value slice v u) (EP X pins σ Q) X.xe s
noncomputable def MtR (X:Cx) (id:String) (r:V->List V->Hp->VK->Prop):Prop :=
 ∀ (pins:List (Addr×Obj)) (s:Shared) (σ:St) (H:Hp) (x:V) (xs:List V) (v:Value) (us:List Value) (Q:VK),Inv X pins σ H s->RelV x v->Vals xs us->r x xs H Q ->
  wpAny (model X.prog X.w) X.A (call (.builtin id) (v::us)) (EP X pins σ Q) X.xe s
section
variable {X:Cx} {a b:Expr} {ta tb:TE} {pos:Pos}
theorem IxR.or {r r':R2} (h:IxR X r) (h':IxR X r'):IxR X (λx y H Q=>r x y H Q\/r' x y H Q):=by
 intro value slice pins s σ H x y v u Q I rx ry q hs
 rcases q with q | q
 ·exact h value slice pins s σ H x y v u Q I rx ry q hs
 ·exact h' value slice pins s σ H x y v u Q I rx ry q hs
theorem q9 {r:R2} (hr:IxR X r) (ha:PE X a ta) (hb:PE X b tb) (hs:Zfw b):PE X (.Subscript a b pos) (nz r ta tb):=by
 intro pins s σ H Q I h
 exact Subscript_ (wz ha hb I h λv u s2 x y H2 I2 rx ry q=>hr a b pins s2 σ H2 x y v u Q I2 rx ry q (hs _ _))
noncomputable def Zb3 (K:PySem.W.Frag):R2:=λx y H Q=>∃ p xs i v,x=.ref p/\y=.int i/\SqL K H p xs/\bw xs i=some v/\Q v H
noncomputable def Zb1 (K:PySem.W.Frag):R2:=λx y H Q=>∃ p xs i v,x=.ref p/\y=.int i/\SqT K H p xs/\bw xs i=some v/\Q v H
noncomputable def Zb2:R2:=λx y H Q=>∃ z i c,x=.str z/\y=.int i/\z.length<=sizeLine/\bw z.cps.toList i=some c/\Q (.str ⟨#[c]⟩) H
theorem su:IxR X (Zb3 X.K):=by
 intro value slice pins s σ H x y v u Q I rx ry h hs
 obtain ⟨p,xs,i,z,rfl,rfl,hq,he,q⟩:=h
 cases rx
 obtain ⟨t,rfl⟩:=ry
 obtain ⟨its,r,pl,hz⟩:=I.list hq
 obtain ⟨j,h1,h2,h3,h4,h5⟩:=sP he
 obtain ⟨w,ew,rw'⟩:=r.get h2
 have hl:=r.length
 have hn:=hU
 have fin:EP X pins σ Q w s:=⟨z,H,I,rw',q⟩
 by_cases h0:0<=i
 ·have hj:i.toNat=j:=by
   rw [seqIndex_of h0 h5] at h1
   exact Option.some.inj h1
  exact item_listR pl.isList h0 (by omega) (by rw [hj]; simpa using ew) fin hs
 ·have hj:(i+(its.toArray.size:Int)).toNat=j:=by
   rw [seqIndex_neg (by omega) h4] at h1
   rw [List.size_toArray,<- hl]
   exact Option.some.inj h1
  exact subscriptTail_builtinR (x:=w) pl.isList.typeIs slot_list_getitem.lookup
   (wpAny_getItem_list_neg (Q:=λr s'=>r=w/\EP X pins σ Q r s') pl.isList (by omega) (by rw [List.size_toArray] <;> omega) (by omega) (by rw [hj]; simpa using ew) ⟨rfl,fin⟩) hs
theorem Zjq:IxR X (Zb1 X.K):=by
 intro value slice pins s σ H x y v u Q I rx ry h hs
 obtain ⟨p,xs,i,z,rfl,rfl,hq,he,q⟩:=h
 cases rx
 obtain ⟨t,rfl⟩:=ry
 obtain ⟨its,r,pl,hz⟩:=I.tuple hq
 obtain ⟨j,h1,h2,h3,h4,h5⟩:=sP he
 obtain ⟨w,ew,rw'⟩:=r.get h2
 have hl:=r.length
 have hn:=hU
 have fin:EP X pins σ Q w s:=⟨z,H,I,rw',q⟩
 exact subscriptTail_builtinR (x:=w) pl.typeIs slot_tuple_getitem.lookup
  (getItem_tuple (j:=j) (Q:=λr s'=>r=w/\EP X pins σ Q r s') pl (by omega) (by omega) (by rw [List.size_toArray,<- hl]; exact h1) (by simpa using ew) ⟨rfl,fin⟩) hs
theorem Zjr:IxR X Zb2:=by
 intro value slice pins s σ H x y v u Q I rx ry h hs
 obtain ⟨z,i,c,rfl,rfl,hz,he,q⟩:=h
 obtain ⟨t,rfl⟩:=rx
 obtain ⟨t',rfl⟩:=ry
 obtain ⟨j,h1,h2,h3,h4,h5⟩:=sP he
 have hl:z.cps.toList.length=z.length:=by simp [Str.length]
 rw [hl] at h1 h4 h5
 have hn:=hU
 exact tail_any (typeIs_str s z t) slot_str_getitem.lookup (getItem_str (c:=c) (by
  have e1:decide (i < -(2 ^ 63:Int))=false:=decide_eq_false (by omega)
  have e2:decide (i ≥ 2 ^ 63)=false:=decide_eq_false (by omega)
  rw [e1,e2,Bool.or_false]) (by rw [h1]; simpa using h2) ⟨.str ⟨#[c]⟩,H,I.tok _,⟨_,rfl⟩,q⟩) hs
noncomputable def rIx (K:PySem.W.Frag):R2:=λx y H Q=>Zb3 K x y H Q\/Zb1 K x y H Q\/Zb2 x y H Q
theorem a9:IxR X (rIx X.K):=su.or (Zjq.or Zjr)
theorem ZiP (its:List Value) (n j:Nat) (u:Value):Obj.mapSeq (·.setIfInBounds j u) { cls:=.type "list",data:=.seq its.toArray n }={ cls:=.type "list",data:=.seq (its.set j u).toArray n }:=by
 simp [Obj.mapSeq]
theorem Inv.lst {pins:List (Addr×Obj)} {σ:St} {H:Hp} {s:Shared} {p:Addr} {xs:List V} (I:Inv X pins σ H s) (h:H p=some (.lst xs)) :
  ∃ (its:List Value) (n:Nat),Vals xs its/\s.heap.get? p=some { cls:=.type "list",data:=.seq its.toArray n }/\xs.length<=sizeLine:=by
 obtain ⟨z,its,n,r,e⟩:=I.hok p _ h
 exact ⟨its,n,r,e,z⟩
theorem Inv.lstUpd {pins:List (Addr×Obj)} {σ:St} {H:Hp} {s:Shared} {p:Addr} {xs ys:List V} {its its':List Value} {n n':Nat} {f:Obj->Obj} (I:Inv X pins σ H s) (h:H p=some (.lst xs))
  (ho:s.heap.get? p=some { cls:=.type "list",data:=.seq its.toArray n }) (hf:f { cls:=.type "list",data:=.seq its.toArray n }={ cls:=.type "list",data:=.seq its'.toArray n' }) (r:Vals ys its') (hz:ys.length<=sizeLine) (t:Nat) :
  Inv X pins σ (upd H p (.lst ys)) { s with heap:=s.heap.update p f,toks:=t }:=by
 have e:(s.heap.update p f).get? p=some { cls:=.type "list",data:=.seq its'.toArray n' }:=by
  rw [Heap.get?_update_self f ho (by rw [hf] <;> rfl),hf]
 refine I.write (x:=p) (e:=p) (by rw [h]; trivial) (.inl rfl) (λb u hb q=>(Heap.get?_update_other _ _ (Ne.symm hb)).trans q) ⟨_,e⟩ ?_
 exact ⟨hz,its',n',r,e⟩
noncomputable def uM:V->V->V->Hp->(Hp->Prop)->Prop:=λo i v H Q=>∃ p xs k j,o=.ref p/\i=.int k/\H p=some (.lst xs)/\dJ xs.length k=some j/\Q (upd H p (.lst (xs.set j v)))
theorem uo:xa X uM:=by
 intro pins s σ H o i v ov iv u Q I ro ri rv h
 obtain ⟨p,xs,k,j,rfl,rfl,hp,hj,q⟩:=h
 cases ro
 obtain ⟨t,rfl⟩:=ri
 obtain ⟨its,n,r,ho,hz⟩:=I.lst hp
 obtain ⟨h1,h2,h3,h4⟩:=Zdo hj
 have hl:=r.length
 have hn:=hU
 have I':Inv X pins σ (upd H p (.lst (xs.set j v))) { s with heap:=s.heap.update p (Obj.mapSeq (·.setIfInBounds j u)) } :=
  I.lstUpd hp ho (ZiP its n j u) (r.set rv j) (by rw [List.length_set]; exact hz) s.toks
 by_cases h0:0<=k
 ·have hk:k.toNat=j:=by
   rw [seqIndex_of h0 h4] at h1
   exact Option.some.inj h1
  exact PySem.W.ki_setAt ho h0 (by omega) (by rw [List.size_toArray,<- hl]; exact h4) (by rw [hk]; exact ⟨_,I',q⟩)
 ·have hk:(k+(its.toArray.size:Int)).toNat=j:=by
   rw [seqIndex_neg (by omega) h3] at h1
   rw [List.size_toArray,<- hl]
   exact Option.some.inj h1
  exact PySem.W.ki_setBack ho (by omega) (by rw [List.size_toArray,<- hl]; exact h3) (by omega) (by rw [hk]; exact ⟨_,I',q⟩)
theorem Zew {n:Nat} {i:Int} (h:i < 0):max 0 (min (i+(n:Int)) n)=(((i+n).toNat:Nat):Int):=by
 rw [Int.min_eq_left (by omega),Int.ofNat_toNat,Int.max_comm]
theorem Zex {n:Nat} {i:Int} (h:¬ i < 0):max 0 (min i (n:Int))=((min i.toNat n:Nat):Int):=by
 obtain ⟨k,rfl⟩:=Int.eq_ofNat_of_zero_le (Int.not_lt.mp h)
 rw [Int.toNat_natCast,<- Lean.Omega.Int.ofNat_min]
 exact Int.max_eq_right (Int.natCast_nonneg _)
theorem Zgw (lo hi:Option Int) (n:Nat):(sliceBounds lo hi none n).1=((HT.aE n 0 lo:Nat):Int)/\(sliceBounds lo hi none n).2.1=((HT.aE n n hi:Nat):Int)/\(sliceBounds lo hi none n).2.2=1:=by
 refine ⟨?_,?_,rfl⟩
 ·cases lo with
  | none=>simp [sliceBounds,HT.aE]
  | some i =>
   simp only [sliceBounds,HT.aE,Option.getD_none,show (1:Int) > 0 by decide,if_true]
   by_cases h:i < 0
   ·simp only [h,if_true]
    exact Zew h
   ·simp only [h,if_false]
    exact Zex h
 ·cases hi with
  | none=>simp [sliceBounds,HT.aE]
  | some i =>
   simp only [sliceBounds,HT.aE,Option.getD_none,show (1:Int) > 0 by decide,if_true]
   by_cases h:i < 0
   ·simp only [h,if_true]
    exact Zew h
   ·simp only [h,if_false]
    exact Zex h
theorem Zgx (its:List Value) (lo hi:Option Int):slicePick its.toArray lo hi none=((its.drop (HT.aE its.length 0 lo)).take (HT.aE its.length its.length hi - HT.aE its.length 0 lo)).toArray:=by
 obtain ⟨h1,h2,h3⟩:=Zgw lo hi its.toArray.size
 unfold slicePick
 rw [h1,h2,h3]
 simp only [sliceRange_one,pick_run,List.size_toArray] <;> rfl
noncomputable def ZbS (K:PySem.W.Frag):V->Option Int->Option Int->Hp->VK->Prop:=λx lo hi H Q=>∃ a xs,x=.ref a/\SqL K H a xs/\∀ p,H p=none->Q (.ref p) (upd H p (.lst (ic xs lo hi)))
theorem ZgA:SlR X (ZbS X.K):=by
 intro pins s σ H x v vl vu lo hi sl Q I rx hs pl pu h
 obtain ⟨a,xs,rfl,hx,q⟩:=h
 cases rx
 obtain ⟨its,r,ht,hz⟩:=I.list hx
 have hlen:=r.length
 refine ⟨"list",_,slot_list_getitem.lookup,ht.isList.typeIs,?_⟩
 refine wpAny_getItem_list_slice ht.isList hs pl pu .none (by simp) ?_ (by rw [List.size_toArray] <;> omega)
 rw [Zgx,<- hlen]
 refine ⟨.ref s.heap.objs.size,_,I.laid (t':=s.toks) (o:=.lst (ic xs lo hi)) (λb ob q=>Heap.get?_push_of_some _ q) (Nat.le_refl _) ?_,rfl,q _ (I.hok.fresh (Nat.le_refl _))⟩
 exact ⟨Nat.le_trans (ZeA xs lo hi) hz,_,0,(r.drop (HT.aE xs.length 0 lo)).take (HT.aE xs.length xs.length hi - HT.aE xs.length 0 lo),Heap.get?_push_size _ rfl⟩
theorem cQ:db X (.builtin "len") (λxs H Q=>∃ p ys,xs=[.ref p]/\(SqL X.K H p ys\/SqT X.K H p ys)/\Q (.int ys.length) H):=by
 intro pins s σ H xs us Q I r h
 obtain ⟨p,ys,rfl,hq,q⟩:=h
 obtain ⟨u,rfl,rx⟩:=eh r
 cases rx
 have hn:=hU
 rcases hq with hq | hq
 ·obtain ⟨its,r',pl,hz⟩:=I.list hq
  have hlen:=r'.length
  exact Calls.call_len_list pl.isList (by simp only [List.size_toArray] <;> omega) ⟨.int ys.length,H,I.tok _,⟨s.toks+1,by rw [List.size_toArray,hlen]⟩,q⟩
 ·obtain ⟨its,r',pl,hz⟩:=I.tuple hq
  have hlen:=r'.length
  exact len_tuple pl (by simp only [List.size_toArray] <;> omega) ⟨.int ys.length,H,I.tok _,⟨s.toks+1,by rw [List.size_toArray,hlen]⟩,q⟩
theorem oi:db X (.type "tuple") (λxs H Q=>∃ p ys,xs=[.ref p]/\((SqL X.K H p ys/\∀ l,H l=none->Q (.ref l) (upd H l (.tup ys)))\/(SqT X.K H p ys/\Q (.ref p) H))):=by
 intro pins s σ H xs us Q I r h
 obtain ⟨p,ys,rfl,h⟩:=h
 obtain ⟨u,rfl,rx⟩:=eh r
 cases rx
 rcases h with ⟨hq,q⟩ | ⟨hq,q⟩
 ·obtain ⟨its,r',pl,hz⟩:=I.list hq
  have hlen:=r'.length
  refine call_tuple_list pl.isList (λh' kp=>?_) (by simp only [List.size_toArray] <;> omega)
  have I1:Inv X pins σ H { s with heap:=h' }:=I.kept (t':=s.toks) kp
  have I2:Inv X pins σ (upd H h'.objs.size (.tup ys)) { s with heap:=h'.push { cls:=.type "tuple",data:=.seq its.toArray } } :=
   I1.laid (t':=s.toks) (λb o e=>Heap.get?_push_of_some _ e) (Nat.le_refl _) (show ObjOk X.prog X.w _ _ _ (.tup ys) from ⟨hz,its,r',IsTup.new _ _⟩)
  exact ⟨.ref h'.objs.size,_,I2,rfl,q _ (I1.hok.fresh (Nat.le_refl _))⟩
 ·obtain ⟨its,r',pl,hz⟩:=I.tuple hq
  exact call_tuple_same pl ⟨.ref p,H,I,rfl,q⟩
noncomputable def tZ (K:PySem.W.Frag) (T:String) (x:V) (H:Hp):Prop:=match x with
 | .str _=>T="str"
 | .int _=>T="int"
 | .ref p=>(T="list"/\∃ xs,SqL K H p xs)\/(T="tuple"/\∃ o,K.lookup p=some o/\o.cls=.type "tuple"/\o.dict=none) \/
   (T="dict"/\((∃ kvs,H p=some (.dK kvs))\/∃ kvs,H p=some (.dT kvs)))\/(T="set"/\∃ S n,H p=some (.set S n))
 | _=>False
theorem Zav {pins:List (Addr×Obj)} {σ:St} {H:Hp} {s:Shared} {T:String} {x:V} {v:Value} (I:Inv X pins σ H s) (r:RelV x v) (ty:tZ X.K T x H) :
  s.TypeIs v T/\∀ a,v=.ref a->∃ ob,s.heap.get? a=some ob/\ob.dict=none:=by
 cases x with
 | str z =>
  obtain ⟨t,rfl⟩:=r
  cases (show T="str" from ty)
  exact ⟨typeIs_str s z t,λ_ e=>nomatch e⟩
 | int i =>
  obtain ⟨t,rfl⟩:=r
  cases (show T="int" from ty)
  exact ⟨typeIs_int s i t,λ_ e=>nomatch e⟩
 | ref p =>
  cases r
  rcases ty with ⟨rfl,xs,hq⟩ | ⟨rfl,o,hk,hc,hd⟩ | ⟨rfl,hk⟩ | ⟨rfl,S,n,hk⟩
  ·obtain ⟨its,_,pl,_⟩:=I.list hq
   refine ⟨pl.isList.typeIs,λa e=>?_⟩
   cases e
   obtain ⟨o,n,e,c,hd,_⟩:=pl
   exact ⟨o,e,hd⟩
  ·refine ⟨⟨o,I.kIn p o hk,hc⟩,λa e=>?_⟩
   cases e
   exact ⟨o,I.kIn _ o hk,hd⟩
  ·have z:∃ o,s.heap.get? p=some o/\o.ExactDict:=by
    rcases hk with ⟨kvs,hk⟩ | ⟨kvs,hk⟩
    ·obtain ⟨_,_,_,_,o,_,_,e,ex,_⟩:=I.hok p _ hk
     exact ⟨o,e,ex⟩
    ·obtain ⟨_,_,_,_,o,_,_,e,ex,_⟩:=I.hok p _ hk
     exact ⟨o,e,ex⟩
   obtain ⟨o,e,ex⟩:=z
   refine ⟨⟨o,e,ex.1⟩,λa e2=>?_⟩
   cases e2
   exact ⟨o,e,ex.2.1⟩
  ·obtain ⟨o,_,_,_,e,ex,_⟩:=I.hok p _ hk
   refine ⟨⟨o,e,ex.1⟩,λa e2=>?_⟩
   cases e2
   exact ⟨o,e,ex.2.1⟩
 | _=>exact False.elim ty
noncomputable def ZaF (K:PySem.W.Frag) (T:String) (r:V->List V->Hp->VK->Prop) (to:TE):TE:=λσ H Q=>to σ H λx H1=>tZ K T x H1/\r x [] H1 Q
noncomputable def tBM (K:PySem.W.Frag) (T:String) (r:V->List V->Hp->VK->Prop) (to:TE) (t:TA):TE:=λσ H Q=>to σ H λx H1=>tZ K T x H1/\t σ H1 λxs H2=>r x xs H2 Q
variable {o e:Expr} {es:List Expr} {to:TE} {t:TA} {name:Str} {apos cpos:Pos} {T id:String} {r:V->List V->Hp->VK->Prop}
theorem Zcp (pa:PlainAttrs T) (slot:Slot T name id) (hty:typeOf (.builtin id)=pure (.type "method_descriptor")) (hm:MtR X id r) (ho:PE X o to)
  (hbase:attributeBase o name X.env (eval o X.env)=eval o X.env:=by rfl) (hline:(apos.endLine == cpos.line)=true:=by rfl):PE X (.Call (.Attribute o name apos) [] [] cpos) (ZaF X.K T r to):=by
 intro pins s σ H Q I h
 refine wpAny_Call_method0_late hbase hline (thn (ho pins s σ H _ I h) λv s1 hz0=>?_)
 obtain ⟨x,H1,I1,r1,ty,q1⟩:=hz0
 obtain ⟨h1,h2⟩:=Zav I1 r1 ty
 exact ⟨T,id,pa,slot,hty,h1,h2,Calls.callWith_builtin rfl (PySem.evalArgs_none (hm pins s1 σ H1 x [] v [] Q I1 r1 .nil q1))⟩
theorem iO (pa:PlainAttrs T) (slot:Slot T name id) (hty:typeOf (.builtin id)=pure (.type "method_descriptor")) (hm:MtR X id r) (ho:PE X o to) (ha:PA X (e::es) t)
  (hbase:attributeBase o name X.env (eval o X.env)=eval o X.env:=by rfl)
  (hfew:((backTo cpos (starEach (e::es) X.env)).all (λx=>!x.1) && (backToKw cpos (keywordEach [] X.env)).all (λx=>x.1.isSome)
   && decide ((e::es).length+([]:List Keyword).length+(if ([]:List Keyword).isEmpty then 0 else 1) < 30))=true:=by rfl)
  (hline:(apos.endLine == cpos.line)=true:=by rfl) (hs:starEach (e::es) X.env=(false,eval e X.env)::starEach es X.env:=by rfl) (hplain:(backTo cpos (starEach es X.env)).any (·.1)=false:=by rfl) :
  PE X (.Call (.Attribute o name apos) (e::es) [] cpos) (tBM X.K T r to t):=by
 intro pins s σ H Q I h
 refine wpAny_Call_method_late hbase hfew hline rfl (thn (ho pins s σ H _ I h) λv s1 hz0=>?_)
 obtain ⟨x,H1,I1,r1,ty,q1⟩:=hz0
 obtain ⟨h1,h2⟩:=Zav I1 r1 ty
 refine ⟨T,id,pa,slot,hty,h1,h2,?_⟩
 have hA:=ha cpos pins s1 σ H1 _ I1 q1
 rw [hs] at hA ⊢
 refine Calls.callWith_builtin (by show (false || (backTo cpos (starEach es X.env)).any (·.1))=false; rw [hplain] <;> rfl) (Calls.evalArgs_plain ?_)
 exact thn hA λus s2 hz0=>by
  obtain ⟨vs,H2,I2,r2,q2⟩:=hz0
  exact hm pins s2 σ H2 x vs v us Q I2 r1 r2 q2
end
noncomputable def MtM (X:Cx) (id:String) (r:V->List V->Hp->VK->Prop):Prop :=
 ∀ (pins:List (Addr×Obj)) (s:Shared) (σ:St) (H:Hp) (x:V) (xs:List V) (v:Value) (us:List Value) (Q:VK),Inv X pins σ H s->RelV x v->Vals xs us->r x xs H Q ->
  wpAny (model X.prog X.w) X.A (call (.builtin id) (v::us)) (EP X pins σ Q) X.xe s
theorem Vals.one {x:V} {us:List Value} (h:Vals [x] us):∃ u,us=[u]/\RelV x u:=by
 cases h with
 | cons r t=>cases t; exact ⟨_,rfl,r⟩
theorem Vals.zero:∀ {us:List Value},Vals [] us->us=[]
 | _,.nil=>rfl
theorem Vals.reverse {xs:List V} {us:List Value} (h:Vals xs us):Vals xs.reverse us.reverse:=by
 induction h with
 | nil=>exact .nil
 | cons r t ih=>rw [List.reverse_cons,List.reverse_cons]; exact Vals.append ih (.cons r .nil)
theorem Vals.rep {xs:List V} {us:List Value} (h:Vals xs us):∀ k:Nat,Vals (List.replicate k xs).flatten (List.replicate k us).flatten
 | 0=>.nil
 | k+1=>by
  rw [List.replicate_succ,List.replicate_succ,List.flatten_cons,List.flatten_cons]
  exact Vals.append h (Vals.rep h k)
theorem ZdJ (its:List Value):∀ (k:Nat) (acc:List Value),
  List.foldl (λx1 x2=>x1++x2) acc.toArray (List.replicate k its.toArray)=(acc++(List.replicate k its).flatten).toArray
 | 0,acc=>by simp
 | k+1,acc=>by
  have e:acc.toArray++its.toArray=(acc++its).toArray:=by simp
  have e2:(acc++its)++(List.replicate k its).flatten=acc++(List.replicate (k+1) its).flatten:=by
   rw [List.replicate_succ,List.flatten_cons,List.append_assoc]
  rw [<- e2,<- ZdJ its k (acc++its),<- e,List.replicate_succ,List.foldl_cons]
section
variable {X:Cx} {pins:List (Addr×Obj)} {σ:St} {H:Hp} {s:Shared} {l b:Addr} {xs ys zs:List V}
theorem Inv.lset {its its':List Value} {n:Nat} {f:Array Value->Array Value} {t':Nat} (I:Inv X pins σ H s) (hH:H l=some (.lst xs))
  (e:s.heap.get? l=some { cls:=.type "list",data:=.seq its.toArray n }) (hf:f its.toArray=its'.toArray) (hv:Vals ys its') (hz:ys.length<=sizeLine) :
  Inv X pins σ (upd H l (.lst ys)) { s with heap:=s.heap.update l (Obj.mapSeq f),toks:=t' }:=by
 have q:=PySem.IsL.update e f
 rw [hf] at q
 refine I.write (x:=l) (e:=l) (by rw [hH]; exact trivial) (.inl rfl) (λb' u hb hu=>(Heap.get?_update_other s.heap (Obj.mapSeq f) (Ne.symm hb)).trans hu) ⟨_,q⟩ ?_
 exact ⟨hz,its',_,hv,q⟩
theorem Inv.lnew {its:List Value} {t':Nat} (I:Inv X pins σ H s) (hv:Vals ys its) (hz:ys.length<=sizeLine) :
  Inv X pins σ (upd H s.heap.objs.size (.lst ys)) { s with heap:=s.heap.push { cls:=.type "list",data:=.seq its.toArray },toks:=t' } :=
 I.laid (λ_ _ q=>Heap.get?_push_of_some _ q) (Nat.le_refl _) ⟨hz,its,0,hv,Heap.get?_push_size _ rfl⟩
theorem Inv.fresh (I:Inv X pins σ H s):H s.heap.objs.size=none:=I.hok.fresh (Nat.le_refl _)
theorem Inv.lstM (I:Inv X pins σ H s) (hH:H l=some (.lst xs)):xs.length<=sizeLine/\∃ (its:List Value) (n:Nat),Vals xs its/\xs.length=its.length/\s.heap.get? l=some { cls:=.type "list",data:=.seq its.toArray n }:=by
 obtain ⟨z,its,n,r,e⟩:=I.hok l _ hH
 exact ⟨z,its,n,r,r.length,e⟩
theorem Zin {n:Nat} (h:n<=sizeLine):Builtin.List.listTooLong n=false:=by
 unfold Builtin.List.listTooLong
 exact decide_eq_false (by omega)
end
section
variable {X:Cx}
noncomputable def Zcc:V->List V->Hp->VK->Prop:=λx vs H Q=>∃ l xs y,x=.ref l/\vs=[y]/\H l=some (.lst xs)/\xs.length < sizeLine/\Q .non (upd H l (.lst (xs++[y])))
theorem iV:MtM X "list.append" Zcc:=by
 intro pins s σ H x vs v us Q I rx rv h
 obtain ⟨l,xs,y,rfl,rfl,hH,hz,q⟩:=h
 cases rx
 obtain ⟨u,rfl,ru⟩:=rv.one
 obtain ⟨z,its,n,r,hl,e⟩:=I.lstM hH
 refine call_meets F.slot_list_append ⟨_,e,rfl⟩ F.entry_list_append (F.args_list_append_2 _ _) (PySem.list_append l its.toArray n u (by rw [List.size_toArray]; omega)) ⟨e,?_⟩
 refine ⟨.non,_,I.lset (its':=its++[u]) hH e (by simp) (r.append (.cons ru .nil)) ?_,rfl,q⟩
 rw [List.length_append,List.length_singleton]
 omega
noncomputable def ZbT:V->List V->Hp->VK->Prop:=λx vs H Q=>∃ l xs,x=.ref l/\vs=[]/\H l=some (.lst xs)/\Q .non (upd H l (.lst xs.reverse))
theorem ZcL:MtM X "list.reverse" ZbT:=by
 intro pins s σ H x vs v us Q I rx rv h
 obtain ⟨l,xs,rfl,rfl,hH,q⟩:=h
 cases rx
 have hus:=rv.zero
 subst hus
 obtain ⟨z,its,n,r,hl,e⟩:=I.lstM hH
 refine call_meets F.slot_list_reverse ⟨_,e,rfl⟩ F.entry_list_reverse (F.args_list_reverse_1 _) (AutoSeq1.list_reverse_list_0 l its.toArray n (by rw [List.size_toArray]; omega)) ⟨e,?_⟩
 refine ⟨.non,_,I.lset (its':=its.reverse) hH e (by simp) r.reverse ?_,rfl,q⟩
 rw [List.length_reverse]
 omega
noncomputable def Zcb:R2:=λx y H Q=>∃ l b xs zs,x=.ref l/\y=.ref b/\H l=some (.lst xs)/\H b=some (.lst zs)/\xs.length+zs.length<=sizeLine/\∀ p,H p=none->Q (.ref p) (upd H p (.lst (xs++zs)))
theorem Zcx:OpR X (binaryOp .Add) Zcb:=by
 intro pins s σ H x y v u Q I rx ry h
 obtain ⟨l,b,xs,zs,rfl,rfl,hH,hB,hz,q⟩:=h
 cases rx
 cases ry
 obtain ⟨z,its,n,r,hl,e⟩:=I.lstM hH
 obtain ⟨z2,its2,n2,r2,hl2,e2⟩:=I.lstM hB
 refine PySem.P.add_list e e2 ?_ (by rw [List.size_toArray,List.size_toArray]; omega)
 have ea:its.toArray++its2.toArray=(its++its2).toArray:=by simp
 rw [ea]
 exact ⟨.ref _,_,I.lnew (t':=s.toks) (r.append r2) (by rw [List.length_append]; omega),rfl,q _ I.fresh⟩
noncomputable def uO:R2:=λx y H Q=>∃ l k xs,x=.ref l/\y=.int k/\H l=some (.lst xs)/\-(2 ^ 63)<=k/\k < 2 ^ 63/\xs.length * k.toNat<=sizeLine /\
 ∀ p,H p=none->Q (.ref p) (upd H p (.lst (List.replicate k.toNat xs).flatten))
theorem Zi0 {α:Type} (xs:List α) (k:Nat):(List.replicate k xs).flatten.length=k * xs.length:=by
 induction k with
 | zero=>simp
 | succ k ih=>rw [List.replicate_succ,List.flatten_cons,List.length_append,ih,Nat.succ_mul,Nat.add_comm]
theorem u7:OpR X (binaryOp .Mult) uO:=by
 intro pins s σ H x y v u Q I rx ry h
 obtain ⟨l,k,xs,rfl,rfl,hH,h1,h2,hz,q⟩:=h
 cases rx
 obtain ⟨t,rfl⟩:=ry
 obtain ⟨z,its,n,r,hl,e⟩:=I.lstM hH
 have hlen:its.toArray.size * k.toNat<=sizeLine:=by rw [List.size_toArray,<- hl]; exact hz
 have hcap:¬ its.toArray.size * k.toNat > (2 ^ 63 - 1) / 8:=by
  have:(sizeLine:Nat)<=(2 ^ 63 - 1) / 8:=by decide
  omega
 have hfit:¬ (!Builtin.List.listFitsIndex k)=true:=by
  rw [fitsIndex_both h1 h2]
  exact Bool.false_ne_true
 have hlong:¬ Builtin.List.listTooLong (its.toArray.size * k.toNat)=true:=by
  rw [Zin hlen]
  exact Bool.false_ne_true
 have hnew:List.foldl (λx1 x2=>x1++x2) #[] (List.replicate (if its.toArray.isEmpty=true then 0 else k.toNat) its.toArray)=(List.replicate k.toNat its).flatten.toArray:=by
  have f0:∀ m:Nat,List.foldl (λx1 x2=>x1++x2) #[] (List.replicate m its.toArray)=(List.replicate m its).flatten.toArray:=λm=>by
   have:=ZdJ its m []
   rw [List.nil_append] at this
   exact this
  rw [f0]
  cases its with
  | nil=>simp
  | cons a r'=>rw [if_neg (by simp)]
 refine wpAny_binaryOp_repeat_ref (T:="list") (U:="int") (by decide) ⟨_,e,rfl⟩ (λs'=>typeIs_int s' k t) noFill_list_mul F.fills_int_mul F.slot_int_rmul repeat_list F.slot_int_index.lookup
  (call_meets F.slot_int_rmul (typeIs_int s k t) F.entry_int_rmul (F.args_int_rmul_2 _ _) (int___rmul___int_list k t l its.toArray n)
   ⟨e,rfl,⟨_,e,rfl⟩,call_meets F.slot_list_mul ⟨_,e,rfl⟩ F.entry_list_mul (F.args_list_mul_2 _ _) (AutoListH.list___mul___list_int_3 l its.toArray n k t hfit hcap hlong) ⟨e,?_⟩⟩)
 rw [hnew]
 exact ⟨.ref _,_,I.lnew (t':=s.toks) (r.rep k.toNat) (by rw [Zi0,Nat.mul_comm]; exact hz),rfl,q _ I.fresh⟩
end
section
variable {prog:Program} {w:World} {A:Around} {E:Value->Shared->Prop} {s:Shared}
end
section
variable {X:Cx}
end
section
variable {κ:Type} [DecidableEq κ]
noncomputable def bC (kvs:List (κ×V)) (k:κ):Option V:=(kvs.find? λkv=>decide (kv.1=k)).map (·.2)
noncomputable def bx (kvs:List (κ×V)) (k:κ) (v:V):List (κ×V) :=
 if (kvs.any λkv=>decide (kv.1=k))=true then kvs.map (λkv=>if kv.1=k then (kv.1,v) else kv) else kvs++[(k,v)]
theorem dk {p:κ×V} {r:List (κ×V)} {k:κ} (e:p.1=k):bC (p::r) k=some p.2:=by simp [bC,List.find?_cons,e]
theorem dF {p:κ×V} {r:List (κ×V)} {k:κ} (e:¬ p.1=k):bC (p::r) k=bC r k:=by simp [bC,List.find?_cons,e]
theorem gK (k:κ):∀ kvs:List (κ×V),(kvs.any λkv=>decide (kv.1=k))=(bC kvs k).isSome
 | []=>rfl
 | p::r=>by
  rw [List.any_cons]
  by_cases e:p.1=k
  ·simp only [dk e,decide_eq_true e,Bool.true_or,Option.isSome_some]
  ·rw [dF e,decide_eq_false e,Bool.false_or]; exact gK k r
theorem Zat (k j:κ) (y:V):∀ kvs:List (κ×V),bC (kvs.map λkv=>if kv.1=k then (kv.1,y) else kv) j=(bC kvs j).map λx=>if j=k then y else x
 | []=>rfl
 | p::r=>by
  have ih:=Zat k j y r
  rw [List.map_cons]
  by_cases h:p.1=k
  ·rw [if_pos h]
   by_cases e:p.1=j
   ·rw [dk (p:=(p.1,y)) e,dk e,Option.map_some,if_pos (e.symm.trans h)]
   ·rw [dF (p:=(p.1,y)) e,dF e,ih]
  ·rw [if_neg h]
   by_cases e:p.1=j
   ·rw [dk (p:=p) e,dk e,Option.map_some,if_neg (λz=>h (e.trans z))]
   ·rw [dF (p:=p) e,dF e,ih]
theorem Zar (k j:κ) (y:V):∀ kvs:List (κ×V),bC kvs k=none->bC (kvs++[(k,y)]) j=if j=k then some y else bC kvs j
 | [],_=>by
  by_cases e:k=j
  ·rw [if_pos e.symm]; exact dk (p:=(k,y)) e
  ·rw [if_neg (λz=>e z.symm)]; exact dF (p:=(k,y)) e
 | p::r,hn=>by
  rw [List.cons_append]
  have hk:¬ p.1=k:=λz=>by rw [dk z] at hn; cases hn
  rw [dF hk] at hn
  have ih:=Zar k j y r hn
  by_cases e:p.1=j
  ·rw [dk e,dk e,if_neg (λz=>hk (e.trans z))]
  ·rw [dF e,dF e,ih]
theorem Zas (kvs:List (κ×V)) (k j:κ) (y:V):bC (bx kvs k y) j=if j=k then some y else bC kvs j:=by
 unfold bx
 by_cases a:(kvs.any λkv=>decide (kv.1=k))=true
 ·rw [if_pos a,Zat]
  rw [gK] at a
  by_cases e:j=k
  ·obtain ⟨x,hx⟩:=Option.isSome_iff_exists.mp a
   rw [if_pos e,e,hx,Option.map_some,if_pos rfl]
  ·rw [if_neg e]
   cases bC kvs j with
   | none=>rfl
   | some x=>rw [Option.map_some,if_neg e]
 ·rw [if_neg a]
  refine Zar k j y kvs ?_
  rw [gK] at a
  cases q:bC kvs k with
  | none=>rfl
  | some x=>rw [q] at a; exact (a rfl).elim
theorem pE (kvs:List (κ×V)) (k:κ) (v:V):(bx kvs k v).length<=kvs.length+1:=by
 unfold bx
 split
 ·rw [List.length_map]; omega
 ·rw [List.length_append,List.length_cons,List.length_nil]; omega
theorem Zhj {kvs:List (κ×V)} {k:κ} (v:V) (h:bC kvs k=none):bx kvs k v=kvs++[(k,v)]:=by
 unfold bx
 rw [gK,h]
 exact if_neg (by decide)
theorem RelO.isSome_eq {o:Option V} {u:Option Value} (r:RelO o u):o.isSome=u.isSome:=by
 cases o with
 | none=>cases u with
  | none=>rfl
  | some _=>exact (show False from r).elim
 | some _=>cases u with
  | none=>exact (show False from r).elim
  | some _=>rfl
theorem KV.val {kvs:List (κ×V)} {vs:List (κ×Value)} (r:KV kvs vs) (k:κ):RelO (bC kvs k) (valueAt vs k):=by
 unfold KV at r
 induction r with
 | nil=>exact True.intro
 | @cons p q ps qs h t ih =>
  obtain ⟨h1,h2⟩:=h
  by_cases e:p.1=k
  ·have e':q.1=k:=h1.symm.trans e
   have b:valueAt (q::qs) k=some q.2:=by simp [valueAt,List.find?_cons,e']
   rw [dk e,b]; exact h2
  ·have e':¬ q.1=k:=λz=>e (h1.trans z)
   have b:valueAt (q::qs) k=valueAt qs k:=by simp [valueAt,List.find?_cons,e']
   rw [dF e,b]; exact ih
theorem KV.any {kvs:List (κ×V)} {vs:List (κ×Value)} (r:KV kvs vs) (k:κ):(kvs.any λkv=>decide (kv.1=k))=vs.any λkv=>decide (kv.1=k):=by
 unfold KV at r
 induction r with
 | nil=>rfl
 | cons h t ih=>rw [List.any_cons,List.any_cons,ih,h.1]
theorem KV.repl {kvs:List (κ×V)} {vs:List (κ×Value)} (r:KV kvs vs) (k:κ) {y:V} {u:Value} (ry:RelV y u) :
  KV (kvs.map λkv=>if kv.1=k then (kv.1,y) else kv) (vs.map λkv=>if kv.1=k then (kv.1,u) else kv):=by
 unfold KV at r ⊢
 induction r with
 | nil=>exact .nil
 | @cons p q ps qs h t ih =>
  rw [List.map_cons,List.map_cons]
  refine .cons ?_ ih
  obtain ⟨h1,h2⟩:=h
  by_cases e:p.1=k
  ·rw [if_pos e,if_pos (h1.symm.trans e)]; exact ⟨h1,ry⟩
  ·rw [if_neg e,if_neg (λz=>e (h1.trans z))]; exact ⟨h1,h2⟩
theorem KV.put {kvs:List (κ×V)} {vs:List (κ×Value)} (r:KV kvs vs) (k:κ) {y:V} {u:Value} (ry:RelV y u):KV (bx kvs k y) (stored vs k u):=by
 unfold bx stored
 rw [r.any k]
 by_cases e:(vs.any λkv=>decide (kv.1=k))=true
 ·rw [if_pos e,if_pos e]; exact r.repl k ry
 ·rw [if_neg e,if_neg e]; exact Paired.snoc r ⟨rfl,ry⟩
theorem KV.length {kvs:List (κ×V)} {vs:List (κ×Value)} (r:KV kvs vs):kvs.length=vs.length:=Paired.length r
end
theorem pH {P:Program} {w:World} {k:am} {u:Value} (r:RelV (kV k) u):(cp P w).is k u=true:=by
 cases k with
 | inl i=>obtain ⟨t,e⟩:=(show ∃ t,u=Value.int i t from r); subst e; exact ZcO P w i t
 | inr x=>obtain ⟨t,e⟩:=(show ∃ t,u=Value.str x t from r); subst e; exact ZiF P w x t
theorem Zdp {P:Program} {w:World}:∀ {ks:List am} {us:List Value},Vals (ks.map kV) us->ItemsAre (cp P w) ks us
 | [],_,r=>by rw [List.map_nil] at r; cases r; exact .nil
 | k::ks,_,r=>by
  rw [List.map_cons] at r
  cases r with
  | cons h t=>exact .cons (pH h) (Zdp t)
noncomputable abbrev KT (H:Hp):List (List am×V)->List (List am×Addr×Value)->Prop:=Paired λp q=>p.1=q.1/\H q.2.1=some (.tup (p.1.map kV))/\RelV p.2 q.2.2
theorem KT.val {H:Hp} {kvs:List (List am×V)} {xs:List (List am×Addr×Value)} (r:KT H kvs xs) (k:List am):RelO (bC kvs k) ((atKey xs k).map (·.2)):=by
 induction r with
 | nil=>exact True.intro
 | @cons p q ps qs h t ih =>
  obtain ⟨h1,_,h2⟩:=h
  by_cases e:p.1=k
  ·have e':q.1=k:=h1.symm.trans e
   have b:atKey (q::qs) k=some q.2:=by simp [atKey,List.find?_cons,e']
   rw [dk e,b]; exact h2
  ·have e':¬ q.1=k:=λz=>e (h1.trans z)
   have b:atKey (q::qs) k=atKey qs k:=by simp [atKey,List.find?_cons,e']
   rw [dF e,b]; exact ih
theorem KT.repl {H:Hp} {kvs:List (List am×V)} {xs:List (List am×Addr×Value)} (r:KT H kvs xs) (k:List am) {y:V} {u:Value} (ry:RelV y u) :
  KT H (kvs.map λkv=>if kv.1=k then (kv.1,y) else kv) (xs.map (putAt k u)):=by
 induction r with
 | nil=>exact .nil
 | @cons p q ps qs h t ih =>
  rw [List.map_cons,List.map_cons]
  refine .cons ?_ ih
  obtain ⟨h1,h2,h3⟩:=h
  unfold putAt
  by_cases e:p.1=k
  ·rw [if_pos e,if_pos (h1.symm.trans e)]; exact ⟨h1,h2,ry⟩
  ·rw [if_neg e,if_neg (λz=>e (h1.trans z))]; exact ⟨h1,h2,h3⟩
theorem KT.put {H:Hp} {kvs:List (List am×V)} {xs:List (List am×Addr×Value)} (r:KT H kvs xs) (k:List am) {b:Addr} {y:V} {u:Value} (hb:H b=some (.tup (k.map kV))) (ry:RelV y u) :
  KT H (bx kvs k y) (storedH xs k b u):=by
 have e:(kvs.any λkv=>decide (kv.1=k))=(atKey xs k).isSome:=by
  rw [gK,(r.val k).isSome_eq,Option.isSome_map]
 unfold bx storedH
 rw [e]
 by_cases q:(atKey xs k).isSome=true
 ·rw [if_pos q,if_pos q]; exact r.repl k ry
 ·rw [if_neg q,if_neg q]; exact Paired.snoc r ⟨rfl,hb,ry⟩
theorem KT.keeps {H H':Hp} {kvs:List (List am×V)} {xs:List (List am×Addr×Value)} (r:KT H kvs xs) (ht:∀ b ys,H b=some (.tup ys)->H' b=some (.tup ys)):KT H' kvs xs :=
 Paired.mapP r λ_ _ z=>⟨z.1,ht _ _ z.2.1,z.2.2⟩
section
variable {P:Program} {w:World} {H:Hp} {h:Heap} {a:Addr}
theorem ZbN {u:HO} (ok:HOk P w H h) (e:Rd H a u):ObjOk P w H h a u:=e.ok ok
theorem sI {kvs:List (am×V)} (ok:HOk P w H h) (e:Rd H a (.dK kvs)):kvs.length<=sizeLine/\(a == sysModules)=false/\∃ vs,KV kvs vs/\h.DictOf (cp P w) a vs :=
 show ObjOk P w H h a (.dK kvs) from ZbN ok e
theorem Zef {kvs:List (am×V)} (ok:HOk P w H h) (e:H a=some (.dK kvs)):kvs.length<=sizeLine/\(a == sysModules)=false/\∃ vs,KV kvs vs/\h.DictOf (cp P w) a vs:=sI ok (.inl e)
theorem sm {ks:List am} (ok:HOk P w H h) (e:H a=some (.tup (ks.map kV))):(tupleKind (cp P w)).is h ks a:=by
 obtain ⟨_,its,r,o,h1,h2,n,h3⟩:=(show ObjOk P w H h a (.tup (ks.map kV)) from ok a _ e)
 exact ⟨o,its.toArray,n,h1,h2,h3,by simpa using Zdp r⟩
theorem sH {kvs:List (List am×V)} (ok:HOk P w H h) (e:Rd H a (.dT kvs)):kvs.length<=sizeLine/\(a == sysModules)=false /\
  ∃ xs,KT H kvs xs/\h.DictOfH (tupleKind (cp P w)) a xs:=by
 obtain ⟨z,y,xs,r,o,es,ep,h1,h2,h3,h4,h5⟩:=(show ObjOk P w H h a (.dT kvs) from ZbN ok e)
 refine ⟨z,y,xs,r,o,es,ep,h1,h2,h3,h4,λx hx=>?_,h5⟩
 have all:∀ {l:List (List am×V)} {m:List (List am×Addr×Value)},KT H l m->∀ x∈m,(tupleKind (cp P w)).is h x.1 x.2.1:=by
  intro l m q
  induction q with
  | nil=>intro x hx; exact nomatch hx
  | @cons p q ps qs hq t ih =>
   intro x hx
   rcases List.mem_cons.mp hx with e | hx
   ·subst e
    exact sm ok (by rw [<- hq.1]; exact hq.2.1)
   ·exact ih x hx
 exact all r x hx
theorem ZkD {kvs:List (List am×V)} (ok:HOk P w H h) (e:H a=some (.dT kvs)):kvs.length<=sizeLine/\(a == sysModules)=false /\
  ∃ xs,KT H kvs xs/\h.DictOfH (tupleKind (cp P w)) a xs:=sH ok (.inl e)
end
noncomputable def DGet (H:Hp) (a:Addr) (y:V) (r:Option V):Prop :=
 (∃ kvs k,Rd H a (.dK kvs)/\y=kV k/\r=bC kvs k)\/∃ kvs k b,Rd H a (.dT kvs)/\y=.ref b/\H b=some (.tup (k.map kV))/\r=bC kvs k
noncomputable def DPut (H:Hp) (a:Addr) (y v:V) (H':Hp):Prop :=
 (∃ kvs k,H a=some (.dK kvs)/\y=kV k/\kvs.length < sizeLine/\H'=upd H a (.dK (bx kvs k v))) \/
 ∃ kvs k b,H a=some (.dT kvs)/\y=.ref b/\H b=some (.tup (k.map kV))/\kvs.length < sizeLine/\H'=upd H a (.dT (bx kvs k v))
theorem DGet.k {H:Hp} {a:Addr} {kvs:List (am×V)} {k:am} (e:H a=some (.dK kvs)):DGet H a (kV k) (bC kvs k):=.inl ⟨kvs,k,.inl e,rfl,rfl⟩
theorem DGet.t {H:Hp} {a b:Addr} {kvs:List (List am×V)} {k:List am} (e:H a=some (.dT kvs)) (eb:H b=some (.tup (k.map kV))):DGet H a (.ref b) (bC kvs k):=.inr ⟨kvs,k,b,.inl e,rfl,eb,rfl⟩
theorem DPut.k {H:Hp} {a:Addr} {kvs:List (am×V)} {k:am} {v:V} (e:H a=some (.dK kvs)) (hl:kvs.length < sizeLine):DPut H a (kV k) v (upd H a (.dK (bx kvs k v))):=.inl ⟨kvs,k,e,rfl,hl,rfl⟩
theorem DPut.t {H:Hp} {a b:Addr} {kvs:List (List am×V)} {k:List am} {v:V} (e:H a=some (.dT kvs)) (eb:H b=some (.tup (k.map kV))) (hl:kvs.length < sizeLine) :
  DPut H a (.ref b) v (upd H a (.dT (bx kvs k v))):=.inr ⟨kvs,k,b,e,rfl,eb,hl,rfl⟩
section
variable {X:Cx} {pins:List (Addr×Obj)} {σ:St} {H:Hp} {s:Shared} {a:Addr} {y v:V} {u r:Value} {o:Option V} {A:Around} {E:Value->Shared->Prop}
theorem Inv.big (I:Inv X pins σ H s):sysModules < s.heap.objs.size:=by
 have h:mainGlobals < s.heap.objs.size:=(I.mod.glob.keeps I.bk).lt
 exact Nat.lt_trans (by decide) h
theorem Zk5 {Q:Value->Shared->Prop} (hu:A.units+1 < cLine) (I:Inv X pins σ H s) (g:DGet H a y (some v)) (ry:RelV y u) (h:∀ w' s',Inv X pins σ H s'->RelV v w'->Q w' s') :
  wpAny (model X.prog X.w) A (getItem (.ref a) u) Q E s:=by
 rcases g with ⟨kvs,k,e,ey,l⟩ | ⟨kvs,k,b,e,ey,eb,l⟩
 ·subst ey
  obtain ⟨z,hd,vs,rel,dd⟩:=sI I.hok e
  obtain ⟨w',hw,rw'⟩:=RelO.some_of (v:=v) (o:=valueAt vs k) (by rw [l]; exact rel.val k)
  exact wpAny_getItem_of (pH ry) dd.mapOf hw (h w' _ (I.tok _) rw')
 ·subst ey
  cases (show u=Value.ref b from ry)
  obtain ⟨z,hd,xs,rel,dd⟩:=sH I.hok e
  obtain ⟨w',hw,rw'⟩:=RelO.some_of (v:=v) (o:=(atKey xs k).map (·.2)) (by rw [l]; exact rel.val k)
  obtain ⟨p,hp,hp2⟩:=Option.map_eq_some_iff.mp hw
  refine wpAny_getItem_heap (tupleKind_room_in1 hu) (sm I.hok eb) dd hp ?_
  rw [hp2]
  exact h w' _ (I.tok _) rw'
theorem ZkZ {Q:Value->Shared->Prop} (hu:A.units+1 < cLine) (I:Inv X pins σ H s) (g:DGet H a y o) (ry:RelV y u) (h:∀ s',Inv X pins σ H s'->Q (.bool (!o.isSome)) s') :
  wpAny (model X.prog X.w) A (compareOp .NotIn u (.ref a)) Q E s:=by
 rcases g with ⟨kvs,k,e,ey,l⟩ | ⟨kvs,k,b,e,ey,eb,l⟩
 ·subst ey
  obtain ⟨z,hd,vs,rel,dd⟩:=sI I.hok e
  refine wpAny_notIn_of (pH ry) hd dd.mapOf ?_
  rw [<- (rel.val k).isSome_eq,<- l]
  exact h _ (I.tok _)
 ·subst ey
  cases (show u=Value.ref b from ry)
  obtain ⟨z,hd,xs,rel,dd⟩:=sH I.hok e
  refine wpAny_notIn_heap (tupleKind_room_in1 hu) (sm I.hok eb) hd dd ?_
  have q:=(rel.val k).isSome_eq
  rw [Option.isSome_map] at q
  rw [<- q,<- l]
  exact h _ (I.tok _)
theorem wm {h':Heap} {t':Nat} {ob:HO} (I:Inv X pins σ H s) (mu:qu (H a)) (hs:Heap.SameBut a s.heap h') (he:∃ q,h'.get? a=some q) (new:ObjOk X.prog X.w (upd H a ob) h' a ob) :
  Inv X pins σ (upd H a ob) { s with heap:=h',toks:=t' } :=
 I.write (x:=a) (e:=a) mu (.inl rfl) (λb q hb z=>(hs.2 b hb).trans z) he new
theorem Zeg {P:Program} {w:World} {H':Hp} {h':Heap} {kvs:List (am×V)} {vs:List (am×Value)} (z:kvs.length<=sizeLine) (hd:(a == sysModules)=false) (rel:KV kvs vs) (dd:h'.DictOf (cp P w) a vs) :
  ObjOk P w H' h' a (.dK kvs):=⟨z,hd,vs,rel,dd⟩
theorem ZkX {H':Hp} {Q:Unit->Shared->Prop} (hu:A.units+1 < cLine) (I:Inv X pins σ H s) (g:DPut H a y v H') (ry:RelV y u) (rv:RelV v r) (h:∀ s',Inv X pins σ H' s'->Q () s') :
  wpAny (model X.prog X.w) A (setItem (.ref a) u r) Q E s:=by
 rcases g with ⟨kvs,k,e,ey,l,eH⟩ | ⟨kvs,k,b,e,ey,eb,l,eH⟩
 ·subst ey eH
  obtain ⟨z,hd,vs,rel,dd⟩:=Zef I.hok e
  have hz:vs.length<=sizeLine:=by rw [<- rel.length]; exact z
  have hl:(bx kvs k v).length<=sizeLine:=by have:=pE kvs k v; omega
  refine wpAny_setItem_pairs (hsz:=hz) (pH ry) dd λh' dd' hs=>h _ ?_
  have he:∃ q,h'.get? a=some q:=let ⟨q,_,_,hq,_⟩:=dd'; ⟨q,hq⟩
  exact wm I (by rw [e]; exact True.intro) hs he (Zeg hl hd (rel.put k rv) dd')
 ·subst ey eH
  cases (show u=Value.ref b from ry)
  obtain ⟨z,hd,xs,rel,dd⟩:=ZkD I.hok e
  have hz:xs.length<=sizeLine:=by rw [<- Paired.length rel]; exact z
  have hl:(bx kvs k v).length<=sizeLine:=by have:=pE kvs k v; omega
  refine wpAny_setItem_heap (hsz:=hz) (tupleKind_room_in1 hu) (sm I.hok eb) dd λh' dd' hs=>h _ ?_
  obtain ⟨q,es,ep,hq,h2,h3,h4,_,h5⟩:=dd'
  refine wm I (by rw [e]; exact True.intro) hs ⟨q,hq⟩ ⟨hl,hd,_,(rel.put k eb rv).keeps λc ys ec=>?_,q,es,ep,hq,h2,h3,h4,h5⟩
  rw [az (o9 ec e (λz=>nomatch z))]
  exact ec
end
section
variable {X:Cx} {pins:List (Addr×Obj)} {σ:St} {H:Hp} {s:Shared} {a:Addr} {kvs:List (am×V)} {k:am} {u:Value} {A:Around} {E:Value->Shared->Prop}
end
noncomputable def Zfy (i:Expr):Prop:=∀ ov iv,subscripted i false ov iv=operate [ov,iv] (getItem ov iv)
theorem Zgr {prog:Program} {w:World} {A:Around} {E:Value->Shared->Prop} {s:Shared} {env:Env} {value slice:Expr} {pos:Pos} {T id:String} {Q:Value->Shared->Prop}
  (hl:typeLookup (.type T) "__getitem__"=pure (some (.builtin id))) (hs:Zfy slice)
  (h:wpAny (model prog w) A (eval value env) (λo s₁=>wpAny (model prog w) A (eval slice env) (λi s₂=>s₂.TypeIs o T/\wpAny (model prog w) A (getItem o i) Q E s₂) E s₁) E s) :
  wpAny (model prog w) A (eval (.Subscript value slice pos) env) Q E s:=by
 refine Subscript_ (wpAny_mono h (λo s₁ h₁=>wpAny_mono h₁ (λi s₂ h₂=>?_) λ_ _ x=>x) λ_ _ x=>x)
 obtain ⟨hT,h₂⟩:=h₂
 unfold subscriptTail
 refine wpAny_bind ?_
 rw [getitemInPython_of_ne hT.not_modules]
 refine wpAny_bind (wpAny_specialOf hT hl ?_)
 have fin:wpAny (model prog w) A (subscripted slice false o i) (λr s₃=>wpAny (model prog w) A (letTemporaryGo value o r >>= λ_=>pure r) Q E s₃) E s₂:=by
  rw [hs o i]
  exact wpAny_operating (wpAny_mono h₂ (λr s₃ h₃=>wpAny_bind (wpAny_letTemporaryGo (wpAny_pure h₃))) λ_ _ x=>x)
 first
  | exact wpAny_pure (wpAny_bind fin)
  | exact wpAny_bind (wpAny_pure (wpAny_bind fin))
  | exact wpAny_bind fin
theorem ZkK {X:Cx} {pins:List (Addr×Obj)} {σ:St} {H:Hp} {s:Shared} {a:Addr} {y:V} {o:Option V} (I:Inv X pins σ H s) (g:DGet H a y o):s.TypeIs (.ref a) "dict":=by
 rcases g with ⟨kvs,k,e,_,_⟩ | ⟨kvs,k,b,e,_,_,_⟩
 ·obtain ⟨_,_,vs,_,dd⟩:=sI I.hok e
  exact dd.typeIs
 ·obtain ⟨_,_,xs,_,dd⟩:=sH I.hok e
  exact dd.typeIs
noncomputable def t7 (td ty:TE):TE:=λσ H Q=>td σ H λx H1=>ty σ H1 λy H2=>∃ a v,x=.ref a/\DGet H2 a y (some v)/\Q v H2
noncomputable def ZaD (ty td:TE):TE:=λσ H Q=>ty σ H λy H1=>td σ H1 λx H2=>∃ a o,x=.ref a/\DGet H2 a y o/\Q (.bl (!o.isSome)) H2
noncomputable def Zbr (td ty tv:TE):TS:=λD σ H=>tv σ H λv H1=>td σ H1 λx H2=>ty σ H2 λy H3=>∃ a H4,x=.ref a/\DPut H3 a y v H4/\D.nx σ H4
section
variable {X:Cx} {o i e value:Expr} {pos pos' tpos:Pos} {td ty tv:TE}
theorem gY (hu:X.A.units+1 < cLine) (ho:PE X o td) (hi:PE X i ty) (hs:Zfy i):PE X (.Subscript o i pos) (t7 td ty):=by
 intro pins s σ H Q I h
 refine Zgr PySem.F.slot_dict_getitem.lookup hs (thn (ho pins s σ H _ I h) λu s1 ⟨x,H1,I1,rx,q1⟩=>thn (hi pins s1 σ H1 _ I1 q1) λiv s2 hz0=>?_)
 obtain ⟨y,H2,I2,ry,a,v,ex,g,q2⟩:=hz0
 subst ex
 obtain rfl:u=Value.ref a:=rx
 exact ⟨ZkK I2 g,Zk5 hu I2 g ry λw' s3 I3 rw'=>⟨v,H2,I3,rw',q2⟩⟩
theorem Zh0 (hu:X.A.units+1 < cLine) (hi:PE X i ty) (ho:PE X o td):PC X .NotIn i o (ZaD ty td):=by
 intro pins s σ H Q I h
 refine thn (hi pins s σ H _ I h) λiv s1 ⟨y,H1,I1,ry,q1⟩=>thn (ho pins s1 σ H1 _ I1 q1) λu s2 hz0=>?_
 obtain ⟨x,H2,I2,rx,a,ov,ex,g,q2⟩:=hz0
 subst ex
 obtain rfl:u=Value.ref a:=rx
 exact ZkZ hu I2 g ry λs3 I3=>⟨.bl (!ov.isSome),H2,I3,rfl,q2⟩
theorem qW (hu:X.A.units+1 < cLine) (ho:PE X o td) (hi:PE X i ty) (hv:PE X value tv) (hs:swapsWith value (some (.Subscript o i pos')) pos.line X.env=pure false) :
  PS X (.Assign [.Subscript o i pos'] value pos) (Zbr td ty tv):=by
 intro pins s σ H D I h
 refine wpAny_Assign_Subscript (thn (hv pins s σ H _ I h) λr s1 ⟨v,H1,I1,rv,q1⟩=>thn (ho pins s1 σ H1 _ I1 q1) λu s2 ⟨x,H2,I2,rx,q2⟩=>thn (hi pins s2 σ H2 _ I2 q2) λiv s3 hz0=>?_) hs
 obtain ⟨y,H3,I3,ry,a,H4,ex,g,q3⟩:=hz0
 subst ex
 obtain rfl:u=Value.ref a:=rx
 exact ZkX hu I3 g ry rv λs4 I4=>⟨σ,H4,I4,q3⟩
end
theorem ZkJ {P:Program} {w:World} {H:Hp} (h:Heap) (hb:sysModules < h.objs.size):ObjOk P w H (h.push { cls:=.type "dict",data:=.dict #[] }) h.objs.size (.dK []) :=
 ⟨Nat.zero_le _,beq_eq_false_iff_ne.mpr (Ne.symm (Nat.ne_of_lt hb)),[],.nil,Heap.DictOf.new h⟩
theorem ZkE {P:Program} {w:World} {H:Hp} (h:Heap) (hb:sysModules < h.objs.size):ObjOk P w H (h.push { cls:=.type "dict",data:=.dict #[] }) h.objs.size (.dT []) :=
 ⟨Nat.zero_le _,beq_eq_false_iff_ne.mpr (Ne.symm (Nat.ne_of_lt hb)),[],.nil,_,#[],0,Heap.get?_push_size _ rfl,⟨rfl,rfl,rfl⟩,rfl,rfl,List.nodup_nil⟩
noncomputable def Zgl:TE:=λ_ H Q=>∀ p,H p=none->Q (.ref p) (upd H p (.dT []))
section
variable {X:Cx} {pos:Pos}
theorem ZhS:PE X (.Dict [] [] pos) Zgl:=λpins s σ H Q I h =>
 wpAny_Dict_empty ⟨.ref s.heap.objs.size,_,I.laid (a:=s.heap.objs.size) (o:=.dT []) (t':=s.toks) (λ_ _ q=>Heap.get?_push_of_some _ q) (Nat.le_refl _) (ZkE s.heap I.big),rfl,h _ (I.hok.fresh (Nat.le_refl _))⟩
end
noncomputable def t4:List (TE×TE)->St->Hp->(List (V×V)->Hp->Prop)->Prop
 | [],_,H,Q=>Q [] H
 | (tk,tv)::r,σ,H,Q=>tk σ H λx H1=>tv σ H1 λy H2=>t4 r σ H2 λps H3=>Q ((x,y)::ps) H3
noncomputable abbrev VV:List (V×V)->List (Value×Value)->Prop:=Paired λp q=>RelV p.1 q.1/\RelV p.2 q.2
noncomputable def tz (X:Cx) (pos:Pos) (keys:List (Option Expr)) (values:List Expr) (trs:List (TE×TE)):Prop :=
 ∀ (pins:List (Addr×Obj)) (s:Shared) (σ:St) (H:Hp) (Q:List (V×V)->Hp->Prop),Inv X pins σ H s->t4 trs σ H Q ->
  wpAny (model X.prog X.w) X.A (evalPairs (pairTrees keys values X.env pos)) (λvs s'=>∃ ps H',Inv X pins σ H' s'/\VV ps vs/\Q ps H') X.xe s
theorem Zhw {X:Cx} {pos:Pos}:tz X pos [] [] []:=λpins s σ H Q I h=>pairTrees_nil_walk ⟨[],H,I,.nil,h⟩
theorem uV {X:Cx} {pos:Pos} {k v:Expr} {ks:List (Option Expr)} {vs:List Expr} {tk tv:TE} {trs:List (TE×TE)} (hk:PE X k tk) (hv:PE X v tv) (hr:tz X pos ks vs trs) :
  tz X pos (some k::ks) (v::vs) ((tk,tv)::trs):=λpins s σ H Q I h =>
 pairTrees_cons_walk (thn (hk pins s σ H _ I h) λu s1 ⟨x,H1,I1,rx,q1⟩=>thn (hv pins s1 σ H1 _ I1 q1) λw2 s2 ⟨y,H2,I2,ry,q2⟩ =>
  thn (hr pins s2 σ H2 _ I2 q2) λws s3 ⟨ps,H3,I3,rel,q3⟩=>⟨(x,y)::ps,H3,I3,.cons ⟨rx,ry⟩ rel,q3⟩)
noncomputable def pf (kvs more:List (am×V)):List (am×V):=more.foldl (λacc kv=>bx acc kv.1 kv.2) kvs
theorem KV.merge:∀ {more:List (am×V)} {rs:List (am×Value)} {kvs:List (am×V)} {vs:List (am×Value)},KV more rs->KV kvs vs->KV (pf kvs more) (merged vs rs):=by
 intro more rs kvs vs r
 unfold KV at r
 induction r generalizing kvs vs with
 | nil=>intro q; exact q
 | @cons p q ps qs h t ih =>
  intro r0
  have e:KV (bx kvs p.1 p.2) (stored vs q.1 q.2):=by
   have:=r0.put p.1 h.2
   rw [<- h.1]; exact this
  exact ih e
theorem Zc3:∀ (more kvs:List (am×V)),(pf kvs more).length<=kvs.length+more.length
 | [],kvs=>by show kvs.length<=kvs.length+0; omega
 | p::r,kvs=>by
  have h1:=Zc3 r (bx kvs p.1 p.2)
  have h2:=pE kvs p.1 p.2
  show (pf (bx kvs p.1 p.2) r).length<=_
  rw [List.length_cons]; omega
theorem ZeH {P:Program} {w:World}:∀ {kvs:List (am×V)} {ws:List (Value×Value)},VV (kvs.map λkv=>(kV kv.1,kv.2)) ws->∃ rs,Carries (cp P w) ws rs/\KV kvs rs
 | [],_,r=>by rw [List.map_nil] at r; cases r; exact ⟨[],True.intro,.nil⟩
 | p::kvs,_,r=>by
  rw [List.map_cons] at r
  cases r with
  | @cons a b as bs h t =>
   obtain ⟨rs,c,q⟩:=ZeH (P:=P) (w:=w) t
   obtain ⟨b1,b2⟩:=b
   exact ⟨(p.1,b2)::rs,⟨pH h.1,rfl,c⟩,.cons ⟨rfl,h.2⟩ q⟩
noncomputable def Zgk (trs:List (TE×TE)):TE:=λσ H Q=>∀ p,H p=none->t4 trs σ (upd H p (.dK [])) λps H2=>H2 p=some (.dK [])/\∃ kvs:List (am×V),ps=kvs.map (λkv=>(kV kv.1,kv.2))/\kvs.length<=15/\Q (.ref p) (upd H2 p (.dK (pf [] kvs)))
theorem ZhT {X:Cx} {pos:Pos} {keys:List (Option Expr)} {values:List Expr} {trs:List (TE×TE)} (h:tz X pos keys values trs) (hall:keys.all (·.isSome)=true) (hl:keys.length=values.length) (h0:keys≠[])
  (h15:keys.length<=15):PE X (.Dict keys values pos) (Zgk trs):=by
 intro pins s σ H Q I q
 have hn:=I.hok.fresh (Nat.le_refl s.heap.objs.size)
 have I1:=I.laid (a:=s.heap.objs.size) (o:=.dK []) (h':=s.heap.push { cls:=.type "dict",data:=.dict #[] }) (t':=s.toks) (λ_ _ q=>Heap.get?_push_of_some _ q) (Nat.le_refl _) (ZkJ s.heap I.big)
 refine wpAny_Dict_walk (knd:=cp X.prog X.w) hall hl h0 h15 (thn (h pins _ σ _ _ I1 (q _ hn)) λws s2 hz0=>?_)
 obtain ⟨ps,H2,I2,rel,e,kvs,ep,lk,q2⟩:=hz0
 subst ep
 obtain ⟨rs,c,rk⟩:=ZeH (P:=X.prog) (w:=X.w) rel
 obtain ⟨z,hd,vs0,r0,dd⟩:=Zef I2.hok e
 cases r0
 refine ⟨rs,c,dd,λh' dd' hs=>⟨.ref s.heap.objs.size,_,?_,rfl,q2⟩⟩
 have hz:(pf [] kvs).length<=sizeLine:=by
  have h1:=Zc3 kvs []
  rw [List.length_nil] at h1
  rw [sizeLine_eq]; omega
 have he:∃ q,h'.get? s.heap.objs.size=some q:=let ⟨q,_,_,hq,_⟩:=dd'; ⟨q,hq⟩
 exact wm I2 (by rw [e]; exact True.intro) hs he (Zeg hz hd (rk.merge .nil) dd')
section
variable {X:Cx} {pins:List (Addr×Obj)} {σ:St} {H:Hp} {s:Shared} {a:Addr} {y d:V} {u r:Value} {o:Option V} {A:Around} {E:Value->Shared->Prop}
end
section
variable {X:Cx} {o e f:Expr} {apos cpos:Pos} {td ty tx:TE}
end
section
variable {X:Cx} {pins:List (Addr×Obj)} {σ:St} {H:Hp} {s:Shared} {a:Addr} {kvs:List (am×V)} {A:Around} {E:Value->Shared->Prop}
end
section
variable {X:Cx} {pins:List (Addr×Obj)} {σ:St} {H:Hp} {s:Shared} {a:Addr} {y:V} {u:Value} {A:Around} {E:Value->Shared->Prop}
end
end L2
namespace Att
open PySem PySem.W PySem.Calls PyProof.Rows
theorem ints_of_wellAll {P:Params} {h:Heap}:∀ (ns:List Int) (vs:List Value),WellAll P h vs (ns.map WData.int)->IntsAre vs ns:=by
 intro ns
 induction ns with
 | nil =>
  intro vs w
  rw [List.map_nil] at w
  cases w
  exact .nil
 | cons n ns ih =>
  intro vs w
  rw [List.map_cons] at w
  cases w with
  | cons a b =>
   cases a
   exact .cons _ _ (ih _ b)
theorem script_of {l:OpenLaw} {n:Nat} (hn:l.most=some n) {P:Params} {h:Heap} {args:List WData} {vals:List Value}
  (hpre:l.row.toRowW.claim.pre args=true) (hwl:WellAll P h vals args) :
  ∃ a vs ns,vals=[Value.ref a]/\args=[WData.list (ns.map WData.int)]/\h.get? a=some { cls:=.type "list",data:=.seq vs.toArray }/\IntsAre vs ns/\ns.length<=n:=by
 have hsh:WShape.hasAll [] args [.list .int]=true:=(pre_splitW hpre).1
 have hc:l.pre.holds [] { args:=args }=true:=(pre_splitW hpre).2
 obtain ⟨d,r,rfl,h1,h2⟩:=hasAllW_cons hsh
 obtain rfl:=hasAllW_nil h2
 obtain ⟨xs,rfl,h3⟩:=hasW_list h1
 obtain ⟨ns,rfl⟩:=items_int h3
 have hlen:ns.length<=n:=by
  unfold OpenLaw.pre at hc
  have h4:(WTm.not (.lt (.lit (.int (n:Int))) (.len (.arg 0)))).holds [] { args:=[.list (ns.map .int)] }=true:=by
   have h4:=(holds_andW hc).1
   rw [hn] at h4
   exact h4
  have h5:=condW_of h4 (w_not (w_lt w_lit (w_len_list (w_arg rfl))))
  rw [List.length_map] at h5
  refine Nat.le_of_not_lt λq=>?_
  have q':(n:Int) < ((ns.length:Nat):Int):=by omega
  first
   | (rw [decide_eq_true q'] at h5; exact absurd h5 (by decide))
   | (simp at h5; omega)
 cases hwl with
 | cons w1 w2 =>
  cases w2
  cases w1 with
  | list ho hall=>exact ⟨_,_,ns,rfl,rfl,ho,ints_of_wellAll ns _ hall,hlen⟩
theorem post_true (l:OpenLaw) (args:List WData):l.row.toRowW.claim.post args (.bool true) args=true :=
 postW_of (r:=l.row.toRowW) (X:=(true == true))
  (show WShape.has [] (.bool true) .bool=true by first | rfl | decide | simp [WShape.has,WShape.arms,WShape.armsAll])
  (show (WTm.eq .res (.lit (.bool true))).value [] { args:=args,res:=some (.bool true),after:=args }=some (.bool (true == true)) from w_eq_bool (w_res rfl) w_lit) rfl
theorem attach_call {l:OpenLaw} {n:Nat} {q:Program} {loose:List Str} {XP:(Str->Option Value)->Heap->Prop} {YP:World->Heap->Prop} {d:DefRec}
  (hn:l.most=some n) (hdf:d.params.defaults=[])
  (call:∀ (w:World) (s₀ s₁:Shared) (mg mb:Str->Option Value) (fa:Addr) (o:Obj) (pm cd doc:Value) (a:Addr) (vs:List Value) (ns:List Int),
   Ground q loose [] XP w s₀ mg mb s₁.heap->YP w s₁.heap ->
   s₁.heap.get? fa=some o->o.data=.func (docDef d.name d.params d.body d.scope pm cd doc)->s₁.heap.CodeRec cd d.name->mg d.name=some (.ref fa) ->
   s₁.heap.get? a=some { cls:=.type "list",data:=.seq vs.toArray }->IntsAre vs ns->ns.length<=n->s₁.gens=#[] ->
   codeAny (model l.prog w) callerA (.call (.ref fa) ⟨[.ref a],[]⟩) (λr s'=>r=.ok (.ret (.bool true))/\OldK s₁.heap s'.heap/\s'.os=s₁.os/\AllBare s'.gens) s₁) :
  WalkO q loose XP YP l.row.toRowW d [] (λf vs=>PySem.call f vs):=by
 intro w s₀ s₁ mg mb G Y fa o pm cd doc dV kV ho hd hcd hD hmg hg args vals as hpre hlay hrd hwl hlo
 obtain rfl:dV=.none:=Dflts.none hD hdf
 obtain rfl:kV=.none:=Dflts.noKw hD
 obtain ⟨a,vs,ns,rfl,rfl,hobj,hints,hlen⟩:=script_of hn hpre hwl
 refine enter_call (codeAny_mono (call w s₀ s₁ mg mb fa o pm cd doc a vs ns G Y ho (fd_plain hd) hcd hmg hobj hints hlen hg) λr s' hq=>?_)
 obtain ⟨rfl,h2,h3,h4⟩:=hq
 exact ⟨.inl ⟨.bool true,.bool true,[],rfl,λ_=>rfl,.bool true,post_true l _,λ_=>⟨List.Pairwise.nil,λ_ hm=>(nomatch hm)⟩⟩,h2,h3,h4⟩
section
variable {prog:Program} {w:World} {A:Around} {E:Value->Shared->Prop} {s:Shared} {K:Frag}
end
end Att
namespace L2
open PySem PySem.Spec PyProof.Rows
theorem ZfS {vs:List Value} {ns:List Int} (h:IntsAre vs ns):Vals (ns.map V.int) vs:=by
 induction h with
 | nil=>exact .nil
 | cons n t h ih=>exact .cons ⟨t,rfl⟩ ih
noncomputable def tE (H:Hp):Prop:=∀ b,H b=none\/∃ o xs,H b=some (.frz o (.lst xs))
theorem Zi5 {P:Program} {w:World} {K:PySem.W.Frag} {mg mb:Str->Option Value} {CX:eI} {k:Nat} {fa a:Addr} {fd:FuncData} {x:Str} {sp:Sp} {s₁:Shared} {vs:List Value} {ns:List Int}
  (KX:K.In s₁.heap) (hns:s₁.heap.Ns mainGlobals mg) (hb:s₁.heap.Ns builtinsNs mb) (hbb:∀ x:Str,x≠"__name__"->mb x=bootBuiltins x) (hlim:s₁.heap.NoLimit) (hdig:s₁.heap.NoDigits) (hg:s₁.gens=#[])
  (ha:s₁.heap.get? a=some { cls:=.type "list",data:=.seq vs.toArray }) (hi:IntsAre vs ns) (hl:ns.length<=sizeLine) (hr:Room k callerA)
  (F:∀ base:Heap,K.In base->base.Ns mainGlobals mg->FnOk P w K mg base CX k fa fd [x] sp) (hbind:∀ (s:Shared) (u:Value),BindsTo s fd ⟨[u],[]⟩ [(x,u)])
  (hsp:∀ H:Hp,tE H->SqL K H a (ns.map V.int)->sp [.ref a] H (λv _=>v=.bl true) λ_ _ _=>False)
  (hCX:∀ H e s',CX [] H s₁ (λ_ _ _=>False) e s'->False) :
  codeAny (model P w) callerA (.call (.ref fa) ⟨[.ref a],[]⟩) (λr s'=>r=.ok (.ret (.bool true))/\OldK s₁.heap s'.heap/\s'.os=s₁.os/\AllBare s'.gens) s₁:=by
 have rv:=ZfS hi
 have lenV:=hi.length
 -- from an abstract heap in which nothing but the script may be tracked
 have core:∀ H:Hp,tE H->SqL K H a (ns.map V.int)->HOk P w H s₁.heap->(∀ b,H b≠none->b=a)->(H a≠none->K.lookup a=none) ->
   codeAny (model P w) callerA (.call (.ref fa) ⟨[.ref a],[]⟩) (λr s'=>r=.ok (.ret (.bool true))/\OldK s₁.heap s'.heap/\s'.os=s₁.os/\AllBare s'.gens) s₁:=by
  intro H hO hS hok hA hK
  have base_of:∀ {b:Addr} {o:Obj},s₁.heap.get? b=some o->H b=none->(gl s₁.heap H).get? b=some o:=λe n=>ZjF e n
  have noA:∀ {b:Addr} {o:Obj} {es:Array DictEntry} {ep:Nat},s₁.heap.get? b=some o->o.data=.dict es ep->H b=none:=λ{b o es ep} e d=>by
   cases q:H b with
   | none=>rfl
   | some u =>
    have e':b=a:=hA b (by rw [q]; simp)
    subst e'
    rw [ha] at e; cases e
    have d':Data.seq vs.toArray _=Data.dict es ep:=d
    cases d'
  have nsK:∀ {b:Addr} {m:Str->Option Value},s₁.heap.Ns b m->(gl s₁.heap H).Ns b m:=λ{b m} hz0=>by
   obtain ⟨o,es,ep,e,d,r⟩:=hz0
   exact ⟨o,es,ep,base_of e (noA e d),d,r⟩
  have hKb:K.In (gl s₁.heap H):=λb o e=>base_of (KX b o e) (by
   cases q:H b with
   | none=>rfl
   | some u =>
    have e':b=a:=hA b (by rw [q]; simp)
    subst e'
    rw [hK (by rw [q]; simp)] at e; cases e)
  have hM:Mod K mg (gl s₁.heap H):=⟨hKb,nsK hns,⟨mb,nsK hb,hbb⟩,let ⟨mc,h1,h2⟩:=hlim; ⟨mc,nsK h1,h2⟩,let ⟨mc,h1,h2⟩:=hdig; ⟨mc,nsK h1,h2⟩⟩
  have e0:Env0 P w K mg (gl s₁.heap H) callerA [] s₁ H:=⟨rfl,hM,λb o e=>Zij e,Nat.le_of_eq (ZjE _ _),trivial,λb hb=>absurd (show b∈([]:List Addr) from hb) (by simp),hok,.of_eq hg⟩
  refine codeAny_mono ((F _ hKb (nsK hns)).run callerA [] s₁ H ⟨[.ref a],[]⟩ [.ref a] [.ref a] _ _ hr e0 (hbind s₁ (.ref a)) (.cons rfl .nil) (hsp H hO hS)) λr s' h=>?_
  cases r with
  | error e=>exact (hCX H e s' h).elim
  | ok fl =>
   cases fl with
   | next=>exact False.elim h
   | brk=>exact False.elim h
   | cont=>exact False.elim h
   | ret u =>
    obtain ⟨v,H',os,bare,un,hok',r',q⟩:=h
    have q':v=.bl true:=q
    subst q'
    obtain rfl:u=Value.bool true:=r'
    refine ⟨rfl,OldK.of_keep λb o e=>?_,os,bare⟩
    cases q:H b with
    | none=>exact un.keep b o e q (by intro z; exact absurd (show b∈([]:List Addr) from z) (by simp)) (by simp)
    | some u =>
     rcases hO b with z | ⟨ob,xs,z⟩
     ·rw [q] at z; cases z
     ·have z2:=un.frzs b ob _ z
      obtain ⟨e1,_⟩:=hok b _ z
      obtain ⟨e2,_⟩:=hok' b _ z2
      rw [e] at e1; cases e1
      exact e2
 cases hk:K.lookup a with
 | some o =>
  -- the script is one of the module's own objects
  have e:=KX a o hk
  rw [ha] at e
  cases e
  refine core (λ_=>none) (λ_=>.inl rfl) (.inr ⟨_,vs.toArray,_,hk,rfl,rfl,rfl,by rw [List.size_toArray,lenV]; exact hl,by simpa using rv⟩) (λb u z=>by have z':(none:Option HO)=some u:=z; cases z') (λb z=>absurd rfl z) λz=>absurd rfl z
 | none =>
  refine core (λb=>if b=a then some (.frz { cls:=.type "list",data:=.seq vs.toArray } (.lst (ns.map V.int))) else none) (λb=>?_) (.inl (.inr ⟨{ cls:=.type "list",data:=.seq vs.toArray },if_pos rfl⟩)) (λb u z=>?_) (λb z=>?_) λ_=>hk
  ·by_cases hb:b=a
   ·exact .inr ⟨_,_,if_pos hb⟩
   ·exact .inl (if_neg hb)
  ·by_cases hb:b=a
   ·have z':=(if_pos hb).symm.trans z
    cases z'
    subst hb
    exact ⟨ha,by rw [List.length_map]; exact hl,vs,_,rv,ha⟩
   ·have z':=(if_neg hb).symm.trans z
    cases z'
  ·by_cases hb:b=a
   ·exact hb
   ·exact absurd (if_neg hb) z
noncomputable abbrev KOf {K:PySem.W.Frag} {h:Heap} (_:K.In h):PySem.W.Frag:=K
theorem ZfI {l:PySem.W.OpenLaw} {n k:Nat} {q:Program} {loose:List Str} {XP:(Str->Option Value)->Heap->Prop} {YP:World->Heap->Prop} {d:DefRec} {K:Params->PySem.W.Frag} {CX:World->eI} {sp:World->Sp} {x:Str}
  (hn:l.most=some n) (hn2:n<=sizeLine) (hdf:d.params.defaults=[]) (hr:Room k callerA)
  (hY:∀ (w:World) (h:Heap),YP w h->(K w.params).In h)
  (F:∀ (w:World) (mg:Str->Option Value) (fa:Addr) (h:Heap),(K w.params).In h->h.Ns mainGlobals mg->mg d.name=some (.ref fa) ->
   ∃ fd:FuncData,(∀ (s:Shared) (u:Value),BindsTo s fd ⟨[u],[]⟩ [(x,u)]) /\
    ∀ base:Heap,(K w.params).In base->base.Ns mainGlobals mg->FnOk l.prog w (K w.params) mg base (CX w) k fa fd [x] (sp w))
  (hsp:∀ (w:World) (H:Hp) (a:Addr) (ns:List Int),ns.length<=n->tE H->SqL (K w.params) H a (ns.map V.int)->sp w [.ref a] H (λv _=>v=.bl true) λ_ _ _=>False)
  (hCX:∀ (w:World) (H:Hp) (s:Shared) (e:Value) (s':Shared),CX w [] H s (λ_ _ _=>False) e s'->False) :
  PySem.W.WalkO q loose XP YP l.row.toRowW d [] (λf vs=>PySem.call f vs):=by
 refine Att.attach_call hn hdf λw s₀ s₁ mg mb fa o pm cd doc a vs ns G Y ho hd hcd hmg hobj hints hlen hg=>?_
 have KX:=hY w _ Y
 obtain ⟨fd,hb,hF⟩:=F w mg fa _ KX G.T.g hmg
 exact Zi5 KX G.T.g G.T.b G.T.builtins G.T.nolimit G.T.nodigits hg hobj hints (Nat.le_trans hlen hn2) hr hF hb (λH hO hS=>hsp w H a ns hlen hO hS) λH e s'=>hCX w H s₁ e s'
theorem ZfH {l:PySem.W.OpenLaw} {n k:Nat} {q:Program} {loose:List Str} {XP:(Str->Option Value)->Heap->Prop} {YP:World->Heap->Prop} {d:DefRec} {K:Params->PySem.W.Frag} {CX:eI} {sp:PySem.W.Frag->Sp} {x:Str}
  (hn:l.most=some n) (hn2:n<=sizeLine) (hdf:d.params.defaults=[]) (hr:Room k callerA)
  (hY:∀ (w:World) (h:Heap),YP w h->(K w.params).In h)
  (F:∀ (w:World) (mg:Str->Option Value) (fa:Addr) (h:Heap),(K w.params).In h->h.Ns mainGlobals mg->mg d.name=some (.ref fa) ->
   ∃ fd:FuncData,(∀ (s:Shared) (u:Value),BindsTo s fd ⟨[u],[]⟩ [(x,u)]) /\
    ∀ base:Heap,(K w.params).In base->base.Ns mainGlobals mg->FnOk l.prog w (K w.params) mg base CX k fa fd [x] (sp (K w.params)))
  (hsp:∀ (K:PySem.W.Frag) (H:Hp) (a:Addr) (ns:List Int),ns.length<=n->tE H->SqL K H a (ns.map V.int)->sp K [.ref a] H (λv _=>v=.bl true) λ_ _ _=>False)
  (hCX:∀ (H:Hp) (s:Shared) (e:Value) (s':Shared),CX [] H s (λ_ _ _=>False) e s'->False) :
  PySem.W.WalkO q loose XP YP l.row.toRowW d [] (λf vs=>PySem.call f vs) :=
 ZfI (K:=K) (CX:=λ_=>CX) (sp:=λw=>sp (K w.params)) hn hn2 hdf hr hY F (λw H a ns h1 h2 h3=>hsp (K w.params) H a ns h1 h2 h3) λ_ H s e s'=>hCX H s e s'
noncomputable def oe (s:Stmt):Arguments:=match s with
 | .FunctionDef _ a _ _ _ _ _ _ _ _=>a
 | _=>{ posonlyargs:=[],args:=[],vararg:=none,kwonlyargs:=[],kw_defaults:=[],kwarg:=none,defaults:=[] }
noncomputable def fN (s:Stmt):List Stmt:=match s with
 | .FunctionDef _ _ b _ _ _ _ _ _ _=>b
 | _=>[]
noncomputable def aK (s:Stmt):Scope:=match s with
 | .FunctionDef _ _ _ _ _ _ sc _ _ _=>sc
 | _=>{ kind:=.function,names:=[],isGenerator:=false,isCoroutine:=false }
noncomputable abbrev gJ:eI:=λ_ _ _ _ _ _=>False
noncomputable abbrev E0:XK:=λ_ _ _=>False
theorem Zh1 {X:Cx}:w8 gJ X E0:=λ_ _ _ _ _ _ _ h=>h.elim
structure Fun (K:PySem.W.Frag) (x qual:Str) (st:Stmt) (f:Addr) (fd:FuncData):Prop where
 ex:∃ (oc:Value) (od:Option Addr) (kV doc pm:Value) (an:Option Addr) (cdv ct:Value) (osl:Array (Option Value)),
  fd=PySem.W.fnOf x qual (oe st) (fN st) (aK st) .none kV doc pm an cdv ct/\K.lookup f=some ⟨oc,od,.func fd,osl⟩/\PySem.W.codeIn K cdv qual=true
 kp:PySem.W.keepIn K (.ref f)=true
section
variable {P:Program} {w:World} {K:PySem.W.Frag} {mg:Str->Option Value} {base:Heap}
theorem Fun.ok {x qual:Str} {st:Stmt} {f:Addr} {fd:FuncData} {N ps:List Str} {k:Nat} {sp:Sp} (F:Fun K x qual st f fd) (S:FnScope N ps (aK st)) (len:∀ vs H Q E,sp vs H Q E->vs.length=ps.length)
  (hbody:∀ (cdv:Value) (A:Around) (outer:List Env) (s:Shared) (H:Hp) (vs:List V) (Q:VK) (E:XK),Room k (A.deeper (envOfC qual (aK st) s.heap.objs.size f cdv))->sp vs H Q E ->
   ∃ t,PSs (gy gJ P w K mg base N qual (aK st) f cdv A outer s H E).nox (fN st) t/\t { nx:=λ_ H'=>Q .non H',rt:=Q } (start N vs) H):FnOk P w K mg base gJ (k+1) f fd ps sp:=by
 obtain ⟨oc,od,kV,doc,pm,an,cdv,ct,osl,rfl,lk,hcd⟩:=F.ex
 refine ZjX lk hcd S len λA outer s H vs Q E hr hsp=>?_
 obtain ⟨t,h,q⟩:=hbody cdv A outer s H vs Q E hr hsp
 exact ⟨t,h.nox,q⟩
theorem Fun.binds {x qual:Str} {st:Stmt} {f:Addr} {fd:FuncData} {ps:List Str} (F:Fun K x qual st f fd)
  (h:∀ (kV doc pm:Value) (an:Option Addr) (cdv ct:Value) (us:List Value),us.length=ps.length->bindArgs (PySem.W.fnOf x qual (oe st) (fN st) (aK st) .none kV doc pm an cdv ct) ⟨us,[]⟩=pure (ps.zip us)):Binds K fd ps []:=by
 obtain ⟨oc,od,kV,doc,pm,an,cdv,ct,osl,rfl,lk,hcd⟩:=F.ex
 exact .all (h kV doc pm an cdv ct)
theorem ZjV {x qual:Str} {st:Stmt} {f:Addr} {oc:Value} {od an:Option Addr} {osl:Array (Option Value)} {kV doc pm cdv ct:Value} (l:K.lookup f=some ⟨oc,od,.func (PySem.W.fnOf x qual (oe st) (fN st) (aK st) .none kV doc pm an cdv ct),osl⟩)
  (c:PySem.W.codeIn K cdv qual=true) (k:PySem.W.keepIn K (.ref f)=true):Fun K x qual st f (PySem.W.fnOf x qual (oe st) (fN st) (aK st) .none kV doc pm an cdv ct):=⟨⟨oc,od,kV,doc,pm,an,cdv,ct,osl,rfl,l,c⟩,k⟩
end
theorem hW {A:Around} {k:Nat} (hr:Room k A):A.units+1 < cLine:=Nat.lt_of_le_of_lt (Nat.add_le_add_left (by decide:1<=64) _) hr.units
section
variable {X:Cx}
theorem pv (i:Nat) {x:Str} {pos:Pos} (hN:X.N[i]?=some x:=by rfl) (hv:tq X.env.scope x:=by first | exact Or.inl rfl | exact Or.inr (Or.inl rfl) | exact Or.inr (Or.inr rfl)) (hd:(x == ("__debug__":Str))=false:=by decide)
  (hcd:(x == ("__classdict__":Str))=false:=by decide):PE X (.Name x pos) (dm i):=ZhJ hN hv hd hcd
end
theorem Zjs {A B:Prop} (h:B):if false=true then A else B:=by
 rw [if_neg Bool.false_ne_true]
 exact h
theorem sw {c A B:Prop} [Decidable c] (h1:c->A) (h2:¬ c->B):if c then A else B:=by
 by_cases h:c
 ·rw [if_pos h]
  exact h1 h
 ·rw [if_neg h]
  exact h2 h
noncomputable def Same (H H':Hp):Prop:=∀ b o,H b=some o->H' b=some o
theorem Same.refl (H:Hp):Same H H:=λ_ _ h=>h
theorem Same.seq {K:PySem.W.Frag} {H H':Hp} {a:Addr} {xs:List V} (e:Same H H') (h:SqL K H a xs):SqL K H' a xs:=by
 rcases h with (h | ⟨o,h⟩) | h
 ·exact .inl (.inl (e _ _ h))
 ·exact .inl (.inr ⟨o,e _ _ h⟩)
 ·exact .inr h
structure Blk where
 cl:List (Str×Addr)
 C:Addr
 s:Shared
 H:Hp
 fp:List Addr
 pn:List (Addr×Obj)
noncomputable def aX (X:Cx) (N:List Str) (scope:Scope) (b:Blk):Cx where
 prog:=X.prog
 w:=X.w
 K:=X.K
 mg:=X.mg
 base:=X.base
 A:=X.A
 N:=N
 s₀:=b.s
 H₀:=b.H
 env:=compEnvC scope b.cl b.C X.env
 outer:=X.stack
 stack:=X.stack
 ex:=b.fp
 fn:=λx=>scope.names.lookup x == some .cell
 calm:=X.calm
 pn:=b.pn
 xe:=λ_ _=>False
noncomputable def bN (Nx ts:List Str) (ix:List Nat):List Str:=ts++ix.map λj=>(Nx[j]?).getD Str.empty
noncomputable def cI (n:Nat) (ix:List Nat) (σ:St):St:=List.replicate n none++ix.map λj=>(σ[j]?).getD none
structure BlkOk (Nx:List Str) (sc scope:Scope) (ix:List Nat):Prop where
 kind:scope.kind=.function
 cells:∀ y∈scope.names,y.2=.cell->scope.names.lookup y.1=some .cell
 locs:∀ y∈scope.names,y.2=.local->scope.names.lookup y.1=some .local
 frees:∀ y∈scope.names,y.2=.free->sc.names.lookup y.1=some .cell\/sc.names.lookup y.1=some .free
 caps:∀ j∈ix,j < Nx.length/\scope.names.lookup ((Nx[j]?).getD Str.empty)=some .free
theorem v7 {env:Env} {f:Str×NameKind->List (Str×Addr)->Sem (ForInStep (List (Str×Addr)))}
  (h1:∀ n k r,k≠NameKind.free->f (n,k) r=pure (.yield r)) (h2:∀ n r c,env.cells.lookup n=some c->f (n,NameKind.free) r=pure (.yield ((n,c)::r))) :
  ∀ (names:List (Str×NameKind)) (acc:List (Str×Addr)),(∀ y∈names,y.2=.free->∃ c,env.cells.lookup y.1=some c)->(∀ x c,acc.lookup x=some c->env.cells.lookup x=some c) ->
   ∃ cl,forIn names acc f=pure cl/\(∀ x c,cl.lookup x=some c->env.cells.lookup x=some c)/\(∀ y∈names,y.2=.free->∃ c,cl.lookup y.1=some c)/\∀ x c,acc.lookup x=some c->∃ c',cl.lookup x=some c'
 | [],acc,_,ha=>⟨acc,rfl,ha,(λ_ h=>nomatch h),λx c h=>⟨c,h⟩⟩
 | (n,k)::names,acc,hn,ha=>by
  have hn':∀ y∈names,y.2=.free->∃ c,env.cells.lookup y.1=some c:=λy hy=>hn y (List.mem_cons_of_mem _ hy)
  by_cases hk:k=.free
  ·subst hk
   obtain ⟨c,hc⟩:=hn (n,.free) List.mem_cons_self rfl
   have ha':∀ x d,((n,c)::acc).lookup x=some d->env.cells.lookup x=some d:=λx d e=>by
    rw [List.lookup_cons] at e
    cases hx:x == n with
    | true =>
     rw [hx] at e
     have hxn:x=n:=by simpa using hx
     subst hxn
     cases e
     exact hc
    | false =>
     rw [hx] at e
     exact ha x d e
   obtain ⟨cl,e,p1,p2,p3⟩:=v7 h1 h2 names ((n,c)::acc) hn' ha'
   refine ⟨cl,?_,p1,λy hy hf=>?_,λx d hx=>?_⟩
   ·rw [List.forIn_cons,h2 n acc c hc,pure_bind]
    exact e
   ·rcases List.mem_cons.mp hy with rfl | hy
    ·exact p3 n c (by simp)
    ·exact p2 y hy hf
   ·by_cases e1:x=n
    ·subst e1
     exact p3 x c (by simp)
    ·exact p3 x d (by rw [List.lookup_cons,beq_false_of_ne e1]; exact hx)
  ·obtain ⟨cl,e,p1,p2,p3⟩:=v7 h1 h2 names acc hn' ha
   refine ⟨cl,?_,p1,λy hy hf=>?_,p3⟩
   ·rw [List.forIn_cons,h1 n k acc hk,pure_bind]
    exact e
   ·rcases List.mem_cons.mp hy with rfl | hy
    ·exact absurd hf hk
    ·exact p2 y hy hf
theorem pU {scope:Scope} {env:Env} (hn:∀ y∈scope.names,y.2=.free->∃ c,env.cells.lookup y.1=some c) :
  ∃ cl,closureFor scope env=pure cl/\(∀ x c,cl.lookup x=some c->env.cells.lookup x=some c)/\∀ y∈scope.names,y.2=.free->∃ c,cl.lookup y.1=some c:=by
 unfold closureFor
 have key:=v7 (env:=env) (f:=λ(x:Str×NameKind) (r:List (Str×Addr))=>match x with
  | (name,kind)=>if (kind == NameKind.free)=true then (do let a <- cellOf env name; pure (ForInStep.yield ((name,a)::r))) else pure (ForInStep.yield r))
  (λn k r hk=>by
   have hb:(k == NameKind.free)=false:=by simpa using hk
   show (if (k == NameKind.free)=true then _ else _)=_
   rw [hb]
   rfl)
  (λn r c hc=>by
   show (do let a <- cellOf env n; pure (ForInStep.yield ((n,a)::r)))=_
   unfold cellOf
   rw [hc]
   rfl) scope.names [] hn (λx c h=>by simp at h)
 obtain ⟨cl,e,p1,p2,_⟩:=key
 refine ⟨cl,?_,p1,p2⟩
 show (forIn scope.names [] _ >>= λr=>pure r)=pure cl
 exact (congrArg (λt=>t >>= λr=>pure r) e).trans (pure_bind _ _)
section
variable {X:Cx} {pins:List (Addr×Obj)} {σ:St} {H:Hp} {s:Shared}
theorem Zg8 {scope:Scope} {env:Env} {x:Str} (h:scope.names.lookup x=some .free):(relabel scope env).names.lookup x=some .cell\/(relabel scope env).names.lookup x=some .free:=by
 unfold relabel
 show List.lookup x (scope.names.map _)=_\/List.lookup x (scope.names.map _)=_
 generalize scope.names=l at h
 induction l with
 | nil=>simp at h
 | cons p r ih =>
  obtain ⟨n,k⟩:=p
  rw [List.map_cons]
  cases hx:x == n with
  | true =>
   rw [List.lookup_cons,hx] at h
   have hk:k=.free:=by simpa using h
   subst hk
   by_cases hc:(NameKind.free == NameKind.free && env.scope.kind == .function && env.kindOf n == some .cell)=true
   ·refine .inl ?_
    show List.lookup x ((if (NameKind.free == NameKind.free && env.scope.kind == .function && env.kindOf n == some .cell)=true then (n,NameKind.cell) else (n,NameKind.free))::_)=_
    rw [if_pos hc,List.lookup_cons,hx]
   ·refine .inr ?_
    show List.lookup x ((if (NameKind.free == NameKind.free && env.scope.kind == .function && env.kindOf n == some .cell)=true then (n,NameKind.cell) else (n,NameKind.free))::_)=_
    rw [if_neg hc,List.lookup_cons,hx]
  | false =>
   rw [List.lookup_cons,hx] at h
   have key:∀ q:Str×NameKind,(q=(n,NameKind.cell)\/q=(n,k))->∀ l',List.lookup x (q::l')=List.lookup x l':=λq hq l'=>by
    rcases hq with rfl | rfl <;> rw [List.lookup_cons,hx]
   have hq:(if (k == NameKind.free && env.scope.kind == .function && env.kindOf n == some .cell)=true then (n,NameKind.cell) else (n,k))=(n,NameKind.cell)\/(if (k == NameKind.free && env.scope.kind == .function && env.kindOf n == some .cell)=true then (n,NameKind.cell) else (n,k))=(n,k):=by
    split
    ·exact .inl rfl
    ·exact .inr rfl
   rcases ih h with z | z
   ·exact .inl ((key _ hq _).trans z)
   ·exact .inr ((key _ hq _).trans z)
theorem Zg9 {scope:Scope} {env:Env} {x:Str} (h:(relabel scope env).names.lookup x=some .cell\/(relabel scope env).names.lookup x=some .free):∃ y∈scope.names,y.1=x/\(y.2=.free\/y.2=.cell):=by
 unfold relabel at h
 have h':List.lookup x (scope.names.map λ(n,k)=>if (k == .free && env.scope.kind == .function && env.kindOf n == some .cell) then (n,NameKind.cell) else (n,k))=some .cell\/List.lookup x (scope.names.map λ(n,k)=>if (k == .free && env.scope.kind == .function && env.kindOf n == some .cell) then (n,NameKind.cell) else (n,k))=some .free:=h
 clear h
 generalize scope.names=l at h'
 induction l with
 | nil=>simp at h'
 | cons p r ih =>
  obtain ⟨n,k⟩:=p
  rw [List.map_cons] at h'
  cases hx:x == n with
  | true =>
   have hxn:x=n:=by simpa using hx
   by_cases hk:k=.free
   ·exact ⟨(n,k),List.mem_cons_self,hxn.symm,.inl hk⟩
   ·
    have hb:(k == NameKind.free)=false:=by simpa using hk
    have e:(if (k == NameKind.free && env.scope.kind == .function && env.kindOf n == some .cell)=true then (n,NameKind.cell) else (n,k))=(n,k):=by
     rw [hb]
     rfl
    have h2:List.lookup x ((n,k)::r.map λ(n,k)=>if (k == .free && env.scope.kind == .function && env.kindOf n == some .cell) then (n,NameKind.cell) else (n,k))=some .cell\/List.lookup x ((n,k)::r.map λ(n,k)=>if (k == .free && env.scope.kind == .function && env.kindOf n == some .cell) then (n,NameKind.cell) else (n,k))=some .free:=by
     rw [<- e]
     exact h'
    rw [List.lookup_cons,hx] at h2
    rcases h2 with z | z
    ·exact ⟨(n,k),List.mem_cons_self,hxn.symm,.inr (Option.some.inj z)⟩
    ·exact absurd (Option.some.inj z) hk
  | false =>
   have hq:∀ q:Str×NameKind,(q=(n,NameKind.cell)\/q=(n,k))->∀ l',List.lookup x (q::l')=List.lookup x l':=λq hq l'=>by
    rcases hq with rfl | rfl <;> rw [List.lookup_cons,hx]
   have hqq:(if (k == NameKind.free && env.scope.kind == .function && env.kindOf n == some .cell)=true then (n,NameKind.cell) else (n,k))=(n,NameKind.cell)\/(if (k == NameKind.free && env.scope.kind == .function && env.kindOf n == some .cell)=true then (n,NameKind.cell) else (n,k))=(n,k):=by
    split
    ·exact .inl rfl
    ·exact .inr rfl
   obtain ⟨y,hy,e⟩:=ih (by
    rcases h' with z | z
    ·exact .inl ((hq _ hqq _).symm.trans z)
    ·exact .inr ((hq _ hqq _).symm.trans z))
   exact ⟨y,List.mem_cons_of_mem _ hy,e⟩
theorem wq:∀ (names:List (Str×NameKind)) (h:Heap) (acc:List (Str×Addr)),
  (∀ x c,(cellsFrom h.objs.size names acc).lookup x=some c->acc.lookup x=some c\/(h.objs.size<=c/\(pushCells h names).IsCell c none/\(x,NameKind.cell)∈names)) /\
  (∀ x,((x,NameKind.cell)∈names\/∃ c,acc.lookup x=some c)->∃ c,(cellsFrom h.objs.size names acc).lookup x=some c) /\
  (∀ x c,(x,NameKind.cell)∈names->(cellsFrom h.objs.size names acc).lookup x=some c->h.objs.size<=c) /\
  ((∀ x c,acc.lookup x=some c->c < h.objs.size)->(∀ x y c,acc.lookup x=some c->acc.lookup y=some c->x=y)->∀ x y c,(cellsFrom h.objs.size names acc).lookup x=some c->(cellsFrom h.objs.size names acc).lookup y=some c->x=y):=by
 intro names
 induction names with
 | nil=>intro h acc; exact ⟨λx c e=>.inl e,λx e=>by rcases e with e | e; cases e; exact e,λx c e=>(by cases e),λ_ i=>i⟩
 | cons p r ih =>
  obtain ⟨name,kind⟩:=p
  intro h acc
  unfold cellsFrom pushCells
  by_cases hk:kind=.cell
  ·subst hk
   have hk':((NameKind.cell == NameKind.cell)=true):=rfl
   rw [if_pos hk',if_pos hk']
   have ih':=ih (h.push { cls:=.type "cell",data:=.cell none }) ((name,h.objs.size)::acc)
   rw [Heap.size_push] at ih'
   obtain ⟨i1,i2,i4,i3⟩:=ih'
   refine ⟨λx c e=>?_,λx e=>?_,λx c e1 e2=>?_,λhb hi=>i3 (λx c e=>?_) λx y c e1 e2=>?_⟩
   ·rcases i1 x c e with z | ⟨z1,z2,z3⟩
    ·rw [List.lookup_cons] at z
     cases hx:x == name with
     | true =>
      rw [hx] at z
      have hxn:x=name:=by simpa using hx
      cases z
      exact .inr ⟨Nat.le_refl _,⟨_,pushCells_keeps _ _ _ _ (Heap.get?_push_size _ rfl),rfl⟩,by rw [hxn]; exact List.mem_cons_self⟩
     | false=>rw [hx] at z; exact .inl z
    ·exact .inr ⟨by omega,z2,List.mem_cons_of_mem _ z3⟩
   ·refine i2 x ?_
    by_cases hx:x=name
    ·exact .inr ⟨h.objs.size,by rw [List.lookup_cons,hx]; simp⟩
    ·rcases e with e | ⟨c,e⟩
     ·rcases List.mem_cons.mp e with q | q
      ·exact absurd (congrArg Prod.fst q) hx
      ·exact .inl q
     ·exact .inr ⟨c,by rw [List.lookup_cons,beq_false_of_ne hx]; exact e⟩
   ·rcases i1 x c e2 with z | ⟨z,_,_⟩
    ·rw [List.lookup_cons] at z
     cases hx:x == name with
     | true=>rw [hx] at z; cases z; exact Nat.le_refl _
     | false =>
      have hxn:x≠name:=by simpa using hx
      rcases List.mem_cons.mp e1 with q | q
      ·exact absurd (congrArg Prod.fst q) hxn
      ·exact Nat.le_of_succ_le (i4 x c q e2)
    ·exact Nat.le_of_succ_le z
   ·rw [List.lookup_cons] at e
    cases hx:x == name with
    | true=>rw [hx] at e; cases e; exact Nat.lt_succ_self _
    | false=>rw [hx] at e; exact Nat.lt_succ_of_lt (hb x c e)
   ·rw [List.lookup_cons] at e1 e2
    cases hx:x == name with
    | true =>
     have hxn:x=name:=by simpa using hx
     rw [hx] at e1
     cases e1
     cases hy:y == name with
     | true =>
      have hyn:y=name:=by simpa using hy
      rw [hxn,hyn]
     | false=>rw [hy] at e2; exact absurd (hb y _ e2) (Nat.lt_irrefl _)
    | false =>
     rw [hx] at e1
     cases hy:y == name with
     | true=>rw [hy] at e2; cases e2; exact absurd (hb x _ e1) (Nat.lt_irrefl _)
     | false=>rw [hy] at e2; exact hi x y c e1 e2
  ·have hk':¬ ((kind == NameKind.cell)=true):=by simpa using hk
   rw [if_neg hk',if_neg hk']
   obtain ⟨i1,i2,i4,i3⟩:=ih h acc
   refine ⟨λx c e=>?_,λx e=>i2 x ?_,λx c e1 e2=>?_,i3⟩
   ·rcases i1 x c e with z | ⟨z1,z2,z3⟩
    ·exact .inl z
    ·exact .inr ⟨z1,z2,List.mem_cons_of_mem _ z3⟩
   ·rcases e with e | e
    ·rcases List.mem_cons.mp e with q | q
     ·exact absurd (congrArg Prod.snd q).symm hk
     ·exact .inl q
    ·exact .inr e
   ·rcases List.mem_cons.mp e1 with q | q
    ·exact absurd (congrArg Prod.snd q).symm hk
    ·exact i4 x c q e2
theorem tR {M:Model} {A:Around} {E:Value->Shared->Prop} {s:Shared} {scope:Scope} {globals:Addr} {cl:List (Str×Addr)} {qual:Str} {outer:Env} {Q:Env->Shared->Prop}
  (h:Q { scope:=scope,locals:=s.heap.objs.size,globals:=globals,cells:=cellsFrom (s.heap.objs.size+1) scope.names cl,qual:=qual,func:=none,code:=outer.code,frame:=outer.frame,builtins:=outer.builtins } { s with heap:=pushCells (s.heap.push { cls:=.type "dict",data:=.dict #[] }) scope.names }) :
  wpAny M A (newFunctionEnv scope globals cl [] qual none .none (some outer)) Q E s:=by
 simp only [newFunctionEnv,Option.isSome_some,if_true]
 refine wpAny_bind (wpAny_alloc ?_)
 refine wpAny_bind (wpAny_layCells _ (λname kind cells=>by cases hkc:kind == NameKind.cell <;> simp [hkc]) _ _ _ _ ?_)
 rw [show ({ s with heap:=s.heap.push { cls:=.type "dict",data:=.dict #[] } }:Shared).heap.objs.size=s.heap.objs.size+1 from Heap.size_push ..]
 rw [List.forIn_nil]
 exact wpAny_bind (wpAny_pure (wpAny_pure h))
theorem Zl8 {Nx ts:List Str} {ix:List Nat} {i:Nat} {x:Str} (h:(bN Nx ts ix)[i]?=some x) (hi:ts.length<=i):∃ j,ix[i - ts.length]?=some j/\x=(Nx[j]?).getD Str.empty:=by
 unfold bN at h
 rw [List.getElem?_append_right hi,List.getElem?_map] at h
 cases e:ix[i - ts.length]? with
 | none=>rw [e] at h; cases h
 | some j=>rw [e] at h; exact ⟨j,rfl,(Option.some.inj h).symm⟩
theorem vU {scope:Scope} {cl:List (Str×Addr)} {fp:List Addr} {C:Addr} {h3:Heap} {tk:Nat} {m:Str->Option Value} {Nx ts:List Str} {ix:List Nat}
  (I:Inv X pins σ H s) (hNx:X.N=Nx) (ok:BlkOk Nx X.env.scope scope ix) (cs1:∀ x c,cl.lookup x=some c->X.env.cells.lookup x=some c\/(C < c/\h3.IsCell c none/\(x,NameKind.cell)∈scope.names)) (csI:∀ x y c,cl.lookup x=some c->cl.lookup y=some c->x=y) (cl2:∀ y∈scope.names,(y.2=.free\/y.2=.cell)->∃ c,cl.lookup y.1=some c) (csA:∀ x c,(x,NameKind.cell)∈scope.names->cl.lookup x=some c->C<=c)
  (hf:∀ b∈fp,eY X pins H b) (hfs:∀ b∈fp,b < s.heap.objs.size) (hC:s.heap.objs.size<=C) (kp:∀ b o,s.heap.get? b=some o->h3.get? b=some o) (hns:h3.Ns C m) :
  Inv (aX X (bN Nx ts ix) scope ⟨cl,C,s,H,fp,X.pn++pins⟩) [] (cI ts.length ix σ) H { s with heap:=h3,toks:=tk }:=by
 have below:∀ {b:Addr},b < s.heap.objs.size->b≠C:=λhb=>Nat.ne_of_lt (Nat.lt_of_lt_of_le hb hC)
 have nstk:∀ b,b≠X.env.locals->b ∉ X.fs->b ∉ frs X.stack:=λb h1 h2 hb=>by
  rcases List.mem_cons.mp (I.stkSub b hb) with z | z
  ·exact h1 z
  ·exact h2 z
 refine ⟨⟨I.ok.mod,?_,I.ok.glob,I.ok.blt,hC,csI,λx hx=>?_,λx c hfn e=>Nat.le_trans hC (csA x c (PySem.mem_of_lookup (eq_of_beq hfn)) e),I.ok.hd,I.ok.frames,.inl rfl,λb hb=>⟨below (hfs b hb),λx c e=>by
  rcases cs1 x c e with z | ⟨z,_,_⟩
  ·exact (hf b hb).2.2.2.2.1 x c z
  ·exact Nat.ne_of_gt (Nat.lt_of_lt_of_le (hfs b hb) (Nat.le_trans hC (Nat.le_of_lt z)))⟩,I.bs,Nat.le_trans I.ok.bsz I.sz,λb o e hb=>?_,λb hb=>nstk b (hf b hb).2.1 (hf b hb).2.2.1,I.stack,I.stkFree⟩,
  rfl,I.bare,Un.kept kp,⟨m,hns,λi x v h1 h2 h3'=>?_⟩,λx c e=>?_,I.hok.fresh hC,λx c e=>by
  rcases cs1 x c e with z | ⟨z,_,_⟩
  ·exact I.freeC x c z
  ·exact I.hok.fresh (Nat.le_trans hC (Nat.le_of_lt z)),λp hp=>?_,I.hok.kept kp,?_⟩
 ·exact ok.kind
 ·have hx':(relabel scope X.env).names.lookup x=some .cell\/(relabel scope X.env).names.lookup x=some .free:=hx
  obtain ⟨y,hy,e1,e2⟩:=Zg9 hx'
  obtain ⟨c,hc⟩:=cl2 y hy e2
  exact ⟨c,by rw [<- e1]; exact hc⟩
 ·rcases (hf b hb).2.2.2.1 with z | z
  ·exact I.ok.noex b o e z
  ·exact absurd (Nat.lt_of_lt_of_le (Heap.lt_size e) (Nat.le_trans I.ok.bsz z)) (Nat.lt_irrefl _)
 ·have hi:ts.length<=i:=by
   rcases Nat.lt_or_ge i ts.length with z | z
   ·exfalso
    have h2':(cI ts.length ix σ)[i]?=some (some v):=h2
    unfold cI at h2'
    rw [List.getElem?_append_left (by simpa using z),List.getElem?_replicate] at h2'
    split at h2' <;> cases h2'
   ·exact z
  obtain ⟨j,hj,ex⟩:=Zl8 h1 hi
  have h2':(cI ts.length ix σ)[i]?=some (some v):=h2
  unfold cI at h2'
  rw [List.getElem?_append_right (by simpa using hi),List.getElem?_map,List.length_replicate,hj] at h2'
  have hσ:σ[j]?=some (some v):=by
   have q:(σ[j]?).getD none=some v:=Option.some.inj h2'
   cases e:σ[j]? with
   | none=>rw [e] at q; cases q
   | some w=>rw [e] at q; exact congrArg some q
  obtain ⟨hjl,hfree⟩:=ok.caps j (List.mem_of_getElem? hj)
  have hNj:X.N[j]?=some x:=by
   rw [hNx,ex,List.getElem?_eq_getElem hjl]
   rfl
  rw [<- ex] at hfree
  obtain ⟨c,hc⟩:=cl2 (x,.free) (PySem.mem_of_lookup hfree) (.inl rfl)
  have cl1:X.env.cells.lookup x=some c:=by
   rcases cs1 x c hc with z | ⟨_,_,z⟩
   ·exact z
   ·have:=ok.cells _ z rfl
    rw [hfree] at this
    cases this
  have kx:=ok.frees (x,.free) (PySem.mem_of_lookup hfree) rfl
  obtain ⟨m0,hn0,hl0⟩:=I.loc
  obtain ⟨u,ru,look⟩:=hl0 j x v hNj hσ (by rcases kx with z | z; exact .inr (.inl z); exact .inr (.inr z))
  refine ⟨u,ru,.inr ⟨Zg8 hfree,c,hc,?_⟩⟩
  rcases look with ⟨k1,_⟩ | ⟨_,c',hc',z⟩
  ·have k1':X.env.scope.names.lookup x=some .local:=k1
   rcases kx with z | z
   ·rw [k1'] at z; cases z
   ·rw [k1'] at z; cases z
  ·have e:=cl1
   rw [hc'] at e
   cases e
   obtain ⟨o,ho,hd⟩:=z
   exact ⟨o,kp _ _ ho,hd⟩
 ·rcases cs1 x c e with z | ⟨_,z,_⟩
  ·obtain ⟨v,o,ho,hd⟩:=I.cell x c z
   exact ⟨v,o,kp _ _ ho,hd⟩
  ·exact ⟨_,z⟩
 ·have hp':p∈X.pn++pins:=by simpa [aX] using hp
  obtain ⟨e,n,ne,nf,d⟩:=I.pin p hp'
  exact ⟨kp _ _ e,n,below (Heap.lt_size e),nstk _ ne nf,d⟩
 ·show (cI ts.length ix σ).length=(bN Nx ts ix).length
  unfold cI bN
  simp
theorem Inv.track {D:Addr} {ys:List V} {its:List Value} {n:Nat} (I:Inv X pins σ H s) (hD:H D=none) (ho:s.heap.get? D=some { cls:=.type "list",data:=.seq its.toArray n }) (r:Vals ys its) (hz:ys.length<=sizeLine)
  (hL:D≠X.env.locals) (hs0:X.s₀.heap.objs.size<=D) (hc:∀ x c,X.env.cells.lookup x=some c->c≠D) (hp:∀ p∈X.pn++pins,p.1≠D):Inv X pins σ (upd H D (.lst ys)) s:=by
 have ne:∀ {b:Addr} {o:HO},H b=some o->b≠D:=λe=>cL e hD
 refine I.step (g':=s.gens) (d':=s.drawn) (t':=s.toks) (h':=s.heap) (ch:=[D]) (λb hb=>?_) (λb o _ _ _ e _=>e) (λb o _ _ _ e _=>⟨o.slots,e⟩) (λb o hb e n=>?_) (λb o _ e=>⟨o,e⟩)
  (λb xs e=>by rw [az (ne e)]; exact e) (λb o u e=>by rw [az (ne e)]; exact e) (λb ps e=>⟨#[],by rw [az (ne e),e]; simp⟩) (λm hm=>hm) (λb u e=>?_) I.bare
 ·have e:b=D:=by simpa using hb
  subst e
  exact ⟨.inr hs0,hL,hc,hp⟩
 ·have hb':b≠D:=by simpa using hb
  rw [az hb']
  exact n
 ·by_cases hb:b=D
  ·subst hb
   rw [bE] at e
   cases e
   exact ⟨hz,its,n,r,ho⟩
  ·rw [az hb] at e
   exact (I.hok b u e).stay (λc v _ q=>q) (λc q=>by rw [az (ne q)]; exact q) λc xs q=>by rw [az (ne q)]; exact q
end
theorem Zlx {prog:Program} {w:World} {A:Around} {R:Result->Shared->Prop} {s:Shared} {elt target iter:Expr} {scope:Scope} {pos:Pos} {it acc:Value} {env:Env} (J:Nat->Shared->Prop)
  (step:∀ k s0,J k s0->wpAny (model prog w) A (pyNext it) (λgot s1=>match got with
   | none=>R (.ok .next) s1
   | some v=>wpAny (model prog w) A (letOwnedTupleGo target it v) (λ_ s2=>wpAny (model prog w) A (assign target env v) (λ_ s3=>wpAny (model prog w) A (eval elt env) (λy s4 =>
     wpAny (model prog w) A (call (.builtin "list.append") [acc,y]) (λ_ s5=>∃ j,j < k/\J j s5) (λ_ _=>False) s4) (λ_ _=>False) s3) (λ_ _=>False) s2) (λ_ _=>False) s1) (λ_ _=>False) s0)
  (k:Nat) (h:J k s):codeAny (model prog w) A (.compLoop (.ListComp elt [⟨target,iter,[],0⟩] scope pos) 0 it acc env) R s:=by
 refine codeAny_loop rfl J (λk0 s0 hJ=>?_) k h
 show wpAny _ _ ((compTurn (.ListComp elt [⟨target,iter,[],0⟩] scope pos) 0 it acc env).onRaise (λx=>do noteFrame x env; theTreesLotGoes x)) _ _ s0
 apply wpAny_noted
 rw [compTurn_list1]
 refine wpAny_bind (wpAny_standAt (wpAny_bind (wpAny_mono (step k0 s0 hJ) (λgot s1 h1=>?_) λ_ _ z=>z.elim)))
 cases got with
 | none=>exact wpAny_pure h1
 | some v =>
  refine wpAny_bind (wpAny_mono h1 (λ_ s2 h2=>?_) λ_ _ z=>z.elim)
  refine wpAny_bind (wpAny_mono h2 (λ_ s3 h3=>?_) λ_ _ z=>z.elim)
  refine wpAny_bind (wpAny_bind (wpAny_mono h3 (λy s4 h4=>?_) λ_ _ z=>z.elim))
  exact wpAny_bind (wpAny_mono h4 (λ_ s5 h5=>wpAny_pure (wpAny_pure ⟨rfl,h5⟩)) λ_ _ z=>z.elim)
noncomputable def oC (wi:TI) (n:Nat) (ix:List Nat) (g:Blk->TG) (te:Blk->TE):TE:=λσ H Q=>wi σ H λJ H1=>∀ b:Blk,∃ W:Nat->Nat->St->List V->Hp->Prop,(∃ m,W 0 m (cI n ix σ) [] H1)/\∀ i m τ ys H2,W i m τ ys H2 ->
 (J.stop i H2/\∀ p v H',H2 p=none->v=V.ref p->H'=upd H2 p (.lst ys)->Q v H') \/
 (J.go i H2/\ys.length < sizeLine/\∀ x H3,J.yld i H2 x H3->g b x τ H3 λτ2 H4=>te b τ2 H4 λy H5=>∃ m',m' < m/\W (i+1) m' τ2 (ys++[y]) H5)
section
variable {X:Cx} {pins:List (Addr×Obj)} {σ:St} {H:Hp} {s:Shared}
theorem Zdb {elt target iter:Expr} {scope:Scope} {pos:Pos} {Nx ts:List Str} {ix:List Nat} {g:Blk->TG} {te:Blk->TE} {cl:List (Str×Addr)} {s2:Shared} {itv:Value} {R:Value->Addr->Result->Shared->Prop}
  {E:Value->Shared->Prop} {Q:VK}
  (hc:X.calm=true) (hg:∀ b,PG (aX X (bN Nx ts ix) scope b) target (g b)) (he:∀ b,PE (aX X (bN Nx ts ix) scope b) elt (te b))
  (hNx:X.N=Nx) (ok:BlkOk Nx X.env.scope scope ix) (cl1:∀ x c,cl.lookup x=some c->X.env.cells.lookup x=some c) (cl2:∀ y∈scope.names,y.2=.free->∃ c,cl.lookup y.1=some c)
  (h2:qo X pins σ target (λJ H1=>∀ b:Blk,∃ W:Nat->Nat->St->List V->Hp->Prop,(∃ m,W 0 m (cI ts.length ix σ) [] H1)/\∀ i m τ ys H2,W i m τ ys H2 ->
   (J.stop i H2/\∀ p v H',H2 p=none->v=V.ref p->H'=upd H2 p (.lst ys)->Q v H') \/
   (J.go i H2/\ys.length < sizeLine/\∀ x H3,J.yld i H2 x H3->g b x τ H3 λτ2 H4=>te b τ2 H4 λy H5=>∃ m',m' < m/\W (i+1) m' τ2 (ys++[y]) H5)) itv s2)
  (hR:∀ (D C:Addr) (H':Hp) (s':Shared) (v:V),Inv X pins σ H' s'->v=.ref D->Q v H'->(∃ m,s'.heap.Ns C m)->H' C=none->C≠X.env.locals->X.s₀.heap.objs.size<=C->(∀ x c,X.env.cells.lookup x=some c->c≠C)->(∀ p∈X.pn++pins,p.1≠C) ->
   R (.ref D) C (.ok .next) s') :
  wpAny (model X.prog X.w) X.A (newList []) (λacc s₃=>wpAny (model X.prog X.w) X.A (newFunctionEnv scope X.env.globals cl [] X.env.qual none .none (some X.env)) (λcenv s₄ =>
   codeAny (model X.prog X.w) X.A (.compStart (.ListComp elt [⟨target,iter,[],0⟩] scope pos) 0 itv acc { cenv with scope:=relabel scope X.env }) (R acc cenv.locals) s₄) E s₃) E s2:=by
 obtain ⟨it,fp,tn,J,H1,e,I2,T,st2,f2,q2⟩:=h2
 subst e
 refine wpAny_newObj_type (tR ?_)
 dsimp only
 generalize hG:s2.heap.push { cls:=.type "list",dict:=none,data:=.seq ([]:List Value).toArray }=G
 have hGs:G.objs.size=s2.heap.objs.size+1:=by rw [<- hG,Heap.size_push]
 have hfs:∀ b∈fp,b < s2.heap.objs.size:=λb hb=>let ⟨o,e,_⟩:=T.obj _ _ st2 b hb; Heap.lt_size e
 have kpG:∀ b o,G.get? b=some o->(pushCells (G.push { cls:=.type "dict",data:=.dict #[] }) scope.names).get? b=some o:=λb o e=>pushCells_keeps _ _ _ _ (Heap.get?_push_of_some _ e)
 have hns3:(pushCells (G.push { cls:=.type "dict",data:=.dict #[] }) scope.names).Ns G.objs.size (λ_=>none):=(Heap.Ns.new G (.type "dict")).keeps (pushCells_keeps _ _)
 obtain ⟨sp1,sp2,sp4,sp3⟩:=wq scope.names (G.push { cls:=.type "dict",data:=.dict #[] }) cl
 rw [Heap.size_push] at sp1 sp2 sp3 sp4
 generalize hh3:pushCells (G.push { cls:=.type "dict",data:=.dict #[] }) scope.names=h3 at kpG hns3 sp1 ⊢
 have kp:∀ b o,s2.heap.get? b=some o->h3.get? b=some o:=λb o e=>kpG b o (by rw [<- hG]; exact Heap.get?_push_of_some _ e)
 have hD3:h3.get? s2.heap.objs.size=some { cls:=.type "list",data:=.seq ([]:List Value).toArray }:=kpG _ _ (by rw [<- hG]; exact Heap.get?_push_size _ rfl)
 have clB:∀ x c,cl.lookup x=some c->c < G.objs.size+1:=λx c e=>by
  obtain ⟨v,q⟩:=I2.cell x c (cl1 x c e)
  exact Nat.lt_succ_of_lt (Nat.lt_of_lt_of_le q.lt (by rw [hGs]; exact Nat.le_succ _))
 have csI:=sp3 clB λx y c e1 e2=>I2.ok.inj x y c (cl1 x c e1) (cl1 y c e2)
 have cs1:∀ x c,(cellsFrom (G.objs.size+1) scope.names cl).lookup x=some c->X.env.cells.lookup x=some c\/(G.objs.size < c/\h3.IsCell c none/\(x,NameKind.cell)∈scope.names):=λx c e=>by
  rcases sp1 x c e with z | ⟨z1,z2,z3⟩
  ·exact .inl (cl1 x c z)
  ·exact .inr ⟨by omega,z2,z3⟩
 have cs2:∀ y∈scope.names,(y.2=.free\/y.2=.cell)->∃ c,(cellsFrom (G.objs.size+1) scope.names cl).lookup y.1=some c:=λy hy hk=>by
  refine sp2 y.1 ?_
  rcases hk with z | z
  ·exact .inr (cl2 y hy z)
  ·exact .inl (by rw [<- z]; exact hy)
 have csA:∀ x c,(x,NameKind.cell)∈scope.names->(cellsFrom (G.objs.size+1) scope.names cl).lookup x=some c->G.objs.size<=c:=λx c e1 e2=>Nat.le_of_succ_le (sp4 x c e1 e2)
 generalize hcs:cellsFrom (G.objs.size+1) scope.names cl=cs at csI cs1 cs2 csA ⊢
 generalize hCe:G.objs.size=C at hns3 cs1 csA ⊢
 have hC:s2.heap.objs.size<=C:=by omega
 have hDC:s2.heap.objs.size≠C:=by omega
 let B:Blk:=⟨cs,C,s2,H1,fp,X.pn++pins⟩
 have I3:Inv (aX X (bN Nx ts ix) scope B) [] (cI ts.length ix σ) H1 { s2 with heap:=h3 }:=vU I2 hNx ok cs1 csI cs2 csA f2 hfs hC kp hns3
 have fC:H1 s2.heap.objs.size=none:=I2.hok.fresh (Nat.le_refl _)
 have cellIn:∀ x c,cs.lookup x=some c->c≠s2.heap.objs.size:=λx c e=>by
  rcases cs1 x c e with z | ⟨z,_,_⟩
  ·obtain ⟨v,q⟩:=I2.cell x c z
   exact Nat.ne_of_lt q.lt
  ·exact Nat.ne_of_gt (Nat.lt_of_le_of_lt hC z)
 have pinIn:∀ p∈X.pn++pins,p.1 < s2.heap.objs.size:=λp hp=>Heap.lt_size (I2.pin p hp).1
 have nofrs:s2.heap.objs.size ∉ frs X.stack:=λhb=>by
  rcases List.mem_cons.mp (I2.stkSub _ hb) with z | z
  ·exact absurd I2.lt (by rw [<- z]; exact Nat.lt_irrefl _)
  ·exact I2.nofs (Nat.le_refl _) z
 -- a state with the list at its place,pinned
 have pinD:∀ {τ:St} {H':Hp} {s':Shared} {ob:Obj},Inv (aX X (bN Nx ts ix) scope B) [] τ H' s'->s'.heap.get? s2.heap.objs.size=some ob->H' s2.heap.objs.size=none->(∀ v,ob.data≠.cell v)->Inv (aX X (bN Nx ts ix) scope B) [(s2.heap.objs.size,ob)] τ H' s' :=
  λ{τ H' s' ob} I' ho hn hd=>I'.pins_of λp hp=>by
   have e:p=(s2.heap.objs.size,ob):=by simpa using hp
   subst e
   exact ⟨ho,hn,hDC,nofrs,hd⟩
 obtain ⟨W,⟨m0,w0⟩,turn⟩:=q2 B
 have stat:∀ {H':Hp} {ob:Obj},(∀ b∈fp,H' b=none)->∀ b∈fp,eY (aX X (bN Nx ts ix) scope B) [(s2.heap.objs.size,ob)] H' b:=λ{H' ob} hn b hb=>by
  refine ⟨hn b hb,Nat.ne_of_lt (Nat.lt_of_lt_of_le (hfs b hb) hC),λz=>?_,.inl hb,λx c e=>by
   rcases cs1 x c e with z | ⟨z,_,_⟩
   ·exact (f2 b hb).2.2.2.2.1 x c z
   ·exact Nat.ne_of_gt (Nat.lt_of_lt_of_le (hfs b hb) (Nat.le_trans hC (Nat.le_of_lt z))),λp hp=>?_⟩
  ·rcases List.mem_cons.mp (I2.stkSub _ z) with q | q
   ·exact (f2 b hb).2.1 q
   ·exact (f2 b hb).2.2.1 q
  ·rcases List.mem_append.mp hp with z | z
   ·exact (f2 b hb).2.2.2.2.2 p z
   ·have e:p=(s2.heap.objs.size,ob):=by simpa using z
    subst e
    exact Nat.ne_of_gt (hfs b hb)
 have loop:∀ s4:Shared,s4={ s2 with heap:=h3 } ->
   codeAny (model X.prog X.w) X.A (.compLoop (.ListComp elt [⟨target,iter,[],0⟩] scope pos) 0 (.ref it) (.ref s2.heap.objs.size) (compEnvC scope cs C X.env)) (R (.ref s2.heap.objs.size) C) s4:=by
  rintro s4 rfl
  refine Zlx (λk s'=>∃ i τ ys its n H',Inv (aX X (bN Nx ts ix) scope B) [(s2.heap.objs.size,({ cls:=.type "list",data:=.seq (List.toArray its) n }:Obj))] τ H' s'/\tn i s'.heap/\(∀ b∈fp,H' b=none)/\Vals ys its/\ys.length<=sizeLine/\W i k τ ys H') ?_ m0
   ⟨0,_,[],[],_,H1,pinD I3 hD3 fC (λv z=>by cases z),T.keep _ _ _ st2 λb hb o e=>kp b o e,λb hb=>(f2 b hb).1,.nil,Nat.zero_le _,w0⟩
  rintro k s5 ⟨i,τ,ys,its,n,H5,I5,st5,fr5,rv,hz,w5⟩
  rcases turn i k τ ys H5 w5 with ⟨stop,qn⟩ | ⟨go,hlt,step⟩
  ·refine thn (T.done (aX X (bN Nx ts ix) scope B) rfl rfl rfl hc i _ s5 τ H5 _ I5 (stat fr5) st5 stop) λgot s6 hz0=>?_
   obtain ⟨hr,I6⟩:=hz0
   subst hr
   obtain ⟨ho,hn,_,_,_⟩:=I6.pin (s2.heap.objs.size,({ cls:=.type "list",data:=.seq (List.toArray its) n }:Obj)) (List.mem_append_right _ (by simp))
   have I7:Inv X pins σ H5 s6:=I2.call' (ch:=fp) (H':=H5) (by exact I6.os) I6.base I6.hok I6.bare λb hb=>⟨(f2 b hb).2.2.2.1,(f2 b hb).2.1,(f2 b hb).2.2.2.2.1,(f2 b hb).2.2.2.2.2⟩
   have hs0:X.s₀.heap.objs.size<=s2.heap.objs.size:=I2.sz
   have I8:=I7.track hn ho rv hz (Nat.ne_of_gt I2.lt) hs0 (λx c e z=>by
    obtain ⟨v,q⟩:=I2.cell x c e
    exact absurd q.lt (by rw [z]; exact Nat.lt_irrefl _)) (λp hp=>Nat.ne_of_lt (pinIn p hp))
   obtain ⟨m6,hm6,_⟩:=I6.loc
   refine hR _ C _ s6 _ I8 rfl (qn _ _ _ hn rfl rfl) ⟨m6,hm6⟩ ?_ (λz=>?_) (Nat.le_trans hs0 hC) (λx c e z=>?_) λp hp=>Nat.ne_of_lt (Nat.lt_of_lt_of_le (pinIn p hp) hC)
   ·rw [az (Ne.symm hDC)]
    exact I6.free
   ·exact absurd (Nat.lt_of_lt_of_le I2.lt hC) (by rw [z]; exact Nat.lt_irrefl _)
   ·obtain ⟨v,q⟩:=I2.cell x c e
    exact absurd (Nat.lt_of_lt_of_le q.lt hC) (by rw [z]; exact Nat.lt_irrefl _)
  ·refine thn (T.item (aX X (bN Nx ts ix) scope B) rfl rfl rfl hc i _ s5 τ H5 _ I5 (stat fr5) st5 go) λgot s6 hz0=>?_
   obtain ⟨u,hr,h6⟩:=hz0
   subst hr
   refine thn h6 λ_ s7 hz0=>?_
   obtain ⟨x,H7,I7,r7,y7,st7,fr7⟩:=hz0
   have I7':=I7.pinned (stat fr7) (T.obj _ _ st7)
   refine thn (hg B _ s7 τ H7 x u _ I7' r7 (step x H7 y7)) λ_ s8 hz0=>?_
   obtain ⟨τ8,H8,I8,q8⟩:=hz0
   refine thn (he B _ s8 τ8 H8 _ I8 q8) λy s9 hz0=>?_
   obtain ⟨vy,H9,I9,r9,m',hm',w9⟩:=hz0
   obtain ⟨ho,hn,_,_,_⟩:=I9.pin (s2.heap.objs.size,({ cls:=.type "list",data:=.seq (List.toArray its) n }:Obj)) (List.mem_append_right _ (List.mem_append_left _ (by simp)))
   have lenv:=rv.length
   refine wpAny_list_append_plain (l:=s2.heap.objs.size) ⟨n,ho⟩ (λh' hpl hsb=>?_) (by rw [List.size_toArray]; omega)
   obtain ⟨n',ho'⟩:=hpl
   have eobj:(its.toArray.push y)=List.toArray (its++[y]):=by simp
   rw [eobj] at ho'
   have I9':Inv (aX X (bN Nx ts ix) scope B) [] τ8 H9 s9:=I9.pins_of λp hp=>absurd hp (by simp)
   have I10:Inv (aX X (bN Nx ts ix) scope B) [] τ8 H9 { s9 with heap:=h' }:=I9'.turned (it:=s2.heap.objs.size) (t':=s9.toks) (λb o hb e=>(hsb.2 b hb).trans e) hn hDC (.inr (Nat.le_refl _)) cellIn (λp hp=>by
    have hp':p∈(X.pn++pins)++[]:=hp
    rw [List.append_nil] at hp'
    exact Nat.ne_of_lt (pinIn p hp'))
   refine ⟨m',hm',i+1,τ8,ys++[vy],its++[y],n',H9,pinD I10 ho' hn (λv z=>by cases z),?_,λb hb=>?_,rv.append (.cons r9 .nil),by rw [List.length_append]; show ys.length+1<=_; omega,w9⟩
   ·refine T.keep _ _ _ st7 λb hb o e=>?_
    have q:=(I9.pin (b,o) (List.mem_append_right _ (List.mem_append_right _ (fI hb e)))).1
    exact (hsb.2 b (Nat.ne_of_lt (hfs b hb))).trans q
   ·obtain ⟨o,e,d⟩:=T.obj _ _ st7 b hb
    exact (I9.pin (b,o) (List.mem_append_right _ (List.mem_append_right _ (fI hb e)))).2.1
 exact codeAny_compStart_list (loop _ rfl) (T.self X.A 0 _ _ _ (T.keep _ _ _ st2 λb hb o e=>kp b o e) (loop _ rfl))
theorem iM {elt target iter:Expr} {scope:Scope} {pos:Pos} {wi:TI} {g:Blk->TG} {te:Blk->TE} (Nx:List Str) (ts:List Str) (ix:List Nat)
  (hc:X.calm=true) (hi:PI X target iter wi) (hg:∀ b,PG (aX X (bN Nx ts ix) scope b) target (g b)) (he:∀ b,PE (aX X (bN Nx ts ix) scope b) elt (te b))
  (hNx:X.N=Nx) (ok:BlkOk Nx X.env.scope scope ix) (hs:∀ x,foldedSetIterable iter X.env x=pure x:=by intro _; rfl) :
  PE X (.ListComp elt [⟨target,iter,[],0⟩] scope pos) (oC wi ts.length ix g te):=by
 intro pins s σ H Q I h
 obtain ⟨cl,hcl,cl1,cl2⟩:=pU (scope:=scope) (env:=X.env) λy hy hf=>I.ok.has y.1 (ok.frees y hy hf)
 rw [eval_ListComp]
 refine wpAny_comprehension_free (use:=none) rfl hs hcl ok.kind ok.locs (thn (hi pins s σ H _ I h) λv s1 h1=>thn h1 λitv s2 h2=>?_)
 refine Zdb (R:=λacc C=>compPost (model X.prog X.w) X.A X.xe none (EP X pins σ Q) acc C) hc hg he hNx ok cl1 cl2 h2 ?_
 rintro D C H' s' v I' rfl q ⟨m,hm⟩ hn hL h0 hcl' hp
 exact ⟨m,hm,λh' hsb=>⟨.ref D,H',I'.turned (it:=C) (t':=s'.toks) (λb o hb e=>(hsb.2 b hb).trans e) hn hL (.inr h0) hcl' hp,rfl,q⟩⟩
theorem Zhp {elt target iter:Expr} {scope:Scope} {pos pos' spos:Pos} {wi:TI} {g:Blk->TG} {te:Blk->TE} {i:Nat} {x:Str} (Nx:List Str) (ts:List Str) (ix:List Nat)
  (hc:X.calm=true) (hN:X.N.Nodup) (hix:X.N[i]?=some x) (hx:X.env.scope.names.lookup x=some .local) (hi:PI X target iter wi) (hg:∀ b,PG (aX X (bN Nx ts ix) scope b) target (g b)) (he:∀ b,PE (aX X (bN Nx ts ix) scope b) elt (te b))
  (hNx:X.N=Nx) (ok:BlkOk Nx X.env.scope scope ix) (hsw:swapsWith (.ListComp elt [⟨target,iter,[],0⟩] scope pos) (some (.Name x pos')) spos.line X.env=pure true) (hs:∀ x,foldedSetIterable iter X.env x=pure x:=by intro _; rfl) :
  PS X (.Assign [.Name x pos'] (.ListComp elt [⟨target,iter,[],0⟩] scope pos) spos) (eK (oC wi ts.length ix g te) (fi i)):=by
 intro pins s σ H D0 I h
 obtain ⟨cl,hcl,cl1,cl2⟩:=pU (scope:=scope) (env:=X.env) λy hy hf=>I.ok.has y.1 (ok.frees y hy hf)
 rw [exec_Assign_Name_used _ _ _ _ hsw]
 refine wpAny_bind (wpAny_standAt (wpAny_bind ?_))
 show wpAny _ X.A (do let _ <- comprehension (.ListComp elt [⟨target,iter,[],0⟩] scope pos) scope X.env _ (newList []) false (eval iter X.env) (some (assign (.Name x pos') X.env))) _ _ s
 refine wpAny_bind (thn (wpAny_comprehension_free (use:=some (assign (.Name x pos') X.env)) (Q:=λ_ s'=>SP X pins D0 .next s') rfl hs hcl ok.kind ok.locs (thn (hi pins s σ H _ I h) λv s1 h1=>thn h1 λitv s2 h2=>?_)) λ_ s' hq=>wpAny_pure (wpAny_pure hq))
 refine Zdb (R:=λacc C=>compPost (model X.prog X.w) X.A X.xe (some (assign (.Name x pos') X.env)) (λ_ s'=>SP X pins D0 .next s') acc C) (Q:=λx H1=>fi i x σ H1 D0.nx) hc hg he hNx ok cl1 cl2 h2 ?_
 rintro D C H' s' v I' rfl q ⟨m,hm⟩ hn hL h0 hcl' hp
 show wpAny _ X.A (assign (.Name x pos') X.env (.ref D)) _ _ _
 refine wpAny_assign_Name (ui I' hN hix (.inl hx) (show RelV (.ref D) (.ref D) from rfl) (λs'' I'' hch=>?_) (.inr hx))
 obtain ⟨a,hsb,ha⟩:=hch
 have haC:C≠a:=by
  rcases ha with z | z
  ·rw [z]; exact hL
  ·exact λe=>hcl' _ _ z e.symm
 exact ⟨m,hm.sameBut hsb haC,λh'' hs''=>⟨_,H',I''.turned (it:=C) (t':=s''.toks) (λb o hb e=>(hs''.2 b hb).trans e) hn hL (.inr h0) hcl' hp,q⟩⟩
end
mutual
/-- the value bears the datum -/
inductive Dn (H:Hp):V->PyData->Prop
 | non:Dn H .non .none
 | bl (b:Bool):Dn H (.bl b) (.bool b)
 | int (i:Int):Dn H (.int i) (.int i)
 | str (x:Str):Dn H (.str x) (.str x)
 | tup {a:Addr} {xs:List V} {ds:List PyData}:H a=some (.tup xs)->DnAll H xs ds->Dn H (.ref a) (.tuple ds)
 | lst {a:Addr} {xs:List V} {ds:List PyData}:H a=some (.lst xs)->DnAll H xs ds->Dn H (.ref a) (.list ds)
 | dct {a:Addr} {ks:List (am×V)} {ds:List PyData}:Rd H a (.dK ks)->DnAll H (ks.map (·.2)) ds->Dn H (.ref a) (.dict ((ks.map λk=>match k.1 with | .inl i=>PyData.int i | .inr x=>PyData.str x).zip ds))
inductive DnAll (H:Hp):List V->List PyData->Prop
 | nil:DnAll H [] []
 | cons {v:V} {vs:List V} {d:PyData} {ds:List PyData}:Dn H v d->DnAll H vs ds->DnAll H (v::vs) (d::ds)
end
mutual
theorem Dn.mono {H H':Hp} (e:∀ b o,H b=some o->H' b=some o):∀ {v:V} {d:PyData},Dn H v d->Dn H' v d
 | _,_,.non=>.non
 | _,_,.bl b=>.bl b
 | _,_,.int i=>.int i
 | _,_,.str x=>.str x
 | _,_,.tup h r=>.tup (e _ _ h) (DnAll.mono e r)
 | _,_,.lst h r=>.lst (e _ _ h) (DnAll.mono e r)
 | _,_,.dct h r=>.dct (h.imp (e _ _) λ⟨o,h⟩=>⟨o,e _ _ h⟩) (DnAll.mono e r)
theorem DnAll.mono {H H':Hp} (e:∀ b o,H b=some o->H' b=some o):∀ {vs:List V} {ds:List PyData},DnAll H vs ds->DnAll H' vs ds
 | _,_,.nil=>.nil
 | _,_,.cons r t=>.cons (Dn.mono e r) (DnAll.mono e t)
end
theorem DnAll.ints {H:Hp}:∀ ns:List Int,DnAll H (ns.map V.int) (ns.map PyData.int)
 | []=>.nil
 | n::ns=>.cons (.int n) (DnAll.ints ns)
theorem DnAll.length {H:Hp} {vs:List V} {ds:List PyData} (h:DnAll H vs ds):vs.length=ds.length:=by
 induction vs generalizing ds with
 | nil=>cases h; rfl
 | cons v vs ih=>cases h with | cons r t=>exact congrArg (·+1) (ih t)
theorem DnAll.append {H:Hp} {vs ws:List V} {ds es:List PyData} (h:DnAll H vs ds) (s:DnAll H ws es):DnAll H (vs++ws) (ds++es):=by
 induction vs generalizing ds with
 | nil=>cases h; exact s
 | cons v vs ih=>cases h with | cons r t=>exact .cons r (ih t)
mutual
/-- data without dicts -/
theorem Dn.reads {P:Program} {w:World} {H:Hp} {h:Heap} (ok:HOk P w H h):∀ {v:V} {d:PyData} {u:Value},Dn H v d->d.hasDict=false->RelV v u->∃ as,Reads h u d as
 | _,_,_,.non,_,r=>by cases r; exact ⟨_,.none⟩
 | _,_,_,.bl b,_,r=>by cases r; exact ⟨_,.bool b⟩
 | _,_,_,.int i,_,r=>by obtain ⟨t,rfl⟩:=r; exact ⟨_,.int i t⟩
 | _,_,_,.str x,_,r=>by obtain ⟨t,rfl⟩:=r; exact ⟨_,.str x t⟩
 | _,_,_,.tup e rs,hd,r=>by
  cases r
  obtain ⟨z,its,rv,o,h1,h2,n,h3⟩:=ok _ _ e
  obtain ⟨as,q⟩:=DnAll.reads ok rs (by simpa [PyData.hasDict] using hd) rv
  exact ⟨_,.tuple h1 h2 h3 (by simpa using q)⟩
 | _,_,_,.lst e rs,hd,r=>by
  cases r
  obtain ⟨z,its,n,rv,h1⟩:=ok _ _ e
  obtain ⟨as,q⟩:=DnAll.reads ok rs (by simpa [PyData.hasDict] using hd) rv
  exact ⟨_,.list h1 rfl rfl (by simpa using q)⟩
 | _,_,_,.dct e rs,hd,r=>by simp [PyData.hasDict] at hd
theorem DnAll.reads {P:Program} {w:World} {H:Hp} {h:Heap} (ok:HOk P w H h):∀ {vs:List V} {ds:List PyData} {us:List Value},DnAll H vs ds->PyData.hasDictAll ds=false->Vals vs us->∃ as,ReadsAll h us ds as
 | _,_,_,.nil,_,r=>by cases r; exact ⟨_,.nil⟩
 | _,_,_,.cons p t,hd,r=>by
  cases r with
  | cons r1 r2 =>
   simp only [PyData.hasDictAll,Bool.or_eq_false_iff] at hd
   obtain ⟨as,q⟩:=Dn.reads ok p hd.1 r1
   obtain ⟨bs,q2⟩:=DnAll.reads ok t hd.2 r2
   exact ⟨_,.cons q q2⟩
end
section
variable {X:Cx}
theorem ZeI {k:Nat} (hr:Room k X.A):db X (.builtin "repr") (λxs H Q=>∃ v d,xs=[v]/\Dn H v d/\d.hasDict=false/\d.showable=true/\d.depth<=32/\d.shown.length<=sizeLine/\Q (.str d.shown) H):=by
 intro pins s σ H xs us Q I r h
 obtain ⟨v,d,rfl,hd,hn,hs,hdp,hz,q⟩:=h
 obtain ⟨u,rfl,ru⟩:=eh r
 have hun:=hr.units
 have viaRef:∀ {a:Addr} {as:List Addr},Reads s.heap (.ref a) d as->wpAny (model X.prog X.w) X.A (call (.builtin "repr") [.ref a]) (EP X pins σ Q) X.xe s:=λ{a as} rd =>
  repr_of_reads' rd hs (PyData.noDict_hsm hn) hr.gd (by omega) (λ_ _ e=>e) (λh' u' tk hk=>⟨.str d.shown,H,I.kept hk,⟨_,rfl⟩,q⟩) hz
 obtain ⟨as,rd⟩:=Dn.reads I.hok hd hn ru
 cases rd with
 | none=>exact PySem.P.repr_of_none ⟨.str "None",H,I.tok _,⟨_,rfl⟩,q⟩
 | bool b=>exact PySem.P.repr_of_bool ⟨.str (if b then "True" else "False"),H,I.tok _,⟨_,rfl⟩,q⟩
 | int i t=>exact PySem.P.repr_of_int (by simpa [PyData.showable] using hs) ⟨.str (toString i),H,I.tok _,⟨_,rfl⟩,q⟩
 | str x t=>exact PySem.P.repr_of_str ⟨.str (reprText x),H,I.tok _,⟨_,rfl⟩,q⟩ hz
 | list h1 h2 h3 h4=>exact viaRef (.list h1 h2 h3 h4)
 | tuple h1 h2 h3 h4=>exact viaRef (.tuple h1 h2 h3 h4)
 | dict h1 h2 h3 h4 h5=>simp [PyData.hasDict] at hn
theorem Zib {k:Nat} (hr:Room k X.A):OpR X (compareOp .Eq) (λx y H Q=>∃ d e,Dn H x d/\Dn H y e/\SeqAt.shaped d=true/\SeqAt.shaped e=true/\Q (.bl (PyData.eqv d e)) H):=by
 intro pins s σ H x y v u Q I rx ry h
 obtain ⟨d,e,hd,he,sd,se,q⟩:=h
 obtain ⟨as,r1⟩:=Dn.reads I.hok hd (PyData.hasDict_of_canLay _ (SeqAt.canLay_of_shaped sd)) rx
 obtain ⟨bs,r2⟩:=Dn.reads I.hok he (PyData.hasDict_of_canLay _ (SeqAt.canLay_of_shaped se)) ry
 exact SeqAt.compareEq_shaped r1 r2 sd se hr.units ⟨.bl _,H,I,rfl,q⟩
theorem Zh5 {k:Nat} (hr:Room k X.A):OpR X (compareOp .NotEq) (λx y H Q=>∃ d e,Dn H x d/\Dn H y e/\SeqAt.shaped d=true/\SeqAt.shaped e=true/\Q (.bl (!PyData.eqv d e)) H):=by
 intro pins s σ H x y v u Q I rx ry h
 obtain ⟨d,e,hd,he,sd,se,q⟩:=h
 obtain ⟨as,r1⟩:=Dn.reads I.hok hd (PyData.hasDict_of_canLay _ (SeqAt.canLay_of_shaped sd)) rx
 obtain ⟨bs,r2⟩:=Dn.reads I.hok he (PyData.hasDict_of_canLay _ (SeqAt.canLay_of_shaped se)) ry
 exact SeqAt.compareNe_shaped r1 r2 sd se hr.units ⟨.bl _,H,I,rfl,q⟩
theorem ZeJ:db X (.type "range") (λxs H Q=>∃ i j:Int,xs=[.int i,.int j]/\∀ p,H p=none->Q (.ref p) (upd H p (.rng i j))):=by
 intro pins s σ H xs us Q I r h
 obtain ⟨i,j,rfl,q⟩:=h
 cases r with
 | cons r1 rr =>
  cases rr with
  | cons r2 rr =>
   cases rr
   obtain ⟨t,rfl⟩:=r1
   obtain ⟨u,rfl⟩:=r2
   refine call_range_2 ?_
   exact ⟨.ref s.heap.objs.size,_,I.laid (t':=s.toks+1) (λb o e=>Heap.get?_push_of_some _ e) (Nat.le_refl _) (show ObjOk X.prog X.w _ _ _ (.rng i j) from ⟨t,u,s.toks,Heap.get?_push_size _ rfl⟩),rfl,q _ (I.hok.fresh (Nat.le_refl _))⟩
noncomputable def gQ (lo:Int) (n:Nat):List V:=(List.range n).map λ(k:Nat)=>V.int (lo+(k:Int))
theorem ZfR (lo:Int):∀ (n:Nat) (l:List Value),l.length=n->(∀ (j:Nat) (v:Value),l[j]?=some v->∃ t,v=Value.int (lo+(j:Int)) t)->Vals (gQ lo n) l:=by
 intro n
 unfold gQ
 induction n with
 | zero =>
  intro l hl _
  have e:l=[]:=List.length_eq_zero_iff.mp hl
  subst e
  exact .nil
 | succ n ih =>
  intro l hl hl2
  obtain ⟨l',x,rfl⟩:∃ l' x,l=l'++[x]:=⟨l.dropLast,l.getLast (by intro e; rw [e] at hl; cases hl),(List.dropLast_concat_getLast _).symm⟩
  have hl':l'.length=n:=by rw [List.length_append] at hl; simpa using hl
  rw [List.range_succ,List.map_append]
  refine Vals.append (ih l' hl' λj v hv=>hl2 j v (by rw [List.getElem?_append_left (List.getElem?_eq_some_iff.mp hv).1]; exact hv)) (.cons ?_ .nil)
  obtain ⟨t,e⟩:=hl2 n x (by rw [List.getElem?_append_right (by omega),hl',Nat.sub_self]; rfl)
  exact ⟨t,e⟩
theorem ZlJ (hh:X.A.handled=none):db X (.type "list") (λxs H Q=>∃ a lo hi,xs=[.ref a]/\H a=some (.rng lo hi)/\-(2 ^ 62)<=lo/\lo < 2 ^ 62/\-(2 ^ 62)<=hi/\hi < 2 ^ 62/\(hi - lo).toNat<=1000/\∀ p,H p=none->Q (.ref p) (upd H p (.lst (gQ lo (hi - lo).toNat)))):=by
 intro pins s σ H xs us Q I r h
 obtain ⟨a,lo,hi,rfl,ha,b1,b2,b3,b4,hn,q⟩:=h
 obtain ⟨u,rfl,ru⟩:=eh r
 cases ru
 obtain ⟨t,u,v,e⟩:=I.hok a _ ha
 have hsz:Builtin.Range.rangeSize lo hi 1=(((hi - lo).toNat:Nat):Int):=by rw [rangeSize_one]; split <;> omega
 refine call_list_range hh (r:=a) (t:=t) (u:=u) (v:=v) e (small_one b1 b2 b3 b4) hsz (by omega) λh' tk acc c' hk ho hacc=>?_
 refine ⟨.ref s.heap.objs.size,_,I.laid hk (Nat.le_refl _) ?_,rfl,q _ (I.hok.fresh (Nat.le_refl _))⟩
 refine ⟨by unfold gQ; rw [List.length_map,List.length_range]; exact Nat.le_trans hn (by decide),acc.toList,c',?_,by simpa using ho⟩
 obtain ⟨hl,hit⟩:=hacc
 exact ZfR lo _ _ (by simpa using hl) λj v hv=>by
  obtain ⟨t,e⟩:=hit j v (by simpa using hv)
  exact ⟨t,by rw [e,Int.mul_one]⟩
end
end L2
set_option Elab.async false
set_option linter.all false
set_option maxRecDepth 100000
namespace L2
open PySem PySem.Spec PyProof.Rows
structure Def (K:PySem.W.Frag) (mg:Str->Option Value) (x:Str) (st:Stmt) (ps:List Str):Prop where
 ex:∃ f fd,Fun K x x st f fd/\mg x=some (.ref f)/\Binds K fd ps []
structure Callee (P:Program) (w:World) (K:PySem.W.Frag) (mg:Str->Option Value) (base:Heap) (x:Str) (k:Nat) (ps:List Str) (sp:Sp):Prop where
 ex:∃ f fd,FnOk P w K mg base gJ k f fd ps sp/\mg x=some (.ref f)/\PySem.W.keepIn K (.ref f)=true/\Binds K fd ps []
section
variable {P:Program} {w:World} {K:PySem.W.Frag} {mg:Str->Option Value} {base:Heap}
theorem Def.ok {x:Str} {st:Stmt} {N ps:List Str} {k:Nat} {sp:Sp} (D:Def K mg x st ps) (S:FnScope N ps (aK st)) (len:∀ vs H Q E,sp vs H Q E->vs.length=ps.length)
  (hbody:∀ (f:Addr) (cdv:Value) (A:Around) (outer:List Env) (s:Shared) (H:Hp) (vs:List V) (Q:VK) (E:XK),Room k (A.deeper (envOfC x (aK st) s.heap.objs.size f cdv))->sp vs H Q E ->
   ∃ t,PSs (gy gJ P w K mg base N x (aK st) f cdv A outer s H E).nox (fN st) t/\t { nx:=λ_ H'=>Q .non H',rt:=Q } (start N vs) H):Callee P w K mg base x (k+1) ps sp:=by
 obtain ⟨f,fd,F,hm,hb⟩:=D.ex
 exact ⟨f,fd,F.ok S len λcdv A outer s H vs Q E hr h=>hbody f cdv A outer s H vs Q E hr h,hm,F.kp,hb⟩
theorem ZkO {x:Str} {st:Stmt} {ps:List Str} {h:Heap} {f:Addr} {oc:Value} {od an:Option Addr} {osl:Array (Option Value)} {kV doc pm cdv ct:Value} (X:K.In h) (G:h.Ns mainGlobals mg)
  (a:PySem.W.nsIn K mainGlobals x=some (some (.ref f))) (l:K.lookup f=some ⟨oc,od,.func (PySem.W.fnOf x x (oe st) (fN st) (aK st) .none kV doc pm an cdv ct),osl⟩)
  (c:PySem.W.codeIn K cdv x=true) (k:PySem.W.keepIn K (.ref f)=true)
  (hb:∀ (kV doc pm:Value) (an:Option Addr) (cdv ct:Value) (us:List Value),us.length=ps.length->bindArgs (PySem.W.fnOf x x (oe st) (fN st) (aK st) .none kV doc pm an cdv ct) ⟨us,[]⟩=pure (ps.zip us)):Def K mg x st ps:=by
 have F:=ZjV (st:=st) l c k
 exact ⟨f,_,F,PySem.W.mg_of X G a,F.binds hb⟩
end
section
variable {X:Cx} {x:Str} {k:Nat} {ps:List Str} {sp:Sp} {e:Expr} {es:List Expr} {t:TA} {p pos:Pos}
theorem uY (C:Callee X.prog X.w X.K X.mg X.base x k ps sp) (hr:Room k X.A) (hg:Gl X x) (ha:PA X (e::es) t) (hdb:(x == ("__debug__":Str))=false:=by decide)
  (he:starEach (e::es) X.env=(false,eval e X.env)::starEach es X.env:=by rfl) (hpl:(backTo pos (starEach es X.env)).any (·.1)=false:=by rfl):PE X (.Call (.Name x p) (e::es) [] pos) (ZaE sp [] E0 t):=by
 obtain ⟨f,fd,F,hm,hk,hb⟩:=C.ex
 exact ZhW F hr hg hm hk hb .nil Zh1 ha hdb he hpl
theorem ZhR {i:Int} (hg:Gl X x) (h:∃ t,X.mg x=some (.int i t)) (hd:(x == ("__debug__":Str))=false:=by decide):PE X (.Name x pos) (tC (.int i)):=by
 obtain ⟨t,e⟩:=h
 exact ZhQ hg e ⟨t,rfl⟩ hd
end
noncomputable def Zgh (t:TS):TS:=λD σ H=>∃ J:St->Hp->Prop,t { D with nx:=J } σ H/\∀ σ' H',J σ' H'->D.nx σ' H'
noncomputable def Zgg (t:TT):TT:=λσ H Q=>∃ J:Bool->Hp->Prop,t σ H J/\∀ b H',J b H'->Q b H'
section
variable {X:Cx} {st:Stmt} {e:Expr}
theorem PS.join {t:TS} (h:PS X st t):PS X st (Zgh t):=by
 rintro pins s σ H D I ⟨J,q,hJ⟩
 refine thn (h pins s σ H _ I q) λf s' z=>?_
 cases f with
 | next=>obtain ⟨σ',H',I',q'⟩:=z; exact ⟨σ',H',I',hJ _ _ q'⟩
 | brk=>exact z
 | cont=>exact z
 | ret u=>exact z
theorem PT.join {t:TT} (h:PT X e t):PT X e (Zgg t):=by
 rintro pins s σ H Q I ⟨J,q,hJ⟩
 refine thn (h pins s σ H _ I q) λb s' ⟨H',I',q'⟩=>⟨H',I',hJ _ _ q'⟩
end
noncomputable def bR (c:Addr) (at' left:Int):List (am×V):=[(Sum.inr "script",.ref c),(Sum.inr "at",.int at'),(Sum.inr "left",.int left)]
theorem ne1:¬ ((Sum.inr ("script":Str):am)=(Sum.inr ("at":Str):am)):=by decide +kernel
theorem ne2:¬ ((Sum.inr ("script":Str):am)=(Sum.inr ("left":Str):am)):=by decide +kernel
theorem vp:¬ ((Sum.inr ("at":Str):am)=(Sum.inr ("left":Str):am)):=by decide +kernel
theorem ZhG (c:Addr) (a l:Int):bC (bR c a l) (Sum.inr "script":am)=some (.ref c):=dk rfl
theorem Zco (c:Addr) (a l:Int):bC (bR c a l) (Sum.inr "at":am)=some (.int a):=by
 unfold bR
 rw [dF ne1,dk rfl]
theorem Zcn (c:Addr) (a l:Int):bC (bR c a l) (Sum.inr "left":am)=some (.int l):=by
 unfold bR
 rw [dF ne2,dF vp,dk rfl]
theorem ZhI (c:Addr) (a l b:Int):bx (bR c a l) (Sum.inr "at":am) (.int b)=bR c b l:=by
 have h:((bR c a l).any λkv=>decide (kv.1=(Sum.inr "at":am)))=true:=by rw [gK,Zco]; rfl
 unfold bx
 rw [if_pos h]
 unfold bR
 simp only [List.map_cons,List.map_nil,if_neg ne1,if_neg (Ne.symm vp),if_true]
theorem ZhH (c:Addr) (a l b:Int):bx (bR c a l) (Sum.inr "left":am) (.int b)=bR c a b:=by
 have h:((bR c a l).any λkv=>decide (kv.1=(Sum.inr "left":am)))=true:=by rw [gK,Zcn]; rfl
 unfold bx
 rw [if_pos h]
 unfold bR
 simp only [List.map_cons,List.map_nil,if_neg ne2,if_neg vp,if_true]
section
variable {H:Hp} {p c:Addr} {a l b:Int}
theorem ZkL (h:H p=some (.dK (bR c a l))):DGet H p (.str "script") (some (.ref c)):=by
 have q:=DGet.k (k:=(Sum.inr "script":am)) h
 rw [ZhG] at q
 exact q
theorem ZkM (h:H p=some (.dK (bR c a l))):DGet H p (.str "at") (some (.int a)):=by
 have q:=DGet.k (k:=(Sum.inr "at":am)) h
 rw [Zco] at q
 exact q
theorem we (h:H p=some (.dK (bR c a l))):DGet H p (.str "left") (some (.int l)):=by
 have q:=DGet.k (k:=(Sum.inr "left":am)) h
 rw [Zcn] at q
 exact q
theorem ZkI (h:H p=some (.dK (bR c a l))):DPut H p (.str "at") (.int b) (upd H p (.dK (bR c b l))):=by
 have q:=DPut.k (k:=(Sum.inr "at":am)) (v:=V.int b) h (by show 3 < sizeLine; decide)
 rw [ZhI] at q
 exact q
theorem Zec (h:H p=some (.dK (bR c a l))):DPut H p (.str "left") (.int b) (upd H p (.dK (bR c a b))):=by
 have q:=DPut.k (k:=(Sum.inr "left":am)) (v:=V.int b) h (by show 3 < sizeLine; decide)
 rw [ZhH] at q
 exact q
end
noncomputable def Kept (p:Addr) (H H':Hp):Prop:=∀ b o,H b=some o->b≠p->H' b=some o
theorem Kept.refl {p:Addr} {H:Hp}:Kept p H H:=λ_ _ h _=>h
theorem Kept.pen {p:Addr} {H H':Hp} {o:HO} (a:Kept p H H'):Kept p H (upd H' p o):=λc u h n=>by
 rw [az n]
 exact a c u h n
theorem Same.new {q:Addr} {H H':Hp} {o:HO} (a:Same H H') (hq:H' q=none):Same H (upd H' q o):=λc u h=>by
 have e:=a c u h
 rw [az (cL e hq)]
 exact e
end L2
set_option Elab.async false
set_option linter.all false
set_option maxRecDepth 100000
namespace L2
open PySem PySem.Spec PyProof.Rows
section
variable {prog:Program} {w:World} {A:Around} {E:Value->Shared->Prop} {s:Shared} {r:Addr} {a b c:Int} {t u v:Tok} {n:Nat}
end
section
variable {X:Cx}
theorem vo:fillsNumberSlot (.type "tuple") "mul"=pure false :=
 PySem.fillsNumberSlot_seq (id:="tuple.__mul__") (r:=some (.builtin "tuple.__rmul__")) PySem.F.slot_tuple_mul.lookup (by decide +kernel) PySem.F.slot_tuple_rmul.lookup (by decide +kernel)
theorem uK:seqRepeat? (.type "tuple")=pure (some (.builtin "tuple.__mul__")):=by
 unfold seqRepeat?
 rw [PySem.seqSlot_of (T:="tuple") (name:="__mul__") (id:="tuple.__mul__") PySem.F.slot_tuple_mul.lookup (by decide +kernel),PySem.seqSlot_of (T:="tuple") (name:="__rmul__") (id:="tuple.__rmul__") PySem.F.slot_tuple_rmul.lookup (by decide +kernel)]; rfl
theorem uJ (x:Int) (t:Tok) (l:Addr) (items:Array Value) (n:Nat) (dd:Option Addr) (sl:Array (Option Value)) :
  Meets (Builtin.«int.__rmul__» ⟨[.int x t,.ref l],[]⟩) (λ_ R s=>s.heap.get? l=some { cls:=.type "tuple",dict:=dd,data:=.seq items n,slots:=sl }/\R (.ok (.ret Value.notImplemented)) s):=by
 refine .of_wp λprog w A R s h=>?_
 obtain ⟨hp,g,d,tk,os⟩:=s
 obtain ⟨hl,h⟩:=h
 wp_walk
 exact ⟨_,rfl,h⟩
theorem Ziy (x:Int) (t:Tok) (l:Addr) (items:Array Value) (n:Nat) (dd:Option Addr) (sl:Array (Option Value)) (h1:1 < x) (h2:x<=1000) (h3:items.isEmpty=false) (h4:items.size<=1000) :
  Meets (Builtin.«tuple.__mul__» ⟨[.ref l,.int x t],[]⟩) (λ_ R s=>s.heap.get? l=some { cls:=.type "tuple",dict:=dd,data:=.seq items n,slots:=sl } /\
   R (.ok (.ret (.ref s.heap.objs.size))) { s with heap:=s.heap.push { cls:=.type "tuple",data:=.seq ((List.replicate x.toNat items).foldl (·++·) #[]) } }):=by
 refine .of_wp λprog w A R s h=>?_
 obtain ⟨hp,g,d,tk,os⟩:=s
 obtain ⟨hl,h⟩:=h
 have hp0:0<=(items.size:Int) * x:=Int.mul_nonneg (by omega) (by omega)
 have hp1:(items.size:Int) * x<=1000 * 1000:=Int.mul_le_mul (by omega) h2 (by omega) (by omega)
 have hne:items.size≠0:=λe=>by simp [Array.isEmpty,e] at h3
 wp_walk
 refine wpAny_ite_split (λz=>absurd z (by simp; omega)) (λ_=>?_)
 refine wpAny_bind ?_
 unfold Builtin.Tuple.tupleItemsOf
 refine wpAny_bind (wpAny_seqItems hl rfl (wpAny_pure ?_))
 refine wpAny_ite_split (λz=>absurd z (by rw [h3]; simp; omega)) (λ_=>?_)
 refine wpAny_ite_split (λz=>absurd z (by rw [h3]; simp; omega)) (λ_=>?_)
 refine wpAny_ite_split (λz=>absurd z (by omega)) (λ_=>?_)
 refine wpAny_ite_split (λz=>absurd z (by unfold Builtin.Tuple.tupleTooMany; rw [sizeLine_eq]; simp; omega)) (λ_=>?_)
 unfold Builtin.Tuple.tupleExact
 have hlen:∀ k:Nat,((List.replicate k items).foldl (·++·) #[]).size=k * items.size:=λk=>by
  have key:∀ (k:Nat) (acc:Array Value),((List.replicate k items).foldl (·++·) acc).size=acc.size+k * items.size:=by
   intro k
   induction k with
   | zero=>intro acc; simp
   | succ k ih =>
    intro acc
    rw [List.replicate_succ,List.foldl_cons,ih,Array.size_append,Nat.succ_mul]
    omega
  simpa using key k #[]
 refine wpAny_bind (wpAny_newObj_type (wpAny_pure ⟨_,rfl,h⟩) ?_)
 show ((List.replicate x.toNat items).foldl (·++·) #[]).size<=sizeLine
 rw [hlen,sizeLine_eq]
 have hx:x.toNat<=1000:=by omega
 exact Nat.le_trans (Nat.mul_le_mul hx h4) (by decide)
noncomputable def uN (K:PySem.W.Frag):R2:=λx y H Q=>∃ a k xs,x=.ref a/\y=.int k/\SqT K H a xs/\1 < k/\k<=1000/\xs≠[]/\xs.length<=1000/\∀ p,H p=none->Q (.ref p) (upd H p (.tup (List.replicate k.toNat xs).flatten))
theorem Zap {xs:List V} {us:List Value} (r:Vals xs us):∀ k:Nat,Vals (List.replicate k xs).flatten (List.replicate k us).flatten
 | 0=>.nil
 | k+1=>by
  rw [List.replicate_succ,List.replicate_succ,List.flatten_cons,List.flatten_cons]
  exact r.append (Zap r k)
theorem Zcu:OpR X (binaryOp .Mult) (uN X.K):=by
 intro pins s σ H x y v u Q I rx ry h
 obtain ⟨a,k,xs,rfl,rfl,hq,h1,h2,hne,hl,q⟩:=h
 cases rx
 obtain ⟨t,rfl⟩:=ry
 obtain ⟨its,rv,p,hz⟩:=I.tuple hq
 obtain ⟨o,ho,hc,n,hd⟩:=p
 obtain ⟨oc,od,odd,osl⟩:=o
 have hc':oc=.type "tuple":=hc
 have hd':odd=.seq its.toArray n:=hd
 subst hc' hd'
 have hlen:=rv.length
 have hemp:its.toArray.isEmpty=false:=by
  cases its with
  | nil=>cases rv; exact absurd rfl hne
  | cons i r=>rfl
 have efl:(List.replicate k.toNat its.toArray).foldl (·++·) #[]=(List.replicate k.toNat its).flatten.toArray:=by
  have key:∀ (k:Nat) (acc:Array Value),(List.replicate k its.toArray).foldl (·++·) acc=acc++(List.replicate k its).flatten.toArray:=by
   intro k
   induction k with
   | zero=>intro acc; simp
   | succ k ih =>
    intro acc
    rw [List.replicate_succ,List.foldl_cons,ih,List.replicate_succ,List.flatten_cons]
    simp
  simpa using key k.toNat #[]
 refine wpAny_binaryOp_repeat_ref (T:="tuple") (U:="int") (by decide) ⟨_,ho,rfl⟩ (λs'=>typeIs_int s' k t) vo PySem.F.fills_int_mul PySem.F.slot_int_rmul uK PySem.F.slot_int_index.lookup ?_
 refine call_meets PySem.F.slot_int_rmul (typeIs_int s k t) PySem.F.entry_int_rmul (PySem.F.args_int_rmul_2 _ _) (uJ k t a its.toArray n od osl) ⟨ho,rfl,⟨_,ho,rfl⟩,?_⟩
 refine call_meets PySem.F.slot_tuple_mul ⟨_,ho,rfl⟩ PySem.F.entry_tuple_mul (PySem.F.args_tuple_mul_2 _ _) (Ziy k t a its.toArray n od osl h1 h2 hemp (by rw [List.size_toArray]; omega)) ⟨ho,?_⟩
 rw [efl]
 have hzz:(List.replicate k.toNat xs).flatten.length<=sizeLine:=by
  have hx:k.toNat<=1000:=by omega
  have e:(List.replicate k.toNat xs).flatten.length=k.toNat * xs.length:=by simp
  rw [e,sizeLine_eq]
  exact Nat.le_trans (Nat.mul_le_mul hx hl) (by decide)
 exact ⟨.ref s.heap.objs.size,_,I.laid (t':=s.toks) (λb o e=>Heap.get?_push_of_some _ e) (Nat.le_refl _) (show ObjOk X.prog X.w _ _ _ (.tup (List.replicate k.toNat xs).flatten) from ⟨hzz,_,Zap rv k.toNat,IsTup.new _ _⟩),rfl,q _ (I.hok.fresh (Nat.le_refl _))⟩
end
end L2
set_option Elab.async false
set_option linter.all false
set_option maxRecDepth 100000
namespace L2
open PySem PySem.Spec PyProof.Rows
theorem ZcY {n:Nat} (h:n < 2 ^ 1900):n.log2 < 1900:=by
 by_cases h0:n=0
 ·rw [h0]; decide
 ·exact (Nat.log2_lt h0).mpr h
theorem ZgD {i:Int} (h:i.natAbs < 2 ^ 1900):(PyData.int i).shown.length<=1901:=by
 have e:=int_text_length_le (k:=1900) (by decide) (ZcY h)
 have q:(Str.ofString (toString i)).length<=1901:=by rw [PySem.ofString_length]; exact e
 simpa [PyData.shown] using q
theorem ZaX:∀ (ns:List Int),(∀ n∈ns,n.natAbs < 2 ^ 1900)->((PyData.shownAll (ns.map PyData.int)).map (·.length)).sum<=ns.length * 1901/\(PyData.shownAll (ns.map PyData.int)).length=ns.length
 | [],_=>⟨by simp [PyData.shownAll],rfl⟩
 | n::r,h=>by
  obtain ⟨h1,h2⟩:=ZaX r λx hx=>h x (List.mem_cons_of_mem _ hx)
  have h3:=ZgD (h n List.mem_cons_self)
  rw [List.map_cons,PyData.shownAll,List.map_cons,List.sum_cons,List.length_cons,List.length_cons,h2,Nat.succ_mul]
  exact ⟨by omega,rfl⟩
theorem ZaY:∀ (ns:List Int),(∀ n∈ns,n.natAbs < 2 ^ 1900)->PyData.showableAll (ns.map PyData.int)=true
 | [],_=>rfl
 | n::r,h=>by
  rw [List.map_cons,PyData.showableAll,ZaY r λx hx=>h x (List.mem_cons_of_mem _ hx),Bool.and_true]
  have q:=ZcY (h n List.mem_cons_self)
  simp only [PyData.showable,decide_eq_true_eq]
  omega
noncomputable def ao (lo:Int) (n:Nat):List Int:=(List.range n).map λ(k:Nat)=>lo+(k:Int)
theorem Zhb (lo:Int) (n:Nat):gQ lo n=(ao lo n).map V.int:=by
 unfold gQ ao
 rw [List.map_map]
 rfl
theorem gR (lo:Int) (n:Nat):(ao lo n).length=n:=by
 unfold ao
 rw [List.length_map,List.length_range]
theorem nM {lo x:Int} {n:Nat} (h:x∈ao lo n):lo<=x/\x < lo+n:=by
 unfold ao at h
 obtain ⟨k,hk,rfl⟩:=List.mem_map.mp h
 have:=List.mem_range.mp hk
 omega
end L2
set_option Elab.async false
set_option linter.all false
set_option maxRecDepth 100000
namespace L2
open PySem PySem.Spec PyProof.Rows
noncomputable def CMulG (i j:Int):Prop:=i.natAbs < 2 ^ 8000/\j.natAbs < 2 ^ 8000
noncomputable def ZfD (i j:Int):Prop:=j≠0/\j.natAbs < 2 ^ 8000
theorem ZeW {x:Int} (h:x.natAbs < 2 ^ 8000):Builtin.Int.intBits x<=8000:=by
 unfold Builtin.Int.intBits
 split
 ·exact Nat.zero_le _
 ·rename_i hx
  have h0:x.natAbs≠0:=by
   intro z
   have e:x=0:=Int.natAbs_eq_zero.mp z
   rw [e] at hx
   exact hx rfl
  exact (Nat.log2_lt h0).mpr h
theorem CMulG.ok {i j:Int} (h:CMulG i j):IntMulOk i j:=by
 have h1:=ZeW h.1
 have h2:=ZeW h.2
 unfold IntMulOk
 have e:Builtin.Int.intTooBig ((Builtin.Int.intBits i+Builtin.Int.intBits j:Nat):Int)=false:=by
  unfold Builtin.Int.intTooBig
  refine decide_eq_false ?_
  have hb:((16000:Nat):Int)<=(bitsLine:Int):=by decide
  omega
 intro z
 rw [Bool.and_eq_true] at z
 have z2:Builtin.Int.intTooBig ((Builtin.Int.intBits i+Builtin.Int.intBits j:Nat):Int)=true:=z.2
 rw [e] at z2
 cases z2
section
variable {X:Cx}
theorem Zh7:OpR X (binaryOp .Mult) (rI CMulG λi j=>.int (i * j)):=gZ λ_ _ _ _ _ _ _ hc q=>mul_int q hc.ok
theorem Zcw:OpR X (binaryOp .FloorDiv) (rI ZfD λi j=>.int (i.fdiv j)):=gZ λi j _ _ _ _ _ hc q=>by
 refine floordiv_int hc.1 q (.inl (PyProof.noPylong_of_log2 ?_))
 by_cases h0:j.natAbs=0
 ·exact absurd (Int.natAbs_eq_zero.mp h0) hc.1
 ·exact Nat.lt_trans ((Nat.log2_lt h0).mpr hc.2) (by decide)
theorem wv:db X (.builtin "isinstance") (λxs H Q=>∃ x T t b,xs=[x,.ty T]/\TyOf X.K H x t/\PySem.W.kitOne X.K t (.type T)=some b/\Q (.bl b) H):=by
 intro pins s σ H xs us Q I r h
 obtain ⟨x,T,t,b,rfl,ty,e,q⟩:=h
 obtain ⟨u,c,rfl,ru,rc⟩:=qz r
 cases rc
 exact Zjt I ru ty e λtk=>⟨.bl b,H,I.tok tk,rfl,q⟩
end
end L2
set_option Elab.async false
set_option linter.all false
set_option maxRecDepth 100000
namespace Gc
noncomputable def jc (a b:Int):Int:=((Nat.gcd a.natAbs b.natAbs:Nat):Int)
noncomputable def den (t b:Int):Int:=if b < 0 then -jc t b else jc t b
noncomputable def hI (t b:Int):Int:=t.fdiv (den t b)
noncomputable def gg (t b:Int):Int:=b.fdiv (den t b)
theorem v6 {t b:Int} (h:b≠0):0 < Nat.gcd t.natAbs b.natAbs:=Nat.gcd_pos_of_pos_right _ (by omega)
theorem Zel {t b:Int} (h:b≠0):den t b≠0:=by
 have:=v6 (t:=t) h
 unfold den jc
 split <;> omega
theorem wf (t b:Int):(den t b).natAbs=Nat.gcd t.natAbs b.natAbs:=by
 unfold den jc
 split <;> omega
theorem ZcX {t b:Int} (h:b≠0):t=den t b * hI t b/\b=den t b * gg t b/\0 < gg t b/\Nat.gcd (hI t b).natAbs (gg t b).natAbs=1:=by
 have hd:=Zel (t:=t) h
 have ha:=wf t b
 have hg:=v6 (t:=t) h
 have d1:den t b ∣ t:=Int.natAbs_dvd_natAbs.mp (by rw [ha]; exact Nat.gcd_dvd_left _ _)
 have d2:den t b ∣ b:=Int.natAbs_dvd_natAbs.mp (by rw [ha]; exact Nat.gcd_dvd_right _ _)
 obtain ⟨x,hx⟩:=d1
 obtain ⟨y,hy⟩:=d2
 have e1:hI t b=x:=by
  show t.fdiv (den t b)=x
  generalize den t b=d at hd hx
  rw [hx]
  exact Int.mul_fdiv_cancel_left _ hd
 have e2:gg t b=y:=by
  show b.fdiv (den t b)=y
  generalize den t b=d at hd hy
  rw [hy]
  exact Int.mul_fdiv_cancel_left _ hd
 rw [e1,e2]
 refine ⟨hx,hy,?_,?_⟩
 ·have hb:(0 < b/\0 < den t b)\/(b < 0/\den t b < 0):=by
   unfold den jc
   split <;> omega
  rcases hb with ⟨p,q⟩ | ⟨p,q⟩
  ·rcases (show 0 < y\/y<=0 by omega) with z | z
   ·exact z
   ·exfalso
    have:=Int.mul_nonneg (Int.le_of_lt q) (show 0<=-y by omega)
    rw [Int.mul_neg,<- hy] at this
    omega
  ·rcases (show 0 < y\/y<=0 by omega) with z | z
   ·exact z
   ·exfalso
    have:=Int.mul_nonneg (show 0<=-den t b by omega) (show 0<=-y by omega)
    rw [Int.neg_mul_neg,<- hy] at this
    omega
 ·have h1:t.natAbs=Nat.gcd t.natAbs b.natAbs * x.natAbs:=by
   have:=congrArg Int.natAbs hx
   rw [Int.natAbs_mul,ha] at this
   exact this
  have h2:b.natAbs=Nat.gcd t.natAbs b.natAbs * y.natAbs:=by
   have:=congrArg Int.natAbs hy
   rw [Int.natAbs_mul,ha] at this
   exact this
  have h3:Nat.gcd t.natAbs b.natAbs=Nat.gcd t.natAbs b.natAbs * Nat.gcd x.natAbs y.natAbs:=by
   rw [<- Nat.gcd_mul_left,<- h1,<- h2]
  have h4:Nat.gcd t.natAbs b.natAbs * 1=Nat.gcd t.natAbs b.natAbs * Nat.gcd x.natAbs y.natAbs:=by rw [Nat.mul_one]; exact h3
  exact (Nat.eq_of_mul_eq_mul_left hg h4).symm
theorem ZiV {t b:Int} (h:b≠0):(hI t b).natAbs<=t.natAbs/\(gg t b).natAbs<=b.natAbs:=by
 obtain ⟨h1,h2,_,_⟩:=ZcX (t:=t) h
 have hg:=v6 (t:=t) h
 have ha:=wf t b
 constructor
 ·have e:=congrArg Int.natAbs h1
  rw [Int.natAbs_mul,ha] at e
  rw [e]
  exact Nat.le_mul_of_pos_left _ hg
 ·have e:=congrArg Int.natAbs h2
  rw [Int.natAbs_mul,ha] at e
  rw [e]
  exact Nat.le_mul_of_pos_left _ hg
end Gc
set_option Elab.async false
set_option linter.all false
set_option maxRecDepth 100000
namespace L2
open PySem PySem.Spec PyProof.Rows
end L2
set_option Elab.async false
set_option linter.all false
set_option maxRecDepth 100000
namespace L2
open PySem PySem.Spec PyProof.Rows
theorem vW:∀ (ns:List Int) (us:List Value),Vals (ns.map V.int) us->IntsAre us ns
 | [],_,r=>by cases r; exact .nil
 | n::ns,_,r=>by
  cases r with
  | cons r1 r2 =>
   obtain ⟨t,rfl⟩:=r1
   exact .cons n t (vW ns _ r2)
theorem tX:∀ {us:List Value} {ns:List Int},IntsAre us ns->Vals (ns.map V.int) us
 | _,_,.nil=>.nil
 | _,_,.cons n t r=>.cons ⟨t,rfl⟩ (tX r)
theorem ZlF {X:Cx}:db X (.builtin "sorted") (λxs H Q=>∃ l ns,xs=[.ref l]/\H l=some (.lst (ns.map V.int))/\ns.length < 64 /\
  ∀ (ns':List Int) q,ns'.Perm ns->ns'.Pairwise (·<=·)->H q=none->Q (.ref q) (upd H q (.lst (ns'.map V.int)))):=by
 intro pins s σ H xs us Q I r h
 obtain ⟨l,ns,rfl,hl,h64,q⟩:=h
 obtain ⟨u,rfl,ru⟩:=eh r
 cases ru
 obtain ⟨z,its,n,rv,h1⟩:=I.hok _ _ hl
 have hlen:its.length=ns.length:=by
  have:=rv.length
  rw [List.length_map] at this
  exact this.symm
 refine sorted_ints (vs:=its) ⟨_,h1,rfl,n,rfl⟩ (vW ns its rv) (by omega) λout ns' a1 a2 a3=>?_
 obtain ⟨e,he⟩:=sortedAll_at s.heap its out
 refine ⟨.ref (s.heap.objs.size+1),_,I.laid (h':=sortedAll s.heap its out) (t':=s.toks) (λ_ _ w=>sortedAll_old w) (Nat.le_succ _) (show ObjOk X.prog X.w _ _ _ (.lst (ns'.map V.int)) from ⟨?_,out.toList,e,tX a1,by simpa using he⟩),rfl,q ns' _ a2 a3 (I.hok.fresh (Nat.le_succ _))⟩
 rw [List.length_map,a2.length_eq,sizeLine_eq]
 omega
end L2
set_option Elab.async false
set_option linter.all false
set_option maxRecDepth 100000
namespace L2
open PySem PySem.Spec PyProof.Rows
inductive Tr (α:Type) where
 | ret (a:α)
 | draw (n:Int) (k:Int->Tr α)
 | fail
namespace Tr
variable {α β γ:Type}
noncomputable def bind:Tr α->(α->Tr β)->Tr β
 | .ret a,f=>f a
 | .draw n k,f=>.draw n λr=>(k r).bind f
 | .fail,_=>.fail
@[simp] theorem ret_bind (a:α) (f:α->Tr β):(Tr.ret a).bind f=f a:=rfl
@[simp] theorem draw_bind (n:Int) (k:Int->Tr α) (f:α->Tr β):(Tr.draw n k).bind f=.draw n λr=>(k r).bind f:=rfl
@[simp] theorem fail_bind (f:α->Tr β):(Tr.fail:Tr α).bind f=.fail:=rfl
@[simp] theorem bind_assoc:∀ (t:Tr α) (f:α->Tr β) (g:β->Tr γ),(t.bind f).bind g=t.bind λa=>(f a).bind g
 | .ret a,f,g=>rfl
 | .draw n k,f,g=>by simp only [draw_bind]; congr 1; funext r; exact bind_assoc (k r) f g
 | .fail,f,g=>rfl
noncomputable def of:Option α->Tr α
 | some a=>.ret a
 | none=>.fail
@[simp] theorem of_some (a:α):Tr.of (some a)=.ret a:=rfl
@[simp] theorem of_none:Tr.of (none:Option α)=.fail:=rfl
noncomputable def ok:Tr α->Nat->(Nat->α->Prop)->Prop
 | .ret a,m,Q=>Q m a
 | .draw n k,m,Q=>m < 400000/\0 < n/\n < 1073741824/\∀ r,0<=r->r < n->(k r).ok (m+1) Q
 | .fail,_,_=>False
theorem ok_mono:∀ {t:Tr α} {m:Nat} {Q Q':Nat->α->Prop},t.ok m Q->(∀ m a,Q m a->Q' m a)->t.ok m Q'
 | .ret a,m,_,_,h,hq=>hq m a h
 | .draw n k,m,_,_,⟨h1,h2,h3,h⟩,hq=>⟨h1,h2,h3,λr h0 h1=>ok_mono (h r h0 h1) hq⟩
theorem ok_bind:∀ {t:Tr α} {f:α->Tr β} {m:Nat} {Q:Nat->β->Prop},(t.bind f).ok m Q ↔ t.ok m λm' a=>(f a).ok m' Q
 | .ret a,f,m,Q=>Iff.rfl
 | .draw n k,f,m,Q=>by
  show (_/\_/\_/\∀ r,_) ↔ (_/\_/\_/\∀ r,_)
  refine and_congr_right λ_=>and_congr_right λ_=>and_congr_right λ_=>forall_congr' λr=>forall_congr' λ_=>forall_congr' λ_=>ok_bind
 | .fail,f,m,Q=>Iff.rfl
theorem ok_of {o:Option α} {m:Nat} {Q:Nat->α->Prop} (h:(Tr.of o).ok m Q):∃ a,o=some a/\Q m a:=by
 cases o with
 | none=>exact h.elim
 | some a=>exact ⟨a,rfl,h⟩
noncomputable def all:Tr α->Nat->(α->Prop)->Prop
 | .ret a,_,P=>P a
 | .draw w k,n+1,P=>0 < w/\w < 1073741824/\∀ r,0<=r->r < w->(k r).all n P
 | .draw _ _,0,_=>False
 | .fail,_,_=>False
theorem all_ok:∀ {t:Tr α} {n m:Nat} {P:α->Prop},t.all n P->m+n<=400000->t.ok m λm' a=>m'<=m+n/\P a
 | .ret a,n,m,P,h,hm=>⟨by omega,h⟩
 | .draw w k,n+1,m,P,⟨h1,h2,h⟩,hm=>⟨by omega,h1,h2,λr a b=>ok_mono (all_ok (h r a b) (by omega)) λm' x hz0=>by
  obtain ⟨p,q⟩:=hz0
  exact ⟨by omega,q⟩⟩
theorem all_mono:∀ {t:Tr α} {n n':Nat} {P P':α->Prop},t.all n P->n<=n'->(∀ a,P a->P' a)->t.all n' P'
 | .ret a,n,n',P,P',h,hn,hp=>hp a h
 | .draw w k,n+1,n'+1,P,P',⟨h1,h2,h⟩,hn,hp=>⟨h1,h2,λr a b=>all_mono (h r a b) (by omega) hp⟩
 | .draw w k,n+1,0,P,P',h,hn,hp=>by omega
theorem all_bind:∀ {t:Tr α} {f:α->Tr β} {n n':Nat} {P:α->Prop} {P':β->Prop},t.all n P->(∀ a,P a->(f a).all n' P')->(t.bind f).all (n+n') P'
 | .ret a,f,n,n',P,P',h,hf=>all_mono (hf a h) (by omega) λ_ x=>x
 | .draw w k,f,n+1,n',P,P',⟨h1,h2,h⟩,hf=>by
  have e:n+1+n'=(n+n')+1:=by omega
  rw [e]
  exact ⟨h1,h2,λr a b=>all_bind (h r a b) hf⟩
end Tr
noncomputable abbrev Sub (G H:Hp):Prop:=∀ b o,G b=some o->H b=some o
structure Pk where
 is:HO->Hp->Nat->Prop
 mono:∀ {o:HO} {G G':Hp} {m:Nat},Sub G G'->is o G m->is o G' m
structure Wd (PK:Pk) (pa:Addr) (m:Nat) (G H:Hp):Prop where
 sub:Sub G H
 gpa:G pa=none
 pen:∃ o,H pa=some o/\PK.is o G m
structure Stp (pa:Addr) (G H G' H':Hp):Prop where
 gs:Sub G G'
 gn:∀ b o,G' b=some o->G b=some o\/H b=none
 hk:∀ b o,H b=some o->b≠pa->H' b=some o
theorem Stp.refl {pa:Addr} {G H:Hp}:Stp pa G H G H:=⟨λ_ _ h=>h,λ_ _ h=>.inl h,λ_ _ h _=>h⟩
theorem Stp.trans {pa:Addr} {G H G1 H1 G2 H2:Hp} (a:Stp pa G H G1 H1) (b:Stp pa G1 H1 G2 H2) (hp:∃ o,H1 pa=some o):Stp pa G H G2 H2:=by
 refine ⟨λc o h=>b.gs c o (a.gs c o h),λc o h=>?_,λc o h n=>b.hk c o (a.hk c o h n) n⟩
 rcases b.gn c o h with z | z
 ·exact a.gn c o z
 ·refine .inr ?_
  cases e:H c with
  | none=>rfl
  | some u =>
   by_cases hc:c=pa
   ·subst hc
    obtain ⟨o',z'⟩:=hp
    rw [z'] at z; cases z
   ·rw [a.hk c u e hc] at z; cases z
section
variable {PK:Pk} {pa:Addr} {m:Nat} {G H:Hp}
theorem Wd.some (w:Wd PK pa m G H):∃ o,H pa=some o:=let ⟨o,h,_⟩:=w.pen; ⟨o,h⟩
theorem Wd.ne (w:Wd PK pa m G H) {p:Addr} (hp:H p=none):pa≠p:=λe=>by
 obtain ⟨o,h⟩:=w.some
 rw [e,hp] at h; cases h
theorem Sub.new {p:Addr} {o:HO} (hp:G p=none):Sub G (upd G p o):=λb u h=>by rw [az (cL h hp)]; exact h
theorem Wd.gnone (w:Wd PK pa m G H) {p:Addr} (hp:H p=none):G p=none:=by
 cases e:G p with
 | none=>rfl
 | some o=>rw [w.sub p o e] at hp; cases hp
theorem Sub.upd2 {p:Addr} {o:HO} (s:Sub G H):Sub (upd G p o) (upd H p o):=λb u h=>by
 by_cases e:b=p
 ·subst e; rw [bE] at h ⊢; exact h
 ·rw [az e] at h ⊢; exact s b u h
theorem Wd.new (w:Wd PK pa m G H) {p:Addr} {o:HO} (hp:H p=none):Wd PK pa m (upd G p o) (upd H p o)/\Stp pa G H (upd G p o) (upd H p o):=by
 have hg:=w.gnone hp
 have hne:=w.ne hp
 refine ⟨⟨w.sub.upd2,by rw [az hne]; exact w.gpa,?_⟩,⟨Sub.new hg,λb u h=>?_,λb u h _=>by rw [az (cL h hp)]; exact h⟩⟩
 ·obtain ⟨u,h,q⟩:=w.pen
  exact ⟨u,by rw [az hne]; exact h,PK.mono (Sub.new hg) q⟩
 ·by_cases e:b=p
  ·subst e; exact .inr hp
  ·rw [az e] at h; exact .inl h
theorem Wd.own (w:Wd PK pa m G H) {p:Addr} {o:HO} (hp:H p=none):Wd PK pa m G (upd H p o)/\Stp pa G H G (upd H p o):=by
 have hne:=w.ne hp
 refine ⟨⟨λb u h=>by rw [az (cL (w.sub b u h) hp)]; exact w.sub b u h,w.gpa,?_⟩,⟨λ_ _ h=>h,λ_ _ h=>.inl h,λb u h _=>by rw [az (cL h hp)]; exact h⟩⟩
 obtain ⟨u,h,q⟩:=w.pen
 exact ⟨u,by rw [az hne]; exact h,q⟩
theorem Wd.freeze (w:Wd PK pa m G H) {p:Addr} {o:HO} (hp:H p=Option.some o) (hg:G p=none) (hne:pa≠p):Wd PK pa m (upd G p o) H:=by
 refine ⟨λb u h=>?_,by rw [az hne]; exact w.gpa,?_⟩
 ·by_cases e:b=p
  ·subst e; rw [bE] at h; rw [hp]; exact h
  ·rw [az e] at h; exact w.sub b u h
 ·obtain ⟨u,h,q⟩:=w.pen
  exact ⟨u,h,PK.mono (Sub.new hg) q⟩
noncomputable def Kn (PK:Pk) (pa:Addr) (m:Nat) (G H:Hp) (x:PyData) (Q:VK):Prop:=∀ v G' H',Stp pa G H G' H'->Wd PK pa m G' H'->Dn G' v x->Q v H'
variable {x:PyData} {Q:VK} {v:V} {vs:List V} {ds:List PyData} {p:Addr}
theorem Kn.here (k:Kn PK pa m G H x Q) (w:Wd PK pa m G H) (d:Dn G v x):Q v H:=k v G H .refl w d
theorem Kn.tup (k:Kn PK pa m G H (.tuple ds) Q) (w:Wd PK pa m G H) (d:DnAll G vs ds) (hp:H p=none):Q (.ref p) (upd H p (.tup vs)):=by
 obtain ⟨w1,s1⟩:=w.new (o:=.tup vs) hp
 exact k _ _ _ s1 w1 (.tup bE (DnAll.mono s1.gs d))
theorem Kn.lst (k:Kn PK pa m G H (.list ds) Q) (w:Wd PK pa m G H) (d:DnAll G vs ds) (hp:H p=none):Q (.ref p) (upd H p (.lst vs)):=by
 obtain ⟨w1,s1⟩:=w.new (o:=.lst vs) hp
 exact k _ _ _ s1 w1 (.lst bE (DnAll.mono s1.gs d))
theorem Kn.later {G1 H1:Hp} (k:Kn PK pa m G H x Q) (s:Stp pa G H G1 H1) (hp:∃ o,H1 pa=Option.some o):Kn PK pa m G1 H1 x Q:=λv G' H' s' w d=>k v G' H' (s.trans s' hp) w d
end
inductive Sl where
 | un | d (x:PyData) | own (xs:List PyData) | pen | dic (kvs:List (Int×PyData))
inductive KD (G:Hp):List (am×V)->List (Int×PyData)->Prop
 | nil:KD G [] []
 | cons {i:Int} {v:V} {d:PyData} {ks:List (am×V)} {kvs:List (Int×PyData)}:Dn G v d->KD G ks kvs->KD G ((.inl i,v)::ks) ((i,d)::kvs)
theorem KD.mono {G G':Hp} (s:Sub G G') {ks:List (am×V)} {kvs:List (Int×PyData)} (h:KD G ks kvs):KD G' ks kvs:=by
 induction h with
 | nil=>exact .nil
 | cons h _ ih=>exact .cons (h.mono s) ih
inductive SlOk (pa:Addr) (H₀ G H:Hp):Option V->Sl->Prop
 | un {o:Option V}:SlOk pa H₀ G H o .un
 | d {v:V} {x:PyData}:Dn G v x->SlOk pa H₀ G H (some v) (.d x)
 | own {p:Addr} {vs:List V} {xs:List PyData}:H p=some (.lst vs)->G p=none->H₀ p=none->DnAll G vs xs->SlOk pa H₀ G H (some (.ref p)) (.own xs)
 | pen:SlOk pa H₀ G H (some (.ref pa)) .pen
 | dic {p:Addr} {ks:List (am×V)} {kvs:List (Int×PyData)}:H p=some (.dK ks)->G p=none->H₀ p=none->KD G ks kvs->SlOk pa H₀ G H (some (.ref p)) (.dic kvs)
structure Rl (PK:Pk) (pa:Addr) (G₀ H₀:Hp) (m:Nat) (σ:St) (ρ:List Sl) (G H:Hp):Prop where
 wd:Wd PK pa m G H
 st:Stp pa G₀ H₀ G H
 p0:∃ o,H₀ pa=some o
 sl:∀ (i:Nat) (s:Sl),ρ[i]?=some s->∃ o,σ[i]?=some o/\SlOk pa H₀ G H o s
 len:ρ.length=σ.length
 dj:∀ (i j:Nat) (xs ys:List PyData),i≠j->ρ[i]?=some (.own xs)->ρ[j]?=some (.own ys)->σ[i]?≠σ[j]?
 dj2:∀ (i j:Nat) (xs ys:List (Int×PyData)),i≠j->ρ[i]?=some (.dic xs)->ρ[j]?=some (.dic ys)->σ[i]?≠σ[j]?
section
variable {PK:Pk} {pa:Addr} {G₀ H₀ G H:Hp} {m:Nat} {σ:St} {ρ:List Sl}
theorem qD {α:Type} {l:List α} {k i:Nat} {x y:α} (h:(l.set k x)[i]?=some y) (hn:x≠y):k≠i/\l[i]?=some y:=by
 have hi:k≠i:=λe=>by
  subst e
  have hl:k < l.length:=by
   have:=(List.getElem?_eq_some_iff.mp h).1
   rwa [List.length_set] at this
  rw [List.getElem?_set_self hl] at h
  exact hn (Option.some.inj h)
 rw [List.getElem?_set_ne hi] at h
 exact ⟨hi,h⟩
theorem Zei {α:Type} {T:α->Sl} {k:Nat} {x:Sl} {v:Option V} (dj:∀ (i j:Nat) (a b:α),i≠j->ρ[i]?=some (T a)->ρ[j]?=some (T b)->σ[i]?≠σ[j]?) (hn:∀ a,x≠T a) :
  ∀ (i j:Nat) (a b:α),i≠j->(ρ.set k x)[i]?=some (T a)->(ρ.set k x)[j]?=some (T b)->(σ.set k v)[i]?≠(σ.set k v)[j]?:=λi j a b hij h1 h2=>by
 obtain ⟨hi,h1⟩:=qD h1 (hn a)
 obtain ⟨hj,h2⟩:=qD h2 (hn b)
 rw [List.getElem?_set_ne hi,List.getElem?_set_ne hj]
 exact dj i j a b hij h1 h2
theorem Zeh {α:Type} {T:α->Sl} {k:Nat} {x:Sl} (dj:∀ (i j:Nat) (a b:α),i≠j->ρ[i]?=some (T a)->ρ[j]?=some (T b)->σ[i]?≠σ[j]?) (hn:∀ a,x≠T a) :
  ∀ (i j:Nat) (a b:α),i≠j->(ρ.set k x)[i]?=some (T a)->(ρ.set k x)[j]?=some (T b)->σ[i]?≠σ[j]?:=λi j a b hij h1 h2 =>
 dj i j a b hij (qD h1 (hn a)).2 (qD h2 (hn b)).2
theorem SlOk.step {G' H':Hp} {o:Option V} {s:Sl} (k:SlOk pa H₀ G H o s) (hp0:∃ o,H₀ pa=some o) (st:Stp pa G H G' H'):SlOk pa H₀ G' H' o s:=by
 cases k with
 | un=>exact .un
 | d h=>exact .d (h.mono st.gs)
 | pen=>exact .pen
 | @own p vs xs h1 h2 h3 h4 =>
  have hne:p≠pa:=λe=>by
   obtain ⟨u,hu⟩:=hp0
   rw [<- e,h3] at hu; cases hu
  refine .own (st.hk _ _ h1 hne) ?_ h3 (DnAll.mono st.gs h4)
  cases e:G' p with
  | none=>rfl
  | some u =>
   rcases st.gn p u e with z | z
   ·rw [h2] at z; cases z
   ·rw [h1] at z; cases z
 | @dic p ks kvs h1 h2 h3 h4 =>
  have hne:p≠pa:=λe=>by
   obtain ⟨u,hu⟩:=hp0
   rw [<- e,h3] at hu; cases hu
  refine .dic (st.hk _ _ h1 hne) ?_ h3 (h4.mono st.gs)
  cases e:G' p with
  | none=>rfl
  | some u =>
   rcases st.gn p u e with z | z
   ·rw [h2] at z; cases z
   ·rw [h1] at z; cases z
theorem Rl.step {G' H':Hp} {m':Nat} (r:Rl PK pa G₀ H₀ m σ ρ G H) (s:Stp pa G H G' H') (w:Wd PK pa m' G' H'):Rl PK pa G₀ H₀ m' σ ρ G' H' :=
 ⟨w,r.st.trans s r.wd.some,r.p0,λi sl h=>let ⟨o,h1,h2⟩:=r.sl i sl h; ⟨o,h1,h2.step r.p0 s⟩,r.len,r.dj,r.dj2⟩
theorem Rl.set (r:Rl PK pa G₀ H₀ m σ ρ G H) {v:V} {x:PyData} (d:Dn G v x) (k:Nat):Rl PK pa G₀ H₀ m (σ.set k (some v)) (ρ.set k (.d x)) G H:=by
 refine ⟨r.wd,r.st,r.p0,λi s h=>?_,by rw [List.length_set,List.length_set]; exact r.len,λi j xs ys hij h1 h2=>?_,Zei r.dj2 λa h=>by cases h⟩
 ·by_cases e:k=i
  ·subst e
   have hl:k < ρ.length:=by
    have:=(List.getElem?_eq_some_iff.mp h).1
    rwa [List.length_set] at this
   rw [List.getElem?_set_self hl] at h
   cases h
   exact ⟨_,List.getElem?_set_self (by rw [<- r.len]; exact hl),.d d⟩
  ·rw [List.getElem?_set_ne e] at h ⊢
   exact r.sl i s h
 ·have hi:k≠i:=λe=>by
   subst e
   have hl:k < ρ.length:=by
    have:=(List.getElem?_eq_some_iff.mp h1).1
    rwa [List.length_set] at this
   rw [List.getElem?_set_self hl] at h1; cases h1
  have hj:k≠j:=λe=>by
   subst e
   have hl:k < ρ.length:=by
    have:=(List.getElem?_eq_some_iff.mp h2).1
    rwa [List.length_set] at this
   rw [List.getElem?_set_self hl] at h2; cases h2
  rw [List.getElem?_set_ne hi] at h1 ⊢
  rw [List.getElem?_set_ne hj] at h2 ⊢
  exact r.dj i j xs ys hij h1 h2
theorem Rl.setO (r:Rl PK pa G₀ H₀ m σ ρ G H) {p:Addr} {vs:List V} {xs:List PyData} (h1:H p=some (.lst vs)) (h2:G p=none) (h3:H₀ p=none) (h4:DnAll G vs xs)
  (hd:∀ (i:Nat) (ys:List PyData),ρ[i]?=some (.own ys)->σ[i]?≠some (some (.ref p))) (k:Nat):Rl PK pa G₀ H₀ m (σ.set k (some (.ref p))) (ρ.set k (.own xs)) G H:=by
 have up:∀ {i:Nat} {s:Sl},(ρ.set k (.own xs))[i]?=some s->i=k->s=.own xs/\(σ.set k (some (V.ref p)))[i]?=some (some (.ref p)):=λ{i s} h e=>by
  subst e
  have hl:i < ρ.length:=by
   have:=(List.getElem?_eq_some_iff.mp h).1
   rwa [List.length_set] at this
  rw [List.getElem?_set_self hl] at h
  cases h
  exact ⟨rfl,List.getElem?_set_self (by rw [<- r.len]; exact hl)⟩
 refine ⟨r.wd,r.st,r.p0,λi s h=>?_,by rw [List.length_set,List.length_set]; exact r.len,λi j ys zs hij e1 e2=>?_,Zei r.dj2 λa h=>by cases h⟩
 ·by_cases e:i=k
  ·obtain ⟨e1,e2⟩:=up h e
   subst e1
   exact ⟨_,e2,.own h1 h2 h3 h4⟩
  ·rw [List.getElem?_set_ne (Ne.symm e)] at h ⊢
   exact r.sl i s h
 ·by_cases ei:i=k
  ·have q:=(up e1 ei).2
   have hj:k≠j:=λe=>hij (ei.trans e)
   rw [q]
   rw [List.getElem?_set_ne hj] at e2 ⊢
   exact λz=>hd j zs e2 z.symm
  ·rw [List.getElem?_set_ne (Ne.symm ei)] at e1 ⊢
   by_cases ej:j=k
   ·rw [(up e2 ej).2]
    exact hd i ys e1
   ·rw [List.getElem?_set_ne (Ne.symm ej)] at e2 ⊢
    exact r.dj i j ys zs hij e1 e2
theorem Rl.h0 (r:Rl PK pa G₀ H₀ m σ ρ G H) {p:Addr} (hp:H p=none):H₀ p=none:=by
 cases e:H₀ p with
 | none=>rfl
 | some u =>
  by_cases hc:p=pa
  ·subst hc
   obtain ⟨o,h⟩:=r.wd.some
   rw [hp] at h; cases h
  ·rw [r.st.hk p u e hc] at hp; cases hp
theorem Rl.apart (r:Rl PK pa G₀ H₀ m σ ρ G H) {p:Addr} (hp:H p=none) (i:Nat) (ys:List PyData) (h:ρ[i]?=some (.own ys)):σ[i]?≠some (some (.ref p)):=λe=>by
 obtain ⟨o,h1,h2⟩:=r.sl i _ h
 rw [e] at h1
 cases h1
 cases h2 with
 | own a _ _ _=>rw [hp] at a; cases a
theorem Rl.change (r:Rl PK pa G₀ H₀ m σ ρ G H) {k:Nat} {xs ys:List PyData} {p:Addr} {ws:List V} (hk:ρ[k]?=some (.own xs)) (hσ:σ[k]?=some (some (.ref p))) (d:DnAll G ws ys) :
  Rl PK pa G₀ H₀ m σ (ρ.set k (.own ys)) G (upd H p (.lst ws)):=by
 obtain ⟨o,h1,h2⟩:=r.sl k _ hk
 rw [hσ] at h1
 cases h1
 cases h2 with
 | @own _ vs _ a1 a2 a3 a4 =>
  have hne:pa≠p:=λe=>by
   obtain ⟨u,hu⟩:=r.p0
   rw [e,a3] at hu; cases hu
  have hl:k < ρ.length:=(List.getElem?_eq_some_iff.mp hk).1
  refine ⟨⟨λb o h=>?_,r.wd.gpa,?_⟩,⟨r.st.gs,r.st.gn,λb o h hb=>?_⟩,r.p0,λi s h=>?_,by rw [List.length_set]; exact r.len,λi j us ws hij e1 e2=>?_,Zeh r.dj2 λa h=>by cases h⟩
  ·rw [az (λe=>by subst e; rw [a2] at h; cases h)]
   exact r.wd.sub b o h
  ·obtain ⟨u,h,q⟩:=r.wd.pen
   exact ⟨u,by rw [az hne]; exact h,q⟩
  ·rw [az (λe=>by subst e; rw [a3] at h; cases h)]
   exact r.st.hk b o h hb
  ·by_cases e:k=i
   ·subst e
    rw [List.getElem?_set_self hl] at h
    cases h
    exact ⟨_,hσ,.own bE a2 a3 d⟩
   ·rw [List.getElem?_set_ne e] at h
    obtain ⟨o,q1,q2⟩:=r.sl i s h
    refine ⟨o,q1,?_⟩
    cases q2 with
    | un=>exact .un
    | d z=>exact .d z
    | pen=>exact .pen
    | dic b1 b2 b3 b4=>exact .dic (by rw [az (λe2=>by subst e2; rw [a1] at b1; cases b1)]; exact b1) b2 b3 b4
    | own b1 b2 b3 b4 =>
     refine .own ?_ b2 b3 b4
     rw [az]
     ·exact b1
     ·intro e2
      subst e2
      exact r.dj k i _ _ e hk h (by rw [hσ,q1])
  ·by_cases ei:k=i
   ·subst ei
    rw [List.getElem?_set_ne hij] at e2
    exact r.dj k j _ _ hij hk e2
   ·rw [List.getElem?_set_ne ei] at e1
    by_cases ej:k=j
    ·subst ej
     exact r.dj i k _ _ hij e1 hk
    ·rw [List.getElem?_set_ne ej] at e2
     exact r.dj i j _ _ hij e1 e2
noncomputable def fz (k:Nat) (ρ:List Sl):List Sl:=match ρ[k]? with
 | some (.own xs)=>ρ.set k (.d (.list xs))
 | _=>ρ
theorem Rl.freeze (r:Rl PK pa G₀ H₀ m σ ρ G H) (k:Nat):∃ G',Sub G G'/\Rl PK pa G₀ H₀ m σ (fz k ρ) G' H:=by
 unfold fz
 split
 ·rename_i xs hk
  obtain ⟨o,h1,h2⟩:=r.sl k _ hk
  cases h2 with
  | @own p vs _ a1 a2 a3 a4 =>
   have hne:pa≠p:=λe=>by
    obtain ⟨u,hu⟩:=r.p0
    rw [e,a3] at hu; cases hu
   have hl:k < ρ.length:=(List.getElem?_eq_some_iff.mp hk).1
   have sb:Sub G (upd G p (.lst vs)):=Sub.new a2
   refine ⟨upd G p (.lst vs),sb,r.wd.freeze a1 a2 hne,⟨λb o h=>sb b o (r.st.gs b o h),λb o h=>?_,r.st.hk⟩,r.p0,λi s h=>?_,by rw [List.length_set]; exact r.len,λi j us ws hij e1 e2=>?_,Zeh r.dj2 λa h=>by cases h⟩
   ·by_cases e:b=p
    ·subst e; exact .inr a3
    ·rw [az e] at h; exact r.st.gn b o h
   ·by_cases e:k=i
    ·subst e
     rw [List.getElem?_set_self hl] at h
     cases h
     exact ⟨_,h1,.d (.lst bE (DnAll.mono sb a4))⟩
    ·rw [List.getElem?_set_ne e] at h
     obtain ⟨o,q1,q2⟩:=r.sl i s h
     refine ⟨o,q1,?_⟩
     cases q2 with
     | un=>exact .un
     | d z=>exact .d (z.mono sb)
     | pen=>exact .pen
     | dic b1 b2 b3 b4=>exact .dic b1 (by rw [az (λe2=>by subst e2; rw [a1] at b1; cases b1)]; exact b2) b3 (b4.mono sb)
     | own b1 b2 b3 b4 =>
      refine .own b1 ?_ b3 (DnAll.mono sb b4)
      rw [az]
      ·exact b2
      ·intro e2
       subst e2
       exact r.dj k i _ _ e hk h (by rw [h1,q1])
   ·have hi:k≠i:=λe=>by subst e; rw [List.getElem?_set_self hl] at e1; cases e1
    have hj:k≠j:=λe=>by subst e; rw [List.getElem?_set_self hl] at e2; cases e2
    rw [List.getElem?_set_ne hi] at e1
    rw [List.getElem?_set_ne hj] at e2
    exact r.dj i j _ _ hij e1 e2
 ·exact ⟨G,λ_ _ h=>h,r⟩
end
end L2
set_option Elab.async false
set_option linter.all false
set_option maxRecDepth 100000
namespace L2
open PySem PySem.Spec PyProof.Rows
noncomputable def TAe (PK:Pk) (i:List Sl->Tr PyData):TE:=λσ H Q=>∃ pa G₀ H₀ m ρ G,Rl PK pa G₀ H₀ m σ ρ G H/\(i ρ).ok m λm' x=>Kn PK pa m' G H x Q
noncomputable def TAt (PK:Pk) (i:List Sl->Tr Bool):TT:=λσ H Q=>∃ pa G₀ H₀ m ρ G,Rl PK pa G₀ H₀ m σ ρ G H/\(i ρ).ok m λm' b=>∀ G' H',Stp pa G H G' H'->Wd PK pa m' G' H'->Q b H'
noncomputable def TAd (PK:Pk) (i:List Sl->Tr (List PyData)):TA:=λσ H Q=>∃ pa G₀ H₀ m ρ G,Rl PK pa G₀ H₀ m σ ρ G H/\(i ρ).ok m λm' xs=>∀ vs G' H',Stp pa G H G' H'->Wd PK pa m' G' H'->DnAll G' vs xs->Q vs H'
noncomputable def Ko1 (PK:Pk) (pa:Addr) (m:Nat) (G H:Hp) (xs:List PyData) (Q:VK):Prop:=∀ p vs G' H',Stp pa G H G' H'->Wd PK pa m G' H'->H p=none->G' p=none->H' p=some (.lst vs)->DnAll G' vs xs->Q (.ref p) H'
noncomputable def d7 (PK:Pk) (i:List Sl->Tr (List PyData)):TE:=λσ H Q=>∃ pa G₀ H₀ m ρ G,Rl PK pa G₀ H₀ m σ ρ G H/\(i ρ).ok m λm' xs=>Ko1 PK pa m' G H xs Q
inductive ArOk (pa:Addr) (G:Hp):V->Sl->Prop
 | d {v:V} {x:PyData}:Dn G v x->ArOk pa G v (.d x)
 | pen:ArOk pa G (.ref pa) .pen
inductive ArsOk (pa:Addr) (G:Hp):List V->List Sl->Prop
 | nil:ArsOk pa G [] []
 | cons {v:V} {vs:List V} {s:Sl} {ss:List Sl}:ArOk pa G v s->ArsOk pa G vs ss->ArsOk pa G (v::vs) (s::ss)
theorem ArOk.mono {pa:Addr} {G G':Hp} {v:V} {s:Sl} (h:ArOk pa G v s) (e:Sub G G'):ArOk pa G' v s:=by
 cases h with
 | d z=>exact .d (z.mono e)
 | pen=>exact .pen
theorem ArsOk.mono {pa:Addr} {G G':Hp} (e:Sub G G') {vs:List V} {ss:List Sl} (h:ArsOk pa G vs ss):ArsOk pa G' vs ss:=by
 induction h with
 | nil=>exact .nil
 | cons h t ih=>exact .cons (h.mono e) ih
theorem ArsOk.length {pa:Addr} {G:Hp} {vs:List V} {ss:List Sl} (h:ArsOk pa G vs ss):vs.length=ss.length:=by
 induction h with
 | nil=>rfl
 | cons h t ih=>exact congrArg (·+1) ih
noncomputable def TAa (PK:Pk) (i:List Sl->Tr (List Sl)):TA:=λσ H Q=>∃ pa G₀ H₀ m ρ G,Rl PK pa G₀ H₀ m σ ρ G H/\(i ρ).ok m λm' as=>∀ vs G' H',Stp pa G H G' H'->Wd PK pa m' G' H'->ArsOk pa G' vs as->Q vs H'
inductive Re where
 | d (x:PyData) | own (xs:List PyData)
noncomputable def Re.val:Re->PyData
 | .d x=>x
 | .own xs=>.list xs
@[simp] theorem Re.val_d (x:PyData):(Re.d x).val=x:=rfl
@[simp] theorem Re.val_own (xs:List PyData):(Re.own xs).val=.list xs:=rfl
inductive Ou where
 | next (ρ:List Sl) | ret (r:Re) | brk (ρ:List Sl) | cont (ρ:List Sl)
noncomputable def ZmF (H₀ G H:Hp) (v:V):Re->Prop
 | .d x=>Dn G v x
 | .own xs=>∃ p vs,v=.ref p/\H p=some (.lst vs)/\G p=none/\H₀ p=none/\DnAll G vs xs
noncomputable def Kr (PK:Pk) (pa:Addr) (m:Nat) (G₀ H₀:Hp) (r:Re) (Q:VK):Prop:=∀ v G H,Stp pa G₀ H₀ G H->Wd PK pa m G H->ZmF H₀ G H v r->Q v H
noncomputable def Ko (PK:Pk) (pa:Addr) (G₀ H₀ Gs:Hp) (D:Ends) (m:Nat):Ou->Prop
 | .next ρ=>∀ σ G H,Sub Gs G->Rl PK pa G₀ H₀ m σ ρ G H->D.nx σ H
 | .ret r=>Kr PK pa m G₀ H₀ r D.rt
 | .brk ρ=>∀ σ G H,Sub Gs G->Rl PK pa G₀ H₀ m σ ρ G H->D.bk σ H
 | .cont ρ=>∀ σ G H,Sub Gs G->Rl PK pa G₀ H₀ m σ ρ G H->D.ct σ H
noncomputable def bg (PK:Pk) (i:List Sl->Tr Ou):TS:=λD σ H=>∃ pa G₀ H₀ m ρ G,Rl PK pa G₀ H₀ m σ ρ G H/\(i ρ).ok m (Ko PK pa G₀ H₀ G D)
theorem PE.imp {X:Cx} {e:Expr} {t t':TE} (h:PE X e t) (q:∀ σ H Q,t' σ H Q->t σ H Q):PE X e t':=λpins s σ H Q I z=>h pins s σ H Q I (q σ H Q z)
theorem PT.imp {X:Cx} {e:Expr} {t t':TT} (h:PT X e t) (q:∀ σ H Q,t' σ H Q->t σ H Q):PT X e t':=λpins s σ H Q I z=>h pins s σ H Q I (q σ H Q z)
theorem PW.imp {X:Cx} {e:Expr} {t t':TT} (h:PW X e t) (q:∀ σ H Q,t' σ H Q->t σ H Q):PW X e t':=λwh pins s σ H Q I z=>h wh pins s σ H Q I (q σ H Q z)
theorem PA.imp {X:Cx} {e:List Expr} {t t':TA} (h:PA X e t) (q:∀ σ H Q,t' σ H Q->t σ H Q):PA X e t':=λpos pins s σ H Q I z=>h pos pins s σ H Q I (q σ H Q z)
theorem PS.imp {X:Cx} {e:Stmt} {t t':TS} (h:PS X e t) (q:∀ D σ H,t' D σ H->t D σ H):PS X e t':=λpins s σ H D I z=>h pins s σ H D I (q D σ H z)
theorem PSs.imp {X:Cx} {e:List Stmt} {t t':TS} (h:PSs X e t) (q:∀ D σ H,t' D σ H->t D σ H):PSs X e t':=λpins s σ H D I z=>h pins s σ H D I (q D σ H z)
variable {PK:Pk} {X:Cx} {a b c e:Expr} {es:List Expr} {pos:Pos} {i j l:List Sl->Tr PyData}
theorem TAe.then {σ:St} {H:Hp} {β:Type} {k:PyData->Tr β} {Z:Nat->β->Prop} {Q:VK} {pa:Addr} {G₀ H₀ G:Hp} {m:Nat} {ρ:List Sl} (R:Rl PK pa G₀ H₀ m σ ρ G H) (h:((i ρ).bind k).ok m Z)
  (hq:∀ m1 x v G1 H1,Stp pa G H G1 H1->Wd PK pa m1 G1 H1->Rl PK pa G₀ H₀ m1 σ ρ G1 H1->Dn G1 v x->(k x).ok m1 Z->Q v H1):TAe PK i σ H Q:=by
 refine ⟨pa,G₀,H₀,m,ρ,G,R,Tr.ok_mono (Tr.ok_bind.mp h) λm1 x hx v G1 H1 s1 w1 d1=>?_⟩
 exact hq m1 x v G1 H1 s1 w1 (R.step s1 w1) d1 hx
noncomputable def aa (k:Nat):List Sl->Tr PyData:=λρ=>match ρ[k]? with
 | some (.d x)=>.ret x
 | _=>.fail
noncomputable def aC (d:PyData):List Sl->Tr PyData:=λ_=>.ret d
theorem ac {k:Nat} (h:PE X e (dm k)):PE X e (TAe PK (aa k)):=h.imp λσ H Q hz0=>by
 obtain ⟨pa,G₀,H₀,m,ρ,G,R,q⟩:=hz0
 unfold aa at q
 split at q
 ·rename_i x hx
  obtain ⟨o,h1,h2⟩:=R.sl k _ hx
  cases h2 with
  | d z=>exact ⟨_,h1,Kn.here q R.wd z⟩
 ·exact q.elim
theorem sU {v:V} {d:PyData} (h:PE X e (tC v)) (hd:∀ G,Dn G v d):PE X e (TAe PK (aC d)):=h.imp λσ H Q hz0=>by
 obtain ⟨pa,G₀,H₀,m,ρ,G,R,q⟩:=hz0
 exact Kn.here q R.wd (hd G)
theorem ak {n:Int} {k pos}:PE X (.Constant (.int n) k pos) (TAe PK (aC (.int n))):=sU bH λ_=>.int n
theorem nh {n:Bool} {k pos}:PE X (.Constant (.bool n) k pos) (TAe PK (aC (.bool n))):=sU ZhX λ_=>.bl n
theorem p7 {k pos}:PE X (.Constant .none k pos) (TAe PK (aC .none)):=sU ZhO λ_=>.non
theorem d4 {x:Str} {n:Int} (hg:Gl X x) (h:∃ t,X.mg x=some (.int n t)) (hd:(x == ("__debug__":Str))=false:=by decide):PE X (.Name x pos) (TAe PK (aC (.int n))):=sU (ZhR hg h hd) λ_=>.int n
noncomputable def cF (r:R2) (f:PyData->PyData->Option PyData):Prop:=∀ (PK:Pk) (pa:Addr) (m:Nat) (G H:Hp) (x y:V) (dx dy dz:PyData) (Q:VK),Wd PK pa m G H->Dn G x dx->Dn G y dy->f dx dy=some dz->Kn PK pa m G H dz Q->r x y H Q
noncomputable def ad (f:PyData->PyData->Option PyData) (i j:List Sl->Tr PyData):List Sl->Tr PyData:=λρ=>(i ρ).bind λx=>(j ρ).bind λy=>Tr.of (f x y)
theorem tm {r:R2} {f:PyData->PyData->Option PyData} (hv:cF r f):∀ σ H Q,TAe PK (ad f i j) σ H Q->nz r (TAe PK i) (TAe PK j) σ H Q:=by
 rintro σ H Q ⟨pa,G₀,H₀,m,ρ,G,R,q⟩
 refine TAe.then R q λm1 x v G1 H1 s1 w1 R1 d1 q1=>?_
 refine TAe.then R1 q1 λm2 y u G2 H2 s2 w2 R2 d2 q2=>?_
 obtain ⟨z,hz,k⟩:=Tr.ok_of q2
 exact hv PK pa m2 G2 H2 v u x y z Q w2 (d1.mono s2.gs) d2 hz (Kn.later k (s1.trans s2 w1.some) w2.some)
theorem aq {op:Operator} {r:R2} {f:PyData->PyData->Option PyData} (ho:OpR X (binaryOp op) r) (hv:cF r f) (ha:PE X a (TAe PK i)) (hb:PE X b (TAe PK j)):PE X (.BinOp a op b pos) (TAe PK (ad f i j)) :=
 (bY ho ha hb).imp (tm hv)
theorem sT {op:CmpOp} {r:R2} {f:PyData->PyData->Option PyData} (ho:OpR X (compareOp op) r) (hv:cF r f) (ha:PE X a (TAe PK i)) (hb:PE X b (TAe PK j)) (hm:behindInMarks op b=false):PE X (.Compare a [op] [b] pos) (TAe PK (ad f i j)) :=
 (ZhV ho ha hb hm).imp (tm hv)
theorem ba {r:R2} {f:PyData->PyData->Option PyData} (hr:IxR X r) (hv:cF r f) (ha:PE X a (TAe PK i)) (hb:PE X b (TAe PK j)) (hs:Zfw b):PE X (.Subscript a b pos) (TAe PK (ad f i j)) :=
 (q9 hr ha hb hs).imp (tm hv)
noncomputable def oB:PyData->Option Bool
 | .bool b=>some b
 | _=>none
@[simp] theorem Zm6 (b:Bool):oB (.bool b)=some b:=rfl
noncomputable def bM (i:List Sl->Tr PyData):List Sl->Tr Bool:=λρ=>(i ρ).bind λx=>Tr.of (oB x)
theorem ZmA:∀ σ H Q,TAt PK (bM i) σ H Q->qA (TAe PK i) σ H Q:=by
 rintro σ H Q ⟨pa,G₀,H₀,m,ρ,G,R,q⟩
 refine TAe.then R q λm1 x v G1 H1 s1 w1 R1 d1 q1=>?_
 obtain ⟨b,hb,k⟩:=Tr.ok_of q1
 cases d1 <;> simp only [oB] at hb <;> cases hb
 exact ⟨_,rfl,k G1 H1 s1 w1⟩
theorem Zf6 {t t':TE} (h:∀ σ H Q,t' σ H Q->t σ H Q):∀ σ H Q,qA t' σ H Q->qA t σ H Q:=λσ H Q z=>h σ H _ z
theorem ck {op:CmpOp} {r:R2} {f:PyData->PyData->Option PyData} (ho:OpR X (compareOp op) r) (hv:cF r f) (ha:PE X a (TAe PK i)) (hb:PE X b (TAe PK j)) (hm:behindInMarks op b=false):PT X (.Compare a [op] [b] pos) (TAt PK (bM (ad f i j))) :=
 (oY ho ha hb hm).imp λσ H Q z=>Zf6 (tm hv) σ H Q (ZmA σ H Q z)
noncomputable def Zay:PyData->Option Bool
 | .bool b=>some b
 | .int n=>some (n != 0)
 | .none=>some false
 | .list xs=>some (!xs.isEmpty)
 | .tuple xs=>some (!xs.isEmpty)
 | _=>none
noncomputable def ip (i:List Sl->Tr PyData):List Sl->Tr Bool:=λρ=>(i ρ).bind λx=>Tr.of (Zay x)
theorem DnAll.isEmpty {H:Hp} {vs:List V} {ds:List PyData} (h:DnAll H vs ds):vs.isEmpty=ds.isEmpty:=by
 cases h <;> rfl
theorem om (h:PE X e (TAe PK i)) (he:∀ whole,isTrue e X.env whole=(do let v <- whole; standAt e.pos; holding [v] (truthy v)):=by intro _; rfl):PT X e (TAt PK (ip i)):=(Zhk h he).imp λσ H Q hz0=>by
 obtain ⟨pa,G₀,H₀,m,ρ,G,R,q⟩:=hz0
 refine TAe.then R q λm1 x v G1 H1 s1 w1 R1 d1 q1=>?_
 obtain ⟨b,hb,k⟩:=Tr.ok_of q1
 have fin:=k G1 H1 s1 w1
 cases d1 with
 | non=>cases hb; exact ⟨_,rfl,fin⟩
 | bl b=>cases hb; exact ⟨_,rfl,fin⟩
 | int n=>cases hb; exact ⟨_,rfl,fin⟩
 | str _=>cases hb
 | tup h1 h2=>cases hb; exact ⟨_,.inr (.inl ⟨_,SqT.of (w1.sub _ _ h1),rfl⟩),by rw [h2.isEmpty]; exact fin⟩
 | lst h1 h2=>cases hb; exact ⟨_,.inl ⟨_,SqL.of (w1.sub _ _ h1),rfl⟩,by rw [h2.isEmpty]; exact fin⟩
 | dct _ _=>cases hb
noncomputable def wX (i j:List Sl->Tr Bool):List Sl->Tr Bool:=λρ=>(i ρ).bind λx=>if x=true then j ρ else .ret false
noncomputable def qc (i j:List Sl->Tr Bool):List Sl->Tr Bool:=λρ=>(i ρ).bind λx=>if x=true then .ret true else j ρ
noncomputable def qd (i:List Sl->Tr Bool):List Sl->Tr Bool:=λρ=>(i ρ).bind λx=>.ret (!x)
variable {p q:List Sl->Tr Bool} {rest:List Expr}
theorem TAt.then {σ:St} {H:Hp} {β:Type} {k:Bool->Tr β} {Z:Nat->β->Prop} {Q:Bool->Hp->Prop} {pa:Addr} {G₀ H₀ G:Hp} {m:Nat} {ρ:List Sl} (R:Rl PK pa G₀ H₀ m σ ρ G H) (h:((p ρ).bind k).ok m Z)
  (hq:∀ m1 x G1 H1,Stp pa G H G1 H1->Wd PK pa m1 G1 H1->Rl PK pa G₀ H₀ m1 σ ρ G1 H1->(k x).ok m1 Z->Q x H1):TAt PK p σ H Q:=by
 refine ⟨pa,G₀,H₀,m,ρ,G,R,Tr.ok_mono (Tr.ok_bind.mp h) λm1 x hx G1 H1 s1 w1=>?_⟩
 exact hq m1 x G1 H1 s1 w1 (R.step s1 w1) hx
theorem Ze5 {G₀ H₀ G H G1 H1:Hp} {m:Nat} {σ:St} {ρ:List Sl} {pa:Addr} {Q:Bool->Hp->Prop} (R1:Rl PK pa G₀ H₀ m σ ρ G1 H1) (s1:Stp pa G H G1 H1) (h:(q ρ).ok m λm' b=>∀ G' H',Stp pa G H G' H'->Wd PK pa m' G' H'->Q b H'):TAt PK q σ H1 Q :=
 ⟨pa,G₀,H₀,m,ρ,G1,R1,Tr.ok_mono h λm2 b k G2 H2 s2 w2=>k G2 H2 (s1.trans s2 R1.wd.some) w2⟩
theorem wM {G₀ H₀ G H G1 H1:Hp} {m:Nat} {σ:St} {ρ:List Sl} {pa:Addr} {Q:VK} (R1:Rl PK pa G₀ H₀ m σ ρ G1 H1) (s1:Stp pa G H G1 H1) (h:(i ρ).ok m λm' x=>Kn PK pa m' G H x Q):TAe PK i σ H1 Q :=
 ⟨pa,G₀,H₀,m,ρ,G1,R1,Tr.ok_mono h λm2 b k=>Kn.later k s1 R1.wd.some⟩
theorem Zl9 (ha:PT X a (TAt PK p)):PW X (.BoolOp .And [a] pos) (TAt PK p):=Zcf ha
theorem wB (ha:PT X a (TAt PK p)):PW X (.BoolOp .Or [a] pos) (TAt PK p):=Zhh ha
theorem Zma (ha:PT X a (TAt PK p)) (hb:PW X (.BoolOp .And (b::rest) pos) (TAt PK q)):PW X (.BoolOp .And (a::b::rest) pos) (TAt PK (wX p q)):=(Zcg ha hb).imp λσ H Q hz0=>by
 obtain ⟨pa,G₀,H₀,m,ρ,G,R,z⟩:=hz0
 refine TAt.then R z λm1 x G1 H1 s1 w1 R1 q1=>?_
 cases x with
 | true=>rw [if_pos rfl] at q1 ⊢; exact Ze5 R1 s1 q1
 | false=>rw [if_neg Bool.false_ne_true] at q1 ⊢; exact q1 G1 H1 s1 w1
theorem wC (ha:PT X a (TAt PK p)) (hb:PW X (.BoolOp .Or (b::rest) pos) (TAt PK q)):PW X (.BoolOp .Or (a::b::rest) pos) (TAt PK (qc p q)):=(Zhi ha hb).imp λσ H Q hz0=>by
 obtain ⟨pa,G₀,H₀,m,ρ,G,R,z⟩:=hz0
 refine TAt.then R z λm1 x G1 H1 s1 w1 R1 q1=>?_
 cases x with
 | true=>rw [if_pos rfl] at q1 ⊢; exact q1 G1 H1 s1 w1
 | false=>rw [if_neg Bool.false_ne_true] at q1 ⊢; exact Ze5 R1 s1 q1
theorem sO (h:PW X e (TAt PK p)):PT X e (TAt PK p):=h.pt
theorem wE (ha:PT X a (TAt PK p)):PT X (.UnaryOp .Not a pos) (TAt PK (qd p)):=(Zhl ha).imp λσ H Q hz0=>by
 obtain ⟨pa,G₀,H₀,m,ρ,G,R,z⟩:=hz0
 refine TAt.then R z λm1 x G1 H1 s1 w1 R1 q1=>?_
 exact q1 G1 H1 s1 w1
noncomputable def wW (i j:List Sl->Tr PyData):List Sl->Tr PyData:=λρ=>(bM i ρ).bind λx=>if x=true then j ρ else .ret (.bool false)
theorem TAe.thenB {σ:St} {H:Hp} {β:Type} {k:Bool->Tr β} {Z:Nat->β->Prop} {Q:VK} {pa:Addr} {G₀ H₀ G:Hp} {m:Nat} {ρ:List Sl} (R:Rl PK pa G₀ H₀ m σ ρ G H) (h:((bM i ρ).bind k).ok m Z)
  (hq:∀ m1 c G1 H1,Stp pa G H G1 H1->Wd PK pa m1 G1 H1->Rl PK pa G₀ H₀ m1 σ ρ G1 H1->(k c).ok m1 Z->Q (.bl c) H1):TAe PK i σ H Q:=by
 unfold bM at h
 rw [Tr.bind_assoc] at h
 refine TAe.then R h λm1 x v G1 H1 s1 w1 R1 d1 q1=>?_
 rw [Tr.ok_bind] at q1
 obtain ⟨c,hb,q1⟩:=Tr.ok_of q1
 cases d1 <;> simp only [oB] at hb <;> cases hb
 exact hq m1 _ G1 H1 s1 w1 R1 q1
theorem Zms {op} (h:PE X a (TAe PK i)):PE X (.BoolOp op [a] pos) (TAe PK i):=ZhN h
theorem Zmv (ha:PE X a (TAe PK i)) (hb:PE X (.BoolOp .And (b::rest) pos) (TAe PK j)):PE X (.BoolOp .And (a::b::rest) pos) (TAe PK (wW i j)):=(ZhY ha hb).imp λσ H Q hz0=>by
 obtain ⟨pa,G₀,H₀,m,ρ,G,R,z⟩:=hz0
 refine TAe.thenB R z λm1 x G1 H1 s1 w1 R1 q1=>⟨x,rfl,?_⟩
 cases x with
 | true=>rw [if_pos rfl] at q1 ⊢; exact wM R1 s1 q1
 | false=>rw [if_neg Bool.false_ne_true] at q1 ⊢; exact (Kn.later q1 s1 w1.some).here w1 (.bl false)
noncomputable def wT (p:List Sl->Tr Bool) (i j:List Sl->Tr PyData):List Sl->Tr PyData:=λρ=>(p ρ).bind λx=>if x=true then i ρ else j ρ
theorem Zmt (hc:PT X c (TAt PK p)) (ha:PE X a (TAe PK i)) (hb:PE X b (TAe PK j)):PE X (.IfExp c a b pos) (TAe PK (wT p i j)):=(ZhP hc ha hb).imp λσ H Q hz0=>by
 obtain ⟨pa,G₀,H₀,m,ρ,G,R,z⟩:=hz0
 refine TAt.then R z λm1 x G1 H1 s1 w1 R1 q1=>?_
 cases x with
 | true=>rw [if_pos rfl] at q1 ⊢; exact wM R1 s1 q1
 | false=>rw [if_neg Bool.false_ne_true] at q1 ⊢; exact wM R1 s1 q1
variable {is:List Sl->Tr (List PyData)}
noncomputable def al:List Sl->Tr (List PyData):=λ_=>.ret []
noncomputable def af (i:List Sl->Tr PyData) (is:List Sl->Tr (List PyData)):List Sl->Tr (List PyData):=λρ=>(i ρ).bind λx=>(is ρ).bind λxs=>.ret (x::xs)
theorem au:PA X [] (TAd PK al):=cb.imp λσ H Q hz0=>by
 obtain ⟨pa,G₀,H₀,m,ρ,G,R,z⟩:=hz0
 exact z [] G H .refl R.wd .nil
theorem TAd.then {σ:St} {H:Hp} {β:Type} {k:List PyData->Tr β} {Z:Nat->β->Prop} {Q:List V->Hp->Prop} {pa:Addr} {G₀ H₀ G:Hp} {m:Nat} {ρ:List Sl} (R:Rl PK pa G₀ H₀ m σ ρ G H) (h:((is ρ).bind k).ok m Z)
  (hq:∀ m1 xs vs G1 H1,Stp pa G H G1 H1->Wd PK pa m1 G1 H1->Rl PK pa G₀ H₀ m1 σ ρ G1 H1->DnAll G1 vs xs->(k xs).ok m1 Z->Q vs H1):TAd PK is σ H Q:=by
 refine ⟨pa,G₀,H₀,m,ρ,G,R,Tr.ok_mono (Tr.ok_bind.mp h) λm1 x hx v G1 H1 s1 w1 d1=>?_⟩
 exact hq m1 x v G1 H1 s1 w1 (R.step s1 w1) d1 hx
theorem ag (ha:PE X e (TAe PK i)) (hr:PA X es (TAd PK is)) (hs:starEach (e::es) X.env=(false,eval e X.env)::starEach es X.env:=by rfl):PA X (e::es) (TAd PK (af i is)):=(bo ha hr hs).imp λσ H Q hz0=>by
 obtain ⟨pa,G₀,H₀,m,ρ,G,R,z⟩:=hz0
 refine TAe.then R z λm1 x v G1 H1 s1 w1 R1 d1 q1=>?_
 refine TAd.then R1 q1 λm2 xs vs G2 H2 s2 w2 R2 d2 q2=>?_
 exact q2 _ _ _ (s1.trans s2 w1.some) w2 (.cons (d1.mono s2.gs) d2)
noncomputable def small (n:Nat):Bool:=decide (n<=sizeLine)
noncomputable def dO (is:List Sl->Tr (List PyData)):List Sl->Tr PyData:=λρ=>(is ρ).bind λxs=>if small xs.length=true then .ret (.tuple xs) else .fail
noncomputable def bO (is:List Sl->Tr (List PyData)):List Sl->Tr PyData:=λρ=>(is ρ).bind λxs=>.ret (.list xs)
noncomputable def cD (is:List Sl->Tr (List PyData)):List Sl->Tr (List PyData):=λρ=>(is ρ).bind λxs=>if small xs.length=true then .ret xs else .fail
theorem ff {α:Type} {c:Bool} {t:Tr α} {m:Nat} {Q:Nat->α->Prop} (h:(if c=true then t else .fail).ok m Q):c=true/\t.ok m Q:=by
 cases c with
 | true=>exact ⟨rfl,h⟩
 | false=>exact h.elim
theorem eW {x1} (h:PA X es (TAd PK is)):PE X (.Tuple es x1 pos) (TAe PK (dO is)):=(ZhL h).imp λσ H Q hz0=>by
 obtain ⟨pa,G₀,H₀,m,ρ,G,R,z⟩:=hz0
 refine TAd.then R z λm1 xs vs G1 H1 s1 w1 R1 d1 q1=>?_
 obtain ⟨hs,k⟩:=ff q1
 exact ⟨by rw [d1.length]; exact of_decide_eq_true hs,λp hp=>(Kn.later k s1 w1.some).tup w1 d1 hp⟩
theorem Ko1.new {pa:Addr} {m:Nat} {G H:Hp} {xs:List PyData} {vs:List V} {Q:VK} {p:Addr} (k:Ko1 PK pa m G H xs Q) (w:Wd PK pa m G H) (d:DnAll G vs xs) (hp:H p=none):Q (.ref p) (upd H p (.lst vs)):=by
 obtain ⟨w1,s1⟩:=w.own (o:=.lst vs) hp
 exact k p vs G _ s1 w1 hp (w.gnone hp) bE d
theorem Ko1.later {pa:Addr} {m:Nat} {G H G1 H1:Hp} {xs:List PyData} {Q:VK} (k:Ko1 PK pa m G H xs Q) (s:Stp pa G H G1 H1) (hp:∃ o,H1 pa=some o):Ko1 PK pa m G1 H1 xs Q:=λp vs G' H' s' w' h1 h2 h3 h4=>by
 refine k p vs G' H' (s.trans s' hp) w' ?_ h2 h3 h4
 cases e:H p with
 | none=>rfl
 | some u =>
  by_cases hc:p=pa
  ·subst hc
   obtain ⟨o,z⟩:=hp
   rw [h1] at z; cases z
  ·rw [s.hk p u e hc] at h1; cases h1
theorem c8 (h:PA X es (TAd PK is)):PE X (.List es pos) (d7 PK (cD is)):=(uX h).imp λσ H Q hz0=>by
 obtain ⟨pa,G₀,H₀,m,ρ,G,R,z⟩:=hz0
 refine TAd.then R z λm1 xs vs G1 H1 s1 w1 R1 d1 q1=>?_
 obtain ⟨hs,k⟩:=ff q1
 exact ⟨by rw [d1.length]; exact of_decide_eq_true hs,λp hp=>(Ko1.later k s1 w1.some).new w1 d1 hp⟩
theorem Ko1.of {pa:Addr} {m:Nat} {G H:Hp} {xs:List PyData} {Q:VK} (k:Kn PK pa m G H (.list xs) Q) (hp:∃ o,H pa=some o):Ko1 PK pa m G H xs Q:=λp vs G' H' s w h1 h2 h3 h4=>by
 have hne:pa≠p:=λe=>by
  obtain ⟨o,z⟩:=hp
  rw [e,h1] at z; cases z
 have sb:Sub G' (upd G' p (.lst vs)):=Sub.new h2
 refine k _ (upd G' p (.lst vs)) H' ⟨λb o h=>sb b o (s.gs b o h),λb o h=>?_,s.hk⟩ (w.freeze h3 h2 hne) (.lst bE (DnAll.mono sb h4))
 by_cases e:b=p
 ·subst e; exact .inr h1
 ·rw [az e] at h; exact s.gn b o h
theorem ce (h:PE X e (d7 PK is)):PE X e (TAe PK (bO is)):=h.imp λσ H Q hz0=>by
 obtain ⟨pa,G₀,H₀,m,ρ,G,R,z⟩:=hz0
 refine ⟨pa,G₀,H₀,m,ρ,G,R,Tr.ok_mono (Tr.ok_bind.mp z) λm1 xs k=>Ko1.of k R.wd.some⟩
noncomputable def eG (r:List V->Hp->VK->Prop) (f:List PyData->Option PyData):Prop:=∀ (PK:Pk) (pa:Addr) (m:Nat) (G H:Hp) (vs:List V) (ds:List PyData) (d:PyData) (Q:VK),Wd PK pa m G H->DnAll G vs ds->f ds=some d->Kn PK pa m G H d Q->r vs H Q
noncomputable def tt (r:List V->Hp->VK->Prop) (f:List PyData->Option (List PyData)):Prop:=∀ (PK:Pk) (pa:Addr) (m:Nat) (G H:Hp) (vs:List V) (ds:List PyData) (d:List PyData) (Q:VK),Wd PK pa m G H->DnAll G vs ds->f ds=some d->Ko1 PK pa m G H d Q->r vs H Q
noncomputable def aW (f:List PyData->Option PyData) (is:List Sl->Tr (List PyData)):List Sl->Tr PyData:=λρ=>(is ρ).bind λxs=>Tr.of (f xs)
noncomputable def qh (f:List PyData->Option (List PyData)) (is:List Sl->Tr (List PyData)):List Sl->Tr (List PyData):=λρ=>(is ρ).bind λxs=>Tr.of (f xs)
theorem ZmC {r:List V->Hp->VK->Prop} {f:List PyData->Option PyData} (hv:eG r f):∀ σ H Q,TAe PK (aW f is) σ H Q->eJ r (TAd PK is) σ H Q:=by
 rintro σ H Q ⟨pa,G₀,H₀,m,ρ,G,R,z⟩
 refine TAd.then R z λm1 xs vs G1 H1 s1 w1 R1 d1 q1=>?_
 obtain ⟨d,hd,k⟩:=Tr.ok_of q1
 exact hv PK pa m1 G1 H1 vs xs d Q w1 d1 hd (Kn.later k s1 w1.some)
theorem ZmB {r:List V->Hp->VK->Prop} {f:List PyData->Option (List PyData)} (hv:tt r f):∀ σ H Q,d7 PK (qh f is) σ H Q->eJ r (TAd PK is) σ H Q:=by
 rintro σ H Q ⟨pa,G₀,H₀,m,ρ,G,R,z⟩
 refine TAd.then R z λm1 xs vs G1 H1 s1 w1 R1 d1 q1=>?_
 obtain ⟨d,hd,k⟩:=Tr.ok_of q1
 exact hv PK pa m1 G1 H1 vs xs d Q w1 d1 hd (Ko1.later k s1 w1.some)
theorem bb {t:TA} {r:List V->Hp->VK->Prop} {f:List PyData->Option PyData} (h:PE X e (eJ r (TAd PK is))) (hv:eG r f):PE X e (TAe PK (aW f is)):=h.imp (ZmC hv)
theorem Zfj {t:TA} {r:List V->Hp->VK->Prop} {f:List PyData->Option (List PyData)} (h:PE X e (eJ r (TAd PK is))) (hv:tt r f):PE X e (d7 PK (qh f is)):=h.imp (ZmB hv)
variable {as:List Sl->Tr (List Sl)}
noncomputable def aA:List Sl->Tr (List Sl):=λ_=>.ret []
noncomputable def ah (i:List Sl->Tr PyData) (as:List Sl->Tr (List Sl)):List Sl->Tr (List Sl):=λρ=>(i ρ).bind λx=>(as ρ).bind λxs=>.ret (.d x::xs)
noncomputable def b9 (k:Nat) (as:List Sl->Tr (List Sl)):List Sl->Tr (List Sl):=λρ=>match ρ[k]? with
 | some .pen=>(as ρ).bind λxs=>.ret (.pen::xs)
 | _=>.fail
theorem aN:PA X [] (TAa PK aA):=cb.imp λσ H Q hz0=>by
 obtain ⟨pa,G₀,H₀,m,ρ,G,R,z⟩:=hz0
 exact z [] G H .refl R.wd .nil
theorem TAa.then {σ:St} {H:Hp} {β:Type} {k:List Sl->Tr β} {Z:Nat->β->Prop} {Q:List V->Hp->Prop} {pa:Addr} {G₀ H₀ G:Hp} {m:Nat} {ρ:List Sl} (R:Rl PK pa G₀ H₀ m σ ρ G H) (h:((as ρ).bind k).ok m Z)
  (hq:∀ m1 xs vs G1 H1,Stp pa G H G1 H1->Wd PK pa m1 G1 H1->Rl PK pa G₀ H₀ m1 σ ρ G1 H1->ArsOk pa G1 vs xs->(k xs).ok m1 Z->Q vs H1):TAa PK as σ H Q:=by
 refine ⟨pa,G₀,H₀,m,ρ,G,R,Tr.ok_mono (Tr.ok_bind.mp h) λm1 x hx v G1 H1 s1 w1 d1=>?_⟩
 exact hq m1 x v G1 H1 s1 w1 (R.step s1 w1) d1 hx
theorem aj (ha:PE X e (TAe PK i)) (hr:PA X es (TAa PK as)) (hs:starEach (e::es) X.env=(false,eval e X.env)::starEach es X.env:=by rfl):PA X (e::es) (TAa PK (ah i as)):=(bo ha hr hs).imp λσ H Q hz0=>by
 obtain ⟨pa,G₀,H₀,m,ρ,G,R,z⟩:=hz0
 refine TAe.then R z λm1 x v G1 H1 s1 w1 R1 d1 q1=>?_
 refine TAa.then R1 q1 λm2 xs vs G2 H2 s2 w2 R2 d2 q2=>?_
 exact q2 _ _ _ (s1.trans s2 w1.some) w2 (.cons (.d (d1.mono s2.gs)) d2)
theorem cr {k:Nat} (ha:PE X e (dm k)) (hr:PA X es (TAa PK as)) (hs:starEach (e::es) X.env=(false,eval e X.env)::starEach es X.env:=by rfl):PA X (e::es) (TAa PK (b9 k as)):=(bo ha hr hs).imp λσ H Q hz0=>by
 obtain ⟨pa,G₀,H₀,m,ρ,G,R,z⟩:=hz0
 unfold b9 at z
 split at z
 ·rename_i hk
  obtain ⟨o,h1,h2⟩:=R.sl k _ hk
  cases h2
  refine ⟨_,h1,?_⟩
  refine TAa.then R z λm2 xs vs G2 H2 s2 w2 R2 d2 q2=>?_
  exact q2 _ _ _ s2 w2 (.cons .pen d2)
 ·exact z.elim
noncomputable def wO (PK:Pk) (n:Nat) (f:List Sl->Tr Re):Sp:=λvs H Q _=>vs.length=n/\∃ pa m G as,Wd PK pa m G H/\ArsOk pa G vs as/\(f as).ok m λm' r=>Kr PK pa m' G H r Q
noncomputable def aH (f:List Sl->Tr Re) (as:List Sl->Tr (List Sl)):List Sl->Tr Re:=λρ=>(as ρ).bind f
noncomputable def aJ (f:List Sl->Tr Re):List Sl->Tr PyData:=λρ=>(f ρ).bind λr=>.ret r.val
noncomputable def tu (PK:Pk) (i:List Sl->Tr Re):TE:=λσ H Q=>∃ pa G₀ H₀ m ρ G,Rl PK pa G₀ H₀ m σ ρ G H/\(i ρ).ok m λm' r=>Kr PK pa m' G H r Q
theorem Kr.later {pa:Addr} {m:Nat} {G H G1 H1:Hp} {r:Re} {Q:VK} (k:Kr PK pa m G H r Q) (s:Stp pa G H G1 H1) (hp:∃ o,H1 pa=some o):Kr PK pa m G1 H1 r Q:=λv G' H' s' w' d=>by
 refine k v G' H' (s.trans s' hp) w' ?_
 cases r with
 | d x=>exact d
 | own xs =>
  obtain ⟨p,vs,e,h1,h2,h3,h4⟩:=d
  refine ⟨p,vs,e,h1,h2,?_,h4⟩
  cases e:H p with
  | none=>rfl
  | some u =>
   by_cases hc:p=pa
   ·subst hc
    obtain ⟨o,z⟩:=hp
    rw [h3] at z; cases z
   ·rw [s.hk p u e hc] at h3; cases h3
theorem Kr.of {pa:Addr} {m:Nat} {G H:Hp} {r:Re} {Q:VK} (k:Kn PK pa m G H r.val Q) (hp:∃ o,H pa=some o):Kr PK pa m G H r Q:=λv G' H' s w d=>by
 cases r with
 | d x=>exact k v G' H' s w d
 | own xs =>
  obtain ⟨p,vs,rfl,h1,h2,h3,h4⟩:=d
  exact Ko1.of k hp p vs G' H' s w h3 h2 h1 h4
theorem aO {f:List Sl->Tr Re} (h:PE X e (tu PK f)):PE X e (TAe PK (aJ f)):=h.imp (by
 intro σ H Q z
 obtain ⟨pa,G₀,H₀,m,ρ,G,R,z⟩:=z
 exact ⟨pa,G₀,H₀,m,ρ,G,R,Tr.ok_mono (Tr.ok_bind.mp z) λm1 r k=>Kr.of k R.wd.some⟩)
structure ACal (PK:Pk) (P:Program) (w:World) (K:PySem.W.Frag) (mg:Str->Option Value) (base:Heap) (x:Str) (k:Nat) (ps:List Str) (f:List Sl->Tr Re):Prop where
 cal:Callee P w K mg base x k ps (wO PK ps.length f)
 len:∀ as m Z,(f as).ok m Z->as.length=ps.length
theorem aM {x:Str} {k:Nat} {ps:List Str} {f:List Sl->Tr Re} {pp:Pos} (C:ACal PK X.prog X.w X.K X.mg X.base x k ps f) (hr:Room k X.A) (hg:Gl X x) (ha:PA X (e::es) (TAa PK as))
  (hdb:(x == ("__debug__":Str))=false:=by decide)
  (he:starEach (e::es) X.env=(false,eval e X.env)::starEach es X.env:=by rfl) (hpl:(backTo pos (starEach es X.env)).any (·.1)=false:=by rfl):PE X (.Call (.Name x pp) (e::es) [] pos) (tu PK (aH f as)) :=
 (uY C.cal hr hg ha hdb he hpl).imp λσ H Q hz0=>by
  obtain ⟨pa,G₀,H₀,m,ρ,G,R,z⟩:=hz0
  refine TAa.then R z λm1 xs vs G1 H1 s1 w1 R1 d1 q1=>?_
  show wO PK ps.length f (vs++[]) H1 Q E0
  rw [List.append_nil]
  exact ⟨by rw [d1.length]; exact C.len _ _ _ q1,pa,m1,G1,xs,w1,d1,Tr.ok_mono q1 λm2 r k=>Kr.later k s1 w1.some⟩
end L2
set_option Elab.async false
set_option linter.all false
set_option maxRecDepth 100000
namespace L2
open PySem PySem.Spec PyProof.Rows
variable {PK:Pk} {X:Cx} {a b c e:Expr} {es:List Expr} {pos:Pos} {i j l:List Sl->Tr PyData} {is:List Sl->Tr (List PyData)} {as:List Sl->Tr (List Sl)} {f:List Sl->Tr Re} {p q:List Sl->Tr Bool} {st:Stmt} {sts:List Stmt} {s t u:List Sl->Tr Ou}
noncomputable def ap (s t:List Sl->Tr Ou):List Sl->Tr Ou:=λρ=>(s ρ).bind λo=>match o with
 | .next ρ'=>t ρ'
 | o=>.ret o
noncomputable def cB:List Sl->Tr Ou:=λρ=>.ret (.next ρ)
theorem Ko.later {pa:Addr} {G₀ H₀ Gs G:Hp} {D:Ends} {m:Nat} {o:Ou} (k:Ko PK pa G₀ H₀ Gs D m o) (sb:Sub Gs G):Ko PK pa G₀ H₀ G D m o:=by
 cases o with
 | next ρ=>exact λσ G' H s R=>k σ G' H (λb o h=>s b o (sb b o h)) R
 | ret r=>exact k
 | brk ρ=>exact λσ G' H s R=>k σ G' H (λb o h=>s b o (sb b o h)) R
 | cont ρ=>exact λσ G' H s R=>k σ G' H (λb o h=>s b o (sb b o h)) R
theorem Sub.refl {G:Hp}:Sub G G:=λ_ _ h=>h
theorem Sub.trans {G G1 G2:Hp} (a:Sub G G1) (b:Sub G1 G2):Sub G G2:=λc o h=>b c o (a c o h)
theorem cS:PSs X [] (bg PK cB):=oZ.imp λD σ H hz0=>by
 obtain ⟨pa,G₀,H₀,m,ρ,G,R,z⟩:=hz0
 exact z σ G H .refl R
theorem Zft:∀ D σ H,bg PK (ap s t) D σ H->iw (bg PK s) (bg PK t) D σ H:=by
 rintro D σ H ⟨pa,G₀,H₀,m,ρ,G,R,z⟩
 refine ⟨pa,G₀,H₀,m,ρ,G,R,Tr.ok_mono (Tr.ok_bind.mp z) λm1 o k=>?_⟩
 cases o with
 | next ρ'=>exact λσ' G' H' sb R'=>⟨pa,G₀,H₀,m1,ρ',G',R',Tr.ok_mono k λ_ _ k'=>Ko.later k' sb⟩
 | ret r=>exact k
 | brk ρ'=>exact k
 | cont ρ'=>exact k
theorem av (h1:PS X st (bg PK s)) (h2:PSs X sts (bg PK t)):PSs X (st::sts) (bg PK (ap s t)):=(cK h1 h2).imp Zft
theorem aB (h1:PS X st (bg PK s)):PSs X [st] (bg PK s):=gT h1
noncomputable def qe:List Sl->Tr Ou:=λ_=>.fail
theorem Zfb:PS X st (bg PK qe):=λ_ _ _ _ _ _ h=>by
 obtain ⟨pa,G₀,H₀,m,ρ,G,R,z⟩:=h
 exact z.elim
noncomputable def sZ (i:List Sl->Tr PyData):List Sl->Tr Ou:=λρ=>(i ρ).bind λ_=>.ret (.next ρ)
theorem Zfc (he:PE X e (TAe PK i)) (hs:swapsWith e none pos.line X.env=pure false:=by rfl):PS X (.Expr e pos) (bg PK (sZ i)):=(fF he hs).imp λD σ H hz0=>by
 obtain ⟨pa,G₀,H₀,m,ρ,G,R,z⟩:=hz0
 refine TAe.then R z λm1 x v G1 H1 s1 w1 R1 d1 q1=>?_
 exact q1 σ G1 H1 s1.gs R1
noncomputable def bD (i:List Sl->Tr PyData):List Sl->Tr Ou:=λρ=>(i ρ).bind λx=>.ret (.ret (.d x))
theorem bI (he:PE X e (TAe PK i)):PS X (.Return (some e) pos) (bg PK (bD i)):=(fZ he).imp λD σ H hz0=>by
 obtain ⟨pa,G₀,H₀,m,ρ,G,R,z⟩:=hz0
 refine TAe.then R z λm1 x v G1 H1 s1 w1 R1 d1 q1=>?_
 exact q1 v G1 H1 R1.st w1 d1
noncomputable def wR (is:List Sl->Tr (List PyData)):List Sl->Tr Ou:=λρ=>(is ρ).bind λx=>.ret (.ret (.own x))
theorem Zmg (he:PE X e (d7 PK is)):PS X (.Return (some e) pos) (bg PK (wR is)):=(fZ he).imp λD σ H hz0=>by
 obtain ⟨pa,G₀,H₀,m,ρ,G,R,z⟩:=hz0
 refine ⟨pa,G₀,H₀,m,ρ,G,R,Tr.ok_mono (Tr.ok_bind.mp z) λm1 xs k p vs G1 H1 s1 w1 h1 h2 h3 h4=>?_⟩
 exact k (.ref p) G1 H1 (R.st.trans s1 R.wd.some) w1 ⟨p,vs,rfl,h3,h2,R.h0 h1,h4⟩
noncomputable def sX (f:List Sl->Tr Re):List Sl->Tr Ou:=λρ=>(f ρ).bind λr=>.ret (.ret r)
theorem Zfa (he:PE X e (tu PK f)):PS X (.Return (some e) pos) (bg PK (sX f)):=(fZ he).imp (by
 intro D σ H z
 obtain ⟨pa,G₀,H₀,m,ρ,G,R,z⟩:=z
 exact ⟨pa,G₀,H₀,m,ρ,G,R,Tr.ok_mono (Tr.ok_bind.mp z) λm1 r k=>Kr.later k R.st R.wd.some⟩)
noncomputable def eE (k:Nat):List Sl->Tr Ou:=λρ=>match ρ[k]? with
 | some (.d x)=>.ret (.ret (.d x))
 | some (.own xs)=>.ret (.ret (.own xs))
 | _=>.fail
theorem m9 {k:Nat} (he:PE X e (dm k)):PS X (.Return (some e) pos) (bg PK (eE k)):=(fZ he).imp λD σ H hz0=>by
 obtain ⟨pa,G₀,H₀,m,ρ,G,R,z⟩:=hz0
 unfold eE at z
 split at z
 ·rename_i x hx
  obtain ⟨o,h1,h2⟩:=R.sl k _ hx
  cases h2 with
  | d d1=>exact ⟨_,h1,z _ G H R.st R.wd d1⟩
 ·rename_i xs hx
  obtain ⟨o,h1,h2⟩:=R.sl k _ hx
  cases h2 with
  | own a1 a2 a3 a4=>exact ⟨_,h1,z _ G H R.st R.wd ⟨_,_,rfl,a1,a2,a3,a4⟩⟩
 ·exact z.elim
noncomputable def cE (p:List Sl->Tr Bool) (s t:List Sl->Tr Ou):List Sl->Tr Ou:=λρ=>(p ρ).bind λx=>if x=true then s ρ else t ρ
theorem cT {xs ys:List Stmt} (hc:PT X c (TAt PK p)) (ha:PSs X xs (bg PK s)) (hb:PSs X ys (bg PK t)):PS X (.If c xs ys pos) (bg PK (cE p s t)):=(o0 hc ha hb).imp λD σ H hz0=>by
 obtain ⟨pa,G₀,H₀,m,ρ,G,R,z⟩:=hz0
 refine TAt.then R z λm1 x G1 H1 s1 w1 R1 q1=>?_
 cases x with
 | true=>rw [if_pos rfl] at q1 ⊢; exact ⟨pa,G₀,H₀,m1,ρ,G1,R1,Tr.ok_mono q1 λ_ _ k'=>Ko.later k' s1.gs⟩
 | false=>rw [if_neg Bool.false_ne_true] at q1 ⊢; exact ⟨pa,G₀,H₀,m1,ρ,G1,R1,Tr.ok_mono q1 λ_ _ k'=>Ko.later k' s1.gs⟩
noncomputable def aR (k:Nat) (i:List Sl->Tr PyData):List Sl->Tr Ou:=λρ=>(i ρ).bind λx=>.ret (.next (ρ.set k (.d x)))
theorem aY {k:Nat} (h:PS X st (eK (TAe PK i) (fi k))):PS X st (bg PK (aR k i)):=h.imp λD σ H hz0=>by
 obtain ⟨pa,G₀,H₀,m,ρ,G,R,z⟩:=hz0
 refine TAe.then R z λm1 x v G1 H1 s1 w1 R1 d1 q1=>?_
 exact q1 _ G1 H1 s1.gs (R1.set d1 k)
noncomputable def fQ (k:Nat) (is:List Sl->Tr (List PyData)):List Sl->Tr Ou:=λρ=>(is ρ).bind λx=>.ret (.next (ρ.set k (.own x)))
theorem im {k:Nat} (h:PS X st (eK (d7 PK is) (fi k))):PS X st (bg PK (fQ k is)):=h.imp λD σ H hz0=>by
 obtain ⟨pa,G₀,H₀,m,ρ,G,R,z⟩:=hz0
 refine ⟨pa,G₀,H₀,m,ρ,G,R,Tr.ok_mono (Tr.ok_bind.mp z) λm1 xs k' p vs G1 H1 s1 w1 h1 h2 h3 h4=>?_⟩
 exact k' _ G1 H1 s1.gs ((R.step s1 w1).setO h3 h2 (R.h0 h1) h4 (λn ys e=>R.apart h1 n ys e) k)
noncomputable def qj (f:PyData->PyData->Option PyData) (k:Nat) (i:List Sl->Tr PyData):List Sl->Tr Ou:=λρ=>(aa k ρ).bind λx=>(i ρ).bind λy=>(Tr.of (f x y)).bind λz=>.ret (.next (ρ.set k (.d z)))
theorem Zfd {k:Nat} {r:R2} {g:PyData->PyData->Option PyData} (hv:cF r g) (h:PS X st (ZaI k (TAe PK i) r)):PS X st (bg PK (qj g k i)):=h.imp λD σ H hz0=>by
 obtain ⟨pa,G₀,H₀,m,ρ,G,R,z⟩:=hz0
 unfold qj aa at z
 split at z
 ·rename_i x hx
  obtain ⟨o,h1,h2⟩:=R.sl k _ hx
  cases h2 with
  | d d0 =>
   refine ⟨_,h1,?_⟩
   refine TAe.then R z λm1 y v G1 H1 s1 w1 R1 d1 q1=>?_
   rw [Tr.ok_bind] at q1
   obtain ⟨w,hw,q1⟩:=Tr.ok_of q1
   refine hv PK pa m1 G1 H1 _ v x y w _ w1 (d0.mono s1.gs) d1 hw λu G2 H2 s2 w2 d2=>?_
   exact q1 _ G2 H2 (s1.gs.trans s2.gs) ((R1.step s2 w2).set d2 k)
 ·exact z.elim
noncomputable def fS (k:Nat) (i:List Sl->Tr PyData):List Sl->Tr Ou:=λρ=>match ρ[k]? with
 | some (.own xs)=>(i ρ).bind λx=>if small (xs.length+1)=true then .ret (.next (ρ.set k (.own (xs++[x])))) else .fail
 | _=>.fail
theorem DnAll.snoc {H:Hp} {vs:List V} {ds:List PyData} {v:V} {d:PyData} (h:DnAll H vs ds) (h1:Dn H v d):DnAll H (vs++[v]) (ds++[d]):=h.append (.cons h1 .nil)
theorem nc {k:Nat} {K:PySem.W.Frag} {st:Stmt} (h:PS X st (t6 (tBM K "list" Zcc (dm k) (fW (TAe PK i) aP)))):PS X st (bg PK (fS k i)):=h.imp λD σ H hz0=>by
 obtain ⟨pa,G₀,H₀,m,ρ,G,R,z⟩:=hz0
 unfold fS at z
 split at z
 ·rename_i xs hx
  obtain ⟨o,h1,h2⟩:=R.sl k _ hx
  cases h2 with
  | @own p vs _ a1 a2 a3 a4 =>
   refine ⟨_,h1,.inl ⟨rfl,_,SqL.of a1⟩,?_⟩
   refine TAe.then R z λm1 x v G1 H1 s1 w1 R1 d1 q1=>?_
   obtain ⟨hs,q1⟩:=ff q1
   obtain ⟨o,h1',h2⟩:=R1.sl k _ hx
   rw [h1] at h1'
   cases h1'
   cases h2 with
   | @own _ vs1 _ b1 b2 b3 b4 =>
    have hs':xs.length+1<=sizeLine:=of_decide_eq_true hs
    refine ⟨p,vs1,v,rfl,rfl,b1,by rw [b4.length]; omega,?_⟩
    exact q1 σ G1 _ s1.gs (R1.change hx h1 (b4.snoc d1))
 ·exact z.elim
theorem DnAll.set {H:Hp}:∀ {vs:List V} {ds:List PyData} {v:V} {d:PyData} (n:Nat),DnAll H vs ds->Dn H v d->DnAll H (vs.set n v) (ds.set n d)
 | _,_,_,_,_,.nil,_=>.nil
 | _,_,_,_,0,.cons _ t,h=>.cons h t
 | _,_,_,_,n+1,.cons g t,h=>.cons g (DnAll.set n t h)
noncomputable def qa (k:Nat) (n i:List Sl->Tr PyData):List Sl->Tr Ou:=λρ=>(i ρ).bind λx=>match ρ[k]? with
 | some (.own xs)=>(n ρ).bind λy=>match y with
  | .int y=>(Tr.of (dJ xs.length y)).bind λt=>.ret (.next (ρ.set k (.own (xs.set t x))))
  | _=>.fail
 | _=>.fail
theorem Ze8 {k:Nat} {n:List Sl->Tr PyData} (h:PS X st (eK (TAe PK i) (ZdF (dm k) (TAe PK n) uM))):PS X st (bg PK (qa k n i)):=h.imp λD σ H hz0=>by
 obtain ⟨pa,G₀,H₀,m,ρ,G,R,z⟩:=hz0
 refine TAe.then R z λm1 x v G1 H1 s1 w1 R1 d1 q1=>?_
 split at q1
 ·rename_i xs hx
  obtain ⟨o,h1,h2⟩:=R1.sl k _ hx
  cases h2 with
  | @own p vs _ a1 a2 a3 a4 =>
   refine ⟨_,h1,?_⟩
   refine TAe.then R1 q1 λm2 y u G2 H2 s2 w2 R2 d2 q2=>?_
   obtain ⟨o,h1',h2⟩:=R2.sl k _ hx
   rw [h1] at h1'
   cases h1'
   cases h2 with
   | @own _ vs2 _ b1 b2 b3 b4 =>
    cases d2 with
    | int y =>
     rw [Tr.ok_bind] at q2
     obtain ⟨n',hn,q2⟩:=Tr.ok_of q2
     refine ⟨p,vs2,y,n',rfl,rfl,b1,by rw [b4.length]; exact hn,?_⟩
     exact q2 σ G2 _ (s1.gs.trans s2.gs) (R2.change hx h1 (b4.set n' (d1.mono s2.gs)))
    | _=>exact q2.elim
 ·exact q1.elim
theorem DnAll.reverse {H:Hp} {vs:List V} {ds:List PyData} (h:DnAll H vs ds):DnAll H vs.reverse ds.reverse:=by
 induction vs generalizing ds with
 | nil=>cases h; exact .nil
 | cons v vs ih=>cases h with | cons r t=>rw [List.reverse_cons,List.reverse_cons]; exact DnAll.append (ih t) (.cons r .nil)
noncomputable def qb (k:Nat):List Sl->Tr Ou:=λρ=>match ρ[k]? with
 | some (.own xs)=>.ret (.next (ρ.set k (.own xs.reverse)))
 | _=>.fail
theorem Ze9 {k:Nat} {K:PySem.W.Frag} (h:PS X st (t6 (ZaF K "list" ZbT (dm k)))):PS X st (bg PK (qb k)):=h.imp λD σ H hz0=>by
 obtain ⟨pa,G₀,H₀,m,ρ,G,R,z⟩:=hz0
 unfold qb at z
 split at z
 ·rename_i xs hx
  obtain ⟨o,h1,h2⟩:=R.sl k _ hx
  cases h2 with
  | @own p vs _ a1 a2 a3 a4 =>
   refine ⟨_,h1,.inl ⟨rfl,_,SqL.of a1⟩,p,vs,rfl,rfl,a1,?_⟩
   exact z σ G _ .refl (R.change hx h1 a4.reverse)
 ·exact z.elim
noncomputable def gH (k:Nat) (s:List Sl->Tr Ou):List Sl->Tr Ou:=λρ=>s (fz k ρ)
theorem na {k:Nat} (h:PS X st (bg PK s)):PS X st (bg PK (gH k s)):=h.imp λD σ H hz0=>by
 obtain ⟨pa,G₀,H₀,m,ρ,G,R,z⟩:=hz0
 obtain ⟨G',sb,R'⟩:=R.freeze k
 exact ⟨pa,G₀,H₀,m,_,G',R',Tr.ok_mono z λ_ _ k'=>Ko.later k' sb⟩
noncomputable def d8 (PK:Pk) (g:PyData->List Sl->Option (List Sl)):TG:=λv σ H Q=>∃ pa G₀ H₀ m ρ G x ρ',Rl PK pa G₀ H₀ m σ ρ G H/\Dn G v x/\g x ρ=some ρ'/\∀ σ',Rl PK pa G₀ H₀ m σ' ρ' G H->Q σ' H
noncomputable def qm (PK:Pk) (g:List PyData->List Sl->Option (List Sl)):fv:=λvs σ H Q=>∃ pa G₀ H₀ m ρ G xs ρ',Rl PK pa G₀ H₀ m σ ρ G H/\DnAll G vs xs/\g xs ρ=some ρ'/\∀ σ',Rl PK pa G₀ H₀ m σ' ρ' G H->Q σ' H
theorem PG.imp {tg:Expr} {t t':TG} (h:PG X tg t) (q:∀ v σ H Q,t' v σ H Q->t v σ H Q):PG X tg t':=λpins s σ H v u Q I r z=>h pins s σ H v u Q I r (q v σ H Q z)
theorem PGs.imp {tg:List Expr} {t t':fv} (h:PGs X tg t) (q:∀ v σ H Q,t' v σ H Q->t v σ H Q):PGs X tg t':=λpins s σ H v u Q I r z=>h pins s σ H v u Q I r (q v σ H Q z)
noncomputable def ai (k:Nat):PyData->List Sl->Option (List Sl):=λx ρ=>some (ρ.set k (.d x))
theorem aV {k:Nat} (h:PG X e (fi k)):PG X e (d8 PK (ai k)):=h.imp λv σ H Q hz0=>by
 obtain ⟨pa,G₀,H₀,m,ρ,G,x,ρ',R,d,e,q⟩:=hz0
 cases e
 exact q _ (R.set d k)
noncomputable def bi:List PyData->List Sl->Option (List Sl):=λxs ρ=>match xs with
 | []=>some ρ
 | _=>none
noncomputable def aw (g:PyData->List Sl->Option (List Sl)) (gs:List PyData->List Sl->Option (List Sl)):List PyData->List Sl->Option (List Sl):=λxs ρ=>match xs with
 | x::xs=>(g x ρ).bind λρ'=>gs xs ρ'
 | []=>none
theorem dE:PGs X [] (qm PK bi):=ZhC.imp λvs σ H Q hz0=>by
 obtain ⟨pa,G₀,H₀,m,ρ,G,xs,ρ',R,d,e,q⟩:=hz0
 cases d with
 | nil=>cases e; exact ⟨rfl,q _ R⟩
 | cons _ _=>cases e
theorem bB {g:PyData->List Sl->Option (List Sl)} {gs:List PyData->List Sl->Option (List Sl)} (h1:PG X e (d8 PK g)) (h2:PGs X es (qm PK gs))
  (hs:(assignEach (e::es) X.env).map (·.2)=assign e X.env::(assignEach es X.env).map (·.2):=by rfl):PGs X (e::es) (qm PK (aw g gs)):=(ZhD h1 h2 hs).imp λvs σ H Q hz0=>by
 obtain ⟨pa,G₀,H₀,m,ρ,G,xs,ρ',R,d,e,q⟩:=hz0
 cases d with
 | nil=>cases e
 | cons d1 d2 =>
  have e':(g _ ρ).bind (λρ'=>gs _ ρ')=some ρ':=e
  cases h:g _ ρ with
  | none=>rw [h] at e'; cases e'
  | some ρ1 =>
   rw [h] at e'
   exact ⟨_,_,rfl,pa,G₀,H₀,m,ρ,G,_,ρ1,R,d1,h,λσ1 R1=>⟨pa,G₀,H₀,m,ρ1,G,_,ρ',R1,d2,e',q⟩⟩
noncomputable def bq (gs:List PyData->List Sl->Option (List Sl)):PyData->List Sl->Option (List Sl):=λx ρ=>match x with
 | .tuple xs=>gs xs ρ
 | _=>none
noncomputable def pN (n:Nat) (gs:List PyData->List Sl->Option (List Sl)):Prop:=∀ xs ρ ρ',gs xs ρ=some ρ'->xs.length=n
theorem dA:pN 0 bi:=λxs ρ ρ' h=>by cases xs with | nil=>rfl | cons _ _=>cases h
theorem bA {n:Nat} {g:PyData->List Sl->Option (List Sl)} {gs:List PyData->List Sl->Option (List Sl)} (h:pN n gs):pN (n+1) (aw g gs):=λxs ρ ρ' e=>by
 cases xs with
 | nil=>cases e
 | cons x xs =>
  have e':(g x ρ).bind (λρ'=>gs xs ρ')=some ρ':=e
  cases h1:g x ρ with
  | none=>rw [h1] at e'; cases e'
  | some ρ1 =>
   rw [h1] at e'
   exact congrArg (·+1) (h xs ρ1 ρ' e')
theorem dZ {k:Nat} {gs:List PyData->List Sl->Option (List Sl)} {n:Nat} (hc:X.calm=true) (h:PGs X es (qm PK gs)) (hl:pN n gs)
  (hn:(assignEach es X.env).length=n:=by rfl) (hst:(assignEach es X.env).findIdx? (·.1)=none:=by rfl):PG X (.Tuple es k pos) (d8 PK (bq gs)):=(ZhE hc h hn hst).imp λv σ H Q hz0=>by
 obtain ⟨pa,G₀,H₀,m,ρ,G,x,ρ',R,d,e,q⟩:=hz0
 cases d with
 | tup h1 h2=>exact ⟨_,_,rfl,SqT.of (R.wd.sub _ _ h1),by rw [h2.length]; exact hl _ _ _ e,pa,G₀,H₀,m,ρ,G,_,ρ',R,h2,e,q⟩
 | _=>cases e
noncomputable def nk (g:PyData->List Sl->Option (List Sl)) (i:List Sl->Tr PyData):List Sl->Tr Ou:=λρ=>(i ρ).bind λx=>(Tr.of (g x ρ)).bind λρ'=>.ret (.next ρ')
theorem pY {g:PyData->List Sl->Option (List Sl)} (h:PS X st (eK (TAe PK i) (d8 PK g))):PS X st (bg PK (nk g i)):=h.imp λD σ H hz0=>by
 obtain ⟨pa,G₀,H₀,m,ρ,G,R,z⟩:=hz0
 refine TAe.then R z λm1 x v G1 H1 s1 w1 R1 d1 q1=>?_
 rw [Tr.ok_bind] at q1
 obtain ⟨ρ',hg,q1⟩:=Tr.ok_of q1
 exact ⟨pa,G₀,H₀,m1,ρ,G1,x,ρ',R1,d1,hg,λσ' R'=>q1 σ' G1 H1 s1.gs R'⟩
noncomputable def ni (k n:Nat) (is:List Sl->Tr (List PyData)):List Sl->Tr Ou:=λρ=>(is ρ).bind λxs=>match xs with
 | [x,y]=>.ret (.next ((ρ.set k (.d x)).set n (.d y)))
 | _=>.fail
theorem sQ {k n:Nat} (h:PS X st (ZaA k n (TAd PK is))):PS X st (bg PK (ni k n is)):=h.imp λD σ H hz0=>by
 obtain ⟨pa,G₀,H₀,m,ρ,G,R,z⟩:=hz0
 refine TAd.then R z λm1 xs vs G1 H1 s1 w1 R1 d1 q1=>?_
 split at q1
 ·cases d1 with
  | cons e1 d1 =>
   cases d1 with
   | cons e2 d1 =>
    cases d1
    exact ⟨_,_,rfl,q1 _ G1 H1 s1.gs ((R1.set e1 k).set e2 n)⟩
 ·exact q1.elim
noncomputable def ox (PK:Pk) (pa:Addr) (J:It) (G:Hp) (xs:List PyData):Prop:=∀ m G2 H2,Sub G G2->Wd PK pa m G2 H2 ->
 (∀ (n:Nat) (d:PyData),xs[n]?=some d->J.go n H2/\∀ x H3,J.yld n H2 x H3->∃ G3,Stp pa G2 H2 G3 H3/\Wd PK pa m G3 H3/\Dn G3 x d)/\J.stop xs.length H2
noncomputable def dP (PK:Pk) (is:List Sl->Tr (List PyData)):TI:=λσ H R=>∃ pa G₀ H₀ m ρ G,Rl PK pa G₀ H₀ m σ ρ G H/\(is ρ).ok m λm' xs=>∀ J G' H',Stp pa G H G' H'->Wd PK pa m' G' H'->ox PK pa J G' xs->R J H'
theorem PI.imp {tg iter:Expr} {t t':TI} (h:PI X tg iter t) (q:∀ σ H R,t' σ H R->t σ H R):PI X tg iter t':=λpins s σ H R I z=>h pins s σ H R I (q σ H R z)
noncomputable def bK (g:PyData->List Sl->Option (List Sl)) (s:List Sl->Tr Ou):List PyData->List Sl->Tr Ou
 | [],ρ=>.ret (.next ρ)
 | x::xs,ρ=>(Tr.of (g x ρ)).bind λρ1=>(s ρ1).bind λo=>match o with
  | .next ρ2=>bK g s xs ρ2
  | .cont ρ2=>bK g s xs ρ2
  | .brk ρ2=>.ret (.next ρ2)
  | .ret r=>.ret (.ret r)
noncomputable def cJ (is:List Sl->Tr (List PyData)) (g:PyData->List Sl->Option (List Sl)) (s:List Sl->Tr Ou):List Sl->Tr Ou:=λρ=>(is ρ).bind λxs=>bK g s xs ρ
theorem dh {tg iter:Expr} {body:List Stmt} {g:PyData->List Sl->Option (List Sl)} (hp:PassesOwn (model X.prog X.w) X.A X.env X.xe) (hc:X.calm=true) (hi:PI X tg iter (dP PK is)) (hg:PG X tg (d8 PK g)) (hb:PSs X body (bg PK s))
  (hs:∀ x,foldedSetIterable iter X.env x=pure x:=by intro _; rfl):PS X (.For tg iter body [] pos) (bg PK (cJ is g s)):=(Zhr hp hc hi hg hb hs).imp λD σ H hz0=>by
 obtain ⟨pa,G₀,H₀,m,ρ,G,R,z⟩:=hz0
 refine ⟨pa,G₀,H₀,m,ρ,G,R,Tr.ok_mono (Tr.ok_bind.mp z) λm1 xs k J G1 H1 s1 w1 jo=>?_⟩
 let W:Nat->Nat->St->Hp->Prop:=λn mm σ H=>mm=xs.length - n/\n<=xs.length/\∃ m ρ G,Sub G1 G/\Rl PK pa G₀ H₀ m σ ρ G H/\(bK g s (xs.drop n) ρ).ok m (Ko PK pa G₀ H₀ G1 D)
 refine ⟨W,⟨xs.length,rfl,Nat.zero_le _,m1,ρ,G1,λ_ _ h=>h,R.step s1 w1,Tr.ok_mono k λ_ _ k'=>Ko.later k' s1.gs⟩,?_⟩
 rintro n mm σ2 H2 ⟨rfl,hn,m2,ρ2,G2,sb,R2,k2⟩
 obtain ⟨j1,j2⟩:=jo m2 G2 H2 sb R2.wd
 by_cases hlt:n < xs.length
 ·have hx:xs[n]?=some xs[n]:=by simp [hlt]
  obtain ⟨jg,jy⟩:=j1 n _ hx
  refine .inr ⟨jg,W (n+1) (xs.length - (n+1)),λσ' H' h'=>⟨_,by omega,h'⟩,λx H3 y=>?_⟩
  obtain ⟨G3,s3,w3,d3⟩:=jy x H3 y
  rw [List.drop_eq_getElem_cons hlt] at k2
  unfold bK at k2
  rw [Tr.ok_bind] at k2
  obtain ⟨ρ3,hg3,k3⟩:=Tr.ok_of k2
  refine ⟨pa,G₀,H₀,m2,ρ2,G3,_,ρ3,R2.step s3 w3,d3,hg3,λσ4 R4=>?_⟩
  refine ⟨pa,G₀,H₀,m2,ρ3,G3,R4,Tr.ok_mono (Tr.ok_bind.mp k3) λm5 o ko=>?_⟩
  have again:∀ ρ5,(bK g s (xs.drop (n+1)) ρ5).ok m5 (Ko PK pa G₀ H₀ G1 D)->∀ σ5 G5 H5,Sub G3 G5->Rl PK pa G₀ H₀ m5 σ5 ρ5 G5 H5->W (n+1) (xs.length - (n+1)) σ5 H5:=λρ5 k5 σ5 G5 H5 sb5 R5 =>
   ⟨rfl,hlt,m5,ρ5,G5,(sb.trans s3.gs).trans sb5,R5,k5⟩
  cases o with
  | next ρ5=>exact again ρ5 ko
  | cont ρ5=>exact again ρ5 ko
  | brk ρ5=>exact λσ5 G5 H5 sb5 R5=>ko σ5 G5 H5 ((sb.trans s3.gs).trans sb5) R5
  | ret r=>exact ko
 ·have e:n=xs.length:=by omega
  subst e
  refine .inl ⟨j2,?_⟩
  rw [List.drop_length] at k2
  exact k2 σ2 G2 H2 sb R2
end L2
set_option Elab.async false
set_option linter.all false
set_option maxRecDepth 100000
namespace L2
open PySem PySem.Spec PyProof.Rows
variable {PK:Pk} {X:Cx} {a b c e:Expr} {es:List Expr} {pos:Pos} {i j l:List Sl->Tr PyData} {is:List Sl->Tr (List PyData)} {as:List Sl->Tr (List Sl)} {f:List Sl->Tr Re} {p q:List Sl->Tr Bool} {st:Stmt} {sts:List Stmt} {s t u:List Sl->Tr Ou}
noncomputable def dQ (p:List Sl->Tr Bool) (s:List Sl->Tr Ou):Nat->List Sl->Tr Ou
 | 0,_=>.fail
 | n+1,ρ=>(p ρ).bind λb=>if b=true then (s ρ).bind λo=>match o with
   | .next ρ2=>dQ p s n ρ2
   | .cont ρ2=>dQ p s n ρ2
   | .brk ρ2=>.ret (.next ρ2)
   | .ret r=>.ret (.ret r)
  else .ret (.next ρ)
theorem Ze7 {body:List Stmt} (n:Nat) (hp:PassesOwn (model X.prog X.w) X.A X.env X.xe) (hc:PT X c (TAt PK p)) (hb:PSs X body (bg PK s)):PS X (.While c body [] pos) (bg PK (dQ p s n)):=(Zho hp hc hb).imp λD σ H hz0=>by
 obtain ⟨pa,G₀,H₀,m,ρ,G,R,z⟩:=hz0
 let W:Nat->St->Hp->Prop:=λn σ H=>∃ m ρ G1,Sub G G1/\Rl PK pa G₀ H₀ m σ ρ G1 H/\(dQ p s n ρ).ok m (Ko PK pa G₀ H₀ G D)
 refine ⟨W,⟨n,m,ρ,G,.refl,R,z⟩,?_⟩
 rintro n σ2 H2 ⟨m2,ρ2,G2,sb,R2,k2⟩
 cases n with
 | zero=>exact k2.elim
 | succ n =>
  unfold dQ at k2
  refine TAt.then R2 k2 λm3 x G3 H3 s3 w3 R3 k3=>?_
  cases x with
  | false =>
   rw [if_neg Bool.false_ne_true] at k3 ⊢
   exact k3 σ2 G3 H3 (sb.trans s3.gs) R3
  | true =>
   rw [if_pos rfl] at k3 ⊢
   refine ⟨W n,λσ' H' h=>⟨n,by omega,h⟩,pa,G₀,H₀,m3,ρ2,G3,R3,Tr.ok_mono (Tr.ok_bind.mp k3) λm4 o ko=>?_⟩
   have again:∀ ρ5,(dQ p s n ρ5).ok m4 (Ko PK pa G₀ H₀ G D)->∀ σ5 G5 H5,Sub G3 G5->Rl PK pa G₀ H₀ m4 σ5 ρ5 G5 H5->W n σ5 H5:=λρ5 k5 σ5 G5 H5 sb5 R5 =>
    ⟨m4,ρ5,G5,(sb.trans s3.gs).trans sb5,R5,k5⟩
   cases o with
   | next ρ5=>exact again ρ5 ko
   | cont ρ5=>exact again ρ5 ko
   | brk ρ5=>exact λσ5 G5 H5 sb5 R5=>ko σ5 G5 H5 ((sb.trans s3.gs).trans sb5) R5
   | ret r=>exact ko
noncomputable def gz:Sl->Sl
 | .own _=>.un
 | .dic _=>.un
 | s=>s
noncomputable def blk (n:Nat) (ix:List Nat) (ρ:List Sl):List Sl:=List.replicate n .un++ix.map λj=>gz ((ρ[j]?).getD .un)
theorem Rl.blk {pa:Addr} {G₀ H₀ G H:Hp} {m:Nat} {σ:St} {ρ:List Sl} (R:Rl PK pa G₀ H₀ m σ ρ G H) (n:Nat) (ix:List Nat):Rl PK pa G₀ H₀ m (cI n ix σ) (blk n ix ρ) G H:=by
 have key:∀ (k:Nat) (s:Sl),(L2.blk n ix ρ)[k]?=some s->(∃ o,(cI n ix σ)[k]?=some o/\SlOk pa H₀ G H o s)/\(∀ xs,s≠.own xs)/\∀ xs,s≠.dic xs:=λk s h=>by
  unfold L2.blk at h
  unfold cI
  by_cases hk:k < n
  ·rw [List.getElem?_append_left (by simpa using hk),List.getElem?_replicate,if_pos hk] at h
   rw [List.getElem?_append_left (by simpa using hk),List.getElem?_replicate,if_pos hk]
   cases h
   exact ⟨⟨_,rfl,.un⟩,(λxs h=>by cases h),λxs h=>by cases h⟩
  ·rw [List.getElem?_append_right (by simpa using Nat.le_of_not_lt hk),List.length_replicate,List.getElem?_map] at h
   rw [List.getElem?_append_right (by simpa using Nat.le_of_not_lt hk),List.length_replicate,List.getElem?_map]
   cases hj:ix[k - n]? with
   | none=>rw [hj] at h; cases h
   | some j =>
    rw [hj] at h
    have h':gz ((ρ[j]?).getD .un)=s:=Option.some.inj h
    subst h'
    show (∃ o,some ((σ[j]?).getD none)=some o/\_)/\_
    cases hr:ρ[j]? with
    | none=>exact ⟨⟨_,rfl,.un⟩,(λxs h=>by cases h),λxs h=>by cases h⟩
    | some s' =>
     obtain ⟨o,h1,h2⟩:=R.sl j s' hr
     rw [h1]
     cases h2 with
     | un=>exact ⟨⟨_,rfl,.un⟩,(λxs h=>by cases h),λxs h=>by cases h⟩
     | d z=>exact ⟨⟨_,rfl,.d z⟩,(λxs h=>by cases h),λxs h=>by cases h⟩
     | own _ _ _ _=>exact ⟨⟨_,rfl,.un⟩,(λxs h=>by cases h),λxs h=>by cases h⟩
     | dic _ _ _ _=>exact ⟨⟨_,rfl,.un⟩,(λxs h=>by cases h),λxs h=>by cases h⟩
     | pen=>exact ⟨⟨_,rfl,.pen⟩,(λxs h=>by cases h),λxs h=>by cases h⟩
 refine ⟨R.wd,R.st,R.p0,λk s h=>(key k s h).1,?_,λk n' xs ys _ h1 _=>absurd rfl ((key k _ h1).2.1 xs),λk n' xs ys _ h1 _=>absurd rfl ((key k _ h1).2.2 xs)⟩
 unfold L2.blk cI
 simp
noncomputable def fx (n:Nat) (g:PyData->List Sl->Option (List Sl)):Prop:=∀ x ρ ρ',g x ρ=some ρ'->ρ'.length=ρ.length/\∀ k,n<=k->ρ'[k]?=ρ[k]?
noncomputable def tw (n:Nat) (g:List PyData->List Sl->Option (List Sl)):Prop:=∀ x ρ ρ',g x ρ=some ρ'->ρ'.length=ρ.length/\∀ k,n<=k->ρ'[k]?=ρ[k]?
theorem cu {n k:Nat} (h:k < n):fx n (ai k):=λx ρ ρ' e=>by
 cases e
 exact ⟨List.length_set,λj hj=>List.getElem?_set_ne (by omega)⟩
theorem gW {n:Nat}:tw n bi:=λx ρ ρ' e=>by
 cases x with
 | nil=>cases e; exact ⟨rfl,λ_ _=>rfl⟩
 | cons _ _=>cases e
theorem dt {n:Nat} {g:PyData->List Sl->Option (List Sl)} {gs:List PyData->List Sl->Option (List Sl)} (h1:fx n g) (h2:tw n gs):tw n (aw g gs):=λx ρ ρ' e=>by
 cases x with
 | nil=>cases e
 | cons x xs =>
  have e':(g x ρ).bind (λρ'=>gs xs ρ')=some ρ':=e
  cases h:g x ρ with
  | none=>rw [h] at e'; cases e'
  | some ρ1 =>
   rw [h] at e'
   obtain ⟨a1,a2⟩:=h1 x ρ ρ1 h
   obtain ⟨b1,b2⟩:=h2 xs ρ1 ρ' e'
   exact ⟨b1.trans a1,λk hk=>(b2 k hk).trans (a2 k hk)⟩
theorem gU {n:Nat} {gs:List PyData->List Sl->Option (List Sl)} (h2:tw n gs):fx n (bq gs):=λx ρ ρ' e=>by
 cases x with
 | tuple xs=>exact h2 xs ρ ρ' e
 | _=>cases e
noncomputable def bz (h:PyData->Tr PyData):List PyData->Tr (List PyData)
 | []=>.ret []
 | x::xs=>(h x).bind λy=>(bz h xs).bind λys=>.ret (y::ys)
noncomputable def eX (is:List Sl->Tr (List PyData)) (n:Nat) (ix:List Nat) (g:PyData->List Sl->Option (List Sl)) (el:List Sl->Tr PyData):List Sl->Tr (List PyData):=λρ =>
 (is ρ).bind λxs=>if small xs.length=true then bz (λx=>(Tr.of (g x (blk n ix ρ))).bind el) xs else .fail
theorem Rl.weak {pa:Addr} {G₀ H₀ G H:Hp} {m:Nat} {σ:St} {ρ ρ':List Sl} (R:Rl PK pa G₀ H₀ m σ ρ' G H) (hl:ρ'.length=ρ.length) (h:∀ (k:Nat) (s:Sl),ρ[k]?=some s->s=.un\/ρ'[k]?=some s):Rl PK pa G₀ H₀ m σ ρ G H:=by
 refine ⟨R.wd,R.st,R.p0,λk s hk=>?_,hl.symm.trans R.len,λk n xs ys hkn h1 h2=>?_,λk n xs ys hkn h1 h2=>?_⟩
 ·rcases h k s hk with e | e
  ·subst e
   have hlt:k < σ.length:=by
    rw [<- R.len,hl]
    exact (List.getElem?_eq_some_iff.mp hk).1
   exact ⟨σ[k],by simp [hlt],.un⟩
  ·exact R.sl k s e
 ·rcases h k _ h1 with e | e
  ·cases e
  ·rcases h n _ h2 with e' | e'
   ·cases e'
   ·exact R.dj k n xs ys hkn e e'
 ·rcases h k _ h1 with e | e
  ·cases e
  ·rcases h n _ h2 with e' | e'
   ·cases e'
   ·exact R.dj2 k n xs ys hkn e e'
theorem Zc9 {n:Nat} {ix:List Nat} {g:PyData->List Sl->Option (List Sl)} (hn:fx n g):∀ σ H Q,d7 PK (eX is n ix g i) σ H Q->oC (dP PK is) n ix (λ_=>d8 PK g) (λ_=>TAe PK i) σ H Q:=by
 rintro σ H Q ⟨pa,G₀,H₀,m,ρ,G,R,z⟩
 refine ⟨pa,G₀,H₀,m,ρ,G,R,Tr.ok_mono (Tr.ok_bind.mp z) λm1 xs k J G1 H1 s1 w1 jo=>λB=>?_⟩
 obtain ⟨hs,k⟩:=ff k
 have hs:xs.length<=sizeLine:=of_decide_eq_true hs
 let el:PyData->Tr PyData:=λx=>(Tr.of (g x (blk n ix ρ))).bind i
 let W:Nat->Nat->St->List V->Hp->Prop:=λk mm τ ys H2=>mm=xs.length - k/\k<=xs.length/\ys.length=k/\∃ m G2 ds,Sub G1 G2/\Stp pa G H G2 H2/\Rl PK pa G₀ H₀ m τ (blk n ix ρ) G2 H2 /\
  DnAll G2 ys ds/\(bz el (xs.drop k)).ok m λm' zs=>Ko1 PK pa m' G H (ds++zs) Q
 refine ⟨W,⟨xs.length,rfl,Nat.zero_le _,rfl,m1,G1,[],.refl,s1,(R.step s1 w1).blk n ix,.nil,k⟩,?_⟩
 rintro k mm τ ys H2 ⟨rfl,hk,hy,m2,G2,ds,sb,st2,R2,dn,k2⟩
 obtain ⟨j1,j2⟩:=jo m2 G2 H2 sb R2.wd
 by_cases hlt:k < xs.length
 ·have hx:xs[k]?=some xs[k]:=by simp [hlt]
  obtain ⟨jg,jy⟩:=j1 k _ hx
  refine .inr ⟨jg,by omega,λx H3 y=>?_⟩
  obtain ⟨G3,s3,w3,d3⟩:=jy x H3 y
  rw [List.drop_eq_getElem_cons hlt] at k2
  unfold bz at k2
  rw [Tr.ok_bind,Tr.ok_bind] at k2
  obtain ⟨ρ3,hg3,k3⟩:=Tr.ok_of k2
  refine ⟨pa,G₀,H₀,m2,_,G3,_,ρ3,R2.step s3 w3,d3,hg3,λτ4 R4=>?_⟩
  refine ⟨pa,G₀,H₀,m2,ρ3,G3,R4,Tr.ok_mono k3 λm5 yd k5=>?_⟩
  intro v G5 H5 s5 w5 d5
  have s35:=s3.trans s5 w3.some
  obtain ⟨pl,pk⟩:=hn _ _ _ hg3
  refine ⟨xs.length - (k+1),by omega,rfl,hlt,by rw [List.length_append,hy]; rfl,m5,G5,ds++[yd],sb.trans s35.gs,st2.trans s35 R2.wd.some,?_,(DnAll.mono s35.gs dn).snoc d5,?_⟩
  ·refine (R4.step s5 w5).weak pl λq sl hq=>?_
   by_cases hqn:q < n
   ·left
    unfold blk at hq
    rw [List.getElem?_append_left (by simpa using hqn),List.getElem?_replicate,if_pos hqn] at hq
    cases hq
    rfl
   ·right
    rw [pk q (Nat.le_of_not_lt hqn)]
    exact hq
  ·refine Tr.ok_mono (Tr.ok_bind.mp k5) λm6 zs k6=>?_
   rw [List.append_assoc]
   exact k6
 ·have e:k=xs.length:=by omega
  subst e
  refine .inl ⟨j2,λp v H' hp ev eH=>?_⟩
  subst ev eH
  rw [List.drop_length] at k2
  have k2':Ko1 PK pa m2 G H (ds++[]) Q:=k2
  rw [List.append_nil] at k2'
  exact (Ko1.later k2' st2 R2.wd.some).new R2.wd dn hp
theorem ng {n:Nat} {ix:List Nat} {g:PyData->List Sl->Option (List Sl)} (h:PE X e (oC (dP PK is) n ix (λ_=>d8 PK g) (λ_=>TAe PK i))) (hn:fx n g):PE X e (d7 PK (eX is n ix g i)):=h.imp (Zc9 hn)
theorem ZaJ {te te':TE} {g:TG} (h:∀ σ H Q,te' σ H Q->te σ H Q):∀ D σ H,eK te' g D σ H->eK te g D σ H:=λD σ H z=>h σ H _ z
noncomputable def sF:Ou->Tr Re
 | .next _=>.ret (.d .none)
 | .ret r=>.ret r
 | _=>.fail
noncomputable def bj (n k:Nat) (s:List Sl->Tr Ou):List Sl->Tr Re:=λas=>if decide (as.length=n)=true then (s (as++List.replicate k .un)).bind sF else .fail
theorem Rl.start {pa:Addr} {G H:Hp} {m:Nat} {N:List Str} {vs:List V} {as:List Sl} {k:Nat} (w:Wd PK pa m G H) (ar:ArsOk pa G vs as) (hk:N.length - vs.length=k):Rl PK pa G H m (L2.start N vs) (as++List.replicate k .un) G H:=by
 have key:∀ {vs:List V} {as:List Sl},ArsOk pa G vs as->∀ (q:Nat) (s:Sl),as[q]?=some s->(∃ o,(vs.map some)[q]?=some o/\SlOk pa H G H o s)/\(∀ xs,s≠.own xs)/\∀ xs,s≠.dic xs:=by
  intro vs as h
  induction h with
  | nil=>intro q s h; simp at h
  | cons h1 h2 ih =>
   intro q s h
   cases q with
   | zero =>
    simp at h
    subst h
    cases h1 with
    | d z=>exact ⟨⟨_,rfl,.d z⟩,(λxs h=>by cases h),λxs h=>by cases h⟩
    | pen=>exact ⟨⟨_,rfl,.pen⟩,(λxs h=>by cases h),λxs h=>by cases h⟩
   | succ q =>
    obtain ⟨⟨o,p1,p2⟩,p3⟩:=ih q s (by simpa using h)
    exact ⟨⟨o,by simpa using p1,p2⟩,p3⟩
 have hl:=ar.length
 have key2:∀ (q:Nat) (s:Sl),(as++List.replicate k .un)[q]?=some s->(∃ o,(L2.start N vs)[q]?=some o/\SlOk pa H G H o s)/\(∀ xs,s≠.own xs)/\∀ xs,s≠.dic xs:=λq s h=>by
  unfold L2.start
  by_cases hq:q < as.length
  ·rw [List.getElem?_append_left hq] at h
   rw [List.getElem?_append_left (by rw [List.length_map,hl]; exact hq)]
   exact key ar q s h
  ·rw [List.getElem?_append_right (by omega),List.getElem?_replicate] at h
   rw [List.getElem?_append_right (by rw [List.length_map]; omega),List.getElem?_replicate,List.length_map,hl]
   split at h
   ·rename_i hq2
    cases h
    rw [if_pos (by omega)]
    exact ⟨⟨_,rfl,.un⟩,(λxs h=>by cases h),λxs h=>by cases h⟩
   ·cases h
 refine ⟨w,.refl,w.some,λq s h=>(key2 q s h).1,?_,λq n xs ys _ h1 _=>absurd rfl ((key2 q _ h1).2.1 xs),λq n xs ys _ h1 _=>absurd rfl ((key2 q _ h1).2.2 xs)⟩
 unfold L2.start
 simp [hl,hk]
 omega
theorem bQ {P:Program} {w:World} {K:PySem.W.Frag} {mg:Str->Option Value} {base:Heap} {x:Str} {N ps:List Str} {kk k:Nat} (D:Def K mg x st ps) (S:FnScope N ps (aK st)) (hk:N.length - ps.length=k)
  (hbody:∀ (f:Addr) (cdv:Value) (A:Around) (outer:List Env) (sh:Shared) (H:Hp) (E:XK),Room kk (A.deeper (envOfC x (aK st) sh.heap.objs.size f cdv)) ->
   PSs (gy gJ P w K mg base N x (aK st) f cdv A outer sh H E).nox (fN st) (bg PK s)):ACal PK P w K mg base x (kk+1) ps (bj ps.length k s):=by
 have len:∀ as m Z,(bj ps.length k s as).ok m Z->as.length=ps.length:=λas m Z h=>by
  unfold bj at h
  exact of_decide_eq_true (ff h).1
 refine ⟨D.ok S (λvs H Q E h=>h.1) λf cdv A outer sh H vs Q E hr hsp=>?_,len⟩
 obtain ⟨hv,pa,m,G,as,wd,ar,z⟩:=hsp
 refine ⟨_,hbody f cdv A outer sh H E hr,?_⟩
 unfold bj at z
 obtain ⟨_,z⟩:=ff z
 refine ⟨pa,G,H,m,_,G,Rl.start wd ar (by rw [hv]; exact hk),Tr.ok_mono (Tr.ok_bind.mp z) λm1 o ko=>?_⟩
 cases o with
 | next ρ=>exact λσ G1 H1 sb R1=>ko .non G1 H1 R1.st R1.wd .non
 | ret r=>exact ko
 | brk ρ=>exact ko.elim
 | cont ρ=>exact ko.elim
theorem ZhB {tg l:Expr} {tl:TE} (hl:PE X l tl):PI X tg l (λσ H R=>tl σ H λx H1=>∃ a,x=.ref a/\((∃ xs,SqL X.K H1 a xs/\R (xc X.K a) H1)\/(∃ xs,SqT X.K H1 a xs/\R (xb X.K a) H1))):=by
 intro pins s σ H R I h
 refine thn (hl pins s σ H _ I h) λv s1 hz0=>?_
 obtain ⟨x,H1,I1,r1,q1⟩:=hz0
 obtain ⟨a,e,q⟩:=q1
 subst e
 cases r1
 rcases q with ⟨xs,hq,q⟩ | ⟨xs,hq,q⟩
 ·obtain ⟨its,rv,p,hz⟩:=I1.list hq
  refine wpAny_pyIter_list p.isList ?_
  refine ⟨s1.heap.objs.size,[s1.heap.objs.size],_,_,H1,rfl,I1.kept (t':=s1.toks) λb o e=>Heap.get?_push_of_some _ e,ZfZ a _,⟨_,Heap.get?_push_size _ rfl,rfl,rfl⟩,λb hb=>?_,q⟩
  have e:b=s1.heap.objs.size:=by simpa using hb
  subst e
  exact I1.fpOk (Nat.le_refl _) (I1.hok.fresh (Nat.le_refl _))
 ·obtain ⟨its,rv,p,hz⟩:=I1.tuple hq
  refine wpAny_pyIter_tuple (show s1.heap.IsTuple a its.toArray from p) ?_
  refine ⟨s1.heap.objs.size,[s1.heap.objs.size],_,_,H1,rfl,I1.kept (t':=s1.toks) λb o e=>Heap.get?_push_of_some _ e,ZfW a _,⟨_,Heap.get?_push_size _ rfl,rfl,rfl⟩,λb hb=>?_,q⟩
  have e:b=s1.heap.objs.size:=by simpa using hb
  subst e
  exact I1.fpOk (Nat.le_refl _) (I1.hok.fresh (Nat.le_refl _))
theorem DnAll.get {H:Hp}:∀ {vs:List V} {ds:List PyData} (n:Nat) {d:PyData},DnAll H vs ds->ds[n]?=some d->∃ v,vs[n]?=some v/\Dn H v d
 | _,_,_,_,.nil,e=>by simp at e
 | _,_,0,_,.cons g t,e=>by simp at e; subst e; exact ⟨_,rfl,g⟩
 | _,_,n+1,_,.cons g t,e=>by
  obtain ⟨v,h1,h2⟩:=DnAll.get n t (by simpa using e)
  exact ⟨v,by simpa using h1,h2⟩
theorem Zjo {K:PySem.W.Frag} {pa a:Addr} {G:Hp} {vs:List V} {xs:List PyData} (h:G a=some (.lst vs)) (d:DnAll G vs xs):ox PK pa (xc K a) G xs:=λm G2 H2 sb w=>by
 have hq:SqL K H2 a vs:=SqL.of (w.sub _ _ (sb _ _ h))
 refine ⟨λn x hx=>?_,vs,hq,by rw [d.length]; exact Nat.le_refl _⟩
 obtain ⟨v,hv,dv⟩:=d.get n hx
 refine ⟨⟨vs,v,hq,hv⟩,λy H3 hz0=>?_⟩
 obtain ⟨e,hy⟩:=hz0
 subst e
 have:=hy vs hq
 rw [hv] at this
 cases this
 exact ⟨G2,.refl,w,dv.mono sb⟩
theorem Zjn {K:PySem.W.Frag} {pa a:Addr} {G:Hp} {vs:List V} {xs:List PyData} (h:G a=some (.tup vs)) (d:DnAll G vs xs):ox PK pa (xb K a) G xs:=λm G2 H2 sb w=>by
 have hq:SqT K H2 a vs:=SqT.of (w.sub _ _ (sb _ _ h))
 refine ⟨λn x hx=>?_,vs,hq,by rw [d.length]; exact Nat.le_refl _⟩
 obtain ⟨v,hv,dv⟩:=d.get n hx
 refine ⟨⟨vs,v,hq,hv⟩,λy H3 hz0=>?_⟩
 obtain ⟨e,hy⟩:=hz0
 subst e
 have:=hy vs hq
 rw [hv] at this
 cases this
 exact ⟨G2,.refl,w,dv.mono sb⟩
noncomputable def hV:PyData->Option (List PyData)
 | .list xs=>some xs
 | .tuple xs=>some xs
 | _=>none
@[simp] theorem Zm9 (xs:List PyData):hV (.list xs)=some xs:=rfl
@[simp] theorem Zm8 (xs:List PyData):hV (.tuple xs)=some xs:=rfl
noncomputable def fu (i:List Sl->Tr PyData):List Sl->Tr (List PyData):=λρ=>(i ρ).bind λx=>Tr.of (hV x)
theorem gE {tg l:Expr} (hl:PE X l (TAe PK i)):PI X tg l (dP PK (fu i)):=(ZhB hl).imp λσ H R0 hz0=>by
 obtain ⟨pa,G₀,H₀,m,ρ,G,R,z⟩:=hz0
 refine TAe.then R z λm1 x v G1 H1 s1 w1 R1 d1 q1=>?_
 obtain ⟨xs,hx,q1⟩:=Tr.ok_of q1
 cases d1 with
 | lst h1 h2=>cases hx; exact ⟨_,rfl,.inl ⟨_,SqL.of (w1.sub _ _ h1),q1 _ G1 H1 s1 w1 (Zjo h1 h2)⟩⟩
 | tup h1 h2=>cases hx; exact ⟨_,rfl,.inr ⟨_,SqT.of (w1.sub _ _ h1),q1 _ G1 H1 s1 w1 (Zjn h1 h2)⟩⟩
 | _=>cases hx
noncomputable def bc (lo hi:Int):List PyData:=(ao lo (hi - lo).toNat).map PyData.int
theorem Zdn {pa:Addr} {G:Hp} {lo:Int} {n:Nat}:ox PK pa (nr lo n) G ((ao lo n).map PyData.int):=λm G2 H2 sb w=>by
 refine ⟨λk x hx=>?_,by show n<=_; rw [List.length_map,gR]; exact Nat.le_refl _⟩
 have hk:k < n:=by
  have:=(List.getElem?_eq_some_iff.mp hx).1
  rwa [List.length_map,gR] at this
 refine ⟨hk,λy H3 hz0=>?_⟩
 obtain ⟨e1,e2⟩:=hz0
 subst e1 e2
 have:x=.int (lo+k):=by
  unfold ao at hx
  simp [hk] at hx
  exact hx.symm
 subst this
 exact ⟨G2,.refl,w,.int _⟩
noncomputable def dL (n:Int):Bool:=decide (-(2 ^ 62)<=n/\n < 2 ^ 62)
noncomputable def nI:List PyData->Option (List PyData)
 | [.int n]=>if dL n=true then some (bc 0 n) else none
 | _=>none
noncomputable def nH:List PyData->Option (List PyData)
 | [.int k,.int n]=>if (dL k && dL n)=true then some (bc k n) else none
 | _=>none
noncomputable def fR (is:List Sl->Tr (List PyData)):List Sl->Tr (List PyData):=λρ=>(is ρ).bind λxs=>Tr.of (nI xs)
noncomputable def ot (is:List Sl->Tr (List PyData)):List Sl->Tr (List PyData):=λρ=>(is ρ).bind λxs=>Tr.of (nH xs)
theorem ZbC {G:Hp} {vs:List V} {xs ys:List PyData} (d:DnAll G vs xs) (h:nI xs=some ys):∃ n:Int,vs=[.int n]/\-(2 ^ 62)<=n/\n < 2 ^ 62/\ys=bc 0 n:=by
 unfold nI at h
 split at h
 ·rename_i n
  split at h
  ·rename_i hn
   cases h
   cases d with
   | cons d1 d2 =>
    cases d2
    cases d1
    have:=of_decide_eq_true hn
    exact ⟨n,rfl,this.1,this.2,rfl⟩
  ·cases h
 ·cases h
theorem ZbB {G:Hp} {vs:List V} {xs ys:List PyData} (d:DnAll G vs xs) (h:nH xs=some ys):∃ k n:Int,vs=[.int k,.int n]/\(-(2 ^ 62)<=k/\k < 2 ^ 62/\-(2 ^ 62)<=n/\n < 2 ^ 62)/\ys=bc k n:=by
 unfold nH at h
 split at h
 ·rename_i k n
  split at h
  ·rename_i hn
   cases h
   cases d with
   | cons d1 d2 =>
    cases d2 with
    | cons d2 d3 =>
     cases d3
     cases d1
     cases d2
     rw [Bool.and_eq_true] at hn
     have h1:=of_decide_eq_true hn.1
     have h2:=of_decide_eq_true hn.2
     exact ⟨k,n,rfl,⟨h1.1,h1.2,h2.1,h2.2⟩,rfl⟩
  ·cases h
 ·cases h
theorem io {tg e:Expr} (h:PI X tg e (Zdy (TAd PK is))):PI X tg e (dP PK (fR is)):=h.imp λσ H R0 hz0=>by
 obtain ⟨pa,G₀,H₀,m,ρ,G,R,z⟩:=hz0
 refine TAd.then R z λm1 xs vs G1 H1 s1 w1 R1 d1 q1=>?_
 obtain ⟨ys,hy,q1⟩:=Tr.ok_of q1
 obtain ⟨n,e,h1,h2,rfl⟩:=ZbC d1 hy
 refine ⟨n,e,h1,h2,?_⟩
 have q:=q1 (nr 0 n.toNat) G1 H1 s1 w1
 unfold bc at q
 rw [Int.sub_zero] at q
 exact q Zdn
theorem wI {tg e:Expr} (h:PI X tg e (Zdx (TAd PK is))):PI X tg e (dP PK (ot is)):=h.imp λσ H R0 hz0=>by
 obtain ⟨pa,G₀,H₀,m,ρ,G,R,z⟩:=hz0
 refine TAd.then R z λm1 xs vs G1 H1 s1 w1 R1 d1 q1=>?_
 obtain ⟨ys,hy,q1⟩:=Tr.ok_of q1
 obtain ⟨k,n,e,h1,rfl⟩:=ZbB d1 hy
 exact ⟨k,n,e,h1,q1 (nr k (n - k).toNat) G1 H1 s1 w1 Zdn⟩
end L2
set_option Elab.async false
set_option linter.all false
set_option maxRecDepth 100000
namespace L2
open PySem PySem.Spec PyProof.Rows
variable {PK:Pk} {X:Cx} {a b c e:Expr} {es:List Expr} {pos:Pos} {i j l:List Sl->Tr PyData} {is:List Sl->Tr (List PyData)}
noncomputable def fit (n:Int):Bool:=decide (n.natAbs < 2 ^ 8000)
noncomputable def aS:PyData->PyData->Option PyData
 | .int m,.int n=>some (.int (m+n))
 | .tuple xs,.tuple ys=>if (!xs.isEmpty && small (xs.length+ys.length))=true then some (.tuple (xs++ys)) else none
 | .list xs,.list ys=>if small (xs.length+ys.length)=true then some (.list (xs++ys)) else none
 | _,_=>none
noncomputable def uP (K:PySem.W.Frag):R2:=λx y H Q=>eO (λi j=>.int (i+j)) x y H Q\/Zb9 K x y H Q\/Zcb x y H Q
theorem bp:OpR X (binaryOp .Add) (uP X.K):=iQ.or (Zid.or Zcx)
theorem bn {K:PySem.W.Frag}:cF (uP K) aS:=λPK pa m G H x y dx dy dz Q w hx hy hz k=>by
 unfold aS at hz
 split at hz
 ·cases hz; cases hx; cases hy
  exact .inl ⟨_,_,rfl,rfl,k.here w (.int _)⟩
 ·rename_i xs ys
  split at hz
  ·rename_i hc
   rw [Bool.and_eq_true] at hc
   have h1:xs.isEmpty=false:=by simpa using hc.1
   have h2:xs.length+ys.length<=sizeLine:=of_decide_eq_true hc.2
   cases hz
   cases hx with
   | tup a1 a2 =>
    cases hy with
    | tup b1 b2 =>
     refine .inr (.inl ⟨_,_,_,_,rfl,rfl,SqT.of (w.sub _ _ a1),SqT.of (w.sub _ _ b1),?_,by rw [a2.length,b2.length]; exact h2,λe=>?_,λe p hp=>k.tup w (a2.append b2) hp⟩)
     ·intro e
      rw [<- a2.isEmpty,e] at h1
      cases h1
     ·subst e
      cases b2
      refine k.here w ?_
      rw [List.append_nil]
      exact .tup a1 a2
  ·cases hz
 ·rename_i xs ys
  split at hz
  ·rename_i hc
   have h2:xs.length+ys.length<=sizeLine:=of_decide_eq_true hc
   cases hz
   cases hx with
   | lst a1 a2 =>
    cases hy with
    | lst b1 b2=>exact .inr (.inr ⟨_,_,_,_,rfl,rfl,w.sub _ _ a1,w.sub _ _ b1,by rw [a2.length,b2.length]; exact h2,λp hp=>k.lst w (a2.append b2) hp⟩)
  ·cases hz
 ·cases hz
noncomputable def bP:PyData->PyData->Option PyData
 | .int m,.int n=>some (.int (m - n))
 | _,_=>none
theorem bW:cF (eO λi j=>.int (i - j)) bP:=λPK pa m G H x y dx dy dz Q w hx hy hz k=>by
 unfold bP at hz
 split at hz
 ·cases hz; cases hx; cases hy
  exact ⟨_,_,rfl,rfl,k.here w (.int _)⟩
 ·cases hz
theorem DnAll.rep {H:Hp} {vs:List V} {ds:List PyData} (h:DnAll H vs ds):∀ k:Nat,DnAll H (List.replicate k vs).flatten (List.replicate k ds).flatten
 | 0=>.nil
 | k+1=>by
  rw [List.replicate_succ,List.replicate_succ,List.flatten_cons,List.flatten_cons]
  exact h.append (h.rep k)
noncomputable def ZbZ (K:PySem.W.Frag):R2:=λx y H Q=>rI CMulG (λi j=>.int (i * j)) x y H Q\/uN K x y H Q\/uO x y H Q
theorem bV:OpR X (binaryOp .Mult) (ZbZ X.K):=Zh7.or (Zcu.or u7)
noncomputable def bv:PyData->PyData->Option PyData
 | .int m,.int n=>if (fit m && fit n)=true then some (.int (m * n)) else none
 | .tuple xs,.int n=>if (decide (1 < n) && decide (n<=1000) && !xs.isEmpty && decide (xs.length<=1000))=true then some (.tuple (List.replicate n.toNat xs).flatten) else none
 | .list xs,.int n=>if (decide (-(2 ^ 63)<=n) && decide (n < 2 ^ 63) && small (xs.length * n.toNat))=true then some (.list (List.replicate n.toNat xs).flatten) else none
 | _,_=>none
theorem bS {K:PySem.W.Frag}:cF (ZbZ K) bv:=λPK pa m G H x y dx dy dz Q w hx hy hz k=>by
 unfold bv at hz
 split at hz
 ·split at hz
  ·rename_i hc
   rw [Bool.and_eq_true] at hc
   cases hz; cases hx; cases hy
   exact .inl ⟨_,_,rfl,rfl,⟨of_decide_eq_true hc.1,of_decide_eq_true hc.2⟩,k.here w (.int _)⟩
  ·cases hz
 ·split at hz
  ·rename_i hc
   simp only [Bool.and_eq_true,decide_eq_true_eq,Bool.not_eq_true'] at hc
   cases hz; cases hy
   cases hx with
   | tup a1 a2 =>
    refine .inr (.inl ⟨_,_,_,rfl,rfl,SqT.of (w.sub _ _ a1),hc.1.1.1,hc.1.1.2,?_,by rw [a2.length]; exact hc.2,λp hp=>k.tup w (a2.rep _) hp⟩)
    intro e
    have:=hc.1.2
    rw [<- a2.isEmpty,e] at this
    cases this
  ·cases hz
 ·split at hz
  ·rename_i hc
   simp only [Bool.and_eq_true,decide_eq_true_eq] at hc
   cases hz; cases hy
   cases hx with
   | lst a1 a2=>exact .inr (.inr ⟨_,_,_,rfl,rfl,w.sub _ _ a1,hc.1.1,hc.1.2,by rw [a2.length]; exact of_decide_eq_true hc.2,λp hp=>k.lst w (a2.rep _) hp⟩)
  ·cases hz
 ·cases hz
noncomputable def n8:PyData->PyData->Option PyData
 | .int m,.int n=>if (decide (n≠0) && fit n)=true then some (.int (m.fdiv n)) else none
 | _,_=>none
theorem Zal:cF (rI ZfD λi j=>.int (i.fdiv j)) n8:=λPK pa m G H x y dx dy dz Q w hx hy hz k=>by
 unfold n8 at hz
 split at hz
 ·split at hz
  ·rename_i hc
   rw [Bool.and_eq_true] at hc
   cases hz; cases hx; cases hy
   exact ⟨_,_,rfl,rfl,⟨of_decide_eq_true hc.1,of_decide_eq_true hc.2⟩,k.here w (.int _)⟩
  ·cases hz
 ·cases hz
noncomputable def nQ:PyData->PyData->Option PyData
 | .int m,.int n=>if decide (n≠0)=true then some (.int (m.fmod n)) else none
 | _,_=>none
theorem Zak:cF (rI (λ_ j=>j≠0) λi j=>.int (i.fmod j)) nQ:=λPK pa m G H x y dx dy dz Q w hx hy hz k=>by
 unfold nQ at hz
 split at hz
 ·split at hz
  ·rename_i hc
   cases hz; cases hx; cases hy
   exact ⟨_,_,rfl,rfl,of_decide_eq_true hc,k.here w (.int _)⟩
  ·cases hz
 ·cases hz
noncomputable def gG (i:List Sl->Tr PyData):List Sl->Tr PyData:=λρ=>(i ρ).bind λx=>match x with
 | .int n=>.ret (.int (-n))
 | _=>.fail
theorem oo (ha:PE X a (TAe PK i)):PE X (.UnaryOp .USub a pos) (TAe PK (gG i)):=(ZhK ZfU ha).imp λσ H Q hz0=>by
 obtain ⟨pa,G₀,H₀,m,ρ,G,R,z⟩:=hz0
 refine TAe.then R z λm1 x v G1 H1 s1 w1 R1 d1 q1=>?_
 cases d1 with
 | int n=>exact ⟨n,rfl,(Kn.later q1 s1 w1.some).here w1 (.int _)⟩
 | _=>exact q1.elim
noncomputable def cW (f:Int->Int->Bool):PyData->PyData->Option PyData
 | .int m,.int n=>some (.bool (f m n))
 | _,_=>none
theorem dR {f:Int->Int->Bool}:cF (eO λi j=>.bl (f i j)) (cW f):=λPK pa m G H x y dx dy dz Q w hx hy hz k=>by
 unfold cW at hz
 split at hz
 ·cases hz; cases hx; cases hy
  exact ⟨_,_,rfl,rfl,k.here w (.bl _)⟩
 ·cases hz
noncomputable def eT:PyData->PyData->Option PyData
 | .str m,.str n=>some (.bool (m == n))
 | x,y=>if (SeqAt.shaped x && SeqAt.shaped y)=true then some (.bool (PyData.eqv x y)) else none
noncomputable def eA:PyData->PyData->Option PyData
 | .str m,.str n=>some (.bool (!(m == n)))
 | x,y=>if (SeqAt.shaped x && SeqAt.shaped y)=true then some (.bool (!PyData.eqv x y)) else none
noncomputable def Zb7:R2:=λx y H Q=>rEq x y H Q\/∃ d e,Dn H x d/\Dn H y e/\SeqAt.shaped d=true/\SeqAt.shaped e=true/\Q (.bl (PyData.eqv d e)) H
noncomputable def ZbX:R2:=λx y H Q=>rNe x y H Q\/∃ d e,Dn H x d/\Dn H y e/\SeqAt.shaped d=true/\SeqAt.shaped e=true/\Q (.bl (!PyData.eqv d e)) H
theorem iP {k:Nat} (hr:Room k X.A):OpR X (compareOp .Eq) Zb7:=Zic.or (Zib hr)
theorem o8 {k:Nat} (hr:Room k X.A):OpR X (compareOp .NotEq) ZbX:=Zh6.or (Zh5 hr)
theorem iu:cF Zb7 eT:=λPK pa m G H x y dx dy dz Q w hx hy hz k=>by
 unfold eT at hz
 split at hz
 ·cases hz; cases hx; cases hy
  exact .inl ⟨rfl,by rw [sJ]; exact k.here w (.bl _)⟩
 ·split at hz
  ·rename_i hc
   rw [Bool.and_eq_true] at hc
   cases hz
   exact .inr ⟨_,_,hx.mono w.sub,hy.mono w.sub,hc.1,hc.2,k.here w (.bl _)⟩
  ·cases hz
theorem oz:cF ZbX eA:=λPK pa m G H x y dx dy dz Q w hx hy hz k=>by
 unfold eA at hz
 split at hz
 ·cases hz; cases hx; cases hy
  exact .inl ⟨rfl,by rw [sJ]; exact k.here w (.bl _)⟩
 ·split at hz
  ·rename_i hc
   rw [Bool.and_eq_true] at hc
   cases hz
   exact .inr ⟨_,_,hx.mono w.sub,hy.mono w.sub,hc.1,hc.2,k.here w (.bl _)⟩
  ·cases hz
noncomputable def pI:PyData->Bool
 | .none=>true
 | _=>false
noncomputable def pJ:PyData->PyData->Option PyData:=λx y=>if pI y=true then some (.bool (pI x)) else none
theorem Dn.no {G:Hp} {v:V} {x:PyData} (h:Dn G v x):decide (v=.non)=pI x:=by
 cases h <;> simp [pI]
theorem ZfK:cF (λx y H Q=>y=.non/\Q (.bl (decide (x=.non))) H) pJ:=λPK pa m G H x y dx dy dz Q w hx hy hz k=>by
 unfold pJ at hz
 split at hz
 ·rename_i hc
  cases hz
  refine ⟨?_,by rw [hx.no]; exact k.here w (.bl _)⟩
  rw [<- hy.no] at hc
  exact of_decide_eq_true hc
 ·cases hz
noncomputable def ay:PyData->PyData->Option PyData
 | .list xs,.int n=>bw xs n
 | .tuple xs,.int n=>bw xs n
 | _,_=>none
theorem DnAll.at {H:Hp} {vs:List V} {ds:List PyData} {n:Int} {d:PyData} (h:DnAll H vs ds) (e:bw ds n=some d):∃ v,bw vs n=some v/\Dn H v d:=by
 unfold bw at e ⊢
 rw [<- h.length] at e
 cases hn:dJ vs.length n with
 | none=>rw [hn] at e; cases e
 | some j =>
  rw [hn] at e
  exact h.get j e
theorem aZ {K:PySem.W.Frag}:cF (rIx K) ay:=λPK pa m G H x y dx dy dz Q w hx hy hz k=>by
 unfold ay at hz
 split at hz
 ·cases hy
  cases hx with
  | lst a1 a2 =>
   obtain ⟨v,h1,h2⟩:=a2.at hz
   exact .inl ⟨_,_,_,v,rfl,rfl,SqL.of (w.sub _ _ a1),h1,k.here w h2⟩
 ·cases hy
  cases hx with
  | tup a1 a2 =>
   obtain ⟨v,h1,h2⟩:=a2.at hz
   exact .inr (.inl ⟨_,_,_,v,rfl,rfl,SqT.of (w.sub _ _ a1),h1,k.here w h2⟩)
 ·cases hz
noncomputable def bJ:List PyData->Option PyData
 | [.list xs]=>some (.int xs.length)
 | [.tuple xs]=>some (.int xs.length)
 | _=>none
theorem di {K:PySem.W.Frag}:eG (λxs H Q=>∃ p ys,xs=[.ref p]/\(SqL K H p ys\/SqT K H p ys)/\Q (.int ys.length) H) bJ:=λPK pa m G H vs ds d Q w hv hd k=>by
 unfold bJ at hd
 split at hd
 ·cases hd
  cases hv with
  | cons h1 h2 =>
   cases h2
   cases h1 with
   | lst a1 a2=>exact ⟨_,_,rfl,.inl (SqL.of (w.sub _ _ a1)),by rw [a2.length]; exact k.here w (.int _)⟩
 ·cases hd
  cases hv with
  | cons h1 h2 =>
   cases h2
   cases h1 with
   | tup a1 a2=>exact ⟨_,_,rfl,.inr (SqT.of (w.sub _ _ a1)),by rw [a2.length]; exact k.here w (.int _)⟩
 ·cases hd
noncomputable def sV (n:Int):Int:=if n < 0 then -n else n
noncomputable def oq:List PyData->Option PyData
 | [.int n]=>some (.int (sV n))
 | _=>none
theorem tW:eG (λxs H Q=>∃ i,xs=[.int i]/\Q (.int (if i < 0 then -i else i)) H) oq:=λPK pa m G H vs ds d Q w hv hd k=>by
 unfold oq at hd
 split at hd
 ·cases hd
  cases hv with
  | cons h1 h2=>cases h2; cases h1; exact ⟨_,rfl,k.here w (.int _)⟩
 ·cases hd
noncomputable def ci (m n:Int):Int:=if n > m then n else m
noncomputable def de (m n:Int):Int:=if n < m then n else m
noncomputable def g7:List PyData->Option PyData
 | [.int m,.int n]=>some (.int (ci m n))
 | _=>none
noncomputable def nR:List PyData->Option PyData
 | [.int m,.int n]=>some (.int (de m n))
 | _=>none
theorem oA:eG (λxs H Q=>∃ i j,xs=[.int i,.int j]/\Q (.int (if j > i then j else i)) H) g7:=λPK pa m G H vs ds d Q w hv hd k=>by
 unfold g7 at hd
 split at hd
 ·cases hd
  cases hv with
  | cons h1 h2=>cases h2 with | cons h2 h3=>cases h3; cases h1; cases h2; exact ⟨_,_,rfl,k.here w (.int _)⟩
 ·cases hd
theorem tV:eG (λxs H Q=>∃ i j,xs=[.int i,.int j]/\Q (.int (if j < i then j else i)) H) nR:=λPK pa m G H vs ds d Q w hv hd k=>by
 unfold nR at hd
 split at hd
 ·cases hd
  cases hv with
  | cons h1 h2=>cases h2 with | cons h2 h3=>cases h3; cases h1; cases h2; exact ⟨_,_,rfl,k.here w (.int _)⟩
 ·cases hd
noncomputable def nZ:List PyData->Option PyData
 | [.int n]=>some (.int n)
 | [.bool n]=>some (.int (if n then 1 else 0))
 | _=>none
theorem ZfQ:eG (λxs H Q=>(∃ i,xs=[.int i]/\Q (.int i) H)\/∃ k,xs=[.bl k]/\Q (.int (if k then 1 else 0)) H) nZ:=λPK pa m G H vs ds d Q w hv hd k=>by
 unfold nZ at hd
 split at hd
 ·cases hd
  cases hv with
  | cons h1 h2=>cases h2; cases h1; exact .inl ⟨_,rfl,k.here w (.int _)⟩
 ·cases hd
  cases hv with
  | cons h1 h2=>cases h2; cases h1; exact .inr ⟨_,rfl,k.here w (.int _)⟩
 ·cases hd
noncomputable def fA:List PyData->Option PyData
 | [.list xs]=>some (.tuple xs)
 | [.tuple xs]=>some (.tuple xs)
 | _=>none
theorem nw {K:PySem.W.Frag}:eG (λxs H Q=>∃ p ys,xs=[.ref p]/\((SqL K H p ys/\∀ l,H l=none->Q (.ref l) (upd H l (.tup ys)))\/(SqT K H p ys/\Q (.ref p) H))) fA:=λPK pa m G H vs ds d Q w hv hd k=>by
 unfold fA at hd
 split at hd
 ·cases hd
  cases hv with
  | cons h1 h2 =>
   cases h2
   cases h1 with
   | lst a1 a2=>exact ⟨_,_,rfl,.inl ⟨SqL.of (w.sub _ _ a1),λp hp=>k.tup w a2 hp⟩⟩
 ·cases hd
  cases hv with
  | cons h1 h2 =>
   cases h2
   cases h1 with
   | tup a1 a2=>exact ⟨_,_,rfl,.inr ⟨SqT.of (w.sub _ _ a1),k.here w (.tup a1 a2)⟩⟩
 ·cases hd
noncomputable def nK (d:PyData):Bool:=!d.hasDict && d.showable && decide (d.depth<=32) && decide (d.shown.length<=sizeLine)
noncomputable def nL:List PyData->Option PyData
 | [d]=>if nK d=true then some (.str d.shown) else none
 | _=>none
theorem Zam:eG (λxs H Q=>∃ v d,xs=[v]/\Dn H v d/\d.hasDict=false/\d.showable=true/\d.depth<=32/\d.shown.length<=sizeLine/\Q (.str d.shown) H) nL:=λPK pa m G H vs ds d Q w hv hd k=>by
 unfold nL at hd
 split at hd
 ·split at hd
  ·rename_i hc
   unfold nK at hc
   simp only [Bool.and_eq_true,decide_eq_true_eq,Bool.not_eq_true'] at hc
   cases hd
   cases hv with
   | cons h1 h2=>cases h2; exact ⟨_,_,rfl,h1.mono w.sub,hc.1.1.1,hc.1.1.2,hc.1.2,hc.2,k.here w (.str _)⟩
  ·cases hd
 ·cases hd
noncomputable def fU:PyData->String
 | .none=>"NoneType"
 | .bool _=>"bool"
 | .int _=>"int"
 | .str _=>"str"
 | .list _=>"list"
 | .tuple _=>"tuple"
 | .dict _=>"dict"
theorem Dn.ty {K:PySem.W.Frag} {G H:Hp} (sb:Sub G H) {v:V} {d:PyData} (h:Dn G v d):TyOf K H v (.type (fU d)):=by
 cases h with
 | non=>exact .non
 | bl b=>exact .bl b
 | int i=>exact .int i
 | str x=>exact .str x
 | tup h _=>exact .tup (sb _ _ h)
 | lst h _=>exact .lst (sb _ _ h)
 | dct h _=>exact h.elim (λh=>.dK (sb _ _ h)) λ⟨o,h⟩=>.frzD (sb _ _ h)
noncomputable def jb (T:String) (t:String):Bool:=decide (t=T) || (decide (T="int") && decide (t="bool"))
noncomputable def qg (T:String) (i:List Sl->Tr PyData):List Sl->Tr PyData:=λρ=>(i ρ).bind λx=>.ret (.bool (jb T (fU x)))
noncomputable def Zdq (T:String):Prop:=T="int"\/T="bool"\/T="str"\/T="list"\/T="tuple"\/T="dict"
theorem Zja {K:PySem.W.Frag} {T:String} (h:Zdq T) (d:PyData):PySem.W.kitOne K (.type (fU d)) (.type T)=some (jb T (fU d)):=by
 rcases h with rfl | rfl | rfl | rfl | rfl | rfl <;> cases d <;> rfl
theorem wN {T:String} {tc:TE} (hT:Zdq T) (htc:tc=tC (.ty T)) (h:PE X e (eJ (λxs H Q=>∃ x T t b,xs=[x,.ty T]/\TyOf X.K H x t/\PySem.W.kitOne X.K t (.type T)=some b/\Q (.bl b) H) (fW (TAe PK i) (fW tc aP)))):PE X e (TAe PK (qg T i)):=h.imp λσ H Q hz0=>by
 obtain ⟨pa,G₀,H₀,m,ρ,G,R,z⟩:=hz0
 subst htc
 refine TAe.then R z λm1 x v G1 H1 s1 w1 R1 d1 q1=>?_
 exact ⟨v,T,_,_,rfl,d1.ty w1.sub,Zja hT x,(Kn.later q1 s1 w1.some).here w1 (.bl _)⟩
noncomputable def dN (xs:List PyData) (lo hi:Option Int):List PyData:=(xs.drop (HT.aE xs.length 0 lo)).take (HT.aE xs.length xs.length hi - HT.aE xs.length 0 lo)
theorem DnAll.take {H:Hp}:∀ {vs:List V} {ds:List PyData} (n:Nat),DnAll H vs ds->DnAll H (vs.take n) (ds.take n)
 | _,_,0,_=>.nil
 | _,_,_+1,.nil=>.nil
 | _,_,n+1,.cons r t=>.cons r (DnAll.take n t)
theorem DnAll.drop {H:Hp}:∀ {vs:List V} {ds:List PyData} (n:Nat),DnAll H vs ds->DnAll H (vs.drop n) (ds.drop n)
 | _,_,0,r=>r
 | _,_,_+1,.nil=>.nil
 | _,_,n+1,.cons r t=>DnAll.drop n t
theorem DnAll.cut {H:Hp} {vs:List V} {ds:List PyData} (h:DnAll H vs ds) (lo hi:Option Int):DnAll H (ic vs lo hi) (dN ds lo hi):=by
 unfold ic dN
 rw [h.length]
 exact (h.drop _).take _
noncomputable abbrev ft:=List Sl->Tr (Option Int)
noncomputable def cC:ft:=λ_=>.ret none
noncomputable def cw (i:List Sl->Tr PyData):ft:=λρ=>(i ρ).bind λx=>match x with
 | .int n=>.ret (some n)
 | _=>.fail
noncomputable def TAp (PK:Pk) (i:ft):TO:=λσ H Q=>∃ pa G₀ H₀ m ρ G,Rl PK pa G₀ H₀ m σ ρ G H/\(i ρ).ok m λm' x=>∀ G' H',Stp pa G H G' H'->Wd PK pa m' G' H'->Q x H'
theorem PO.imp {e:Option Expr} {t t':TO} (h:PO X e t) (q:∀ σ H Q,t' σ H Q->t σ H Q):PO X e t':=λpins s σ H Q I z=>h pins s σ H Q I (q σ H Q z)
theorem cZ:PO X none (TAp PK cC):=Zhy.imp λσ H Q hz0=>by
 obtain ⟨pa,G₀,H₀,m,ρ,G,R,z⟩:=hz0
 exact z G H .refl R.wd
theorem cY (h:PE X e (TAe PK i)):PO X (some e) (TAp PK (cw i)):=(Zhx h).imp λσ H Q hz0=>by
 obtain ⟨pa,G₀,H₀,m,ρ,G,R,z⟩:=hz0
 refine TAe.then R z λm1 x v G1 H1 s1 w1 R1 d1 q1=>?_
 cases d1 with
 | int n=>exact ⟨n,rfl,q1 G1 H1 s1 w1⟩
 | _=>exact q1.elim
theorem ZjJ {prog:Program} {w:World} {A:Around} {E:Value->Shared->Prop} {s:Shared} {t sl:Addr} {items:Array Value} {vl vu:Value} {lo hi:Option Int} {Q:Value->Shared->Prop} (ht:IsTup s.heap t items) (hs:s.heap.IsSliceOf sl vl vu .none) (pl:IsPart vl lo) (pu:IsPart vu hi)
  (hw:HT.aE items.size 0 lo=0/\HT.aE items.size items.size hi=items.size) (h:Q (.ref t) s):wpAny (model prog w) A (getItem (.ref t) (.ref sl)) Q E s:=by
 obtain ⟨os,hos,hcs,hds⟩:=id hs
 have hTs:s.TypeIs (.ref sl) "slice":=⟨os,hos,hcs⟩
 unfold getItem
 try with_reducible refine wpAny_holding ?_
 first | refine wpAny_bind (wpAny_pure ?_) | skip
 refine wpAny_bind (wpAny_sequenceKey ht.typeIs (by decide) ?_)
 refine wpAny_bind (wpAny_callSpecial?_slot (name:=Str.ofString "__getitem__") ht.typeIs PyProof.Rows.slot_tuple_getitem
  (wpAny_call_entry PyProof.Rows.slot_tuple_getitem ht.typeIs entry_tuple_getitem ?_ (args_tuple_getitem _ _)))
 show wpAny _ _ (Builtin.Tuple.tupleItemsOf (.ref t) >>= _) _ _ s
 refine wpAny_bind (tupleItemsOf_ ht ?_)
 refine wpAny_bind (wpAny_typeOf hTs ?_)
 rw [if_pos (by decide)]
 refine wpAny_bind (HT.ZaV hs pl pu ?_)
 have hyes:(((HT.aE items.size 0 lo:Nat):Int) == 0 && (1:Int) == 1 && (HT.aE items.size items.size hi - HT.aE items.size 0 lo) == items.size)=true:=by
  rw [hw.1,hw.2]
  simp
 show wpAny _ _ (if (((HT.aE items.size 0 lo:Nat):Int) == 0 && (1:Int) == 1 && (HT.aE items.size items.size hi - HT.aE items.size 0 lo) == items.size)=true then _ else _) _ _ s
 rw [if_pos hyes]
 refine wpAny_bind (m:=Builtin.Tuple.tupleIsExact (.ref t)) ?_
 unfold Builtin.Tuple.tupleIsExact
 refine wpAny_bind (wpAny_typeOf ht.typeIs ?_)
 refine wpAny_pure ?_
 rw [if_pos (by decide)]
 refine wpAny_bind (wpAny_rule ?_)
 exact wpAny_pure ⟨_,rfl,wpAny_pure h⟩
noncomputable def ZbQ (K:PySem.W.Frag):V->Option Int->Option Int->Hp->VK->Prop:=λx lo hi H Q=>∃ a xs,x=.ref a/\SqT K H a xs/\(HT.aE xs.length 0 lo=0/\HT.aE xs.length xs.length hi=xs.length)/\Q (.ref a) H
theorem Zgy:SlR X (ZbQ X.K):=by
 intro pins s σ H x v vl vu lo hi sl Q I rx hs pl pu h
 obtain ⟨a,xs,rfl,hx,hw,q⟩:=h
 cases rx
 obtain ⟨its,r,ht,hz⟩:=I.tuple hx
 have hlen:its.toArray.size=xs.length:=by rw [List.size_toArray]; exact r.length.symm
 refine ⟨"tuple",_,PyProof.Rows.slot_tuple_getitem.lookup,ht.typeIs,?_⟩
 exact ZjJ ht hs pl pu (by rw [hlen]; exact hw) ⟨.ref a,H,I,rfl,q⟩
noncomputable def Zhd (K:PySem.W.Frag):V->Option Int->Option Int->Hp->VK->Prop:=λx lo hi H Q=>ZbS K x lo hi H Q\/ZbR K x lo hi H Q\/ZbQ K x lo hi H Q
theorem ZgB:SlR X (Zhd X.K):=ZgA.or (Zgz.or Zgy)
noncomputable def ZaU (x:PyData) (lo hi:Option Int):Option PyData:=match x with
 | .list xs=>some (.list (dN xs lo hi))
 | .tuple xs=>some (.tuple (dN xs lo hi))
 | _=>none
noncomputable def cA (i:List Sl->Tr PyData) (p q:ft):List Sl->Tr PyData:=λρ=>(i ρ).bind λx=>(p ρ).bind λlo=>(q ρ).bind λhi=>Tr.of (ZaU x lo hi)
theorem TAp.then {p:ft} {σ:St} {H:Hp} {β:Type} {k:Option Int->Tr β} {Z:Nat->β->Prop} {Q:Option Int->Hp->Prop} {pa:Addr} {G₀ H₀ G:Hp} {m:Nat} {ρ:List Sl} (R:Rl PK pa G₀ H₀ m σ ρ G H) (h:((p ρ).bind k).ok m Z)
  (hq:∀ m1 x G1 H1,Stp pa G H G1 H1->Wd PK pa m1 G1 H1->Rl PK pa G₀ H₀ m1 σ ρ G1 H1->(k x).ok m1 Z->Q x H1):TAp PK p σ H Q:=by
 refine ⟨pa,G₀,H₀,m,ρ,G,R,Tr.ok_mono (Tr.ok_bind.mp h) λm1 x hx G1 H1 s1 w1=>?_⟩
 exact hq m1 x G1 H1 s1 w1 (R.step s1 w1) hx
theorem c9 {p q:ft} {lo hi:Option Expr} {p2:Pos} (he:PE X e (TAe PK i)) (hl:PO X lo (TAp PK p)) (hu:PO X hi (TAp PK q)):PE X (.Subscript e (.Slice lo hi none p2) pos) (TAe PK (cA i p q)):=(ZhM ZgB he hl hu).imp λσ H Q hz0=>by
 obtain ⟨pa,G₀,H₀,m,ρ,G,R,z⟩:=hz0
 refine TAe.then R z λm1 x v G1 H1 s1 w1 R1 d1 q1=>?_
 refine TAp.then R1 q1 λm2 lo G2 H2 s2 w2 R2 q2=>?_
 refine TAp.then R2 q2 λm3 hi G3 H3 s3 w3 R3 q3=>?_
 obtain ⟨d,hd,k⟩:=Tr.ok_of q3
 have s13:=(s1.trans s2 w1.some).trans s3 w2.some
 have k':=Kn.later k s13 w3.some
 have d3:=d1.mono (s2.gs.trans s3.gs)
 cases d3 with
 | lst a1 a2=>cases hd; exact .inl ⟨_,_,rfl,SqL.of (w3.sub _ _ a1),λp hp=>k'.lst w3 (a2.cut lo hi) hp⟩
 | @tup a xs ds a1 a2 =>
  cases hd
  by_cases hw:HT.aE xs.length 0 lo=0/\HT.aE xs.length xs.length hi=xs.length
  ·refine .inr (.inr ⟨_,_,rfl,SqT.of (w3.sub _ _ a1),hw,k'.here w3 ?_⟩)
   have e:dN ds lo hi=ds:=by
    unfold dN
    rw [<- a2.length,hw.1,hw.2]
    simp
    rw [a2.length]
    exact List.take_length
   rw [e]
   exact .tup a1 a2
  ·exact .inr (.inl ⟨_,_,rfl,SqT.of (w3.sub _ _ a1),hw,λp hp=>k'.tup w3 (a2.cut lo hi) hp⟩)
 | _=>cases hd
theorem DnAll.range {H:Hp} (lo:Int) (n:Nat):DnAll H (gQ lo n) ((ao lo n).map PyData.int):=by
 rw [Zhb]
 exact DnAll.ints _
noncomputable def qO (lo hi:Int):Bool:=dL lo && dL hi && decide ((hi - lo).toNat<=1000)
noncomputable def oP:List PyData->Option (List PyData)
 | [.int lo,.int hi]=>if qO lo hi=true then some (bc lo hi) else none
 | _=>none
theorem Zg5 {G:Hp} {vs:List V} {xs ys:List PyData} (d:DnAll G vs xs) (h:oP xs=some ys):∃ k n:Int,vs=[.int k,.int n]/\(-(2 ^ 62)<=k/\k < 2 ^ 62/\-(2 ^ 62)<=n/\n < 2 ^ 62/\(n - k).toNat<=1000)/\ys=bc k n:=by
 unfold oP at h
 split at h
 ·split at h
  ·rename_i hn
   cases h
   cases d with
   | cons d1 d2 =>
    cases d2 with
    | cons d2 d3 =>
     cases d3
     cases d1
     cases d2
     unfold qO at hn
     rw [Bool.and_eq_true,Bool.and_eq_true] at hn
     have h1:=of_decide_eq_true hn.1.1
     have h2:=of_decide_eq_true hn.1.2
     exact ⟨_,_,rfl,⟨h1.1,h1.2,h2.1,h2.2,of_decide_eq_true hn.2⟩,rfl⟩
  ·cases h
 ·cases h
noncomputable def Zf8 (t:TA):TE:=eJ (λxs H Q=>∃ a lo hi,xs=[.ref a]/\H a=some (.rng lo hi)/\-(2 ^ 62)<=lo/\lo < 2 ^ 62/\-(2 ^ 62)<=hi/\hi < 2 ^ 62/\(hi - lo).toNat<=1000/\∀ p,H p=none->Q (.ref p) (upd H p (.lst (gQ lo (hi - lo).toNat))))
 (fW (eJ (λxs H Q=>∃ i j:Int,xs=[.int i,.int j]/\∀ p,H p=none->Q (.ref p) (upd H p (.rng i j))) t) aP)
noncomputable def wS (is:List Sl->Tr (List PyData)):List Sl->Tr (List PyData):=λρ=>(is ρ).bind λxs=>Tr.of (oP xs)
theorem Zmk (h:PE X e (Zf8 (TAd PK is))):PE X e (d7 PK (wS is)):=h.imp λσ H Q hz0=>by
 obtain ⟨pa,G₀,H₀,m,ρ,G,R,z⟩:=hz0
 refine TAd.then R z λm1 xs vs G1 H1 s1 w1 R1 d1 q1=>?_
 obtain ⟨ys,hy,k⟩:=Tr.ok_of q1
 obtain ⟨lo,hi,rfl,⟨b1,b2,b3,b4,b5⟩,rfl⟩:=Zg5 d1 hy
 refine ⟨lo,hi,rfl,λp hp=>?_⟩
 obtain ⟨w2,s2⟩:=w1.own (o:=.rng lo hi) hp
 refine ⟨p,lo,hi,rfl,bE,b1,b2,b3,b4,b5,λq hq=>?_⟩
 exact (Ko1.later k (s1.trans s2 w1.some) w2.some).new w2 (DnAll.range _ _) hq
noncomputable def ints?:List PyData->Option (List Int)
 | []=>some []
 | .int n::xs=>(ints? xs).bind λns=>some (n::ns)
 | _=>none
@[simp] theorem ints?_map:∀ ns:List Int,ints? (ns.map PyData.int)=some ns
 | []=>rfl
 | n::ns=>by rw [List.map_cons,ints?,ints?_map ns]; rfl
theorem DnAll.ints_inv {H:Hp} {vs:List V} {ds:List PyData} {ns:List Int} (a:DnAll H vs ds) (h:ints? ds=some ns):vs=ns.map V.int/\ds=ns.map PyData.int:=by
 induction vs generalizing ds ns with
 | nil=>cases a; cases h; exact ⟨rfl,rfl⟩
 | cons v vs ih =>
  cases a with
  | cons g t =>
   cases g with
   | int n =>
    unfold ints? at h
    rename_i ds
    cases e:ints? ds with
    | none=>rw [e] at h; cases h
    | some ms =>
     rw [e] at h
     cases h
     obtain ⟨h1,h2⟩:=ih t e
     exact ⟨by rw [h1]; rfl,by rw [h2]; rfl⟩
   | _=>unfold ints? at h; cases h
noncomputable def dq (ns:List Int):List Int:=ns.mergeSort λa b=>decide (a<=b)
theorem qB (ns:List Int):(dq ns).Perm ns:=List.mergeSort_perm ..
theorem uk (ns:List Int):(dq ns).Pairwise (·<=·):=by
 have:=List.pairwise_mergeSort (le:=λ(a b:Int)=>decide (a<=b)) (λa b c h1 h2=>by simp at *; omega) (λa b=>by simp; omega) ns
 exact this.imp λh=>by simpa using h
theorem ZaQ {a b:List Int} (hp:a.Perm b) (ha:a.Pairwise (·<=·)) (hb:b.Pairwise (·<=·)):a=b:=by
 first
  | exact hp.eq_of_pairwise (λx y _ _ h1 h2=>Int.le_antisymm h1 h2) ha hb
  | exact List.Perm.eq_of_pairwise (λx y _ _ h1 h2=>Int.le_antisymm h1 h2) ha hb hp
noncomputable def oH:List PyData->Option (List PyData)
 | [.list xs]=>(ints? xs).bind λns=>if decide (ns.length < 64)=true then some ((dq ns).map PyData.int) else none
 | _=>none
theorem ZfP:tt (λxs H Q=>∃ l ns,xs=[.ref l]/\H l=some (.lst (ns.map V.int))/\ns.length < 64 /\
  ∀ (ns':List Int) q,ns'.Perm ns->ns'.Pairwise (·<=·)->H q=none->Q (.ref q) (upd H q (.lst (ns'.map V.int)))) oH:=λPK pa m G H vs ds d Q w hv hd k=>by
 unfold oH at hd
 split at hd
 ·rename_i xs
  cases e:ints? xs with
  | none=>rw [e] at hd; cases hd
  | some ns =>
   rw [e] at hd
   have hd':(if decide (ns.length < 64)=true then some ((dq ns).map PyData.int) else none)=some d:=hd
   split at hd'
   ·rename_i hc
    cases hd'
    cases hv with
    | cons h1 h2 =>
     cases h2
     cases h1 with
     | lst a1 a2 =>
      obtain ⟨rfl,rfl⟩:=a2.ints_inv e
      refine ⟨_,ns,rfl,w.sub _ _ a1,of_decide_eq_true hc,λns' q hp hs hq=>?_⟩
      have:ns'=dq ns:=ZaQ (hp.trans (qB ns).symm) hs (uk ns)
      subst this
      exact k.new w (DnAll.ints _) hq
   ·cases hd'
 ·cases hd
end L2
set_option Elab.async false
set_option linter.all false
set_option maxRecDepth 100000
namespace L2
open PySem PySem.Spec PyProof.Rows
section
variable {prog:Program} {w:World} {A:Around} {E:Value->Shared->Prop} {s:Shared}
noncomputable def ItAt (b:Bool) (h:Heap) (it a:Addr) (k:Nat):Prop:=match b with
 | true=>h.IsListIter it a k
 | false=>h.IsTupleIter it a k
noncomputable def SqAt (b:Bool) (h:Heap) (a:Addr) (items:Array Value):Prop:=match b with
 | true=>h.IsList a items
 | false=>h.IsTuple a items
theorem ItAt.at {b:Bool} {h h':Heap} {it a:Addr} {k:Nat} (x:ItAt b h it a k) (e:∀ o,h.get? it=some o->h'.get? it=some o):ItAt b h' it a k:=by
 cases b with
 | true=>exact Heap.IsListIter.at x e
 | false=>obtain ⟨o,ho,r⟩:=(show h.IsTupleIter it a k from x); exact ⟨o,e o ho,r⟩
theorem SqAt.at {b:Bool} {h h':Heap} {a:Addr} {items:Array Value} (x:SqAt b h a items) (e:∀ o,h.get? a=some o->h'.get? a=some o):SqAt b h' a items:=by
 cases b with
 | true=>exact Heap.IsList.at x e
 | false=>exact Heap.IsTuple.at x e
theorem ItAt.there {b:Bool} {h:Heap} {it a:Addr} {k:Nat} (x:ItAt b h it a k):∃ o,h.get? it=some o/\∀ v,o.data≠.cell v:=by
 cases b with
 | true=>obtain ⟨o,ho,_,hd⟩:=(show h.IsListIter it a k from x); exact ⟨o,ho,λv z=>by rw [hd] at z; cases z⟩
 | false=>obtain ⟨o,ho,_,hd⟩:=(show h.IsTupleIter it a k from x); exact ⟨o,ho,λv z=>by rw [hd] at z; cases z⟩
theorem Zio {it l:Addr} {i:Nat} {items:Array Value} {x:Value} {Q:Value->Shared->Prop} (hit:s.heap.IsTupleIter it l i) (hl:s.heap.IsTuple l items) (hx:items[i]?=some x)
  (hQ:∀ h',h'.IsTupleIter it l (i+1)->Heap.SameBut it s.heap h'->Q x { s with heap:=h' }):wpAny (model prog w) A (Builtin.SmallTypes.nextOf (.ref it)) Q E s:=by
 obtain ⟨o,ho,hc,hd⟩:=id hit; obtain ⟨ol,hol,_,nl,hdl⟩:=hl
 unfold Builtin.SmallTypes.nextOf
 refine wpAny_bind (wpAny_callSpecial?_slot (name:=Str.ofString "__next__") hit.typeIs F.slot_tuple_iterator_next (wpAny_call_entry F.slot_tuple_iterator_next hit.typeIs F.entry_tuple_iterator_next ?_ (F.args_tuple_iterator_next_1 _)))
 show wpAny _ _ (field (.ref it) 0 >>= _) _ _ s; refine wpAny_bind (wpAny_field ho hd (x:=.ref l) rfl ?_)
 show wpAny _ _ (if (Value.ref l == Value.none)=true then _ else _) _ _ s; rw [if_neg (show ¬ ((Value.ref l == Value.none)=true) from Bool.false_ne_true)]
 show wpAny _ _ (field (.ref it) 1 >>= _) _ _ s; refine wpAny_bind (wpAny_field ho hd (x:=.int i 0) rfl ?_)
 show wpAny _ _ (seqItems? (.ref l) >>= _) _ _ s; refine wpAny_bind (wpAny_seqItems hol hdl ?_); simp only [Int.toNat_natCast,hx]
 refine wpAny_bind (wpAny_setField ho hd (by simp) (wpAny_pure ⟨x,rfl,wpAny_pure (hQ _ ⟨_,Heap.get?_update_self _ ho (Obj.isFreed_of_fields (Obj.data_mapFields hd _)),(Obj.cls_mapFields ..).trans hc,?_⟩ (Heap.SameBut.update ..))⟩))
 rw [Obj.data_mapFields hd]; simp [rawInt]
theorem Zip {it l:Addr} {i:Nat} {items:Array Value} {Q:Value->Shared->Prop} (hh:A.handled=none) (hit:s.heap.IsTupleIter it l i) (hl:s.heap.IsTuple l items) (hx:items[i]?=none)
  (hE:∀ h' e,Heap.ExtBut it s.heap h'->(∃ o,h'.get? e=some o/\o.cls=.type "StopIteration")->E (.ref e) { s with heap:=h' }):wpAny (model prog w) A (Builtin.SmallTypes.nextOf (.ref it)) Q E s:=by
 obtain ⟨o,ho,hc,hd⟩:=id hit; obtain ⟨ol,hol,_,nl,hdl⟩:=hl
 unfold Builtin.SmallTypes.nextOf
 refine wpAny_bind (wpAny_callSpecial?_slot (name:=Str.ofString "__next__") hit.typeIs F.slot_tuple_iterator_next (wpAny_call_entry F.slot_tuple_iterator_next hit.typeIs F.entry_tuple_iterator_next ?_ (F.args_tuple_iterator_next_1 _)))
 show wpAny _ _ (field (.ref it) 0 >>= _) _ _ s; refine wpAny_bind (wpAny_field ho hd (x:=.ref l) rfl ?_)
 show wpAny _ _ (if (Value.ref l == Value.none)=true then _ else _) _ _ s; rw [if_neg (show ¬ ((Value.ref l == Value.none)=true) from Bool.false_ne_true)]
 show wpAny _ _ (field (.ref it) 1 >>= _) _ _ s; refine wpAny_bind (wpAny_field ho hd (x:=.int i 0) rfl ?_)
 show wpAny _ _ (seqItems? (.ref l) >>= _) _ _ s; refine wpAny_bind (wpAny_seqItems hol hdl ?_); simp only [Int.toNat_natCast,hx]
 refine wpAny_bind (wpAny_rule (wpAny_bind (wpAny_setField ho hd (by simp) ?_))); show wpAny _ _ (newExc (.type "StopIteration") [] >>= _) _ _ _
 refine wpAny_bind ?_; simp only [newExc,newTuple]; refine wpAny_bind (wpAny_newObj_type ?_ (by size_fits))
 refine wpAny_bind (m:=firstArgMember _ _) (wpAny_of_eq (a:=Value.none) (by first | rfl | (simp only [firstArgMember]; rfl)) ?_); refine wpAny_newObj_type ?_ (by size_fits); simp only [raiseNew]
 refine wpAny_bind (wpAny_handled ?_); first | rw [show A.in1.handled=none from hh] | rw [hh]
 refine wpAny_bind (wpAny_pure (wpAny_throw (hE _ _ (((Heap.SameBut.update ..).extBut.push _).push _) ⟨_,Heap.get?_push_size _ rfl,rfl⟩)))
theorem Ziq {b:Bool} {it l:Addr} {i:Nat} {items:Array Value} {x:Value} {Q:Value->Shared->Prop} (hit:ItAt b s.heap it l i) (hl:SqAt b s.heap l items) (hx:items[i]?=some x)
  (hQ:∀ h',ItAt b h' it l (i+1)->Heap.SameBut it s.heap h'->Q x { s with heap:=h' }):wpAny (model prog w) A (Builtin.SmallTypes.nextOf (.ref it)) Q E s:=by
 cases b with
 | true=>exact wpAny_nextOf_list_item hit hl hx hQ
 | false=>exact Zio hit hl hx hQ
theorem Zir {b:Bool} {it l:Addr} {i:Nat} {items:Array Value} {Q:Value->Shared->Prop} (hh:A.handled=none) (hit:ItAt b s.heap it l i) (hl:SqAt b s.heap l items) (hx:items[i]?=none)
  (hE:∀ h' e,Heap.ExtBut it s.heap h'->(∃ o,h'.get? e=some o/\o.cls=.type "StopIteration")->E (.ref e) { s with heap:=h' }):wpAny (model prog w) A (Builtin.SmallTypes.nextOf (.ref it)) Q E s:=by
 cases b with
 | true=>exact wpAny_nextOf_list_end hh hit hl hx hE
 | false=>exact Zip hh hit hl hx hE
theorem SqAt.bt {b:Bool} {h h':Heap} {a c:Addr} {items:Array Value} (x:SqAt b h a items) (e:Heap.ExtBut c h h') (n:a≠c):SqAt b h' a items:=x.at λo q=>e a o n q
noncomputable def gj (b:Bool) (l:Addr):Obj:=match b with
 | true=>{ cls:=.type "list_iterator",data:=.fields #[.ref l,.int 0 0] }
 | false=>{ cls:=.type "tuple_iterator",data:=.fields #[.ref l,.int 0 0] }
theorem oX {b:Bool} {l:Addr} {items:Array Value} {Q:Value->Shared->Prop} (hl:SqAt b s.heap l items) (hQ:Q (.ref s.heap.objs.size) { s with heap:=s.heap.push (gj b l) }):wpAny (model prog w) A (pyIter (.ref l)) Q E s:=by
 cases b with
 | true=>exact wpAny_pyIter_list hl hQ
 | false=>exact wpAny_pyIter_tuple hl hQ
theorem SqAt.push {b:Bool} {h:Heap} {l:Addr} {items:Array Value} (x:SqAt b h l items) (o:Obj):SqAt b (h.push o) l items:=x.at λ_ q=>Heap.get?_push_of_some _ q
theorem vT {b:Bool} {h:Heap} {it l:Addr} (e:h.get? it=some (gj b l)):ItAt b h it l 0:=by
 cases b with
 | true=>exact ⟨_,e,rfl,rfl⟩
 | false=>exact ⟨_,e,rfl,rfl⟩
end
section
variable {X:Cx} {pins:List (Addr×Obj)} {σ:St} {H:Hp} {s:Shared} {h':Heap}
theorem Inv.turns {t':Nat} {ch:List Addr} (I:Inv X pins σ H s) (k:∀ b o,b ∉ ch->s.heap.get? b=some o->h'.get? b=some o) (hf:∀ b∈ch,eY X pins H b):Inv X pins σ H { s with heap:=h',toks:=t' }:=by
 have nit:∀ b u,H b=some u->b ∉ ch:=λb u e z=>by rw [(hf b z).1] at e; cases e
 refine I.step (g':=s.gens) (d':=s.drawn) (ch:=ch) (λb hb=>?_) (λb o _ _ hc e _=>k b o hc e) (λb o _ _ hc e _=>⟨o.slots,k b o hc e⟩) (λ_ _ _ _ n=>n)
  (λb o hc e=>⟨o,k b o hc e⟩) (λ_ _ e=>e) (λ_ _ _ e=>e) (λb ps e=>⟨#[],by rw [e]; simp⟩) (λm hm=>?_) (λb u e=>?_) I.bare
 ·obtain ⟨_,f1,_,f3,f4,f5⟩:=hf b hb
  exact ⟨f3,f1,f4,f5⟩
 ·obtain ⟨o,es,ep,ho,r⟩:=hm
  exact ⟨o,es,ep,k _ o (λz=>(hf _ z).2.1 rfl) ho,r⟩
 ·refine (I.hok b u e).stay (λc v hc q=>k c v ?_ q) (λ_ q=>q) λ_ _ q=>q
  rcases hc with z | z
  ·rw [z]; exact nit b u e
  ·exact nit c _ z
theorem Inv.pair {T:Addr} {x y:V} {u v:Value} (I:Inv X pins σ H s) (hT:H T=none) (ho:IsPair s.heap T u v) (r1:RelV x u) (r2:RelV y v)
  (hL:T≠X.env.locals) (hs0:X.s₀.heap.objs.size<=T) (hc:∀ x c,X.env.cells.lookup x=some c->c≠T) (hp:∀ p∈X.pn++pins,p.1≠T):Inv X pins σ (upd H T (.tup [x,y])) s:=by
 have ne:∀ {b:Addr} {o:HO},H b=some o->b≠T:=λe=>cL e hT
 refine I.step (g':=s.gens) (d':=s.drawn) (t':=s.toks) (h':=s.heap) (ch:=[T]) (λb hb=>?_) (λb o _ _ _ e _=>e) (λb o _ _ _ e _=>⟨o.slots,e⟩) (λb o hb e n=>?_) (λb o _ e=>⟨o,e⟩)
  (λb xs e=>by rw [az (ne e)]; exact e) (λb o u e=>by rw [az (ne e)]; exact e) (λb ps e=>⟨#[],by rw [az (ne e),e]; simp⟩) (λm hm=>hm) (λb u e=>?_) I.bare
 ·have e:b=T:=by simpa using hb
  subst e
  exact ⟨.inr hs0,hL,hc,hp⟩
 ·have hb':b≠T:=by simpa using hb
  rw [az hb']
  exact n
 ·by_cases hb:b=T
  ·subst hb
   rw [bE] at e
   cases e
   exact ⟨by show 2<=sizeLine; decide,[_,_],.cons r1 (.cons r2 .nil),⟨_,ho,rfl,_,rfl⟩⟩
  ·rw [az hb] at e
   exact (I.hok b u e).stay (λc v _ q=>q) (λc q=>by rw [az (ne q)]; exact q) λc xs q=>by rw [az (ne q)]; exact q
end
noncomputable def cj (b:Bool) (xs:List V):HO:=match b with
 | true=>.lst xs
 | false=>.tup xs
theorem fB {P:Program} {w:World} {H:Hp} {h:Heap} (ok:HOk P w H h) {b:Bool} {a:Addr} {xs:List V} (e:H a=some (cj b xs)):∃ its:List Value,Vals xs its/\SqAt b h a its.toArray:=by
 cases b with
 | true=>obtain ⟨_,its,n,r,q⟩:=ok a _ e; exact ⟨its,r,⟨_,q,rfl,n,rfl⟩⟩
 | false=>obtain ⟨_,its,r,q⟩:=ok a _ e; exact ⟨its,r,q⟩
end L2
set_option Elab.async false
set_option linter.all false
set_option maxRecDepth 100000
namespace L2
open PySem PySem.Spec PyProof.Rows
open AutoSeq1 (wpAny_loadPart')
section
variable {X:Cx} {tg:Expr} {PK:Pk} {a b:Expr} {i j:List Sl->Tr PyData} {p pos:Pos}
theorem ZdA {G:Hp} {v:V} {x:PyData} {xs:List PyData} (d:Dn G v x) (h:hV x=some xs):∃ b a vs,v=.ref a/\G a=some (cj b vs)/\DnAll G vs xs:=by
 cases d with
 | lst h1 h2=>cases h; exact ⟨true,_,_,rfl,h1,h2⟩
 | tup h1 h2=>cases h; exact ⟨false,_,_,rfl,h1,h2⟩
 | _=>cases h
theorem ZjD {b:Bool} {xs ys:List V} (h:some (cj b xs)=some (cj b ys)):xs=ys:=by
 cases b <;> (cases h; rfl)
end
theorem Zd8 {prog:Program} {w:World} {A:Around} (hh:A.handled=none) (b:Bool) (it l:Addr) (hne:l≠it) (items:Array Value):Draws prog w A it [it,l] items.size (λi v=>items[i]?=some v) (λi h=>ItAt b h it l i/\SqAt b h l items) where
 live:=λ_ _ st=>let ⟨o,ho,_⟩:=st.1.there; ⟨o,ho⟩
 frame:=λ_ _ _ st hk=>⟨st.1.at λo e=>hk it (by simp) o e,st.2.at λo e=>hk l (by simp) o e⟩
 item:=λi s Q E hi st hQ=>Ziq st.1 st.2 (x:=items[i]) (by simp [hi]) λh' hit' hs'=>hQ _ h' s.toks (by simp [hi]) ⟨hit',st.2.bt hs'.extBut hne⟩ hs'
 done:=λs Q E st hE=>Zir hh st.1 st.2 (by simp) hE
theorem ZiM (b:Bool) (l:Addr) (items:Array Value) :
  Meets (Builtin.«enumerate.__new__» ⟨[.type "enumerate",.ref l],[]⟩) (λ_ R s=>SqAt b s.heap l items /\
   R (.ok (.ret (.ref (s.heap.push (gj b l)).objs.size))) { s with heap:=(s.heap.push (gj b l)).push { cls:=.type "enumerate",data:=.fields #[.none,.bool false,.ref s.heap.objs.size,rawInt 0,.none,.none] } }) :=
 .of_wp λprog w A R s h=>by
  obtain ⟨hp,g,d,tk,os⟩:=s
  obtain ⟨hl,h⟩:=h
  have hsub:=sub_enumerate
  have q:SqAt b (Shared.heap ⟨hp,g,d,tk,os⟩) l items:=hl
  have ho:∃ ob,hp.get? l=some ob:=by
   cases b with
   | true=>obtain ⟨ob,e,_⟩:=hl; exact ⟨ob,e⟩
   | false=>obtain ⟨ob,e,_⟩:=hl; exact ⟨ob,e⟩
  obtain ⟨ob,ho⟩:=ho
  wp_walk using wpAny_loadPart' ho
  refine wpAny_stack_any λst=>wpAny_pure ?_
  split
  ·rename_i c _ _ _ _ _
   cases (c == Value.type "enumerate")
   ·wp_walk using wpAny_loadPart' ho,oX q
    exact ⟨_,rfl,h⟩
   ·wp_walk using wpAny_loadPart' ho,oX q
    exact ⟨_,rfl,h⟩
  ·wp_walk using wpAny_loadPart' ho,oX q
   exact ⟨_,rfl,h⟩
section
variable {prog:Program} {w:World} {A:Around} {E:Value->Shared->Prop} {s:Shared}
theorem ZlL {b:Bool} {l:Addr} {items:Array Value} {Q:Value->Shared->Prop} (hl:SqAt b s.heap l items)
  (h:∀ h',IsEnum h' (s.heap.objs.size+1) s.heap.objs.size 0 .none->ItAt b h' s.heap.objs.size l 0->(∀ c o,s.heap.get? c=some o->h'.get? c=some o)->Q (.ref (s.heap.objs.size+1)) { s with heap:=h' }) :
  wpAny (model prog w) A (call (.type "enumerate") [.ref l]) Q E s:=by
 refine callType_new F.called_enumerate (by decide) (F.typeCall_enumerate_1 _) (F.newCall_enumerate_1 _) (λobj=>F.args_object_init_2 obj _) F.entry_enumerate_new (ZiM b l items) ⟨hl,?_⟩
 have n1:(s.heap.push (gj b l)).objs.size=s.heap.objs.size+1:=Heap.size_push ..
 have a2:IsEnum ((s.heap.push (gj b l)).push { cls:=.type "enumerate",data:=.fields #[.none,.bool false,.ref s.heap.objs.size,rawInt 0,.none,.none] }) (s.heap.push (gj b l)).objs.size s.heap.objs.size 0 .none:=Heap.get?_push_size _ rfl
 have a1:((s.heap.push (gj b l)).push { cls:=.type "enumerate",data:=.fields #[.none,.bool false,.ref s.heap.objs.size,rawInt 0,.none,.none] }).get? s.heap.objs.size=some (gj b l):=Heap.get?_push_of_some _ (Heap.get?_push_size _ (by cases b <;> rfl))
 rw [n1] at a2
 show _/\_
 rw [n1]
 exact ⟨⟨_,a2,rfl⟩,h _ a2 (vT a1) λc o x=>Heap.get?_push_of_some _ (Heap.get?_push_of_some _ x)⟩
end
noncomputable def nu (b:Bool) (l:Addr):It :=
 ⟨λi H=>∃ xs x,H l=some (cj b xs)/\xs[i]?=some x,
  λi H v H'=>∃ xs x p,H l=some (cj b xs)/\xs[i]?=some x/\H p=none/\v=.ref p/\H'=upd H p (.tup [.int i,x]),
  λi H=>∃ xs,H l=some (cj b xs)/\xs.length=i⟩
theorem Zf0 {P:Program} {w:World} {K:PySem.W.Frag} {elts:List Expr} {x1:Nat} {pos:Pos} {b:Bool} {l:Addr} (e it:Addr) (hne:e≠it) :
  Turn P w K (.Tuple elts x1 pos) (nu b l) [e,it] e (λi h=>(∃ old,IsEnum h e it i old)/\ItAt b h it l i) where
 mem:=by simp
 obj:=λi h st c hb=>by
  obtain ⟨⟨old,he⟩,h1⟩:=st
  simp at hb
  rcases hb with rfl | rfl
  ·exact ⟨_,he,λv q=>by cases q⟩
  ·exact h1.there
 keep:=λi h h' st k=>by
  obtain ⟨⟨old,he⟩,h1⟩:=st
  exact ⟨⟨old,k _ (by simp) _ he⟩,h1.at λo q=>k _ (by simp) o q⟩
 item:=by
  intro X hP hw hK hc i pins s σ H E I hf st hg
  subst hP hw hK
  obtain ⟨xs,x,e1,hx⟩:=hg
  obtain ⟨⟨old,he⟩,h1⟩:=st
  obtain ⟨us,r1,q1⟩:=fB I.hok e1
  obtain ⟨u,hu,ru⟩:=r1.get hx
  have nl:∀ c∈[e,it],l≠c:=λc hc=>cL e1 (hf c hc).1
  have hlt:i < us.toArray.size:=by
   have:=(List.getElem?_eq_some_iff.mp hu).1
   simpa using this
  refine wpAny_pyNext_enum_itemD (Zd8 (A:=X.A.in1) (show X.A.in1.handled=none from I.ok.hd hc) b it l (nl it (by simp)) us.toArray) he ⟨h1,q1⟩ hlt hne (by simp only [List.mem_cons,List.not_mem_nil,or_false,not_or]; exact ⟨hne,(nl e (by simp)).symm⟩) λx' h' tk hP' ho st' hT hsz kk=>?_
  have hxu:x'=u:=by
   have q:us[i]?=some x':=by simpa using hP'
   rw [hu] at q
   cases q
   rfl
  subst hxu
  refine ⟨_,rfl,wpAny_letOwnedTupleGo_enum ho λh2' z2 sb=>?_⟩
  have lt:∀ {c:Addr} {o:Obj},s.heap.get? c=some o->s.heap.objs.size≠c:=λq=>Nat.ne_of_gt (Heap.lt_size q)
  have I1:Inv X pins σ H { s with heap:=h2',toks:=tk+1 }:=I.turns (ch:=[e,it]) (λc o hb q=>by
   simp at hb
   exact sb.extBut _ _ hb.1 (kk c o hb.1 hb.2 q)) hf
  have hTn:H s.heap.objs.size=none:=I.hok.fresh (Nat.le_refl _)
  have I2:=I1.pair (T:=s.heap.objs.size) (x:=.int i) (y:=x) hTn (sb.extBut _ _ (lt he) hT) ⟨tk,rfl⟩ ru (Nat.ne_of_gt I.lt) I.sz
   (λq cc ee hq=>by obtain ⟨vv,zz⟩:=I.cell q cc ee; exact absurd zz.lt (by rw [hq]; exact Nat.lt_irrefl _)) (λp hp hq=>absurd (Heap.lt_size (I.pin p hp).1) (by rw [hq]; exact Nat.lt_irrefl _))
  refine ⟨.ref s.heap.objs.size,_,I2,rfl,⟨xs,x,_,e1,hx,hTn,rfl,rfl⟩,⟨⟨_,z2⟩,st'.1.at λo q=>sb.extBut _ _ (Ne.symm hne) q⟩,λc hb=>?_⟩
  have hbn:c≠s.heap.objs.size:=by
   simp at hb
   obtain ⟨o1,g1,_⟩:=h1.there
   rcases hb with rfl | rfl
   ·exact (lt he).symm
   ·exact (lt g1).symm
  rw [az hbn]
  exact (hf c hb).1
 done:=by
  intro X hP hw hK hc i pins s σ H E I hf st hg
  subst hP hw hK
  obtain ⟨xs,e1,hend⟩:=hg
  obtain ⟨⟨old,he⟩,h1⟩:=st
  obtain ⟨us,r1,q1⟩:=fB I.hok e1
  have nl:∀ c∈[e,it],l≠c:=λc hc=>cL e1 (hf c hc).1
  have hsz:us.toArray.size=i:=by rw [List.size_toArray,<- r1.length]; exact hend
  subst hsz
  refine wpAny_pyNext_enum_endD (Zd8 (A:=X.A.in1) (show X.A.in1.handled=none from I.ok.hd hc) b it l (nl it (by simp)) us.toArray) he ⟨h1,q1⟩ λh' eb=>⟨rfl,?_⟩
  exact I.turns (ch:=[e,it]) (t':=s.toks) (λc o hb q=>by
   simp at hb
   exact eb c o hb.2 q) hf
 self:=λ_ _ _ _ _ st h=>by
  obtain ⟨⟨old,he⟩,_⟩:=st
  exact wpAny_pyIter_enum he h
section
variable {X:Cx} {tg:Expr} {PK:Pk} {a b:Expr} {i j:List Sl->Tr PyData} {p pos:Pos}
noncomputable def Zdz (ta:TE):TI:=λσ H R=>ta σ H λx H1=>∃ b l xs,x=.ref l/\H1 l=some (cj b xs)/\R (nu b l) H1
theorem f7 {elts:List Expr} {x1:Nat} {tpos:Pos} {ta:TE} (hc:X.calm=true) (hg:Gl X "enumerate") (hm:X.mg "enumerate"=none) (ha:PE X a ta)
  (hs:starEach [a] X.env=[(false,eval a X.env)]:=by rfl):PI X (.Tuple elts x1 tpos) (.Call (.Name "enumerate" p) [a] [] pos) (Zdz ta):=by
 intro pins s σ H R I h
 have hab:PA X [a] (fW ta aP):=bo ha cb (by rw [hs]; rfl)
 have h':fW ta aP σ H λvs H1=>∃ x,vs=[x]/\∃ b l xs,x=.ref l/\H1 l=some (cj b xs)/\R (nu b l) H1:=by
  have e:(λ(x:V) (H1:Hp)=>∃ b l xs,x=.ref l/\H1 l=some (cj b xs)/\R (nu b l) H1)=λx H1=>aP σ H1 λxs H2=>∃ y,x::xs=[y]/\∃ b l xs,y=.ref l/\H2 l=some (cj b xs)/\R (nu b l) H2:=by
   funext x H1
   apply propext
   constructor
   ·exact λq=>⟨x,rfl,q⟩
   ·rintro ⟨y,e,q⟩
    have e':x=y:=by simpa using e
    subst e'
    exact q
  have h0:ta σ H λx H1=>∃ b l xs,x=.ref l/\H1 l=some (cj b xs)/\R (nu b l) H1:=h
  rw [e] at h0
  exact h0
 refine Call_ (i8 I hg hm boot_enumerate (PyProof.Rows.callWith_type1 (thn (hab pos pins s σ H _ I h') λus s1 hz0=>?_) (by rw [hs]; rfl) rfl))
 obtain ⟨vs,H1,I1,r1,q1⟩:=hz0
 obtain ⟨x,rfl,b,l,xs,rfl,e1,q⟩:=q1
 obtain ⟨u,rfl,ru⟩:=eh r1
 cases ru
 obtain ⟨us,ru,q1⟩:=fB I1.hok e1
 refine ZlL q1 λh' z t1 kk=>?_
 have I2:Inv X pins σ H1 { s1 with heap:=h' }:=I1.kept (t':=s1.toks) kk
 refine wpAny_pyIter_enum z ⟨s1.heap.objs.size+1,[s1.heap.objs.size+1,s1.heap.objs.size],_,_,H1,rfl,I2,Zf0 _ _ (λq=>absurd (show (s1.heap.objs.size+1:Nat)=s1.heap.objs.size from q) (by omega)),⟨⟨_,z⟩,t1⟩,λc hb=>?_,q⟩
 have hle:s1.heap.objs.size<=c:=by
  simp at hb
  rcases hb with rfl | rfl <;> first | exact Nat.le_add_right _ _ | exact Nat.le_refl _
 exact I1.fpOk hle (I1.hok.fresh hle)
noncomputable def cz (xs:List PyData):List PyData:=(List.range xs.length).zipWith (λ(n:Nat) x=>.tuple [.int n,x]) xs
theorem Zjp {pa:Addr} {G:Hp} {b:Bool} {l:Addr} {us:List V} {xs:List PyData} (h1:G l=some (cj b us)) (d1:DnAll G us xs):ox PK pa (nu b l) G (cz xs):=λm G2 H2 sb w=>by
 have e1:H2 l=some (cj b us):=w.sub _ _ (sb _ _ h1)
 have hlen:(cz xs).length=xs.length:=by unfold cz; simp
 refine ⟨λn d hd=>?_,us,e1,by rw [hlen,d1.length]⟩
 have hn:n < xs.length:=by rw [<- hlen]; exact (List.getElem?_eq_some_iff.mp hd).1
 have hd':d=.tuple [.int n,xs[n]]:=by
  unfold cz at hd
  rw [List.getElem?_zipWith] at hd
  simp [hn] at hd
  exact hd.symm
 subst hd'
 obtain ⟨u,hu,du⟩:=d1.get n (show xs[n]?=some xs[n] by simp [hn])
 refine ⟨⟨us,u,e1,hu⟩,λx H3 hz0=>?_⟩
 obtain ⟨us',u',p,f1,hu',hp,ex,eH⟩:=hz0
 rw [e1] at f1
 have:=ZjD f1
 subst us'
 rw [hu] at hu'
 cases hu'
 subst ex eH
 obtain ⟨w3,s3⟩:=w.new (o:=.tup [.int n,u]) hp
 exact ⟨_,s3,w3,.tup bE (.cons (.int n) (.cons ((du.mono sb).mono s3.gs) .nil))⟩
noncomputable def eF (i:List Sl->Tr PyData):List Sl->Tr (List PyData):=λρ=>(i ρ).bind λx=>(Tr.of (hV x)).bind λxs=>.ret (cz xs)
theorem gF {iter:Expr} (h:PI X tg iter (Zdz (TAe PK i))):PI X tg iter (dP PK (eF i)):=h.imp λσ H R0 hz0=>by
 obtain ⟨pa,G₀,H₀,m,ρ,G,R,z⟩:=hz0
 refine TAe.then R z λm1 x v G1 H1 s1 w1 R1 d1 q1=>?_
 rw [Tr.ok_bind] at q1
 obtain ⟨xs,hx,q1⟩:=Tr.ok_of q1
 obtain ⟨b1,l1,us,rfl,e1,f1⟩:=ZdA d1 hx
 exact ⟨b1,l1,us,rfl,w1.sub _ _ e1,q1 _ G1 H1 s1 w1 (Zjp e1 f1)⟩
end
end L2
set_option Elab.async false
set_option linter.all false
set_option maxRecDepth 100000
namespace L2
open PySem PySem.Spec PyProof.Rows
section
variable {prog:Program} {w:World} {A:Around}
theorem Zai (hh:A.handled=none) (b:Bool) (I ax:Addr) (hne:ax≠I) (items:Array Value):Walks prog w A I [I,ax] [I] items.size (λi v=>items[i]?=some v) (λi h=>ItAt b h I ax i/\SqAt b h ax items):=by
 cases b with
 | true=>exact Walks.list hh I ax hne items
 | false=>exact Walks.tuple hh I ax hne items
end
theorem vX {ns:List Int} {us:List Value} (r:Vals (ns.map V.int) us) {i:Nat} {v:Value} (h:us[i]?=some v):∃ t,v=.int ((ns[i]?).getD 0) t:=by
 have hi:i < us.length:=(List.getElem?_eq_some_iff.mp h).1
 have hl:us.length=ns.length:=by rw [<- r.length,List.length_map]
 obtain ⟨u,e1,e2⟩:=r.get (i:=i) (x:=V.int ns[i]) (by simp [show i < ns.length by omega])
 rw [h] at e1
 cases e1
 obtain ⟨t,e2⟩:=e2
 exact ⟨t,by simp [show i < ns.length by omega,e2]⟩
theorem Zht (ns:List Int):preSum (λi=>(ns[i]?).getD 0) ns.length=ns.sum:=by
 have key:∀ k,k<=ns.length->preSum (λi=>(ns[i]?).getD 0) k=(ns.take k).sum:=by
  intro k
  induction k with
  | zero=>intro _; simp [preSum]
  | succ k ih =>
   intro hk
   rw [preSum,ih (by omega),List.take_add_one,List.sum_append]
   simp [show k < ns.length by omega]
 rw [key _ (Nat.le_refl _),List.take_length]
section
variable {X:Cx} {PK:Pk}
theorem fm (hc:X.calm=true):db X (.builtin "sum") (λxs H Q=>∃ (b:Bool) (l:Addr) (ns:List Int),xs=[.ref l]/\H l=some (cj b (ns.map V.int))/\Q (.int ns.sum) H):=by
 intro pins s σ H xs us Q I r h
 obtain ⟨b,l,ns,rfl,e1,q⟩:=h
 obtain ⟨u,rfl,ru⟩:=eh r
 cases ru
 obtain ⟨vs,rv,sq⟩:=fB I.hok e1
 have hlt:l < s.heap.objs.size:=I.hok.lt e1
 refine call_sum_walkG (oX sq ?_)
 refine ⟨s.heap.objs.size,[s.heap.objs.size,l],[s.heap.objs.size],vs.toArray.size,_,_,λi=>(ns[i]?).getD 0,rfl,Zai (A:=X.A.in1) (I.ok.hd hc) b _ l (Nat.ne_of_lt hlt) vs.toArray,
  ⟨vT (Heap.get?_push_size _ (by cases b <;> rfl)),sq.push _⟩,λc hc=>?_,λi v hv=>vX rv (by simpa using hv),λh' tk t' hk=>?_⟩
 ·rw [Heap.size_push]
  simp at hc
  rcases hc with rfl | rfl
  ·exact Nat.lt_succ_self _
  ·exact Nat.lt_succ_of_lt hlt
 ·refine ⟨.int ns.sum,H,I.kept (t':=tk) λc o e=>hk c o (λz=>?_) (Heap.get?_push_of_some _ e),⟨t',?_⟩,q⟩
  ·have:c=s.heap.objs.size:=by simpa using z
   subst this
   exact Nat.lt_irrefl _ (Heap.lt_size e)
  ·have e:vs.toArray.size=ns.length:=by rw [List.size_toArray,<- rv.length,List.length_map]
   rw [e,Zht]
noncomputable def eB:List Int->Int
 | []=>0
 | [n]=>n
 | n::m::r=>ci (eB (m::r)) n
theorem nS:∀ {ns:List Int},ns≠[]->eB ns∈ns/\∀ m∈ns,m<=eB ns
 | [],h=>absurd rfl h
 | [n],_=>⟨by simp [eB],by simp [eB]⟩
 | n::m::r,_=>by
  obtain ⟨h1,h2⟩:=nS (ns:=m::r) (by simp)
  unfold eB ci
  split
  ·refine ⟨by simp,λk hk=>?_⟩
   rcases List.mem_cons.mp hk with rfl | hk
   ·exact Int.le_refl _
   ·have:=h2 k hk; omega
  ·refine ⟨List.mem_cons_of_mem _ h1,λk hk=>?_⟩
   rcases List.mem_cons.mp hk with rfl | hk
   ·omega
   ·exact h2 k hk
theorem Ze3 (f:Nat->Int):∀ k,argBest (λi j=>decide (f i > f j)) k<=k/\∀ j,j<=k->f j<=f (argBest (λi j=>decide (f i > f j)) k)
 | 0=>⟨Nat.le_refl _,λj hj=>by
  have:j=0:=by omega
  subst this
  exact Int.le_refl _⟩
 | k+1=>by
  obtain ⟨h1,h2⟩:=Ze3 f k
  unfold argBest
  by_cases hc:f (k+1) > f (argBest (λi j=>decide (f i > f j)) k)
  ·rw [if_pos (by simpa using hc)]
   refine ⟨Nat.le_refl _,λj hj=>?_⟩
   rcases Nat.lt_or_eq_of_le hj with h | h
   ·have:=h2 j (by omega); omega
   ·subst h; exact Int.le_refl _
  ·rw [if_neg (by simpa using hc)]
   refine ⟨by omega,λj hj=>?_⟩
   rcases Nat.lt_or_eq_of_le hj with h | h
   ·exact h2 j (by omega)
   ·subst h; omega
theorem ZeL (hc:X.calm=true):db X (.builtin "max") (λxs H Q=>∃ (b:Bool) (l:Addr) (ns:List Int),xs=[.ref l]/\H l=some (cj b (ns.map V.int))/\ns≠[]/\Q (.int (eB ns)) H):=by
 intro pins s σ H xs us Q I r h
 obtain ⟨b,l,ns,rfl,e1,hne,q⟩:=h
 obtain ⟨u,rfl,ru⟩:=eh r
 cases ru
 obtain ⟨vs,rv,sq⟩:=fB I.hok e1
 have hlt:l < s.heap.objs.size:=I.hok.lt e1
 have hsz:vs.toArray.size=ns.length:=by rw [List.size_toArray,<- rv.length,List.length_map]
 have hpos:0 < ns.length:=List.length_pos_iff.mpr hne
 refine call_max_walk (oX sq ?_)
 refine ⟨s.heap.objs.size,[s.heap.objs.size,l],[s.heap.objs.size],vs.toArray.size,_,_,λi j=>decide ((ns[i]?).getD 0 > (ns[j]?).getD 0),rfl,Zai (A:=X.A.in1) (I.ok.hd hc) b _ l (Nat.ne_of_lt hlt) vs.toArray,
  ⟨vT (Heap.get?_push_size _ (by cases b <;> rfl)),sq.push _⟩,λc hc=>?_,by omega,CmpOf.ints_gt (λi=>(ns[i]?).getD 0) (λi v hv=>vX rv (by simpa using hv)),λv h' tk hv hk=>?_⟩
 ·rw [Heap.size_push]
  simp at hc
  rcases hc with rfl | rfl
  ·exact Nat.lt_succ_self _
  ·exact Nat.lt_succ_of_lt hlt
 ·obtain ⟨t,rfl⟩:=vX rv (by rw [<- List.getElem?_toArray]; exact hv)
  obtain ⟨b1,b2⟩:=Ze3 (λi=>(ns[i]?).getD 0) (vs.toArray.size - 1)
  obtain ⟨m1,m2⟩:=nS hne
  refine ⟨.int (eB ns),H,I.kept (t':=tk) λc o e=>hk c o (λz=>?_) (Heap.get?_push_of_some _ e),⟨t,?_⟩,q⟩
  ·have:c=s.heap.objs.size:=by simpa using z
   subst this
   exact Nat.lt_irrefl _ (Heap.lt_size e)
  ·congr 1
   obtain ⟨i,hi,ei⟩:=List.getElem_of_mem m1
   have h1:=b2 i (by omega)
   simp only [hi,List.getElem?_eq_getElem,Option.getD_some,ei] at h1
   have hb:argBest (λi j=>decide ((ns[i]?).getD 0 > (ns[j]?).getD 0)) (vs.toArray.size - 1) < ns.length:=by omega
   have h2:=m2 _ (List.getElem_mem hb)
   simp only [hb,List.getElem?_eq_getElem,Option.getD_some] at h1 ⊢
   omega
noncomputable def bools?:List PyData->Option (List Bool)
 | []=>some []
 | .bool n::xs=>(bools? xs).bind λns=>some (n::ns)
 | _=>none
@[simp] theorem bools?_map:∀ ns:List Bool,bools? (ns.map PyData.bool)=some ns
 | []=>rfl
 | n::ns=>by rw [List.map_cons,bools?,bools?_map ns]; rfl
noncomputable def g5 {α:Type} (p:List PyData->Option α) (f:α->Option PyData):List PyData->Option PyData
 | [x]=>(hV x).bind λxs=>(p xs).bind f
 | _=>none
noncomputable def cg:List PyData->Option PyData:=g5 ints? λns=>some (.int ns.sum)
noncomputable def g8:List PyData->Option PyData:=g5 ints? λns=>if (!ns.isEmpty)=true then some (.int (eB ns)) else none
theorem Zcz {α:Type} {p:List PyData->Option α} {f:α->Option PyData} {G:Hp} {vs:List V} {ds:List PyData} {d:PyData} (hv:DnAll G vs ds) (h:g5 p f ds=some d):∃ b l us xs y,vs=[.ref l]/\G l=some (cj b us)/\DnAll G us xs/\p xs=some y/\f y=some d:=by
 unfold g5 at h
 split at h
 ·rename_i x
  cases hx:hV x with
  | none=>rw [hx] at h; cases h
  | some xs =>
   rw [hx] at h
   have h':(p xs).bind f=some d:=h
   cases hp:p xs with
   | none=>rw [hp] at h'; cases h'
   | some y =>
    rw [hp] at h'
    cases hv with
    | cons h1 h2 =>
     cases h2
     obtain ⟨b,l,us,rfl,e1,e2⟩:=ZdA h1 hx
     exact ⟨b,l,us,xs,y,rfl,e1,e2,hp,h'⟩
 ·cases h
theorem e7:eG (λxs H Q=>∃ (b:Bool) (l:Addr) (ns:List Int),xs=[.ref l]/\H l=some (cj b (ns.map V.int))/\Q (.int ns.sum) H) cg:=λPK pa m G H vs ds d Q w hv hd k=>by
 obtain ⟨b,l,us,xs,ns,rfl,e1,e2,hp,hf⟩:=Zcz hv hd
 obtain ⟨rfl,rfl⟩:=e2.ints_inv hp
 cases hf
 exact ⟨b,l,ns,rfl,w.sub _ _ e1,k.here w (.int _)⟩
theorem Zao:eG (λxs H Q=>∃ (b:Bool) (l:Addr) (ns:List Int),xs=[.ref l]/\H l=some (cj b (ns.map V.int))/\ns≠[]/\Q (.int (eB ns)) H) g8:=λPK pa m G H vs ds d Q w hv hd k=>by
 obtain ⟨b,l,us,xs,ns,rfl,e1,e2,hp,hf⟩:=Zcz hv hd
 obtain ⟨rfl,rfl⟩:=e2.ints_inv hp
 split at hf
 ·rename_i hc
  cases hf
  exact ⟨b,l,ns,rfl,w.sub _ _ e1,(λz=>by subst z; cases hc),k.here w (.int _)⟩
 ·cases hf
variable {a b c e:Expr} {pos:Pos} {i j l:List Sl->Tr PyData}
theorem Zjz:OpR X (inplaceOp .Mult) (rI CMulG λi j=>.int (i * j)):=gZ λ_ _ _ _ _ _ _ hc q=>imul_int q hc.ok
theorem pip {op:Operator} {r:R2} (h:OpR X (inplaceOp op) r):tD X op r:=h
noncomputable def sB:PyData->PyData->Option PyData
 | .int m,.int n=>some (.int (m+n))
 | _,_=>none
theorem ZfN:cF (eO λi j=>.int (i+j)) sB:=λPK pa m G H x y dx dy dz Q w hx hy hz k=>by
 unfold sB at hz
 split at hz
 ·cases hz; cases hx; cases hy
  exact ⟨_,_,rfl,rfl,k.here w (.int _)⟩
 ·cases hz
noncomputable def pM:PyData->PyData->Option PyData
 | .int m,.int n=>if (fit m && fit n)=true then some (.int (m * n)) else none
 | _,_=>none
theorem ZfM:cF (rI CMulG λi j=>.int (i * j)) pM:=λPK pa m G H x y dx dy dz Q w hx hy hz k=>by
 unfold pM at hz
 split at hz
 ·split at hz
  ·rename_i hc
   rw [Bool.and_eq_true] at hc
   cases hz; cases hx; cases hy
   exact ⟨_,_,rfl,rfl,⟨of_decide_eq_true hc.1,of_decide_eq_true hc.2⟩,k.here w (.int _)⟩
  ·cases hz
 ·cases hz
end
theorem Zik {PK:Pk} {is:List Sl->Tr (List PyData)}:∀ σ H Q,TAe PK (bO is) σ H Q->d7 PK is σ H Q:=by
 intro σ H Q z
 obtain ⟨pa,G₀,H₀,m,ρ,G,R,z⟩:=z
 exact ⟨pa,G₀,H₀,m,ρ,G,R,Tr.ok_mono (Tr.ok_bind.mp z) λm1 xs k=>Ko1.of k R.wd.some⟩
theorem Zme {PK:Pk} {X:Cx} {st:Stmt} {is:List Sl->Tr (List PyData)} {i:List Sl->Tr PyData} {n k:Nat} {ix:List Nat} {g:PyData->List Sl->Option (List Sl)} (h:PS X st (eK (oC (dP PK is) n ix (λ_=>d8 PK g) (λ_=>TAe PK i)) (fi k))) (hn:fx n g):PS X st (bg PK (aR k (bO (eX is n ix g i)))) :=
 aY (h.imp (ZaJ λσ H Q z=>Zc9 hn σ H Q (Zik σ H Q z)))
end L2
set_option Elab.async false
set_option linter.all false
set_option maxRecDepth 100000
namespace L2
open PySem PySem.Spec PyProof.Rows
variable {ρ:List Sl} {s t:List Sl->Tr Ou} {i j l:List Sl->Tr PyData} {is:List Sl->Tr (List PyData)} {as:List Sl->Tr (List Sl)} {f:List Sl->Tr Re} {p q:List Sl->Tr Bool} {k n:Nat} {x y d:PyData} {xs ys:List PyData} {sl:Sl}
theorem jt:aa 0 (.d x::ρ)=.ret x:=rfl
theorem jr:aa (k+1) (sl::ρ)=aa k ρ:=rfl
theorem mZ:aC d ρ=.ret d:=rfl
noncomputable def aI (g:PyData->PyData->Option PyData) (x y:PyData):Tr PyData:=Tr.of (g x y)
noncomputable def Ze2 (g:PyData->PyData->Option PyData) (j:List Sl->Tr PyData) (ρ:List Sl) (x:PyData):Tr PyData:=(j ρ).bind (aI g x)
theorem mz {g:PyData->PyData->Option PyData}:ad g i j ρ=(i ρ).bind (Ze2 g j ρ):=rfl
theorem my {g:PyData->PyData->Option PyData}:Ze2 g j ρ x=(j ρ).bind (aI g x):=rfl
theorem mR (m n:Int):aI aS (.int m) (.int n)=.ret (.int (m+n)):=rfl
theorem h8 (h1:xs.isEmpty=false) (h2:small (xs.length+ys.length)=true):aI aS (.tuple xs) (.tuple ys)=.ret (.tuple (xs++ys)):=by
 simp [aI,aS,h1,h2]
theorem gx (h2:small (xs.length+ys.length)=true):aI aS (.list xs) (.list ys)=.ret (.list (xs++ys)):=by
 simp [aI,aS,h2]
theorem jH (m n:Int):aI bP (.int m) (.int n)=.ret (.int (m - n)):=rfl
theorem kS {m n:Int} (h1:fit m=true) (h2:fit n=true):aI bv (.int m) (.int n)=.ret (.int (m * n)):=by
 simp [aI,bv,h1,h2]
theorem ZdP {m n:Int} (h1:n≠0) (h2:fit n=true):aI n8 (.int m) (.int n)=.ret (.int (m.fdiv n)):=by
 simp [aI,n8,h1,h2]
theorem ZdO {m n:Int} (h1:n≠0):aI nQ (.int m) (.int n)=.ret (.int (m.fmod n)):=by
 simp [aI,nQ,h1]
theorem mj {g:Int->Int->Bool} (m n:Int):aI (cW g) (.int m) (.int n)=.ret (.bool (g m n)):=rfl
theorem l7 (m n:Int):aI eT (.int m) (.int n)=.ret (.bool (m == n)):=rfl
theorem kR (m n:Int):aI eA (.int m) (.int n)=.ret (.bool (!(m == n))):=rfl
theorem l8 (m n:Bool):aI eT (.bool m) (.bool n)=.ret (.bool (m == n)):=rfl
theorem l5 (m n:Str):aI eT (.str m) (.str n)=.ret (.bool (m == n)):=rfl
theorem kQ (m n:Str):aI eA (.str m) (.str n)=.ret (.bool (!(m == n))):=rfl
theorem Zit (h1:SeqAt.shaped x=true) (h2:SeqAt.shaped y=true) (h3:∀ a b,¬ (x=.str a/\y=.str b)):aI eA x y=.ret (.bool (!PyData.eqv x y)):=by
 unfold aI eA
 split
 ·exact absurd ⟨rfl,rfl⟩ (h3 _ _)
 ·rw [h1,h2]; rfl
theorem Zj6 (h1:SeqAt.shaped (.list xs)=true) (h2:SeqAt.shaped (.list ys)=true):aI eA (.list xs) (.list ys)=.ret (.bool (!PyData.eqvAll xs ys)):=by
 rw [Zit h1 h2 (λa b z=>by cases z.1)]
 simp only [PyData.eqv]
theorem lA:aI pJ x .none=.ret (.bool (pI x)):=rfl
theorem fL (n:Int):aI ay (.list xs) (.int n)=Tr.of (bw xs n):=rfl
theorem cH (n:Int):aI ay (.tuple xs) (.int n)=Tr.of (bw xs n):=rfl
theorem il {α:Type} {xs:List α} {n:Int} {v:α} (h0:0<=n) (h:xs[n.toNat]?=some v):bw xs n=some v:=by
 have e:(n.toNat:Int)=n:=Int.toNat_of_nonneg h0
 rw [<- e]
 exact eV h
section
variable {α:Type} {a0 a1 a2 a3 a4 a5 a6 a7 a8:α} {r:List α}
theorem eU:bw (a0::r) 0=some a0:=eV (j:=0) rfl
theorem gD:bw (a0::a1::r) 1=some a1:=eV (j:=1) rfl
theorem gC:bw (a0::a1::a2::r) 2=some a2:=eV (j:=2) rfl
theorem gB:bw (a0::a1::a2::a3::r) 3=some a3:=eV (j:=3) rfl
theorem gA:bw (a0::a1::a2::a3::a4::r) 4=some a4:=eV (j:=4) rfl
theorem ij:bw (a0::a1::a2::a3::a4::a5::r) 5=some a5:=eV (j:=5) rfl
theorem ii:bw (a0::a1::a2::a3::a4::a5::a6::r) 6=some a6:=eV (j:=6) rfl
theorem ig:bw (a0::a1::a2::a3::a4::a5::a6::a7::r) 7=some a7:=eV (j:=7) rfl
theorem ie:bw (a0::a1::a2::a3::a4::a5::a6::a7::a8::r) 8=some a8:=eV (j:=8) rfl
end
noncomputable def ZcD:PyData->Tr PyData
 | .int n=>.ret (.int (-n))
 | _=>.fail
theorem kP:gG i ρ=(i ρ).bind ZcD:=by
 unfold gG
 refine congrArg (Tr.bind (i ρ)) (funext λx=>?_)
 cases x <;> rfl
theorem kO (n:Int):ZcD (.int n)=.ret (.int (-n)):=rfl
noncomputable def Zax (x:PyData):Tr Bool:=Tr.of (oB x)
theorem jG:bM i ρ=(i ρ).bind Zax:=rfl
theorem jz (b:Bool):Zax (.bool b)=.ret b:=rfl
noncomputable def ny (x:PyData):Tr Bool:=Tr.of (Zay x)
theorem jF:ip i ρ=(i ρ).bind ny:=rfl
theorem jE (b:Bool):ny (.bool b)=.ret b:=rfl
theorem jD (n:Int):ny (.int n)=.ret (n != 0):=rfl
theorem jC:ny (.list xs)=.ret (!xs.isEmpty):=rfl
theorem jA:ny (.tuple xs)=.ret (!xs.isEmpty):=rfl
theorem jB:ny .none=.ret false:=rfl
noncomputable def wG (q:List Sl->Tr Bool) (ρ:List Sl) (b:Bool):Tr Bool:=if b=true then q ρ else .ret false
noncomputable def u6 (q:List Sl->Tr Bool) (ρ:List Sl) (b:Bool):Tr Bool:=if b=true then .ret true else q ρ
noncomputable def ZcB (b:Bool):Tr Bool:=.ret (!b)
theorem mP:wX p q ρ=(p ρ).bind (wG q ρ):=rfl
theorem kJ:qc p q ρ=(p ρ).bind (u6 q ρ):=rfl
theorem kM:qd p ρ=(p ρ).bind ZcB:=rfl
theorem mM:wG q ρ true=q ρ:=rfl
theorem mO:wG q ρ false=.ret false:=rfl
theorem kG:u6 q ρ true=.ret true:=rfl
theorem kH:u6 q ρ false=q ρ:=rfl
theorem kL (b:Bool):ZcB b=.ret (!b):=rfl
noncomputable def wF (j:List Sl->Tr PyData) (ρ:List Sl) (b:Bool):Tr PyData:=if b=true then j ρ else .ret (.bool false)
theorem mL:wW i j ρ=(bM i ρ).bind (wF j ρ):=rfl
theorem mJ:wF j ρ true=j ρ:=rfl
theorem mK:wF j ρ false=.ret (.bool false):=rfl
noncomputable def v4 (i j:List Sl->Tr PyData) (ρ:List Sl) (b:Bool):Tr PyData:=if b=true then i ρ else j ρ
theorem lP:wT p i j ρ=(p ρ).bind (v4 i j ρ):=rfl
theorem lN:v4 i j ρ true=i ρ:=rfl
theorem lO:v4 i j ρ false=j ρ:=rfl
noncomputable def wo (x:PyData) (xs:List PyData):Tr (List PyData):=.ret (x::xs)
noncomputable def ZeD (is:List Sl->Tr (List PyData)) (ρ:List Sl) (x:PyData):Tr (List PyData):=(is ρ).bind (wo x)
theorem kN:al ρ=.ret []:=rfl
theorem mi:af i is ρ=(i ρ).bind (ZeD is ρ):=rfl
theorem mh:ZeD is ρ x=(is ρ).bind (wo x):=rfl
theorem mf:wo x xs=.ret (x::xs):=rfl
noncomputable def t3 (xs:List PyData):Tr PyData:=if small xs.length=true then .ret (.tuple xs) else .fail
theorem jx:dO is ρ=(is ρ).bind t3:=rfl
theorem jw (h:small xs.length=true):t3 xs=.ret (.tuple xs):=by unfold t3; rw [if_pos h]
noncomputable def ZcW (xs:List PyData):Tr PyData:=.ret (.list xs)
theorem kZ:bO is ρ=(is ρ).bind ZcW:=rfl
theorem kY:ZcW xs=.ret (.list xs):=rfl
noncomputable def vC (xs:List PyData):Tr (List PyData):=if small xs.length=true then .ret xs else .fail
theorem k9:cD is ρ=(is ρ).bind vC:=rfl
theorem k7 (h:small xs.length=true):vC xs=.ret xs:=by unfold vC; rw [if_pos h]
theorem bF {n:Nat} (h:n<=10000):small n=true:=decide_eq_true (Nat.le_trans h (by decide))
noncomputable def bh (g:List PyData->Option PyData) (xs:List PyData):Tr PyData:=Tr.of (g xs)
noncomputable def pV (g:List PyData->Option (List PyData)) (xs:List PyData):Tr (List PyData):=Tr.of (g xs)
theorem mr {g:List PyData->Option PyData}:aW g is ρ=(is ρ).bind (bh g):=rfl
theorem ml {g:List PyData->Option (List PyData)}:qh g is ρ=(is ρ).bind (pV g):=rfl
theorem fK:bh bJ [.list xs]=.ret (.int xs.length):=rfl
theorem dM:bh bJ [.tuple xs]=.ret (.int xs.length):=rfl
theorem mS (n:Int):bh oq [.int n]=.ret (.int (sV n)):=rfl
theorem kW (m n:Int):bh g7 [.int m,.int n]=.ret (.int (ci m n)):=rfl
theorem kT (m n:Int):bh nR [.int m,.int n]=.ret (.int (de m n)):=rfl
theorem lB (n:Int):bh nZ [.int n]=.ret (.int n):=rfl
theorem lC (b:Bool):bh nZ [.bool b]=.ret (.int (if b then 1 else 0)):=rfl
theorem jv:bh fA [.list xs]=.ret (.tuple xs):=rfl
theorem ju:bh fA [.tuple xs]=.ret (.tuple xs):=rfl
theorem Zj5 (h:nK x=true):bh nL [x]=.ret (.str x.shown):=by
 simp [bh,nL,h]
theorem fj (ns:List Int):bh cg [.list (ns.map .int)]=.ret (.int ns.sum):=by
 unfold bh cg g5
 simp
theorem fJ (ns:List Int):bh cg [.tuple (ns.map .int)]=.ret (.int ns.sum):=by
 unfold bh cg g5
 simp
theorem kU (ns:List Int) (h:ns.isEmpty=false):bh g8 [.list (ns.map .int)]=.ret (.int (eB ns)):=by
 have h':ns≠[]:=λz=>by subst z; cases h
 unfold bh g8 g5
 simp [h']
theorem Zj4 (ns:List Int) (h:ns.length < 64):pV oH [.list (ns.map .int)]=.ret ((dq ns).map .int):=by
 unfold pV oH
 simp [h]
noncomputable def Zdr (T:String) (x:PyData):Tr PyData:=.ret (.bool (jb T (fU x)))
theorem lz {T:String}:qg T i ρ=(i ρ).bind (Zdr T):=rfl
theorem ly {T:String}:Zdr T x=.ret (.bool (jb T (fU x))):=rfl
noncomputable def dc (x:PyData) (lo:Option Int) (hi:Option Int):Tr PyData:=Tr.of (ZaU x lo hi)
noncomputable def eM (q:ft) (ρ:List Sl) (x:PyData) (lo:Option Int):Tr PyData:=(q ρ).bind (dc x lo)
noncomputable def sl1 (p q:ft) (ρ:List Sl) (x:PyData):Tr PyData:=(p ρ).bind (eM q ρ x)
theorem jL {p q:ft}:cA i p q ρ=(i ρ).bind (sl1 p q ρ):=rfl
theorem jK {p q:ft}:sl1 p q ρ x=(p ρ).bind (eM q ρ x):=rfl
theorem jJ {q:ft} {lo:Option Int}:eM q ρ x lo=(q ρ).bind (dc x lo):=rfl
theorem hX {lo hi:Option Int}:dc (.list xs) lo hi=.ret (.list (dN xs lo hi)):=rfl
theorem jI {lo hi:Option Int}:dc (.tuple xs) lo hi=.ret (.tuple (dN xs lo hi)):=rfl
theorem kD:cC ρ=.ret none:=rfl
noncomputable def pa1:PyData->Tr (Option Int)
 | .int n=>.ret (some n)
 | _=>.fail
theorem kC:cw i ρ=(i ρ).bind pa1:=by
 unfold cw
 refine congrArg (Tr.bind (i ρ)) (funext λx=>?_)
 cases x <;> rfl
theorem kB (n:Int):pa1 (.int n)=.ret (some n):=rfl
noncomputable def rT (xs:List PyData):Tr (List PyData):=Tr.of (oP xs)
theorem kX:wS is ρ=(is ρ).bind rT:=rfl
theorem hZ {lo hi:Int} (h:qO lo hi=true):rT [.int lo,.int hi]=.ret (bc lo hi):=by
 simp [rT,oP,h]
theorem mV:aA ρ=.ret []:=rfl
noncomputable def p9 (x:Sl) (xs:List Sl):Tr (List Sl):=.ret (x::xs)
noncomputable def sW (as:List Sl->Tr (List Sl)) (ρ:List Sl) (x:PyData):Tr (List Sl):=(as ρ).bind (p9 (.d x))
theorem mW:ah i as ρ=(i ρ).bind (sW as ρ):=rfl
theorem mY:sW as ρ x=(as ρ).bind (p9 (.d x)):=rfl
theorem mX {xs:List Sl}:p9 sl xs=.ret (sl::xs):=rfl
noncomputable def nN:Nat->List Sl->Tr Unit
 | 0,.pen::_=>.ret ()
 | k+1,_::ρ=>nN k ρ
 | _,_=>.fail
theorem ky:nN 0 (.pen::ρ)=.ret ():=rfl
theorem kw:nN (k+1) (sl::ρ)=nN k ρ:=rfl
noncomputable def aap (as:List Sl->Tr (List Sl)) (ρ:List Sl) (_:Unit):Tr (List Sl):=(as ρ).bind (p9 .pen)
theorem mU:b9 k as ρ=(nN k ρ).bind (aap as ρ):=by
 have key:∀ (k:Nat) (σ:List Sl) (as:List Sl->Tr (List Sl)) (ρ:List Sl),(match σ[k]? with | some Sl.pen=>(as ρ).bind λxs=>Tr.ret (Sl.pen::xs) | _=>Tr.fail)=(nN k σ).bind (aap as ρ):=by
  intro k
  induction k with
  | zero =>
   intro σ as ρ
   cases σ with
   | nil=>rfl
   | cons s r=>cases s <;> rfl
  | succ k ih =>
   intro σ as ρ
   cases σ with
   | nil=>rfl
   | cons s r=>exact ih r as ρ
 exact key k ρ as ρ
theorem mT (u:Unit):aap as ρ u=(as ρ).bind (p9 .pen):=rfl
theorem mx:aH f as ρ=(as ρ).bind f:=rfl
noncomputable def re1 (r:Re):Tr PyData:=.ret r.val
theorem ku:aJ f ρ=(f ρ).bind re1:=rfl
theorem kr (r:Re):re1 r=.ret r.val:=rfl
theorem me {as:List Sl} (h:as.length=n):bj n k s as=(s (as++List.replicate k .un)).bind sF:=by
 unfold bj
 rw [if_pos (decide_eq_true h)]
theorem lZ:sF (.next ρ)=.ret (.d .none):=rfl
theorem lY (r:Re):sF (.ret r)=.ret r:=rfl
noncomputable def oK (t:List Sl->Tr Ou):Ou->Tr Ou
 | .next ρ=>t ρ
 | o=>.ret o
theorem jY:ap s t ρ=(s ρ).bind (oK t):=by
 unfold ap
 refine congrArg (Tr.bind (s ρ)) (funext λo=>?_)
 cases o <;> rfl
theorem jV:oK t (.next ρ)=t ρ:=rfl
theorem jU (r:Re):oK t (.ret r)=.ret (.ret r):=rfl
theorem jX:oK t (.brk ρ)=.ret (.brk ρ):=rfl
theorem jW:oK t (.cont ρ)=.ret (.cont ρ):=rfl
theorem jM:cB ρ=.ret (.next ρ):=rfl
noncomputable def vY (s t:List Sl->Tr Ou) (ρ:List Sl) (b:Bool):Tr Ou:=if b=true then s ρ else t ρ
theorem lH:cE p s t ρ=(p ρ).bind (vY s t ρ):=rfl
theorem lF:vY s t ρ true=s ρ:=rfl
theorem lG:vY s t ρ false=t ρ:=rfl
noncomputable def ZbG (x:PyData):Tr Ou:=.ret (.ret (.d x))
theorem kq:bD i ρ=(i ρ).bind ZbG:=rfl
theorem kn:ZbG x=.ret (.ret (.d x)):=rfl
noncomputable def ZbF (xs:List PyData):Tr Ou:=.ret (.ret (.own xs))
theorem km:wR is ρ=(is ρ).bind ZbF:=rfl
theorem kl:ZbF xs=.ret (.ret (.own xs)):=rfl
noncomputable def ZbE (r:Re):Tr Ou:=.ret (.ret r)
theorem kj:sX f ρ=(f ρ).bind ZbE:=rfl
theorem ki (r:Re):ZbE r=.ret (.ret r):=rfl
theorem kh:eE 0 (.d x::ρ)=.ret (.ret (.d x)):=rfl
theorem kg:eE 0 (.own xs::ρ)=.ret (.ret (.own xs)):=rfl
theorem ke:eE (k+1) (sl::ρ)=eE k ρ:=rfl
noncomputable def qE (k:Nat) (ρ:List Sl) (x:PyData):Tr Ou:=.ret (.next (ρ.set k (.d x)))
theorem jT:aR k i ρ=(i ρ).bind (qE k ρ):=rfl
theorem jS:qE k ρ x=.ret (.next (ρ.set k (.d x))):=rfl
noncomputable def Za0 (k:Nat) (ρ:List Sl) (x:List PyData):Tr Ou:=.ret (.next (ρ.set k (.own x)))
theorem jR:fQ k is ρ=(is ρ).bind (Za0 k ρ):=rfl
theorem jQ:Za0 k ρ xs=.ret (.next (ρ.set k (.own xs))):=rfl
theorem i6 {α:Type} {a b:α} {r:List α}:(a::r).set 0 b=b::r:=rfl
theorem i5 {α:Type} {a b:α} {r:List α}:(a::r).set (k+1) b=a::r.set k b:=rfl
noncomputable def wD (g:PyData->PyData->Option PyData) (k:Nat) (ρ:List Sl) (x y:PyData):Tr Ou:=(aI g x y).bind (qE k ρ)
noncomputable def Ze4 (g:PyData->PyData->Option PyData) (k:Nat) (i:List Sl->Tr PyData) (ρ:List Sl) (x:PyData):Tr Ou:=(i ρ).bind (wD g k ρ x)
theorem mD {g:PyData->PyData->Option PyData}:qj g k i ρ=(aa k ρ).bind (Ze4 g k i ρ):=rfl
theorem mC {g:PyData->PyData->Option PyData}:Ze4 g k i ρ x=(i ρ).bind (wD g k ρ x):=rfl
theorem mB {g:PyData->PyData->Option PyData}:wD g k ρ x y=(aI g x y).bind (qE k ρ):=rfl
theorem lQ (m n:Int):aI sB (.int m) (.int n)=.ret (.int (m+n)):=rfl
theorem lD {m n:Int} (h1:fit m=true) (h2:fit n=true):aI pM (.int m) (.int n)=.ret (.int (m * n)):=by
 simp [aI,pM,h1,h2]
noncomputable def ga:Nat->List Sl->Tr (List PyData)
 | 0,.own xs::_=>.ret xs
 | k+1,_::ρ=>ga k ρ
 | _,_=>.fail
theorem kF:ga 0 (.own xs::ρ)=.ret xs:=rfl
theorem kE:ga (k+1) (sl::ρ)=ga k ρ:=rfl
theorem rg {β:Type} {g:List PyData->Tr β}:∀ (k:Nat) (σ:List Sl),(match σ[k]? with | some (Sl.own xs)=>g xs | _=>Tr.fail)=(ga k σ).bind g
 | 0,[]=>rfl
 | 0,s::r=>by cases s <;> rfl
 | k+1,[]=>rfl
 | k+1,s::r=>rg k r
noncomputable def sR (k:Nat) (ρ:List Sl) (xs:List PyData) (x:PyData):Tr Ou:=if small (xs.length+1)=true then .ret (.next (ρ.set k (.own (xs++[x])))) else .fail
noncomputable def Zfh (k:Nat) (i:List Sl->Tr PyData) (ρ:List Sl) (xs:List PyData):Tr Ou:=(i ρ).bind (sR k ρ xs)
theorem mI:fS k i ρ=(ga k ρ).bind (Zfh k i ρ):=rg k ρ
theorem mH:Zfh k i ρ xs=(i ρ).bind (sR k ρ xs):=rfl
theorem mG (h:small (xs.length+1)=true):sR k ρ xs x=.ret (.next (ρ.set k (.own (xs++[x])))):=by unfold sR; rw [if_pos h]
noncomputable def ZbD (k:Nat) (ρ:List Sl) (xs:List PyData):Tr Ou:=.ret (.next (ρ.set k (.own xs.reverse)))
theorem kc:qb k ρ=(ga k ρ).bind (ZbD k ρ):=rg k ρ
theorem kb:ZbD k ρ xs=.ret (.next (ρ.set k (.own xs.reverse))):=rfl
theorem lR:gH k s ρ=s (fz k ρ):=rfl
theorem jn:fz 0 (.own xs::ρ)=.d (.list xs)::ρ:=rfl
theorem jp:fz 0 (.d x::ρ)=.d x::ρ:=rfl
theorem jm:fz 0 (.pen::ρ)=.pen::ρ:=rfl
theorem jl:fz 0 (.un::ρ)=.un::ρ:=rfl
theorem jq:fz (k+1) (sl::ρ)=sl::fz k ρ:=by
 unfold fz
 rw [List.getElem?_cons_succ]
 cases h:ρ[k]? with
 | none=>rfl
 | some s=>cases s <;> rfl
noncomputable def vm (ρ:List Sl):Tr Ou:=.ret (.next ρ)
noncomputable def Ze6 (g:PyData->List Sl->Option (List Sl)) (ρ:List Sl) (x:PyData):Tr Ou:=(Tr.of (g x ρ)).bind vm
theorem mF {g:PyData->List Sl->Option (List Sl)}:nk g i ρ=(i ρ).bind (Ze6 g ρ):=rfl
theorem mE {g:PyData->List Sl->Option (List Sl)}:Ze6 g ρ x=(Tr.of (g x ρ)).bind vm:=rfl
theorem kK:vm ρ=.ret (.next ρ):=rfl
theorem jf:ai k x ρ=some (ρ.set k (.d x)):=rfl
theorem jd {gs:List PyData->List Sl->Option (List Sl)}:bq gs (.tuple xs) ρ=gs xs ρ:=rfl
theorem jh:bi [] ρ=some ρ:=rfl
theorem jj {g:PyData->List Sl->Option (List Sl)} {gs:List PyData->List Sl->Option (List Sl)}:aw g gs (x::xs) ρ=(g x ρ).bind (gs xs):=rfl
theorem je {α β:Type} {a:α} {g:α->Option β}:(some a).bind g=g a:=rfl
noncomputable def Zcq (k n:Nat) (ρ:List Sl):List PyData->Tr Ou
 | [x,y]=>.ret (.next ((ρ.set k (.d x)).set n (.d y)))
 | _=>.fail
theorem kA:ni k n is ρ=(is ρ).bind (Zcq k n ρ):=by
 unfold ni
 refine congrArg (Tr.bind (is ρ)) (funext λxs=>?_)
 match xs with
 | []=>rfl
 | [_]=>rfl
 | [_,_]=>rfl
 | _::_::_::_=>rfl
theorem kz:Zcq k n ρ [x,y]=.ret (.next ((ρ.set k (.d x)).set n (.d y))):=rfl
noncomputable def gk (x:PyData):Tr (List PyData):=Tr.of (hV x)
theorem lv:fu i ρ=(i ρ).bind gk:=rfl
theorem lu:gk (.list xs)=.ret xs:=rfl
theorem lq:gk (.tuple xs)=.ret xs:=rfl
noncomputable def dU (xs:List PyData):Tr (List PyData):=Tr.of (nI xs)
noncomputable def nJ (xs:List PyData):Tr (List PyData):=Tr.of (nH xs)
theorem j8:fR is ρ=(is ρ).bind dU:=rfl
theorem j7:ot is ρ=(is ρ).bind nJ:=rfl
theorem dg {n:Int} (h1:-1000000000000<=n) (h2:n<=1000000000000):dL n=true:=decide_eq_true (by omega)
theorem gu {n:Int} (h:dL n=true):dU [.int n]=.ret (bc 0 n):=by
 simp [dU,nI,h]
theorem sG {m n:Int} (h1:dL m=true) (h2:dL n=true):nJ [.int m,.int n]=.ret (bc m n):=by
 simp [nJ,nH,h1,h2]
noncomputable def v9 (xs:List PyData):Tr (List PyData):=.ret (cz xs)
noncomputable def ZdV (x:PyData):Tr (List PyData):=(gk x).bind v9
theorem l9:eF i ρ=(i ρ).bind ZdV:=rfl
theorem md:ZdV x=(gk x).bind v9:=rfl
theorem ma:v9 xs=.ret (cz xs):=rfl
noncomputable def ZdI (g:PyData->List Sl->Option (List Sl)) (s:List Sl->Tr Ou) (ρ:List Sl) (xs:List PyData):Tr Ou:=bK g s xs ρ
theorem lW {g:PyData->List Sl->Option (List Sl)}:cJ is g s ρ=(is ρ).bind (ZdI g s ρ):=rfl
theorem lV {g:PyData->List Sl->Option (List Sl)}:ZdI g s ρ xs=bK g s xs ρ:=rfl
noncomputable def n5 (g:PyData->List Sl->Option (List Sl)) (s:List Sl->Tr Ou) (xs:List PyData):Ou->Tr Ou
 | .next ρ=>bK g s xs ρ
 | .cont ρ=>bK g s xs ρ
 | .brk ρ=>.ret (.next ρ)
 | .ret r=>.ret (.ret r)
noncomputable def pP (g:PyData->List Sl->Option (List Sl)) (s:List Sl->Tr Ou) (xs:List PyData) (ρ:List Sl):Tr Ou:=(s ρ).bind (n5 g s xs)
theorem gt {g:PyData->List Sl->Option (List Sl)}:bK g s [] ρ=.ret (.next ρ):=rfl
theorem dB {g:PyData->List Sl->Option (List Sl)}:bK g s (x::xs) ρ=(Tr.of (g x ρ)).bind (pP g s xs):=by
 rw [bK]
 refine congrArg (Tr.bind (Tr.of (g x ρ))) (funext λρ1=>?_)
 unfold pP
 refine congrArg (Tr.bind (s ρ1)) (funext λo=>?_)
 cases o <;> rfl
theorem cP {g:PyData->List Sl->Option (List Sl)}:pP g s xs ρ=(s ρ).bind (n5 g s xs):=rfl
theorem cy {g:PyData->List Sl->Option (List Sl)}:n5 g s xs (.next ρ)=bK g s xs ρ:=rfl
theorem lT {g:PyData->List Sl->Option (List Sl)}:n5 g s xs (.cont ρ)=bK g s xs ρ:=rfl
theorem lU {g:PyData->List Sl->Option (List Sl)}:n5 g s xs (.brk ρ)=.ret (.next ρ):=rfl
theorem lS {g:PyData->List Sl->Option (List Sl)} (r:Re):n5 g s xs (.ret r)=.ret (.ret r):=rfl
noncomputable def df (g:PyData->List Sl->Option (List Sl)) (el:List Sl->Tr PyData) (τ:List Sl) (x:PyData):Tr PyData:=(Tr.of (g x τ)).bind el
noncomputable def vG (n:Nat) (ix:List Nat) (g:PyData->List Sl->Option (List Sl)) (el:List Sl->Tr PyData) (ρ:List Sl) (xs:List PyData):Tr (List PyData):=if small xs.length=true then bz (df g el (blk n ix ρ)) xs else .fail
theorem lp {ix:List Nat} {g:PyData->List Sl->Option (List Sl)}:eX is n ix g i ρ=(is ρ).bind (vG n ix g i ρ):=rfl
theorem lm {ix:List Nat} {g:PyData->List Sl->Option (List Sl)} (h:small xs.length=true):vG n ix g i ρ xs=bz (df g i (blk n ix ρ)) xs:=by unfold vG; rw [if_pos h]
theorem ll {τ:List Sl} {g:PyData->List Sl->Option (List Sl)}:df g i τ x=(Tr.of (g x τ)).bind i:=rfl
theorem ZdH {g:PyData->List Sl->Option (List Sl)} {n:Nat} (I:List PyData->List Sl->Prop) {Q:Ou->Prop} :
  ∀ {xs pre:List PyData} {ρ:List Sl},I pre ρ->(∀ pre x post ρ,pre++x::post=pre++x::post->I pre ρ->x∈xs->∃ ρ1,g x ρ=some ρ1/\(s ρ1).all n λo=>∃ ρ2,o=.next ρ2/\I (pre++[x]) ρ2)->(∀ ρ,I (pre++xs) ρ->Q (.next ρ))->(bK g s xs ρ).all (xs.length * n) Q
 | [],pre,ρ,h0,_,hq=>hq ρ (by rw [List.append_nil]; exact h0)
 | x::xs,pre,ρ,h0,ht,hq=>by
  obtain ⟨ρ1,e,ha⟩:=ht pre x xs ρ rfl h0 (by simp)
  have en:(x::xs).length * n=n+xs.length * n:=by rw [List.length_cons,Nat.succ_mul]; omega
  rw [en,dB,e,Tr.of_some,Tr.ret_bind]
  unfold pP
  refine Tr.all_bind ha λo ⟨ρ2,eo,h2⟩=>?_
  subst eo
  rw [cy]
  exact ZdH I h2 (λpre y post ρ e h hy=>ht pre y post ρ e h (List.mem_cons_of_mem _ hy)) (λρ h=>hq ρ (by rw [List.append_assoc] at h; exact h))
theorem ZkG {α:Type} {w:Int} {k:Int->Tr α} {n:Nat} {P:α->Prop} (h1:0 < w) (h2:w < 1073741824) (h:∀ r,0<=r->r < w->(k r).all n P):(Tr.draw w k).all (n+1) P:=⟨h1,h2,h⟩
noncomputable def vt (y:PyData) (ys:List PyData):Tr (List PyData):=.ret (y::ys)
noncomputable def mt1 (h:PyData->Tr PyData) (xs:List PyData) (y:PyData):Tr (List PyData):=(bz h xs).bind (vt y)
theorem iT {h:PyData->Tr PyData}:bz h []=.ret []:=rfl
theorem iU {h:PyData->Tr PyData} {x:PyData} {xs:List PyData}:bz h (x::xs)=(h x).bind (mt1 h xs):=rfl
theorem iX {h:PyData->Tr PyData} {y:PyData} {xs:List PyData}:mt1 h xs y=(bz h xs).bind (vt y):=rfl
theorem iW {y:PyData} {ys:List PyData}:vt y ys=.ret (y::ys):=rfl
theorem pick {α:Type} {xs:List α} {r:Int} (h0:0<=r) (h1:r < xs.length):∃ v,bw xs r=some v/\v∈xs:=by
 have h:r.toNat < xs.length:=by omega
 exact ⟨xs[r.toNat],il h0 (by simp [h]),List.getElem_mem h⟩
theorem vD {α:Type} {xs:List α} (h:xs.length=7):∃ a b c d e f g,xs=[a,b,c,d,e,f,g]:=by
 rcases xs with _ | ⟨a,_ | ⟨b,_ | ⟨c,_ | ⟨d,_ | ⟨e,_ | ⟨f,_ | ⟨g,_ | ⟨k,xs⟩⟩⟩⟩⟩⟩⟩⟩
 ·cases h
 ·cases h
 ·cases h
 ·cases h
 ·cases h
 ·cases h
 ·cases h
 ·exact ⟨a,b,c,d,e,f,g,rfl⟩
 ·exact absurd h (by simp)
end L2
namespace L2
open PySem
@[irreducible] noncomputable def Al {α:Type} (t:Tr α) (n:Nat) (P:α->Prop):Prop:=t.all n P
section
variable {α β:Type} {t:Tr α} {n n' N:Nat} {P:α->Prop} {P':β->Prop}
theorem Al.of (h:t.all n P):Al t n P:=by unfold Al; exact h
theorem Al.out (h:Al t n P):t.all n P:=by unfold Al at h; exact h
theorem dC {a:α} (h:P a):Al (.ret a) n P:=.of h
theorem cU {w:Int} {k:Int->Tr α} (h1:0 < w) (h2:w < 1073741824) (hN:n+1<=N) (h:∀ r,0<=r->r < w->Al (k r) n P):Al (.draw w k) N P:=.of (Tr.all_mono (ZkG h1 h2 λr a b=>(h r a b).out) hN λ_ h=>h)
theorem fP {f:α->Tr β} (h:Al t n P) (hN:n+n'<=N) (hf:∀ a,P a->Al (f a) n' P'):Al (t.bind f) N P':=.of (Tr.all_mono (Tr.all_bind h.out λa ha=>(hf a ha).out) hN λ_ h=>h)
theorem wH {Q:α->Prop} (h:Al t n P) (hN:n<=N) (hq:∀ a,P a->Q a):Al t N Q:=.of (Tr.all_mono h.out hN hq)
theorem Zmn {g:PyData->List Sl->Option (List Sl)} {s:List Sl->Tr Ou} {xs:List PyData} {ρ:List Sl} {Q:Ou->Prop} (I:List Sl->Prop) (h0:I ρ) (hN:xs.length * n<=N) (ht:∀ x ρ,x∈xs->I ρ->∃ ρ1,g x ρ=some ρ1/\Al (s ρ1) n λo=>∃ ρ2,o=.next ρ2/\I ρ2) (hq:∀ ρ,I ρ->Q (.next ρ)):Al (bK g s xs ρ) N Q :=
 .of (Tr.all_mono (ZdH (λ_ ρ=>I ρ) (pre:=[]) h0 (λpre x post ρ _ h hx=>let ⟨ρ1,e,a⟩:=ht x ρ hx h; ⟨ρ1,e,a.out⟩) λρ h=>hq ρ h) hN λ_ h=>h)
end
noncomputable def pK (lo hi:Int) (x:PyData):Prop:=∃ z:Int,x=.int z/\lo<=z/\z<=hi
theorem dS {lo hi:Int}:(bc lo hi).length=(hi - lo).toNat:=by unfold bc; rw [List.length_map,gR]
theorem qY {xs:List PyData} {lo hi r:Int} (h:∀ x∈xs,pK lo hi x) (h0:0<=r) (h1:r < xs.length):∃ z:Int,bw xs r=some (.int z)/\lo<=z/\z<=hi:=by
 obtain ⟨v,e,m⟩:=pick h0 h1
 obtain ⟨z,rfl,a,b⟩:=h v m
 exact ⟨z,e,a,b⟩
end L2
set_option Elab.async false
set_option linter.all false
set_option maxRecDepth 100000
namespace L2
open PySem PySem.Spec PyProof.Rows
variable {PK:Pk} {X:Cx} {a b c e:Expr} {es:List Expr} {pos:Pos} {i j l:List Sl->Tr PyData} {is:List Sl->Tr (List PyData)} {p q:List Sl->Tr Bool} {st:Stmt}
noncomputable def v8:PyData->Bool
 | .none=>true
 | .bool _=>true
 | .int _=>true
 | .str _=>true
 | _=>false
end L2
set_option Elab.async false
set_option linter.all false
set_option maxRecDepth 100000
namespace L2
open PySem PySem.Spec PyProof.Rows
variable {PK:Pk} {X:Cx} {a b c e:Expr} {es:List Expr} {pos:Pos} {i j l:List Sl->Tr PyData} {as:List Sl->Tr (List Sl)}
structure PkLow (PK:Pk):Prop where
 low:∀ {o o':HO} {G G':Hp} {m m':Nat},PK.is o G m->Sub G G'->PK.is o' G' m'->PK.is o' G m'
inductive ArB (pa:Addr) (G H:Hp):V->Sl->Prop
 | ok {v:V} {s:Sl}:ArOk pa G v s->ArB pa G H v s
 | own {p:Addr} {vs:List V} {xs:List PyData}:H p=some (.lst vs)->G p=none->pa≠p->DnAll G vs xs->ArB pa G H (.ref p) (.d (.list xs))
inductive ArsB (pa:Addr) (G H:Hp):List V->List Sl->Prop
 | nil:ArsB pa G H [] []
 | cons {v:V} {vs:List V} {s:Sl} {ss:List Sl}:ArB pa G H v s->ArsB pa G H vs ss->ArsB pa G H (v::vs) (s::ss)
theorem ArB.step {pa:Addr} {G H G' H':Hp} {v:V} {s:Sl} (h:ArB pa G H v s) (st:Stp pa G H G' H'):ArB pa G' H' v s:=by
 cases h with
 | ok h=>exact .ok (h.mono st.gs)
 | @own p vs xs h1 h2 h3 h4 =>
  refine .own (st.hk _ _ h1 (Ne.symm h3)) ?_ h3 (DnAll.mono st.gs h4)
  cases e:G' p with
  | none=>rfl
  | some u =>
   rcases st.gn p u e with z | z
   ·rw [h2] at z; cases z
   ·rw [h1] at z; cases z
theorem ArsB.ok {pa:Addr} {m:Nat} {G H:Hp}:∀ {vs:List V} {ss:List Sl} {G1:Hp},Sub G G1->Wd PK pa m G1 H->ArsB pa G H vs ss->∃ G2,Sub G1 G2/\Wd PK pa m G2 H/\ArsOk pa G2 vs ss
 | _,_,G1,_,w,.nil=>⟨G1,λ_ _ h=>h,w,.nil⟩
 | _,_,G1,sb,w,.cons h t=>by
  obtain ⟨G2,s2,w2,t2⟩:=ArsB.ok sb w t
  cases h with
  | ok h=>exact ⟨G2,s2,w2,.cons (h.mono (sb.trans s2)) t2⟩
  | @own p vs xs h1 h2 h3 h4 =>
   cases e:G2 p with
   | none =>
    have s3:Sub G2 (upd G2 p (.lst vs)):=Sub.new e
    exact ⟨upd G2 p (.lst vs),s2.trans s3,w2.freeze h1 e h3,.cons (.d (.lst bE (DnAll.mono ((sb.trans s2).trans s3) h4))) (ArsOk.mono s3 t2)⟩
   | some u =>
    have:=w2.sub p u e
    rw [h1] at this
    cases this
    exact ⟨G2,s2,w2,.cons (.d (.lst e (DnAll.mono (sb.trans s2) h4))) t2⟩
noncomputable def TAb (PK:Pk) (i:List Sl->Tr (List Sl)):TA:=λσ H Q=>∃ pa G₀ H₀ m ρ G,Rl PK pa G₀ H₀ m σ ρ G H/\(i ρ).ok m λm' as=>∀ vs G' H',Stp pa G H G' H'->Wd PK pa m' G' H'->ArsB pa G' H' vs as->Q vs H'
theorem TAb.then {σ:St} {H:Hp} {β:Type} {k:List Sl->Tr β} {Z:Nat->β->Prop} {Q:List V->Hp->Prop} {pa:Addr} {G₀ H₀ G:Hp} {m:Nat} {ρ:List Sl} (R:Rl PK pa G₀ H₀ m σ ρ G H) (h:((as ρ).bind k).ok m Z)
  (hq:∀ m1 xs vs G1 H1,Stp pa G H G1 H1->Wd PK pa m1 G1 H1->Rl PK pa G₀ H₀ m1 σ ρ G1 H1->ArsB pa G1 H1 vs xs->(k xs).ok m1 Z->Q vs H1):TAb PK as σ H Q:=by
 refine ⟨pa,G₀,H₀,m,ρ,G,R,Tr.ok_mono (Tr.ok_bind.mp h) λm1 x hx v G1 H1 s1 w1 d1=>?_⟩
 exact hq m1 x v G1 H1 s1 w1 (R.step s1 w1) d1 hx
theorem Zfr:PA X [] (TAb PK aA):=cb.imp λσ H Q hz0=>by
 obtain ⟨pa,G₀,H₀,m,ρ,G,R,z⟩:=hz0
 exact z [] G H .refl R.wd .nil
noncomputable def p8 (k:Nat) (as:List Sl->Tr (List Sl)):List Sl->Tr (List Sl):=λρ=>match ρ[k]? with
 | some (.own xs)=>(as ρ).bind λys=>.ret (.d (.list xs)::ys)
 | some (.d x)=>(as ρ).bind λys=>.ret (.d x::ys)
 | _=>.fail
theorem Zfs {k:Nat} (ha:PE X e (dm k)) (hr:PA X es (TAb PK as)) (hs:starEach (e::es) X.env=(false,eval e X.env)::starEach es X.env:=by rfl):PA X (e::es) (TAb PK (p8 k as)):=(bo ha hr hs).imp λσ H Q hz0=>by
 obtain ⟨pa,G₀,H₀,m,ρ,G,R,z⟩:=hz0
 unfold p8 at z
 split at z
 ·rename_i xs hk
  obtain ⟨o,h1,h2⟩:=R.sl k _ hk
  cases h2 with
  | @own p vs _ a1 a2 a3 a4 =>
   have hne:pa≠p:=λe=>by
    obtain ⟨u,hu⟩:=R.p0
    rw [e,a3] at hu; cases hu
   refine ⟨_,h1,?_⟩
   refine TAb.then R z λm2 ys ws G2 H2 s2 w2 R2 d2 q2=>?_
   exact q2 _ _ _ s2 w2 (.cons ((ArB.own a1 a2 hne a4).step s2) d2)
 ·rename_i x hk
  obtain ⟨o,h1,h2⟩:=R.sl k _ hk
  cases h2 with
  | d d1 =>
   refine ⟨_,h1,?_⟩
   refine TAb.then R z λm2 ys ws G2 H2 s2 w2 R2 d2 q2=>?_
   exact q2 _ _ _ s2 w2 (.cons (.ok (.d (d1.mono s2.gs))) d2)
 ·exact z.elim
theorem Dn.flat_any {G G':Hp} {v:V} {x:PyData} (h:Dn G v x) (f:v8 x=true):Dn G' v x:=by
 cases h with
 | non=>exact .non
 | bl b=>exact .bl b
 | int i=>exact .int i
 | str s=>exact .str s
 | _=>cases f
variable {ρ:List Sl} {k:Nat} {xs:List PyData} {x:PyData} {sl:Sl} {f:List Sl->Tr Re}
noncomputable def i7:Nat->List Sl->Tr PyData
 | 0,.own xs::_=>.ret (.list xs)
 | 0,.d x::_=>.ret x
 | k+1,_::ρ=>i7 k ρ
 | _,_=>.fail
theorem ld:i7 0 (.own xs::ρ)=.ret (.list xs):=rfl
theorem lg:i7 0 (.d x::ρ)=.ret x:=rfl
theorem lc:i7 (k+1) (sl::ρ)=i7 k ρ:=rfl
theorem la:p8 k as ρ=(i7 k ρ).bind (sW as ρ):=by
 have key:∀ (k:Nat) (σ:List Sl) (as:List Sl->Tr (List Sl)) (ρ:List Sl),(match σ[k]? with | some (.own xs)=>(as ρ).bind λys=>Tr.ret (Sl.d (.list xs)::ys) | some (.d x)=>(as ρ).bind λys=>Tr.ret (Sl.d x::ys) | _=>Tr.fail)=(i7 k σ).bind (sW as ρ):=by
  intro k
  induction k with
  | zero =>
   intro σ as ρ
   cases σ with
   | nil=>rfl
   | cons s r=>cases s <;> rfl
  | succ k ih =>
   intro σ as ρ
   cases σ with
   | nil=>rfl
   | cons s r=>exact ih r as ρ
 exact key k ρ as ρ
end L2
set_option Elab.async false
set_option linter.all false
set_option maxRecDepth 100000
namespace L2
open PySem PySem.Spec PyProof.Rows
theorem Zlv {prog:Program} {w:World} {A:Around} {R:Result->Shared->Prop} {s:Shared} {elt target iter cnd:Expr} {scope:Scope} {pos:Pos} {it acc:Value} {env:Env} (J:Nat->Shared->Prop)
  (step:∀ k s0,J k s0->wpAny (model prog w) A (pyNext it) (λgot s1=>match got with
   | none=>R (.ok .next) s1
   | some v=>wpAny (model prog w) A (letOwnedTupleGo target it v) (λ_ s2=>wpAny (model prog w) A (assign target env v) (λ_ s3=>wpAny (model prog w) A (isTrue cnd env (eval cnd env)) (λok s3'=>if ok=true then wpAny (model prog w) A (eval elt env) (λy s4 =>
     wpAny (model prog w) A (call (.builtin "list.append") [acc,y]) (λ_ s5=>∃ j,j < k/\J j s5) (λ_ _=>False) s4) (λ_ _=>False) s3' else ∃ j,j < k/\J j s3') (λ_ _=>False) s3) (λ_ _=>False) s2) (λ_ _=>False) s1) (λ_ _=>False) s0)
  (k:Nat) (h:J k s):codeAny (model prog w) A (.compLoop (.ListComp elt [⟨target,iter,[cnd],0⟩] scope pos) 0 it acc env) R s:=by
 refine codeAny_loop rfl J (λk0 s0 hJ=>?_) k h
 show wpAny _ _ ((compTurn (.ListComp elt [⟨target,iter,[cnd],0⟩] scope pos) 0 it acc env).onRaise (λx=>do noteFrame x env; theTreesLotGoes x)) _ _ s0
 apply wpAny_noted
 rw [compTurn_list]
 refine wpAny_bind (wpAny_standAt (wpAny_bind (wpAny_mono (step k0 s0 hJ) (λgot s1 h1=>?_) λ_ _ z=>z.elim)))
 cases got with
 | none=>exact wpAny_pure h1
 | some v =>
  refine wpAny_bind (wpAny_mono h1 (λ_ s2 h2=>?_) λ_ _ z=>z.elim)
  refine wpAny_bind (wpAny_mono h2 (λ_ s3 h3=>?_) λ_ _ z=>z.elim)
  refine wpAny_bind (wpAny_mono (wpAny_tests_one h3) (λok s3' h3'=>?_) λ_ _ z=>z.elim)
  cases ok with
  | false=>exact wpAny_pure ⟨rfl,h3'⟩
  | true =>
   refine wpAny_bind (wpAny_bind (wpAny_mono h3' (λy s4 h4=>?_) λ_ _ z=>z.elim))
   exact wpAny_bind (wpAny_mono h4 (λ_ s5 h5=>wpAny_pure (wpAny_pure ⟨rfl,h5⟩)) λ_ _ z=>z.elim)
noncomputable def t5 (wi:TI) (n:Nat) (ix:List Nat) (g:Blk->TG) (tc:Blk->TT) (te:Blk->TE):TE:=λσ H Q=>wi σ H λJ H1=>∀ b:Blk,∃ W:Nat->Nat->St->List V->Hp->Prop,(∃ m,W 0 m (cI n ix σ) [] H1)/\∀ i m τ ys H2,W i m τ ys H2 ->
 (J.stop i H2/\∀ p v H',H2 p=none->v=V.ref p->H'=upd H2 p (.lst ys)->Q v H') \/
 (J.go i H2/\ys.length < sizeLine/\∀ x H3,J.yld i H2 x H3->g b x τ H3 λτ2 H4=>tc b τ2 H4 λok H4'=>if ok=true then te b τ2 H4' λy H5=>∃ m',m' < m/\W (i+1) m' τ2 (ys++[y]) H5 else ∃ m',m' < m/\W (i+1) m' τ2 ys H4')
section
variable {X:Cx} {pins:List (Addr×Obj)} {σ:St} {H:Hp} {s:Shared}
theorem Zi3 {elt target iter cnd:Expr} {scope:Scope} {pos:Pos} {Nx ts:List Str} {ix:List Nat} {g:Blk->TG} {tc:Blk->TT} {te:Blk->TE} {cl:List (Str×Addr)} {s2:Shared} {itv:Value} {R:Value->Addr->Result->Shared->Prop}
  {E:Value->Shared->Prop} {Q:VK}
  (hc:X.calm=true) (hg:∀ b,PG (aX X (bN Nx ts ix) scope b) target (g b)) (hcn:∀ b,PT (aX X (bN Nx ts ix) scope b) cnd (tc b)) (he:∀ b,PE (aX X (bN Nx ts ix) scope b) elt (te b))
  (hNx:X.N=Nx) (ok:BlkOk Nx X.env.scope scope ix) (cl1:∀ x c,cl.lookup x=some c->X.env.cells.lookup x=some c) (cl2:∀ y∈scope.names,y.2=.free->∃ c,cl.lookup y.1=some c)
  (h2:qo X pins σ target (λJ H1=>∀ b:Blk,∃ W:Nat->Nat->St->List V->Hp->Prop,(∃ m,W 0 m (cI ts.length ix σ) [] H1)/\∀ i m τ ys H2,W i m τ ys H2 ->
   (J.stop i H2/\∀ p v H',H2 p=none->v=V.ref p->H'=upd H2 p (.lst ys)->Q v H') \/
   (J.go i H2/\ys.length < sizeLine/\∀ x H3,J.yld i H2 x H3->g b x τ H3 λτ2 H4=>tc b τ2 H4 λok H4'=>if ok=true then te b τ2 H4' λy H5=>∃ m',m' < m/\W (i+1) m' τ2 (ys++[y]) H5 else ∃ m',m' < m/\W (i+1) m' τ2 ys H4')) itv s2)
  (hR:∀ (D C:Addr) (H':Hp) (s':Shared) (v:V),Inv X pins σ H' s'->v=.ref D->Q v H'->(∃ m,s'.heap.Ns C m)->H' C=none->C≠X.env.locals->X.s₀.heap.objs.size<=C->(∀ x c,X.env.cells.lookup x=some c->c≠C)->(∀ p∈X.pn++pins,p.1≠C) ->
   R (.ref D) C (.ok .next) s') :
  wpAny (model X.prog X.w) X.A (newList []) (λacc s₃=>wpAny (model X.prog X.w) X.A (newFunctionEnv scope X.env.globals cl [] X.env.qual none .none (some X.env)) (λcenv s₄ =>
   codeAny (model X.prog X.w) X.A (.compStart (.ListComp elt [⟨target,iter,[cnd],0⟩] scope pos) 0 itv acc { cenv with scope:=relabel scope X.env }) (R acc cenv.locals) s₄) E s₃) E s2:=by
 obtain ⟨it,fp,tn,J,H1,e,I2,T,st2,f2,q2⟩:=h2
 subst e
 refine wpAny_newObj_type (tR ?_)
 dsimp only
 generalize hG:s2.heap.push { cls:=.type "list",dict:=none,data:=.seq ([]:List Value).toArray }=G
 have hGs:G.objs.size=s2.heap.objs.size+1:=by rw [<- hG,Heap.size_push]
 have hfs:∀ b∈fp,b < s2.heap.objs.size:=λb hb=>let ⟨o,e,_⟩:=T.obj _ _ st2 b hb; Heap.lt_size e
 have kpG:∀ b o,G.get? b=some o->(pushCells (G.push { cls:=.type "dict",data:=.dict #[] }) scope.names).get? b=some o:=λb o e=>pushCells_keeps _ _ _ _ (Heap.get?_push_of_some _ e)
 have hns3:(pushCells (G.push { cls:=.type "dict",data:=.dict #[] }) scope.names).Ns G.objs.size (λ_=>none):=(Heap.Ns.new G (.type "dict")).keeps (pushCells_keeps _ _)
 obtain ⟨sp1,sp2,sp4,sp3⟩:=wq scope.names (G.push { cls:=.type "dict",data:=.dict #[] }) cl
 rw [Heap.size_push] at sp1 sp2 sp3 sp4
 generalize hh3:pushCells (G.push { cls:=.type "dict",data:=.dict #[] }) scope.names=h3 at kpG hns3 sp1 ⊢
 have kp:∀ b o,s2.heap.get? b=some o->h3.get? b=some o:=λb o e=>kpG b o (by rw [<- hG]; exact Heap.get?_push_of_some _ e)
 have hD3:h3.get? s2.heap.objs.size=some { cls:=.type "list",data:=.seq ([]:List Value).toArray }:=kpG _ _ (by rw [<- hG]; exact Heap.get?_push_size _ rfl)
 have clB:∀ x c,cl.lookup x=some c->c < G.objs.size+1:=λx c e=>by
  obtain ⟨v,q⟩:=I2.cell x c (cl1 x c e)
  exact Nat.lt_succ_of_lt (Nat.lt_of_lt_of_le q.lt (by rw [hGs]; exact Nat.le_succ _))
 have csI:=sp3 clB λx y c e1 e2=>I2.ok.inj x y c (cl1 x c e1) (cl1 y c e2)
 have cs1:∀ x c,(cellsFrom (G.objs.size+1) scope.names cl).lookup x=some c->X.env.cells.lookup x=some c\/(G.objs.size < c/\h3.IsCell c none/\(x,NameKind.cell)∈scope.names):=λx c e=>by
  rcases sp1 x c e with z | ⟨z1,z2,z3⟩
  ·exact .inl (cl1 x c z)
  ·exact .inr ⟨by omega,z2,z3⟩
 have cs2:∀ y∈scope.names,(y.2=.free\/y.2=.cell)->∃ c,(cellsFrom (G.objs.size+1) scope.names cl).lookup y.1=some c:=λy hy hk=>by
  refine sp2 y.1 ?_
  rcases hk with z | z
  ·exact .inr (cl2 y hy z)
  ·exact .inl (by rw [<- z]; exact hy)
 have csA:∀ x c,(x,NameKind.cell)∈scope.names->(cellsFrom (G.objs.size+1) scope.names cl).lookup x=some c->G.objs.size<=c:=λx c e1 e2=>Nat.le_of_succ_le (sp4 x c e1 e2)
 generalize hcs:cellsFrom (G.objs.size+1) scope.names cl=cs at csI cs1 cs2 csA ⊢
 generalize hCe:G.objs.size=C at hns3 cs1 csA ⊢
 have hC:s2.heap.objs.size<=C:=by omega
 have hDC:s2.heap.objs.size≠C:=by omega
 let B:Blk:=⟨cs,C,s2,H1,fp,X.pn++pins⟩
 have I3:Inv (aX X (bN Nx ts ix) scope B) [] (cI ts.length ix σ) H1 { s2 with heap:=h3 }:=vU I2 hNx ok cs1 csI cs2 csA f2 hfs hC kp hns3
 have fC:H1 s2.heap.objs.size=none:=I2.hok.fresh (Nat.le_refl _)
 have cellIn:∀ x c,cs.lookup x=some c->c≠s2.heap.objs.size:=λx c e=>by
  rcases cs1 x c e with z | ⟨z,_,_⟩
  ·obtain ⟨v,q⟩:=I2.cell x c z
   exact Nat.ne_of_lt q.lt
  ·exact Nat.ne_of_gt (Nat.lt_of_le_of_lt hC z)
 have pinIn:∀ p∈X.pn++pins,p.1 < s2.heap.objs.size:=λp hp=>Heap.lt_size (I2.pin p hp).1
 have nofrs:s2.heap.objs.size ∉ frs X.stack:=λhb=>by
  rcases List.mem_cons.mp (I2.stkSub _ hb) with z | z
  ·exact absurd I2.lt (by rw [<- z]; exact Nat.lt_irrefl _)
  ·exact I2.nofs (Nat.le_refl _) z
 -- a state with the list at its place,pinned
 have pinD:∀ {τ:St} {H':Hp} {s':Shared} {ob:Obj},Inv (aX X (bN Nx ts ix) scope B) [] τ H' s'->s'.heap.get? s2.heap.objs.size=some ob->H' s2.heap.objs.size=none->(∀ v,ob.data≠.cell v)->Inv (aX X (bN Nx ts ix) scope B) [(s2.heap.objs.size,ob)] τ H' s' :=
  λ{τ H' s' ob} I' ho hn hd=>I'.pins_of λp hp=>by
   have e:p=(s2.heap.objs.size,ob):=by simpa using hp
   subst e
   exact ⟨ho,hn,hDC,nofrs,hd⟩
 obtain ⟨W,⟨m0,w0⟩,turn⟩:=q2 B
 have stat:∀ {H':Hp} {ob:Obj},(∀ b∈fp,H' b=none)->∀ b∈fp,eY (aX X (bN Nx ts ix) scope B) [(s2.heap.objs.size,ob)] H' b:=λ{H' ob} hn b hb=>by
  refine ⟨hn b hb,Nat.ne_of_lt (Nat.lt_of_lt_of_le (hfs b hb) hC),λz=>?_,.inl hb,λx c e=>by
   rcases cs1 x c e with z | ⟨z,_,_⟩
   ·exact (f2 b hb).2.2.2.2.1 x c z
   ·exact Nat.ne_of_gt (Nat.lt_of_lt_of_le (hfs b hb) (Nat.le_trans hC (Nat.le_of_lt z))),λp hp=>?_⟩
  ·rcases List.mem_cons.mp (I2.stkSub _ z) with q | q
   ·exact (f2 b hb).2.1 q
   ·exact (f2 b hb).2.2.1 q
  ·rcases List.mem_append.mp hp with z | z
   ·exact (f2 b hb).2.2.2.2.2 p z
   ·have e:p=(s2.heap.objs.size,ob):=by simpa using z
    subst e
    exact Nat.ne_of_gt (hfs b hb)
 have loop:∀ s4:Shared,s4={ s2 with heap:=h3 } ->
   codeAny (model X.prog X.w) X.A (.compLoop (.ListComp elt [⟨target,iter,[cnd],0⟩] scope pos) 0 (.ref it) (.ref s2.heap.objs.size) (compEnvC scope cs C X.env)) (R (.ref s2.heap.objs.size) C) s4:=by
  rintro s4 rfl
  refine Zlv (λk s'=>∃ i τ ys its n H',Inv (aX X (bN Nx ts ix) scope B) [(s2.heap.objs.size,({ cls:=.type "list",data:=.seq (List.toArray its) n }:Obj))] τ H' s'/\tn i s'.heap/\(∀ b∈fp,H' b=none)/\Vals ys its/\ys.length<=sizeLine/\W i k τ ys H') ?_ m0
   ⟨0,_,[],[],_,H1,pinD I3 hD3 fC (λv z=>by cases z),T.keep _ _ _ st2 λb hb o e=>kp b o e,λb hb=>(f2 b hb).1,.nil,Nat.zero_le _,w0⟩
  rintro k s5 ⟨i,τ,ys,its,n,H5,I5,st5,fr5,rv,hz,w5⟩
  rcases turn i k τ ys H5 w5 with ⟨stop,qn⟩ | ⟨go,hlt,step⟩
  ·refine thn (T.done (aX X (bN Nx ts ix) scope B) rfl rfl rfl hc i _ s5 τ H5 _ I5 (stat fr5) st5 stop) λgot s6 hz0=>?_
   obtain ⟨hr,I6⟩:=hz0
   subst hr
   obtain ⟨ho,hn,_,_,_⟩:=I6.pin (s2.heap.objs.size,({ cls:=.type "list",data:=.seq (List.toArray its) n }:Obj)) (List.mem_append_right _ (by simp))
   have I7:Inv X pins σ H5 s6:=I2.call' (ch:=fp) (H':=H5) (by exact I6.os) I6.base I6.hok I6.bare λb hb=>⟨(f2 b hb).2.2.2.1,(f2 b hb).2.1,(f2 b hb).2.2.2.2.1,(f2 b hb).2.2.2.2.2⟩
   have hs0:X.s₀.heap.objs.size<=s2.heap.objs.size:=I2.sz
   have I8:=I7.track hn ho rv hz (Nat.ne_of_gt I2.lt) hs0 (λx c e z=>by
    obtain ⟨v,q⟩:=I2.cell x c e
    exact absurd q.lt (by rw [z]; exact Nat.lt_irrefl _)) (λp hp=>Nat.ne_of_lt (pinIn p hp))
   obtain ⟨m6,hm6,_⟩:=I6.loc
   refine hR _ C _ s6 _ I8 rfl (qn _ _ _ hn rfl rfl) ⟨m6,hm6⟩ ?_ (λz=>?_) (Nat.le_trans hs0 hC) (λx c e z=>?_) λp hp=>Nat.ne_of_lt (Nat.lt_of_lt_of_le (pinIn p hp) hC)
   ·rw [az (Ne.symm hDC)]
    exact I6.free
   ·exact absurd (Nat.lt_of_lt_of_le I2.lt hC) (by rw [z]; exact Nat.lt_irrefl _)
   ·obtain ⟨v,q⟩:=I2.cell x c e
    exact absurd (Nat.lt_of_lt_of_le q.lt hC) (by rw [z]; exact Nat.lt_irrefl _)
  ·refine thn (T.item (aX X (bN Nx ts ix) scope B) rfl rfl rfl hc i _ s5 τ H5 _ I5 (stat fr5) st5 go) λgot s6 hz0=>?_
   obtain ⟨u,hr,h6⟩:=hz0
   subst hr
   refine thn h6 λ_ s7 hz0=>?_
   obtain ⟨x,H7,I7,r7,y7,st7,fr7⟩:=hz0
   have I7':=I7.pinned (stat fr7) (T.obj _ _ st7)
   refine thn (hg B _ s7 τ H7 x u _ I7' r7 (step x H7 y7)) λ_ s8 hz0=>?_
   obtain ⟨τ8,H8,I8,q8⟩:=hz0
   refine thn (hcn B _ s8 τ8 H8 _ I8 q8) λokk s8' hz0=>?_
   obtain ⟨H8',I8',q8'⟩:=hz0
   cases okk with
   | false =>
    obtain ⟨m',hm',w9⟩:=q8'
    obtain ⟨ho,hn,_,_,_⟩:=I8'.pin (s2.heap.objs.size,({ cls:=.type "list",data:=.seq (List.toArray its) n }:Obj)) (List.mem_append_right _ (List.mem_append_left _ (by simp)))
    have I9':Inv (aX X (bN Nx ts ix) scope B) [] τ8 H8' s8':=I8'.pins_of λp hp=>absurd hp (by simp)
    refine ⟨m',hm',i+1,τ8,ys,its,n,H8',pinD I9' ho hn (λv z=>by cases z),?_,λb hb=>?_,rv,hz,w9⟩
    ·refine T.keep _ _ _ st7 λb hb o e=>?_
     exact (I8'.pin (b,o) (List.mem_append_right _ (List.mem_append_right _ (fI hb e)))).1
    ·obtain ⟨o,e,d⟩:=T.obj _ _ st7 b hb
     exact (I8'.pin (b,o) (List.mem_append_right _ (List.mem_append_right _ (fI hb e)))).2.1
   | true =>
   refine thn (he B _ s8' τ8 H8' _ I8' q8') λy s9 hz0=>?_
   obtain ⟨vy,H9,I9,r9,m',hm',w9⟩:=hz0
   obtain ⟨ho,hn,_,_,_⟩:=I9.pin (s2.heap.objs.size,({ cls:=.type "list",data:=.seq (List.toArray its) n }:Obj)) (List.mem_append_right _ (List.mem_append_left _ (by simp)))
   have lenv:=rv.length
   refine wpAny_list_append_plain (l:=s2.heap.objs.size) ⟨n,ho⟩ (λh' hpl hsb=>?_) (by rw [List.size_toArray]; omega)
   obtain ⟨n',ho'⟩:=hpl
   have eobj:(its.toArray.push y)=List.toArray (its++[y]):=by simp
   rw [eobj] at ho'
   have I9':Inv (aX X (bN Nx ts ix) scope B) [] τ8 H9 s9:=I9.pins_of λp hp=>absurd hp (by simp)
   have I10:Inv (aX X (bN Nx ts ix) scope B) [] τ8 H9 { s9 with heap:=h' }:=I9'.turned (it:=s2.heap.objs.size) (t':=s9.toks) (λb o hb e=>(hsb.2 b hb).trans e) hn hDC (.inr (Nat.le_refl _)) cellIn (λp hp=>by
    have hp':p∈(X.pn++pins)++[]:=hp
    rw [List.append_nil] at hp'
    exact Nat.ne_of_lt (pinIn p hp'))
   refine ⟨m',hm',i+1,τ8,ys++[vy],its++[y],n',H9,pinD I10 ho' hn (λv z=>by cases z),?_,λb hb=>?_,rv.append (.cons r9 .nil),by rw [List.length_append]; show ys.length+1<=_; omega,w9⟩
   ·refine T.keep _ _ _ st7 λb hb o e=>?_
    have q:=(I9.pin (b,o) (List.mem_append_right _ (List.mem_append_right _ (fI hb e)))).1
    exact (hsb.2 b (Nat.ne_of_lt (hfs b hb))).trans q
   ·obtain ⟨o,e,d⟩:=T.obj _ _ st7 b hb
    exact (I9.pin (b,o) (List.mem_append_right _ (List.mem_append_right _ (fI hb e)))).2.1
 exact codeAny_compStart_list (loop _ rfl) (T.self X.A 0 _ _ _ (T.keep _ _ _ st2 λb hb o e=>kp b o e) (loop _ rfl))
theorem qZ {elt target iter cnd:Expr} {scope:Scope} {pos:Pos} {wi:TI} {g:Blk->TG} {tc:Blk->TT} {te:Blk->TE} (Nx:List Str) (ts:List Str) (ix:List Nat)
  (hc:X.calm=true) (hi:PI X target iter wi) (hg:∀ b,PG (aX X (bN Nx ts ix) scope b) target (g b)) (hcn:∀ b,PT (aX X (bN Nx ts ix) scope b) cnd (tc b)) (he:∀ b,PE (aX X (bN Nx ts ix) scope b) elt (te b))
  (hNx:X.N=Nx) (ok:BlkOk Nx X.env.scope scope ix) (hs:∀ x,foldedSetIterable iter X.env x=pure x:=by intro _; rfl) :
  PE X (.ListComp elt [⟨target,iter,[cnd],0⟩] scope pos) (t5 wi ts.length ix g tc te):=by
 intro pins s σ H Q I h
 obtain ⟨cl,hcl,cl1,cl2⟩:=pU (scope:=scope) (env:=X.env) λy hy hf=>I.ok.has y.1 (ok.frees y hy hf)
 rw [eval_ListComp]
 refine wpAny_comprehension_free (use:=none) rfl hs hcl ok.kind ok.locs (thn (hi pins s σ H _ I h) λv s1 h1=>thn h1 λitv s2 h2=>?_)
 refine Zi3 (R:=λacc C=>compPost (model X.prog X.w) X.A X.xe none (EP X pins σ Q) acc C) hc hg hcn he hNx ok cl1 cl2 h2 ?_
 rintro D C H' s' v I' rfl q ⟨m,hm⟩ hn hL h0 hcl' hp
 exact ⟨m,hm,λh' hsb=>⟨.ref D,H',I'.turned (it:=C) (t':=s'.toks) (λb o hb e=>(hsb.2 b hb).trans e) hn hL (.inr h0) hcl' hp,rfl,q⟩⟩
end
section
variable {PK:Pk} {X:Cx} {e:Expr} {st:Stmt} {i:List Sl->Tr PyData} {is:List Sl->Tr (List PyData)} {p:List Sl->Tr Bool}
noncomputable def nT (y:Option PyData) (ys:List PyData):Tr (List PyData):=.ret (match y with
 | some y=>y::ys
 | none=>ys)
noncomputable def cN (h:PyData->Tr (Option PyData)):List PyData->Tr (List PyData)
 | []=>.ret []
 | x::xs=>(h x).bind λy=>(cN h xs).bind (nT y)
noncomputable def n4 (p:List Sl->Tr Bool) (i:List Sl->Tr PyData) (τ:List Sl):Tr (Option PyData):=(p τ).bind λok=>if ok=true then (i τ).bind λy=>.ret (some y) else .ret none
noncomputable def nj (is:List Sl->Tr (List PyData)) (n:Nat) (ix:List Nat) (g:PyData->List Sl->Option (List Sl)) (p:List Sl->Tr Bool) (el:List Sl->Tr PyData):List Sl->Tr (List PyData):=λρ =>
 (is ρ).bind λxs=>if small xs.length=true then cN (λx=>(Tr.of (g x (blk n ix ρ))).bind (n4 p el)) xs else .fail
theorem Zi2 {n:Nat} {ix:List Nat} {g:PyData->List Sl->Option (List Sl)} (hn:fx n g):∀ σ H Q,d7 PK (nj is n ix g p i) σ H Q->t5 (dP PK is) n ix (λ_=>d8 PK g) (λ_=>TAt PK p) (λ_=>TAe PK i) σ H Q:=by
 rintro σ H Q ⟨pa,G₀,H₀,m,ρ,G,R,z⟩
 refine ⟨pa,G₀,H₀,m,ρ,G,R,Tr.ok_mono (Tr.ok_bind.mp z) λm1 xs k J G1 H1 s1 w1 jo=>λB=>?_⟩
 obtain ⟨hs,k⟩:=ff k
 have hs:xs.length<=sizeLine:=of_decide_eq_true hs
 let el:PyData->Tr (Option PyData):=λx=>(Tr.of (g x (blk n ix ρ))).bind (n4 p i)
 let W:Nat->Nat->St->List V->Hp->Prop:=λk mm τ ys H2=>mm=xs.length - k/\k<=xs.length/\ys.length<=k/\∃ m G2 ds,Sub G1 G2/\Stp pa G H G2 H2/\Rl PK pa G₀ H₀ m τ (blk n ix ρ) G2 H2 /\
  DnAll G2 ys ds/\(cN el (xs.drop k)).ok m λm' zs=>Ko1 PK pa m' G H (ds++zs) Q
 refine ⟨W,⟨xs.length,rfl,Nat.zero_le _,Nat.le_refl _,m1,G1,[],.refl,s1,(R.step s1 w1).blk n ix,.nil,k⟩,?_⟩
 rintro k mm τ ys H2 ⟨rfl,hk,hy,m2,G2,ds,sb,st2,R2,dn,k2⟩
 obtain ⟨j1,j2⟩:=jo m2 G2 H2 sb R2.wd
 by_cases hlt:k < xs.length
 ·have hx:xs[k]?=some xs[k]:=by simp [hlt]
  obtain ⟨jg,jy⟩:=j1 k _ hx
  refine .inr ⟨jg,by omega,λx H3 y=>?_⟩
  obtain ⟨G3,s3,w3,d3⟩:=jy x H3 y
  rw [List.drop_eq_getElem_cons hlt] at k2
  unfold cN at k2
  rw [Tr.ok_bind,Tr.ok_bind] at k2
  obtain ⟨ρ3,hg3,k3⟩:=Tr.ok_of k2
  refine ⟨pa,G₀,H₀,m2,_,G3,_,ρ3,R2.step s3 w3,d3,hg3,λτ4 R4=>?_⟩
  obtain ⟨pl,pk⟩:=hn _ _ _ hg3
  have hback:∀ (q:Nat) (sl:Sl),(blk n ix ρ)[q]?=some sl->sl=.un\/ρ3[q]?=some sl:=λq sl hq=>by
   by_cases hqn:q < n
   ·left
    unfold blk at hq
    rw [List.getElem?_append_left (by simpa using hqn),List.getElem?_replicate,if_pos hqn] at hq
    cases hq
    rfl
   ·right
    rw [pk q (Nat.le_of_not_lt hqn)]
    exact hq
  unfold n4 at k3
  rw [Tr.ok_bind] at k3
  refine ⟨pa,G₀,H₀,m2,ρ3,G3,R4,Tr.ok_mono k3 λm4 ok k4 G4 H4 s4 w4=>?_⟩
  have R4':=R4.step s4 w4
  have s34:=s3.trans s4 w3.some
  cases ok with
  | false =>
   have k4':((cN el (xs.drop (k+1))).bind (nT none)).ok m4 λm' zs=>Ko1 PK pa m' G H (ds++zs) Q:=k4
   refine ⟨xs.length - (k+1),by omega,rfl,hlt,by omega,m4,G4,ds,sb.trans s34.gs,st2.trans s34 R2.wd.some,R4'.weak pl hback,DnAll.mono s34.gs dn,?_⟩
   exact Tr.ok_mono (Tr.ok_bind.mp k4') λm6 zs k6=>k6
  | true =>
   have k4':((i ρ3).bind λy=>.ret (some y)).ok m4 λm' y=>((cN el (xs.drop (k+1))).bind (nT y)).ok m' λm' zs=>Ko1 PK pa m' G H (ds++zs) Q:=k4
   rw [Tr.ok_bind] at k4'
   refine ⟨pa,G₀,H₀,m4,ρ3,G4,R4',Tr.ok_mono k4' λm5 yd k5=>?_⟩
   intro v G5 H5 s5 w5 d5
   have s35:=s34.trans s5 w4.some
   refine ⟨xs.length - (k+1),by omega,rfl,hlt,by rw [List.length_append]; show ys.length+1<=_; omega,m5,G5,ds++[yd],sb.trans s35.gs,st2.trans s35 R2.wd.some,(R4'.step s5 w5).weak pl hback,(DnAll.mono s35.gs dn).snoc d5,?_⟩
   have k5':((cN el (xs.drop (k+1))).bind (nT (some yd))).ok m5 λm' zs=>Ko1 PK pa m' G H (ds++zs) Q:=k5
   refine Tr.ok_mono (Tr.ok_bind.mp k5') λm6 zs k6=>?_
   rw [List.append_assoc]
   exact k6
 ·have e:k=xs.length:=by omega
  subst e
  refine .inl ⟨j2,λp v H' hp ev eH=>?_⟩
  subst ev eH
  rw [List.drop_length] at k2
  have k2':Ko1 PK pa m2 G H (ds++[]) Q:=k2
  rw [List.append_nil] at k2'
  exact (Ko1.later k2' st2 R2.wd.some).new R2.wd dn hp
theorem sS {n:Nat} {ix:List Nat} {g:PyData->List Sl->Option (List Sl)} (h:PE X e (t5 (dP PK is) n ix (λ_=>d8 PK g) (λ_=>TAt PK p) (λ_=>TAe PK i))) (hn:fx n g):PE X e (d7 PK (nj is n ix g p i)):=h.imp (Zi2 hn)
end
theorem BlkOk.leaf {Nx:List Str} {sc scope:Scope} (h1:scope.kind=.function) (h2:∀ y∈scope.names,y.2≠.cell/\y.2≠.free) (h3:∀ y∈scope.names,y.2=.local->scope.names.lookup y.1=some .local):BlkOk Nx sc scope [] :=
 ⟨h1,λy hy z=>absurd z (h2 y hy).1,h3,λy hy z=>absurd z (h2 y hy).2,λj hj=>by cases hj⟩
end L2
set_option Elab.async false
set_option linter.all false
set_option maxRecDepth 100000
namespace L2
open PySem PySem.Spec PyProof.Rows
section
variable {X:Cx}
theorem Zix (x:Int) (t:Tok) (l:Addr) (items:Array Value) (n:Nat) (dd:Option Addr) (sl:Array (Option Value)) (h1:x<=0) (h2:-1000<=x) (h3:items.isEmpty=false) :
  Meets (Builtin.«tuple.__mul__» ⟨[.ref l,.int x t],[]⟩) (λ_ R s=>s.heap.get? l=some { cls:=.type "tuple",dict:=dd,data:=.seq items n,slots:=sl } /\
   R (.ok (.ret (.ref s.heap.objs.size))) { s with heap:=s.heap.push { cls:=.type "tuple",data:=.seq #[] } }):=by
 refine .of_wp λprog w A R s h=>?_
 obtain ⟨hp,g,d,tk,os⟩:=s
 obtain ⟨hl,h⟩:=h
 wp_walk
 refine wpAny_ite_split (λz=>absurd z (by simp; omega)) (λ_=>?_)
 refine wpAny_bind ?_
 unfold Builtin.Tuple.tupleItemsOf
 refine wpAny_bind (wpAny_seqItems hl rfl (wpAny_pure ?_))
 refine wpAny_ite_split (λz=>absurd z (by rw [h3]; simp; omega)) (λ_=>?_)
 refine wpAny_ite_split (λ_=>?_) (λz=>absurd (by simp; exact .inl h1) z)
 unfold Builtin.Tuple.tupleExact
 exact wpAny_bind (wpAny_newObj_type (wpAny_pure ⟨_,rfl,h⟩) (by size_fits))
theorem Ziw (t:Tok) (l:Addr) (items:Array Value) (n:Nat) (dd:Option Addr) (sl:Array (Option Value)) :
  Meets (Builtin.«tuple.__mul__» ⟨[.ref l,.int 1 t],[]⟩) (λ_ R s=>s.heap.get? l=some { cls:=.type "tuple",dict:=dd,data:=.seq items n,slots:=sl }/\R (.ok (.ret (.ref l))) s):=by
 refine .of_wp λprog w A R s h=>?_
 obtain ⟨hp,g,d,tk,os⟩:=s
 obtain ⟨hl,h⟩:=h
 wp_walk
 exact ⟨_,rfl,h⟩
noncomputable def ZbW (K:PySem.W.Frag):R2:=λx y H Q=>∃ a k xs,x=.ref a/\y=.int k/\SqT K H a xs/\k<=0/\-1000<=k/\xs≠[]/\∀ p,H p=none->Q (.ref p) (upd H p (.tup []))
noncomputable def ZbV (K:PySem.W.Frag):R2:=λx y H Q=>∃ a xs,x=.ref a/\y=.int 1/\SqT K H a xs/\Q (.ref a) H
theorem Zh4:OpR X (binaryOp .Mult) (ZbW X.K):=by
 intro pins s σ H x y v u Q I rx ry h
 obtain ⟨a,k,xs,rfl,rfl,hq,h1,h2,hne,q⟩:=h
 cases rx
 obtain ⟨t,rfl⟩:=ry
 obtain ⟨its,rv,p,hz⟩:=I.tuple hq
 obtain ⟨o,ho,hc,n,hd⟩:=p
 obtain ⟨oc,od,odd,osl⟩:=o
 have hc':oc=.type "tuple":=hc
 have hd':odd=.seq its.toArray n:=hd
 subst hc' hd'
 have hemp:its.toArray.isEmpty=false:=by
  cases its with
  | nil=>cases rv; exact absurd rfl hne
  | cons i r=>rfl
 refine wpAny_binaryOp_repeat_ref (T:="tuple") (U:="int") (by decide) ⟨_,ho,rfl⟩ (λs'=>typeIs_int s' k t) vo PySem.F.fills_int_mul PySem.F.slot_int_rmul uK PySem.F.slot_int_index.lookup ?_
 refine call_meets PySem.F.slot_int_rmul (typeIs_int s k t) PySem.F.entry_int_rmul (PySem.F.args_int_rmul_2 _ _) (uJ k t a its.toArray n od osl) ⟨ho,rfl,⟨_,ho,rfl⟩,?_⟩
 refine call_meets PySem.F.slot_tuple_mul ⟨_,ho,rfl⟩ PySem.F.entry_tuple_mul (PySem.F.args_tuple_mul_2 _ _) (Zix k t a its.toArray n od osl h1 h2 hemp) ⟨ho,?_⟩
 exact ⟨.ref s.heap.objs.size,_,I.laid (t':=s.toks) (λb o e=>Heap.get?_push_of_some _ e) (Nat.le_refl _) (show ObjOk X.prog X.w _ _ _ (.tup []) from ⟨Nat.zero_le _,[],.nil,IsTup.new _ _⟩),rfl,q _ (I.hok.fresh (Nat.le_refl _))⟩
theorem Zh3:OpR X (binaryOp .Mult) (ZbV X.K):=by
 intro pins s σ H x y v u Q I rx ry h
 obtain ⟨a,xs,rfl,rfl,hq,q⟩:=h
 cases rx
 obtain ⟨t,rfl⟩:=ry
 obtain ⟨its,rv,p,hz⟩:=I.tuple hq
 obtain ⟨o,ho,hc,n,hd⟩:=p
 obtain ⟨oc,od,odd,osl⟩:=o
 have hc':oc=.type "tuple":=hc
 have hd':odd=.seq its.toArray n:=hd
 subst hc' hd'
 refine wpAny_binaryOp_repeat_ref (T:="tuple") (U:="int") (by decide) ⟨_,ho,rfl⟩ (λs'=>typeIs_int s' 1 t) vo PySem.F.fills_int_mul PySem.F.slot_int_rmul uK PySem.F.slot_int_index.lookup ?_
 refine call_meets PySem.F.slot_int_rmul (typeIs_int s 1 t) PySem.F.entry_int_rmul (PySem.F.args_int_rmul_2 _ _) (uJ 1 t a its.toArray n od osl) ⟨ho,rfl,⟨_,ho,rfl⟩,?_⟩
 refine call_meets PySem.F.slot_tuple_mul ⟨_,ho,rfl⟩ PySem.F.entry_tuple_mul (PySem.F.args_tuple_mul_2 _ _) (Ziw t a its.toArray n od osl) ⟨ho,?_⟩
 exact ⟨.ref a,H,I,rfl,q⟩
noncomputable def ZbU (K:PySem.W.Frag):R2:=λx y H Q=>uN K x y H Q\/ZbW K x y H Q\/ZbV K x y H Q
theorem Zh2:OpR X (binaryOp .Mult) (ZbU X.K):=Zcu.or (Zh4.or Zh3)
noncomputable def oQ:PyData->PyData->Option PyData
 | .tuple xs,.int n=>if (decide (-1000<=n) && decide (n<=1000) && !xs.isEmpty && decide (xs.length<=1000))=true then some (.tuple (List.replicate n.toNat xs).flatten) else none
 | _,_=>none
theorem ZfJ {K:PySem.W.Frag}:cF (ZbU K) oQ:=λPK pa m G H x y dx dy dz Q w hx hy hz k=>by
 unfold oQ at hz
 split at hz
 ·rename_i xs n
  split at hz
  ·rename_i hc
   simp only [Bool.and_eq_true,decide_eq_true_eq,Bool.not_eq_true'] at hc
   cases hz; cases hy
   cases hx with
   | tup a1 a2 =>
    have hne:∀ vs:List V,DnAll G vs xs->vs≠[]:=λvs a2 e=>by
     have:=hc.1.2
     rw [<- a2.isEmpty,e] at this
     cases this
    by_cases h1:1 < n
    ·exact .inl ⟨_,_,_,rfl,rfl,SqT.of (w.sub _ _ a1),h1,hc.1.1.2,hne _ a2,by rw [a2.length]; exact hc.2,λp hp=>k.tup w (a2.rep _) hp⟩
    ·by_cases h0:n<=0
     ·refine .inr (.inl ⟨_,_,_,rfl,rfl,SqT.of (w.sub _ _ a1),h0,hc.1.1.1,hne _ a2,λp hp=>?_⟩)
      have e:(List.replicate n.toNat xs).flatten=[]:=by rw [show n.toNat=0 by omega]; rfl
      rw [e] at k
      exact k.tup w .nil hp
     ·have e1:n=1:=by omega
      subst e1
      refine .inr (.inr ⟨_,_,rfl,rfl,SqT.of (w.sub _ _ a1),?_⟩)
      have e:(List.replicate (1:Int).toNat xs).flatten=xs:=by simp
      rw [e] at k
      exact k.here w (.tup a1 a2)
  ·cases hz
 ·cases hz
theorem Zd9 {prog:Program} {w:World} {A:Around} {E:Value->Shared->Prop} {it t:Addr} {items:Array Value} (hne:t≠it):∀ (n i:Nat) (s:Shared) (Q:List Value->Shared->Prop),s.heap.IsListIter it t i->s.heap.IsList t items->i+n<=items.size ->
  (∀ h',h'.IsListIter it t (i+n)->Heap.SameBut it s.heap h'->Q ((items.toList.drop i).take n) { s with heap:=h' })->wpAny (model prog w) A (draw (.ref it) n) Q E s
 | 0,i,s,Q,hit,_,_,hQ=>by
  show wpAny _ _ (pure []) Q E s
  exact wpAny_pure (by simpa using hQ s.heap hit (Heap.SameBut.refl ..))
 | n+1,i,s,Q,hit,ht,hle,hQ=>by
  have hlt:i < items.size:=by omega
  show wpAny _ _ (pyNext (.ref it) >>= _) Q E s
  refine wpAny_bind (wpAny_pyNext_list_item hit ht (x:=items[i]) (by simp [hlt]) λh₁ hit₁ hs₁=>?_)
  refine wpAny_bind (wpAny_holding (Zd9 hne n (i+1) _ _ hit₁ (ht.extBut hs₁.extBut hne) (by omega) λh₂ hit₂ hs₂=>wpAny_pure ?_))
  have hd:items.toList.drop i=items[i]::items.toList.drop (i+1):=by simp [List.drop_eq_getElem_cons,hlt]
  have:=hQ h₂ (by rw [show i+(n+1)=i+1+n by omega]; exact hit₂) (hs₁.trans hs₂)
  rw [hd,List.take_succ_cons] at this
  exact this
theorem ZfT {prog:Program} {w:World} {A:Around} {E:Value->Shared->Prop} {s:Shared} {t:Addr} {items:Array Value} {Q:List Value->Shared->Prop} (hh:A.handled=none) (ht:s.heap.IsList t items)
  (hQ:∀ h',Heap.ExtBut s.heap.objs.size s.heap h'->Q items.toList { s with heap:=h' }):wpAny (model prog w) A (unpackItems (.ref t) items.size none) Q E s:=by
 have hlt:t≠s.heap.objs.size:=by obtain ⟨o,ho,_⟩:=ht; exact Nat.ne_of_lt (Heap.lt_size ho)
 have push:∀ ob,(s.heap.push ob).IsList t items:=λob=>ht.at λo e=>Heap.get?_push_of_some _ e
 unfold unpackItems
 refine wpAny_bind ?_
 ·unfold notIterableAtAll
  refine wpAny_bind (wpAny_specialOf ht.typeIs PySem.F.slot_list_iter.lookup ?_)
  refine wpAny_pure ?_
  simp only [Bool.false_eq_true,if_false]
  refine wpAny_bind (wpAny_holding (wpAny_pyIter_list ht ?_))
  refine wpAny_bind (wpAny_holding (Zd9 hlt items.size 0 _ _ ⟨_,Heap.get?_push_size _ rfl,rfl,rfl⟩ (push _) (by omega) λh₁ hit₁ hs₁=>?_))
  have hall:List.take items.size (List.drop 0 items.toList)=items.toList:=by
   rw [List.drop_zero]; exact List.take_of_length_le (by simp)
  rw [hall]
  rw [if_neg (by simp)]
  have ht₁:h₁.IsList t items:=(push _).extBut hs₁.extBut hlt
  refine wpAny_bind (wpAny_holding (wpAny_pyNext_list_end hh hit₁ ht₁ (by simp) λh₂ he₂=>?_))
  simp only [Option.isSome_none,Bool.false_eq_true,if_false]
  refine wpAny_pure (hQ h₂ λb o hb e=>he₂ b o hb (hs₁.extBut b o hb (Heap.get?_push_of_some _ e)))
theorem Zmc {prog:Program} {w:World} {A:Around} {E:Value->Shared->Prop} {s:Shared} {env:Env} {elts:List Expr} {x1} {pos:Pos} {t:Addr} {items:Array Value} {Q:Unit->Shared->Prop} (hh:A.handled=none) (ht:s.heap.IsList t items)
  (hn:(assignEach elts env).length=items.size) (hstar:(assignEach elts env).findIdx? (·.1)=none)
  (h:∀ h',Heap.ExtBut s.heap.objs.size s.heap h'->wpAny (model prog w) A (assignInOrder ((assignEach elts env).map (·.2)) items.toList) Q E { s with heap:=h' }) :
  wpAny (model prog w) A (assign (.Tuple elts x1 pos) env (.ref t)) Q E s:=by
 rw [arm_assign_Tuple]
 refine wpAny_bind (wpAny_standAt ?_)
 unfold unpack
 rw [hn,hstar]
 exact wpAny_bind (wpAny_holding (ZfT hh ht h))
noncomputable def ZjT (n:Nat) (t:fv):TG:=λv σ H Q=>∃ a xs,v=.ref a/\H a=some (.lst xs)/\xs.length=n/\t xs σ H Q
theorem ZhF {es:List Expr} {k:Nat} {t:fv} {n:Nat} {pos:Pos} (hc:X.calm=true) (h:PGs X es t)
  (hn:(assignEach es X.env).length=n:=by rfl) (hst:(assignEach es X.env).findIdx? (·.1)=none:=by rfl):PG X (.Tuple es k pos) (ZjT n t):=by
 intro pins s σ H v u Q I r hw
 obtain ⟨a,xs,e1,hq,hl,hw⟩:=hw
 subst e1
 cases r
 obtain ⟨its,rv,ht⟩:=fB I.hok (b:=true) hq
 have ht':s.heap.IsList a its.toArray:=ht
 refine Zmc (I.ok.hd hc) ht' (by simp [hn,<- hl,rv.length]) hst λh' hx=>?_
 have I1:Inv X pins σ H { s with heap:=h' }:=I.kept (t':=s.toks) λb o e=>hx b o (Nat.ne_of_lt (Heap.lt_size e)) e
 exact h pins _ σ H xs _ Q I1 (by simpa using rv) hw
noncomputable def sE (gs:List PyData->List Sl->Option (List Sl)) (x:PyData) (ρ:List Sl):Option (List Sl):=match x with
 | .list xs=>gs xs ρ
 | _=>none
theorem Zfm {PK:Pk} {es:List Expr} {pos:Pos} {k:Nat} {gs:List PyData->List Sl->Option (List Sl)} {n:Nat} (hc:X.calm=true) (h:PGs X es (qm PK gs)) (hl:pN n gs)
  (hn:(assignEach es X.env).length=n:=by rfl) (hst:(assignEach es X.env).findIdx? (·.1)=none:=by rfl):PG X (.Tuple es k pos) (d8 PK (sE gs)):=(ZhF hc h hn hst).imp λv σ H Q hz0=>by
 obtain ⟨pa,G₀,H₀,m,ρ,G,x,ρ',R,d,e,q⟩:=hz0
 cases d with
 | lst h1 h2=>exact ⟨_,_,rfl,R.wd.sub _ _ h1,by rw [h2.length]; exact hl _ _ _ e,pa,G₀,H₀,m,ρ,G,_,ρ',R,h2,e,q⟩
 | _=>cases e
section
variable {ρ:List Sl} {is:List Sl->Tr (List PyData)} {n:Nat} {i:List Sl->Tr PyData} {p:List Sl->Tr Bool} {xs:List PyData} {x:PyData}
noncomputable def gh (g:PyData->List Sl->Option (List Sl)) (p:List Sl->Tr Bool) (el:List Sl->Tr PyData) (τ:List Sl) (x:PyData):Tr (Option PyData):=(Tr.of (g x τ)).bind (n4 p el)
noncomputable def vF (n:Nat) (ix:List Nat) (g:PyData->List Sl->Option (List Sl)) (p:List Sl->Tr Bool) (el:List Sl->Tr PyData) (ρ:List Sl) (xs:List PyData):Tr (List PyData):=if small xs.length=true then cN (gh g p el (blk n ix ρ)) xs else .fail
theorem lh {ix:List Nat} {g:PyData->List Sl->Option (List Sl)}:nj is n ix g p i ρ=(is ρ).bind (vF n ix g p i ρ):=rfl
theorem lj {ix:List Nat} {g:PyData->List Sl->Option (List Sl)} (h:small xs.length=true):vF n ix g p i ρ xs=cN (gh g p i (blk n ix ρ)) xs:=by unfold vF; rw [if_pos h]
theorem li {τ:List Sl} {g:PyData->List Sl->Option (List Sl)}:gh g p i τ x=(Tr.of (g x τ)).bind (n4 p i):=rfl
noncomputable def vZ (y:PyData):Tr (Option PyData):=.ret (some y)
noncomputable def v3 (i:List Sl->Tr PyData) (τ:List Sl) (b:Bool):Tr (Option PyData):=if b=true then (i τ).bind vZ else .ret none
theorem lJ {τ:List Sl}:n4 p i τ=(p τ).bind (v3 i τ):=rfl
theorem lL {τ:List Sl}:v3 i τ true=(i τ).bind vZ:=rfl
theorem lM {τ:List Sl}:v3 i τ false=.ret none:=rfl
theorem lK:vZ x=.ret (some x):=rfl
end
end
end L2
set_option Elab.async false
set_option linter.all false
set_option maxRecDepth 100000
namespace L2
open PySem PySem.Spec PyProof.Rows
section
variable {PK:Pk} {X:Cx} {e:Expr} {as:List Sl->Tr (List Sl)}
noncomputable def slD:List Sl->Option (List PyData)
 | []=>some []
 | .d x::r=>(slD r).bind λxs=>some (x::xs)
 | _=>none
theorem ArsOk.slD {pa:Addr} {G:Hp} {vs:List V} {ss:List Sl} {ds:List PyData} (a:ArsOk pa G vs ss) (h:L2.slD ss=some ds):DnAll G vs ds:=by
 induction a generalizing ds with
 | nil=>cases h; exact .nil
 | cons h0 t ih =>
  cases h0 with
  | d h1 =>
   unfold L2.slD at h
   cases e:L2.slD _ with
   | none=>rw [e] at h; cases h
   | some xs =>
    rw [e] at h
    cases h
    exact .cons h1 (ih e)
  | pen=>cases h
noncomputable def pQ (d:PyData):Tr PyData:=if v8 d=true then .ret d else .fail
noncomputable def tj (f:List PyData->Option PyData) (as:List Sl->Tr (List Sl)):List Sl->Tr PyData:=λρ=>(as ρ).bind λss=>(Tr.of ((slD ss).bind f)).bind pQ
theorem Zfo {r:List V->Hp->VK->Prop} {f:List PyData->Option PyData} (L:PkLow PK) (h:PE X e (eJ r (TAb PK as))) (hv:eG r f):PE X e (TAe PK (tj f as)):=h.imp λσ H Q hz0=>by
 obtain ⟨pa,G₀,H₀,m,ρ,G,R,z⟩:=hz0
 refine TAb.then R z λm1 ss vs G1 H1 s1 w1 R1 d1 q1=>?_
 obtain ⟨d,hd,q1⟩:=Tr.ok_of (Tr.ok_bind.mp q1)
 obtain ⟨G2,s2,w2,d2⟩:=ArsB.ok (λ_ _ h=>h) w1 d1
 cases e:slD ss with
 | none=>rw [e] at hd; cases hd
 | some ds =>
  rw [e] at hd
  unfold pQ at q1
  obtain ⟨hf,k⟩:=ff (c:=v8 d) q1
  refine hv PK pa m1 G2 H1 vs ds d Q w2 (ArsOk.slD d2 e) hd ?_
  intro v G3 H3 s3 w3 d3
  have s13:Stp pa G1 H1 G1 H3:=⟨λ_ _ h=>h,λ_ _ h=>.inl h,s3.hk⟩
  obtain ⟨o1,e1,p1⟩:=w1.pen
  obtain ⟨o3,e3,p3⟩:=w3.pen
  have w13:Wd PK pa m1 G1 H3:=⟨λb o h=>s3.hk b o (w1.sub b o h) (λz=>by subst z; rw [w1.gpa] at h; cases h),w1.gpa,o3,e3,L.low p1 (s2.trans s3.gs) p3⟩
  exact k v G1 H3 (s1.trans s13 w1.some) w13 (Dn.flat_any d3 hf)
end
section
variable {ρ:List Sl} {as:List Sl->Tr (List Sl)} {f:List PyData->Option PyData} {x:PyData} {xs:List PyData} {i j:List Sl->Tr PyData} {k:Nat} {p:List Sl->Tr Bool} {s:List Sl->Tr Ou}
noncomputable def ZeG (f:List PyData->Option PyData) (ss:List Sl):Tr PyData:=(Tr.of ((slD ss).bind f)).bind pQ
theorem mq:tj f as ρ=(as ρ).bind (ZeG f):=rfl
theorem mn:ZeG f [.d x]=(bh f [x]).bind pQ:=rfl
theorem lX (n:Int):pQ (.int n)=.ret (.int n):=rfl
noncomputable def oJ (k:Nat) (ρ:List Sl) (x:PyData) (xs:List PyData):PyData->Tr Ou
 | .int y=>(Tr.of (dJ xs.length y)).bind λt=>.ret (.next (ρ.set k (.own (xs.set t x))))
 | _=>.fail
noncomputable def ul (k:Nat) (n:List Sl->Tr PyData) (ρ:List Sl) (x:PyData) (xs:List PyData):Tr Ou:=(n ρ).bind (oJ k ρ x xs)
noncomputable def um (k:Nat) (n:List Sl->Tr PyData) (ρ:List Sl) (x:PyData):Tr Ou:=(ga k ρ).bind (ul k n ρ x)
theorem jP:qa k j i ρ=(i ρ).bind (um k j ρ):=by
 unfold qa
 refine congrArg (Tr.bind (i ρ)) (funext λx=>?_)
 rw [um,<- rg k ρ]
 cases ρ[k]? with
 | none=>rfl
 | some sl =>
  cases sl with
  | own xs =>
   show ((j ρ).bind _:Tr Ou)=(j ρ).bind (oJ k ρ x xs)
   refine congrArg (Tr.bind (j ρ)) (funext λy=>?_)
   cases y <;> rfl
  | _=>rfl
theorem jO {n:List Sl->Tr PyData}:um k n ρ x=(ga k ρ).bind (ul k n ρ x):=rfl
theorem jN {n:List Sl->Tr PyData}:ul k n ρ x xs=(n ρ).bind (oJ k ρ x xs):=rfl
theorem ZdN {y:Int} {t:Nat} (h:dJ xs.length y=some t):oJ k ρ x xs (.int y)=.ret (.next (ρ.set k (.own (xs.set t x)))):=by
 simp only [oJ,h]
 rfl
end
end L2
set_option Elab.async false
set_option linter.all false
set_option maxRecDepth 100000
namespace L2
open PySem PySem.Spec PyProof.Rows
open AutoSeq1 (wpAny_loadPart')
noncomputable def nv (hi:Int) (n:Nat):It:=⟨λi _=>i < n,λi H x H'=>H'=H/\x=.int (hi - i),λi _=>n<=i⟩
theorem ZfX {P:Program} {w:World} {K:PySem.W.Frag} {tg:Expr} (it:Addr) (hi:Int) (n:Nat):Turn P w K tg (nv hi n) [it] it (λi h=>IsRangeIter h it (hi+(i:Nat) * (-1)) ((n:Int) - (i:Nat)) (-1)) where
 mem:=by simp
 obj:=λi h st b hb=>by
  have e:b=it:=by simpa using hb
  subst e
  exact ⟨_,st,λv z=>by
   have z':Data.fields _=Data.cell v:=z
   cases z'⟩
 keep:=λi h h' st k=>k it (by simp) _ st
 item:=by
  intro X hP hw hK hc i pins s σ H E I hf st hg
  subst hP hw hK
  obtain ⟨f0,f1,f2,f3,f4,f5⟩:=hf it (by simp)
  have W:=Walks.range (prog:=X.prog) (w:=X.w) (I.ok.hd hc) it hi (-1) n
  refine W.item i s _ _ hg st λv h' tk hv st' kk=>?_
  obtain ⟨t,rfl⟩:=hv
  have I1:Inv X pins σ H { s with heap:=h',toks:=tk }:=I.turned (λb o hb e=>kk b o (by simpa using hb) e) f0 f1 f3 f4 f5
  refine ⟨_,rfl,pO (s:={ s with heap:=h',toks:=tk }) (n:="range_iterator") st' rfl rfl (by decide) ⟨.int (hi - i),H,I1,⟨t,?_⟩,⟨rfl,rfl⟩,st',λb hb=>(hf b hb).1⟩⟩
  have e:hi+(i:Int) * -1=hi - i:=by omega
  rw [e]
 done:=by
  intro X hP hw hK hc i pins s σ H E I hf st hg
  subst hP hw hK
  obtain ⟨f0,f1,f2,f3,f4,f5⟩:=hf it (by simp)
  exact wpAny_pyNext_range_end (I.ok.hd hc) st (by have:n<=i:=hg; omega) λh' eb=>⟨rfl,I.turned (t':=s.toks) (λb o hb e=>eb b o hb e) f0 f1 f3 f4 f5⟩
 self:=λ_ _ _ _ _ st h=>wpAny_pyIter_rangeiter st h
theorem ZiL (r:Addr) (a b c:Int) (t u v:Tok) (hs:¬ (!(Builtin.Range.rangeFitsLong a && Builtin.Range.rangeFitsLong b && Builtin.Range.rangeFitsLong c && Builtin.Range.rangeFitsLong (-c) && Builtin.Range.rangeFitsLong (a - c) && Builtin.Range.rangeFitsLong (Builtin.Range.rangeSize a b c)))=true) :
  Meets (Builtin.«range.__reversed__» ⟨[.ref r],[]⟩) (λ_ R s=>s.heap.get? r=some { cls:=.type "range",dict:=none,data:=.fields #[.int a t,.int b u,.int c v],slots:=#[] } /\
   R (.ok (.ret (.ref s.heap.objs.size))) { s with heap:=s.heap.push { cls:=.type "range_iterator",data:=.fields #[rawInt (a+(Builtin.Range.rangeSize a b c - 1) * c),rawInt (Builtin.Range.rangeSize a b c),rawInt (-c)] },toks:=s.toks }) :=
 .of_wp λprog w A R s h=>by
  obtain ⟨hp,g,d,tk,os⟩:=s
  obtain ⟨hl,h⟩:=h
  have hs':=hs
  rw [Bool.not_eq_true',Bool.not_eq_false] at hs'
  wp_walk
  rw [if_pos hs']
  exact ⟨_,rfl,h⟩
theorem n6 {n:Int} (h1:-(2 ^ 63)<=n) (h2:n < 2 ^ 63):Builtin.Range.rangeFitsLong n=true:=by
 unfold Builtin.Range.rangeFitsLong
 simp
 omega
section
variable {prog:Program} {w:World} {A:Around} {E:Value->Shared->Prop} {s:Shared}
theorem Zlz {r:Addr} {a b:Int} {t u v:Tok} {Q₁:Value->Shared->Prop} (hr:IsRange s.heap r a b 1 t u v) (ha:-(2 ^ 62)<=a) (ha':a < 2 ^ 62) (hb:-(2 ^ 62)<=b) (hb':b < 2 ^ 62)
  (h:Q₁ (.ref s.heap.objs.size) { s with heap:=s.heap.push { cls:=.type "range_iterator",data:=.fields #[rawInt (a+(Builtin.Range.rangeSize a b 1 - 1) * 1),rawInt (Builtin.Range.rangeSize a b 1),rawInt (-1)] } }) :
  codeAny (model prog w) A (.call (.builtin "reversed.__new__") ⟨[.type "reversed",.ref r],[]⟩) (wants Q₁ E) s:=by
 have hT:s.TypeIs (.ref r) "range":=⟨_,hr,rfl⟩
 refine codeAny_of_tree ?_
 show wpAny _ A.in1 (do checkBuiltinCall "reversed.__new__" ⟨[.type "reversed",.ref r],[]⟩; again (.builtin "reversed.__new__" ⟨[.type "reversed",.ref r],[]⟩)) _ _ s
 refine wpAny_bind (wpAny_of_eq (F.newCall_reversed_1 _) (wpAny_pure ⟨plainId_quiet F.plain_reversed_new _,codeAny_builtin F.entry_reversed_new ?_⟩))
 rw [Around.under_plainId F.plain_reversed_new _]
 unfold Builtin.«reversed.__new__»
 refine wpAny_bind (wpAny_of_eq (newClass_reversed _) ?_)
 try dsimp only
 refine wpAny_bind (wpAny_of_eq (a:=()) (by first | rfl | kernel_rfl) ?_)
 refine wpAny_bind (wpAny_of_eq (a:=()) (by first | rfl | kernel_rfl) ?_)
 try dsimp only
 refine wpAny_bind (wpAny_specialOf hT F.slot_range_reversed.lookup ?_)
 try dsimp only
 refine wpAny_bind (wpAny_of_eq (F.slot_range_reversed.bind _) ?_)
 try dsimp only
 first
 | rw [if_neg (show ¬ ((Value.builtin "range.__reversed__" == Value.none)=true) from Bool.false_ne_true)]
 | (show wpAny _ _ (if (Value.builtin "range.__reversed__" == Value.none)=true then _ else _) _ _ _; rw [if_neg (show ¬ ((Value.builtin "range.__reversed__" == Value.none)=true) from Bool.false_ne_true)])
 refine wpAny_bind (wpAny_rule ?_)
 have hsz:Builtin.Range.rangeSize a b 1=if a < b then b - a else 0:=rangeSize_one a b
 refine wpAny_bind (m:=runValue (.call (.builtin "range.__reversed__") ⟨[.ref r],[]⟩)) (show wpAny _ _ (call (.builtin "range.__reversed__") [.ref r]) _ _ _ from
  call_meets F.slot_range_reversed hT F.entry_range_reversed (F.args_range_reversed_1 _) (ZiL r a b 1 t u v ?_) ⟨hr,?_⟩)
 ·rw [Bool.not_eq_true',Bool.not_eq_false,n6 (by omega) (by omega),n6 (by omega) (by omega),n6 (by decide) (by decide),n6 (by decide) (by decide),n6 (n:=a - 1) (by omega) (by omega),n6 (n:=Builtin.Range.rangeSize a b 1) (by rw [hsz]; split <;> omega) (by rw [hsz]; split <;> omega)]
  rfl
 ·first
  | exact wpAny_pure h
  | exact wpAny_bind (wpAny_pure (wpAny_pure h))
theorem Zgq:isSubtype (.type "range_iterator") (.type "reversed")=pure false:=by rw [isSubtype_type]; kernel_rfl
theorem ZlH {r:Addr} {a b:Int} {t u v:Tok} {Q:Value->Shared->Prop} (hr:IsRange s.heap r a b 1 t u v) (ha:-(2 ^ 62)<=a) (ha':a < 2 ^ 62) (hb:-(2 ^ 62)<=b) (hb':b < 2 ^ 62)
  (h:Q (.ref s.heap.objs.size) { s with heap:=s.heap.push { cls:=.type "range_iterator",data:=.fields #[rawInt (a+(Builtin.Range.rangeSize a b 1 - 1) * 1),rawInt (Builtin.Range.rangeSize a b 1),rawInt (-1)] } }):wpAny (model prog w) A (call (.type "reversed") [.ref r]) Q E s:=by
 refine callType_other (U:="range_iterator") (Q₁:=λobj s₁=>obj=.ref s.heap.objs.size/\s₁={ s with heap:=s.heap.push { cls:=.type "range_iterator",data:=.fields #[rawInt (a+(Builtin.Range.rangeSize a b 1 - 1) * 1),rawInt (Builtin.Range.rangeSize a b 1),rawInt (-1)] } }) (by decide +kernel) F.create_reversed ⟨_,_,F.mro_reversed⟩ F.made_reversed Zgq (F.typeCall_reversed_1 _) (Zlz hr ha ha' hb hb' ⟨rfl,rfl⟩) ?_
 rintro obj s₁ ⟨rfl,rfl⟩
 exact ⟨⟨_,Heap.get?_push_size _ rfl,rfl⟩,h⟩
end
theorem Zcs:Manifest.owners.lookup (String.ofList ['d','e','s','r','e','v','e','r'].reverse)=some Manifest.sig_reversed:=by kernel_rfl
theorem Zgv:Slot "reversed" "__init__" "object.__init__" :=
 .of (owner:="object") (n:="__init__") (by rw [typeLookup_type,builtinLookup_eq_fast]; kernel_rfl) (by decide +kernel) (by decide +kernel) (by decide +kernel)
  (by first | exact .inl (by decide +kernel) | exact .inr (by decide +kernel)) (by rw [isSubtype_type]; kernel_rfl)
theorem oI:Slot "reversed" "__next__" "reversed.__next__" :=
 .of (owner:="reversed") (n:="__next__") (by rw [typeLookup_type,builtinLookup_eq_fast]; kernel_rfl) (by decide +kernel) (by decide +kernel) (by decide +kernel)
  (by first | exact .inl (by decide +kernel) | exact .inr (by decide +kernel)) (by rw [isSubtype_type]; kernel_rfl)
theorem ZdX:entryFor table "reversed.__next__"=some Builtin.«reversed.__next__»:=entryFor_of_tree (by kernel_rfl)
theorem Zff (a:Value):argsOk "reversed.__next__" ⟨[a],[]⟩:=by
 unfold argsOk; rw [signature?_of (id:="reversed.__next__") (n:=['_','_','t','x','e','n','_','_']) (o:=['d','e','s','r','e','v','e','r']) (by kernel_rfl) Zcs]; kernel_rfl
theorem ZaS:Slot "reversed" "__iter__" "reversed.__iter__" :=
 .of (owner:="reversed") (n:="__iter__") (by rw [typeLookup_type,builtinLookup_eq_fast]; kernel_rfl) (by decide +kernel) (by decide +kernel) (by decide +kernel)
  (by first | exact .inl (by decide +kernel) | exact .inr (by decide +kernel)) (by rw [isSubtype_type]; kernel_rfl)
theorem Zmi (a:Value):argsOk "reversed.__iter__" ⟨[a],[]⟩:=by
 unfold argsOk; rw [signature?_of (id:="reversed.__iter__") (n:=['_','_','r','e','t','i','_','_']) (o:=['d','e','s','r','e','v','e','r']) (by kernel_rfl) Zcs]; kernel_rfl
theorem Zkh:entryFor table "reversed.__iter__"=some Builtin.«dict_keyiterator.__iter__» :=
 entryFor_alias (id':="dict_keyiterator.__iter__") (by kernel_rfl) (by first | rfl | decide +kernel | (unfold String.splitOn; simp +decide [String.splitOnAux])) (by decide +kernel) (by kernel_rfl)
theorem ZlD:TypeCalled "reversed" "reversed.__new__" "object.__init__" :=
 ⟨by decide +kernel,by decide +kernel,⟨_,_,F.mro_reversed⟩,F.made_reversed,by decide +kernel,by rw [isSubtype_type]; kernel_rfl,Zgv⟩
theorem Zim:typeLookup (.type "tuple") "__reversed__"=pure none:=by rw [typeLookup_type,builtinLookup_eq_fast]; kernel_rfl
theorem ZiK (l:Addr) (items:Array Value) (hfit:(items.size:Int) < 2 ^ 63) :
  Meets (Builtin.«reversed.__new__» ⟨[.type "reversed",.ref l],[]⟩) (λ_ R s=>IsTup s.heap l items /\
   R (.ok (.ret (.ref s.heap.objs.size))) { s with heap:=s.heap.push { cls:=.type "reversed",data:=.fields #[.ref l,rawInt ((items.size:Int) - 1)] },toks:=s.toks+1+1 }) :=
 .of_wp λprog w A R s h=>by
  obtain ⟨hp,g,d,tk,os⟩:=s
  obtain ⟨hl,h⟩:=h
  have hl':(Shared.mk hp g d tk os).heap.IsTuple l items:=hl
  unfold Builtin.«reversed.__new__»
  refine wpAny_bind (wpAny_of_eq (newClass_reversed _) ?_)
  try dsimp only
  refine wpAny_bind (wpAny_of_eq (a:=()) (by first | rfl | kernel_rfl) ?_)
  refine wpAny_bind (wpAny_of_eq (a:=()) (by first | rfl | kernel_rfl) ?_)
  try dsimp only
  refine wpAny_bind (wpAny_specialOf hl'.typeIs Zim ?_)
  try dsimp only
  refine wpAny_bind ?_
  show wpAny _ _ (isInstance (Value.ref l) (.type "dict") >>= _) _ _ _
  refine wpAny_bind (wpAny_isInstance (T:="tuple") (b:=false) hl'.typeIs (by rw [isSubtype_type]; kernel_rfl) ?_)
  show wpAny _ _ (specialOf (Value.ref l) "__getitem__" >>= _) _ _ _
  refine wpAny_bind (wpAny_specialOf hl'.typeIs F.slot_tuple_getitem.lookup ?_)
  refine wpAny_pure ?_
  show wpAny _ _ (call (Value.builtin "len") [Value.ref l] >>= _) _ _ _
  refine wpAny_bind (len_tuple hl hfit ?_)
  refine wpAny_bind (wpAny_of_eq (a:=some (items.size:Int)) rfl ?_)
  show wpAny _ _ (newObj (.type "reversed") (.fields #[.ref l,rawInt ((items.size:Int) - 1)]) >>= _) _ _ _
  refine wpAny_bind (wpAny_newObj_type ?_)
  exact wpAny_pure ⟨_,rfl,h⟩
noncomputable def IsTRev (h:Heap) (a l:Addr) (i:Int):Prop:=∃ o,h.get? a=some o/\o.cls=.type "reversed"/\o.data=.fields #[.ref l,rawInt i]
theorem IsTRev.at {h h':Heap} {a l:Addr} {i:Int} (x:IsTRev h a l i) (e:∀ o,h.get? a=some o->h'.get? a=some o):IsTRev h' a l i:=let ⟨o,ho,r⟩:=x; ⟨o,e _ ho,r⟩
section
variable {prog:Program} {w:World} {A:Around} {E:Value->Shared->Prop} {s:Shared}
theorem ZlE {l:Addr} {items:Array Value} {Q:Value->Shared->Prop} (hl:IsTup s.heap l items) (hfit:(items.size:Int) < 2 ^ 63)
  (h:Q (.ref s.heap.objs.size) { s with heap:=s.heap.push { cls:=.type "reversed",data:=.fields #[.ref l,rawInt ((items.size:Int) - 1)] },toks:=s.toks+1+1 }) :
  wpAny (model prog w) A (call (.type "reversed") [.ref l]) Q E s :=
 callType_new ZlD (by decide) (F.typeCall_reversed_1 _) (F.newCall_reversed_1 _) (λobj=>F.args_object_init_2 obj _) F.entry_reversed_new (ZiK l items hfit) ⟨hl,⟨_,Heap.get?_push_size _ rfl,rfl⟩,h⟩
theorem Zhf {it l:Addr} {i:Nat} {items:Array Value} {x:Value} {Q:Option Value->Shared->Prop} (hit:IsTRev s.heap it l (i:Int)) (hl:IsTup s.heap l items) (hne:l≠it) (hx:items[i]?=some x) (hfit:(items.size:Int) < 2 ^ 63)
  (hQ:∀ h',IsTRev h' it l ((i:Int) - 1)->Heap.SameBut it s.heap h'->Q (some x) { s with heap:=h',toks:=s.toks+1 }):wpAny (model prog w) A (pyNext (.ref it)) Q E s:=by
 obtain ⟨o,ho,hc,hd⟩:=id hit
 have hT:s.TypeIs (.ref it) "reversed":=⟨o,ho,hc⟩
 have hl':s.heap.IsTuple l items:=hl
 have hlt:i < items.size:=(Array.getElem?_eq_some_iff.mp hx).1
 unfold pyNext
 refine wpAny_bind (wpAny_attempt (wpAny_callSpecial?_slot (name:=Str.ofString "__next__") hT oI
  (wpAny_call_entry oI hT ZdX ?_ (Zff _))))
 unfold Builtin.«reversed.__next__»
 refine wpAny_bind (wpAny_of_eq (a:=(Value.ref it,[])) rfl ?_)
 try dsimp only
 refine wpAny_bind (wpAny_field ho hd (x:=.ref l) rfl ?_)
 refine wpAny_bind (wpAny_field ho hd (x:=rawInt (i:Int)) rfl ?_)
 show wpAny _ _ (if (i:Int) < 0 then _ else _) _ _ s
 rw [if_neg (by omega)]
 refine wpAny_bind (wpAny_specialOf hl'.typeIs F.slot_tuple_getitem.lookup ?_)
 show wpAny _ _ (mkInt (i:Int) >>= _) _ _ s
 refine wpAny_bind (wpAny_mkInt ?_)
 refine wpAny_bind (wpAny_attempt (getItem_tuple (j:=i) (x:=x) hl (by omega) (by omega) ?_ hx ?_))
 ·unfold seqIndex?
  simp
  omega
 ·dsimp only
  refine wpAny_bind (wpAny_field ho hd (x:=rawInt (i:Int)) rfl ?_)
  show wpAny _ _ (setField (.ref it) 1 (rawInt ((i:Int) - 1)) >>= _) _ _ _
  refine wpAny_bind (wpAny_setField ho hd (by simp) ?_)
  refine wpAny_pure ⟨x,rfl,wpAny_pure (hQ _ ?_ (Heap.SameBut.update ..))⟩
  exact ⟨_,Heap.get?_update_self _ ho (Obj.isFreed_of_fields (Obj.data_mapFields hd _)),(Obj.cls_mapFields ..).trans hc,by
   rw [Obj.data_mapFields hd]; simp⟩
theorem Zhg {it l:Addr} {Q:Option Value->Shared->Prop} (hh:A.handled=none) (hit:IsTRev s.heap it l (-1))
  (hQ:∀ h',Heap.ExtBut it s.heap h'->Q none { s with heap:=h' }):wpAny (model prog w) A (pyNext (.ref it)) Q E s:=by
 obtain ⟨o,ho,hc,hd⟩:=id hit
 have hT:s.TypeIs (.ref it) "reversed":=⟨o,ho,hc⟩
 unfold pyNext
 refine wpAny_bind (wpAny_attempt (wpAny_callSpecial?_slot (name:=Str.ofString "__next__") hT oI
  (wpAny_call_entry oI hT ZdX ?_ (Zff _))))
 unfold Builtin.«reversed.__next__»
 refine wpAny_bind (wpAny_of_eq (a:=(Value.ref it,[])) rfl ?_)
 try dsimp only
 refine wpAny_bind (wpAny_field ho hd (x:=.ref l) rfl ?_)
 refine wpAny_bind (wpAny_field ho hd (x:=rawInt (-1)) rfl ?_)
 show wpAny _ _ (if (-1:Int) < 0 then _ else _) _ _ s
 rw [if_pos (by decide)]
 refine wpAny_bind (wpAny_rule ?_)
 refine wpAny_bind ?_
 show wpAny _ _ (setField (.ref it) 1 (rawInt (-1)) >>= _) _ _ _
 refine wpAny_bind (wpAny_setField ho hd (by simp) ?_)
 have ho2:=Heap.get?_update_self (Obj.mapFields λx_1=>x_1.setIfInBounds 1 (rawInt (-1))) ho (Obj.isFreed_of_fields (Obj.data_mapFields hd _))
 refine wpAny_setField ho2 (Obj.data_mapFields hd _) (by simp) ?_
 have eb:Heap.ExtBut it s.heap ((s.heap.update it (Obj.mapFields λx_1=>x_1.setIfInBounds 1 (rawInt (-1)))).update it (Obj.mapFields λx_1=>x_1.setIfInBounds 0 Value.none)):=λb o' hb e=>(Heap.SameBut.update _ _ _).extBut b o' hb ((Heap.SameBut.update _ _ _).extBut b o' hb e)
 show wpAny _ _ (newExc (.type "StopIteration") [] >>= _ >>= _) _ _ _
 refine wpAny_bind ?_
 refine wpAny_bind ?_
 simp only [newExc,newTuple]
 refine wpAny_bind (wpAny_newObj_type ?_ (by size_fits))
 refine wpAny_bind (m:=firstArgMember _ _) (wpAny_of_eq (a:=Value.none) (by first | rfl | (simp only [firstArgMember]; rfl)) ?_)
 refine wpAny_newObj_type ?_ (by size_fits)
 simp only [raiseNew]
 refine wpAny_bind (wpAny_handled ?_)
 first | rw [show A.in1.handled=none from hh] | rw [hh]
 refine wpAny_bind (wpAny_pure (wpAny_throw ?_))
 refine wpAny_bind (wpAny_isInstance (T:="StopIteration") (b:=true) ⟨_,Heap.get?_push_size _ rfl,rfl⟩ isSubtype_stop ?_)
 exact wpAny_pure (hQ _ ((eb.push _).push _))
theorem Zce {it l:Addr} {i:Int} {Q:Value->Shared->Prop} (hit:IsTRev s.heap it l i) (h:Q (.ref it) s):wpAny (model prog w) A (pyIter (.ref it)) Q E s:=by
 obtain ⟨o,ho,hc,hd⟩:=id hit
 have hT:s.TypeIs (.ref it) "reversed":=⟨o,ho,hc⟩
 refine wpAny_pyIter_slot hT ZaS (wpAny_call_entry ZaS hT Zkh ?_ (Zmi _))
 show wpAny _ _ (ret (.ref it)) _ _ s
 exact wpAny_pure ⟨_,rfl,"reversed",_,hT,oI.lookup,h⟩
end
noncomputable def qw (b:Bool) (l:Addr) (n:Nat):It :=
 ⟨λi H=>i < n/\∃ xs,H l=some (cj b xs)/\xs.length=n,λi H x H'=>H'=H/\∃ xs,H l=some (cj b xs)/\xs[n - 1 - i]?=some x,λi _=>i=n⟩
noncomputable def RvAt (b:Bool) (h:Heap) (it l:Addr) (i:Int):Prop:=match b with
 | true=>h.IsRevIter it l i
 | false=>IsTRev h it l i
theorem RvAt.there {b:Bool} {h:Heap} {it l:Addr} {i:Int} (x:RvAt b h it l i):∃ o n vs,h.get? it=some o/\o.cls=.type n/\o.data=.fields vs/\["enumerate","zip","dict_itemiterator","dict_reverseitemiterator","odict_iterator","itertools.zip_longest","itertools.pairwise"].contains n=false:=by
 cases b with
 | true=>obtain ⟨o,h1,h2,h3⟩:=x; exact ⟨o,_,_,h1,h2,h3,by decide⟩
 | false=>obtain ⟨o,h1,h2,h3⟩:=x; exact ⟨o,_,_,h1,h2,h3,by decide⟩
theorem RvAt.at {b:Bool} {h h':Heap} {it l:Addr} {i:Int} (x:RvAt b h it l i) (e:∀ o,h.get? it=some o->h'.get? it=some o):RvAt b h' it l i:=by
 cases b with
 | true=>exact Heap.IsRevIter.at x e
 | false=>exact IsTRev.at x e
theorem Zaw {P:Program} {w:World} {K:PySem.W.Frag} {tg:Expr} {b:Bool} {l:Addr} {n:Nat} (it:Addr) (hn:(n:Int) < 2 ^ 63):Turn P w K tg (qw b l n) [it] it (λi h=>RvAt b h it l ((n:Int) - 1 - (i:Nat))) where
 mem:=by simp
 obj:=λi h st c hb=>by
  have e:c=it:=by simpa using hb
  subst e
  obtain ⟨o,_,_,h1,_,h3,_⟩:=st.there
  exact ⟨o,h1,λv z=>by rw [h3] at z; cases z⟩
 keep:=λi h h' st k=>st.at λo e=>k it (by simp) o e
 item:=by
  intro X hP hw hK hc i pins s σ H E I hf st hg
  subst hP hw hK
  obtain ⟨hi,xs,e1,hlen⟩:=hg
  obtain ⟨us,r1,q1⟩:=fB I.hok e1
  obtain ⟨f0,f1,f2,f3,f4,f5⟩:=hf it (by simp)
  have hxl:n - 1 - i < xs.length:=by omega
  have hx:xs[n - 1 - i]?=some xs[n - 1 - i]:=List.getElem?_eq_getElem hxl
  obtain ⟨u,hu,ru⟩:=r1.get hx
  have ne:l≠it:=cL e1 f0
  have ei:(n:Int) - 1 - (i:Nat)=((n - 1 - i:Nat):Int):=by omega
  have ei2:((n - 1 - i:Nat):Int) - 1=(n:Int) - 1 - ((i+1:Nat):Int):=by omega
  rw [ei] at st
  have usz:us.toArray.size=n:=by rw [List.size_toArray,<- r1.length]; exact hlen
  have fin:∀ (h':Heap) (tk:Nat),RvAt b h' it l ((n:Int) - 1 - ((i+1:Nat):Int))->Heap.SameBut it s.heap h'->∃ u',some u=some u'/\wpAny (model X.prog X.w) X.A (letOwnedTupleGo tg (.ref it) u') (λ_ s2=>∃ x H',Inv X pins σ H' s2/\RelV x u'/\(qw b l n).yld i H x H'/\RvAt b s2.heap it l ((n:Int) - 1 - ((i+1:Nat):Int))/\∀ b∈[it],H' b=none) E { s with heap:=h',toks:=tk }:=λh' tk st' sb=>by
   have I1:Inv X pins σ H { s with heap:=h',toks:=tk }:=I.turned (λb o hb e=>(sb.2 b hb).trans e) f0 f1 f3 f4 f5
   obtain ⟨o,nm,vs,g1,g2,g3,g4⟩:=st'.there
   exact ⟨u,rfl,pO (s:={ s with heap:=h',toks:=tk }) g1 g2 g3 g4 ⟨_,H,I1,ru,⟨rfl,xs,e1,hx⟩,st',λb hb=>(hf b hb).1⟩⟩
  cases b with
  | true =>
   refine wpAny_pyNext_rev_item (i:=n - 1 - i) st q1 (x:=u) (by simpa using hu) λh' st' sb=>?_
   rw [ei2] at st'
   exact fin h' s.toks st' sb
  | false =>
   refine Zhf (i:=n - 1 - i) st q1 ne (x:=u) (by simpa using hu) (by rw [usz]; exact hn) λh' st' sb=>?_
   rw [ei2] at st'
   exact fin h' (s.toks+1) st' sb
 done:=by
  intro X hP hw hK hc i pins s σ H E I hf st hg
  subst hP hw hK
  obtain ⟨f0,f1,f2,f3,f4,f5⟩:=hf it (by simp)
  have hi:i=n:=hg
  subst hi
  have e:(i:Int) - 1 - (i:Nat)=-1:=by omega
  rw [e] at st
  cases b with
  | true=>exact wpAny_pyNext_rev_end (I.ok.hd hc) st λh' eb=>⟨rfl,I.turned (t':=s.toks) (λb o hb e=>eb b o hb e) f0 f1 f3 f4 f5⟩
  | false=>exact Zhg (I.ok.hd hc) st λh' eb=>⟨rfl,I.turned (t':=s.toks) (λb o hb e=>eb b o hb e) f0 f1 f3 f4 f5⟩
 self:=λ_ _ _ _ _ st h=>by
  cases b with
  | true=>exact wpAny_pyIter_revIter st h
  | false=>exact Zce st h
section
variable {X:Cx} {tg:Expr} {PK:Pk} {a b:Expr} {i j:List Sl->Tr PyData} {p pos:Pos}
noncomputable def v5 (ta:TE):TI:=λσ H R=>ta σ H λx H1=>(∃ b l xs,x=.ref l/\H1 l=some (cj b xs)/\R (qw b l xs.length) H1) \/
 (∃ l lo hi,x=.ref l/\H1 l=some (.rng lo hi)/\-(2 ^ 62)<=lo/\lo < 2 ^ 62/\-(2 ^ 62)<=hi/\hi < 2 ^ 62/\R (nv (lo+(hi - lo).toNat - 1) (hi - lo).toNat) H1)
theorem Zcl {ta:TE} (hg:Gl X "reversed") (hm:X.mg "reversed"=none) (ha:PE X a ta)
  (hs:starEach [a] X.env=[(false,eval a X.env)]:=by rfl):PI X tg (.Call (.Name "reversed" p) [a] [] pos) (v5 ta):=by
 intro pins s σ H R I h
 have hab:PA X [a] (fW ta aP):=bo ha cb (by rw [hs]; rfl)
 have h':fW ta aP σ H λvs H1=>∃ x,vs=[x]/\((∃ b l xs,x=.ref l/\H1 l=some (cj b xs)/\R (qw b l xs.length) H1) \/
   (∃ l lo hi,x=.ref l/\H1 l=some (.rng lo hi)/\-(2 ^ 62)<=lo/\lo < 2 ^ 62/\-(2 ^ 62)<=hi/\hi < 2 ^ 62/\R (nv (lo+(hi - lo).toNat - 1) (hi - lo).toNat) H1)):=by
  have h0:ta σ H λx H1=>(∃ b l xs,x=.ref l/\H1 l=some (cj b xs)/\R (qw b l xs.length) H1) \/
   (∃ l lo hi,x=.ref l/\H1 l=some (.rng lo hi)/\-(2 ^ 62)<=lo/\lo < 2 ^ 62/\-(2 ^ 62)<=hi/\hi < 2 ^ 62/\R (nv (lo+(hi - lo).toNat - 1) (hi - lo).toNat) H1):=h
  refine cast (congrArg (ta σ H) ?_) h0
  funext x H1
  apply propext
  constructor
  ·exact λq=>⟨x,rfl,q⟩
  ·rintro ⟨y,e,q⟩
   have e':x=y:=by simpa using e
   subst e'
   exact q
 refine Call_ (i8 I hg hm boot_reversed (PyProof.Rows.callWith_type1 (thn (hab pos pins s σ H _ I h') λus s1 hz0=>?_) (by rw [hs]; rfl) rfl))
 obtain ⟨vs,H1,I1,r1,q1⟩:=hz0
 obtain ⟨x,rfl,q1⟩:=q1
 obtain ⟨u,rfl,ru⟩:=eh r1
 have fp:∀ c∈[s1.heap.objs.size],eY X pins H1 c:=λc hb=>by
  have e:c=s1.heap.objs.size:=by simpa using hb
  subst e
  exact I1.fpOk (Nat.le_refl _) (I1.hok.fresh (Nat.le_refl _))
 have hn:=hU
 rcases q1 with ⟨b,l,xs,rfl,e1,q⟩ | ⟨l,lo,hi,rfl,e1,b1,b2,b3,b4,q⟩
 ·cases ru
  obtain ⟨us,r2,q2⟩:=fB I1.hok e1
  have usz:us.toArray.size=xs.length:=by rw [List.size_toArray,<- r2.length]
  have hz:xs.length<=sizeLine:=by
   cases b with
   | true=>exact (I1.hok _ _ e1).1
   | false=>exact (I1.hok _ _ e1).1
  cases b with
  | true =>
   refine call_reversed_list q2 (wpAny_pyIter_revIter ⟨_,Heap.get?_push_size _ rfl,rfl,rfl⟩ ?_)
   refine ⟨_,_,_,_,H1,rfl,I1.kept (t':=s1.toks) λb o e=>Heap.get?_push_of_some _ e,Zaw (b:=true) (l:=l) (n:=xs.length) s1.heap.objs.size (by omega),?_,fp,q⟩
   refine ⟨_,Heap.get?_push_size _ rfl,rfl,?_⟩
   rw [usz]
   show Data.fields #[_,rawInt ((xs.length:Int) - 1)]=Data.fields #[_,rawInt ((xs.length:Int) - 1 - ((0:Nat):Int))]
   simp
  | false =>
   refine ZlE q2 (by rw [usz]; omega) (Zce ⟨_,Heap.get?_push_size _ rfl,rfl,rfl⟩ ?_)
   refine ⟨_,_,_,_,H1,rfl,I1.kept (t':=s1.toks+1+1) λb o e=>Heap.get?_push_of_some _ e,Zaw (b:=false) (l:=l) (n:=xs.length) s1.heap.objs.size (by omega),?_,fp,q⟩
   refine ⟨_,Heap.get?_push_size _ rfl,rfl,?_⟩
   rw [usz]
   show Data.fields #[_,rawInt ((xs.length:Int) - 1)]=Data.fields #[_,rawInt ((xs.length:Int) - 1 - ((0:Nat):Int))]
   simp
 ·cases ru
  obtain ⟨t,u,v,e⟩:=I1.hok _ _ e1
  have hsz:Builtin.Range.rangeSize lo hi 1=((hi - lo).toNat:Int):=by rw [rangeSize_one]; split <;> omega
  refine ZlH e b1 b2 b3 b4 (wpAny_pyIter_rangeiter (Heap.get?_push_size _ rfl) ?_)
  refine ⟨_,_,_,_,H1,rfl,I1.kept (t':=s1.toks) λb o e=>Heap.get?_push_of_some _ e,ZfX s1.heap.objs.size (lo+(hi - lo).toNat - 1) (hi - lo).toNat,?_,fp,q⟩
  rw [hsz]
  have e1:lo+(((hi - lo).toNat:Int) - 1) * 1=lo+(hi - lo).toNat - 1+((0:Nat):Int) * (-1):=by simp; omega
  have e2:((hi - lo).toNat:Int)=((hi - lo).toNat:Int) - ((0:Nat):Int):=by simp
  rw [e1]
  show IsRangeIter _ _ _ (((hi - lo).toNat:Int) - ((0:Nat):Int)) (-1)
  rw [<- e2]
  exact Heap.get?_push_size _ rfl
end
end L2
set_option Elab.async false
set_option linter.all false
set_option maxRecDepth 100000
namespace L2
open PySem PySem.Spec PyProof.Rows
section
variable {X:Cx} {tg:Expr} {PK:Pk} {e:Expr} {i j:List Sl->Tr PyData} {is:List Sl->Tr (List PyData)} {p pos:Pos}
theorem ZlI:db X (.type "range") (λxs H Q=>∃ j:Int,xs=[.int j]/\∀ p,H p=none->Q (.ref p) (upd H p (.rng 0 j))):=by
 intro pins s σ H xs us Q I r h
 obtain ⟨j,rfl,q⟩:=h
 cases r with
 | cons r1 rr =>
  cases rr
  obtain ⟨t,rfl⟩:=r1
  refine call_range_1 ?_
  exact ⟨.ref s.heap.objs.size,_,I.laid (t':=s.toks+1+1) (λb o e=>Heap.get?_push_of_some _ e) (Nat.le_refl _) (show ObjOk X.prog X.w _ _ _ (.rng 0 j) from ⟨s.toks,t,s.toks+1,Heap.get?_push_size _ rfl⟩),rfl,q _ (I.hok.fresh (Nat.le_refl _))⟩
theorem Zdm {pa:Addr} {G:Hp} {lo:Int} {n:Nat}:ox PK pa (nv (lo+n - 1) n) G ((ao lo n).map PyData.int).reverse:=λm G2 H2 sb w=>by
 have hl:((ao lo n).map PyData.int).length=n:=by rw [List.length_map,gR]
 refine ⟨λk x hx=>?_,by show n<=_; rw [List.length_reverse,hl]; exact Nat.le_refl _⟩
 have hk:k < n:=by
  have:=(List.getElem?_eq_some_iff.mp hx).1
  rwa [List.length_reverse,hl] at this
 refine ⟨hk,λy H3 hz0=>?_⟩
 obtain ⟨e1,e2⟩:=hz0
 subst e1 e2
 have:x=.int (lo+n - 1 - k):=by
  rw [List.getElem?_reverse (by rw [hl]; exact hk),hl] at hx
  unfold ao at hx
  rw [List.map_map,List.getElem?_map,List.getElem?_range (by omega)] at hx
  cases hx
  show PyData.int (lo+((n - 1 - k:Nat):Int))=_
  congr 1
  omega
 subst this
 exact ⟨G2,.refl,w,.int _⟩
noncomputable def wQ (is:List Sl->Tr (List PyData)):List Sl->Tr (List PyData):=λρ=>(is ρ).bind λxs=>(Tr.of (nI xs)).bind λys=>.ret ys.reverse
noncomputable def wP (is:List Sl->Tr (List PyData)):List Sl->Tr (List PyData):=λρ=>(is ρ).bind λxs=>(Tr.of (nH xs)).bind λys=>.ret ys.reverse
noncomputable def Zga (t:TA):TE:=eJ (λxs H Q=>∃ j:Int,xs=[.int j]/\∀ p,H p=none->Q (.ref p) (upd H p (.rng 0 j))) t
noncomputable def Zf9 (t:TA):TE:=eJ (λxs H Q=>∃ i j:Int,xs=[.int i,.int j]/\∀ p,H p=none->Q (.ref p) (upd H p (.rng i j))) t
theorem Zmq {iter:Expr} (h:PI X tg iter (v5 (Zga (TAd PK is)))):PI X tg iter (dP PK (wQ is)):=h.imp λσ H R0 hz0=>by
 obtain ⟨pa,G₀,H₀,m,ρ,G,R,z⟩:=hz0
 refine TAd.then R z λm1 xs vs G1 H1 s1 w1 R1 d1 q1=>?_
 rw [Tr.ok_bind] at q1
 obtain ⟨ys,hy,q1⟩:=Tr.ok_of q1
 obtain ⟨n,e,h1,h2,rfl⟩:=ZbC d1 hy
 refine ⟨n,e,λp hp=>?_⟩
 obtain ⟨w2,s2⟩:=w1.own (o:=.rng 0 n) hp
 refine .inr ⟨p,0,n,rfl,bE,by decide,by decide,h1,h2,?_⟩
 have q:=q1 (nv (0+(n - 0).toNat - 1) (n - 0).toNat) G1 _ (s1.trans s2 w1.some) w2
 unfold bc at q
 exact q Zdm
theorem Zmp {iter:Expr} (h:PI X tg iter (v5 (Zf9 (TAd PK is)))):PI X tg iter (dP PK (wP is)):=h.imp λσ H R0 hz0=>by
 obtain ⟨pa,G₀,H₀,m,ρ,G,R,z⟩:=hz0
 refine TAd.then R z λm1 xs vs G1 H1 s1 w1 R1 d1 q1=>?_
 rw [Tr.ok_bind] at q1
 obtain ⟨ys,hy,q1⟩:=Tr.ok_of q1
 obtain ⟨k,n,e,⟨h1,h2,h3,h4⟩,rfl⟩:=ZbB d1 hy
 refine ⟨k,n,e,λp hp=>?_⟩
 obtain ⟨w2,s2⟩:=w1.own (o:=.rng k n) hp
 refine .inr ⟨p,k,n,rfl,bE,h1,h2,h3,h4,?_⟩
 exact q1 (nv (k+(n - k).toNat - 1) (n - k).toNat) G1 _ (s1.trans s2 w1.some) w2 Zdm
end
section
variable {X:Cx} {PK:Pk} {i n:List Sl->Tr PyData}
end
section
variable {prog:Program} {w:World} {A:Around} {E:Value->Shared->Prop} {s:Shared}
end
section
variable {X:Cx} {PK:Pk} {e st:Expr} {te ts:TE} {i j:List Sl->Tr PyData} {p2 pos:Pos}
end
end L2
set_option Elab.async false
set_option linter.all false
set_option maxRecDepth 100000
namespace L2
open PySem PySem.Spec PyProof.Rows
noncomputable abbrev iq (h0 h:Heap):Prop:=∀ c o,h0.get? c=some o->h.get? c=some o
noncomputable def ZfC (prog:Program) (w:World) (A:Around) (h0:Heap) (P:Nat->Value->Prop) (bt:Nat->Nat->Bool):Prop :=
 ∀ i j vi vj (s:Shared) (Q:Value->Shared->Prop) (E:Value->Shared->Prop),j < i->iq h0 s.heap->P i vi->P j vj->Q (.bool (bt i j)) s->wpAny (model prog w) A (richCompare .Lt vi vj) Q E s
theorem Zfg (bt:Nat->Nat->Bool):∀ j,argBest bt j<=j
 | 0=>Nat.le_refl _
 | j+1=>by
  have:=Zfg bt j
  unfold argBest
  split <;> omega
section
variable {prog:Program} {w:World} {A:Around} {R:Result->Shared->Prop} {I S:Addr} {fp wr:List Addr} {n:Nat} {P:Nat->Value->Prop} {St:Nat->Heap->Prop} {h0:Heap}
theorem rm:(toString "min"++toString ".loop":String)="min.loop":=by decide
theorem ZiH (W:Walks prog w A.in1 I fp wr n P St) (bt:Nat->Nat->Bool) (hcmp:ZfC prog w A.in1 h0 P bt) (hSf:S ∉ fp) (h0w:∀ c o,h0.get? c=some o->c ∉ wr/\c≠S) :
  ∀ (k j:Nat) (s:Shared) (vb:Value) (c:Nat),n - (j+1)=k->j+1<=n->iq h0 s.heap->St (j+1) s.heap->P (argBest bt j) vb ->
  s.heap.get? S=some { cls:=.type "list",data:=.seq #[vb,vb] c } ->
  (∀ v h' tk,P (argBest bt (n - 1)) v->(∀ b o,b ∉ wr->b≠S->s.heap.get? b=some o->h'.get? b=some o)->R (.ok (.ret v)) { s with heap:=h',toks:=tk }) ->
  codeAny (model prog w) A (.builtin "min.loop" ⟨[.ref I,.none,.ref S],[]⟩) R s:=by
 have hSw:S ∉ wr:=λh=>hSf (W.sub _ h)
 intro k
 induction k with
 | zero =>
  intro j s vb c hk hj kp hst hPb hS hR
  have hin:j+1=n:=by omega
  refine codeAny_builtin F.entry_min_loop (by
   rw [Around.under_plainId F.plain_min_loop _]
   show wpAny _ A.in1 (seqItems? (.ref S) >>= _) _ _ s
   refine wpAny_bind (wpAny_seqItems hS rfl ?_)
   show wpAny _ A.in1 (tryCatch (pyNext (.ref I)) _ >>= _) _ _ s
   refine wpAny_bind (wpAny_tryCatch (W.done s _ _ (hin ▸ hst) λh' tk hk'=>?_))
   have hS':=hk' S _ hSw hS
   show wpAny _ A.in1 (updateSeq S (λ_=>#[]) >>= _) _ _ _
   refine wpAny_bind (wpAny_updateSeq hS' rfl (wpAny_bind (wpAny_letGo (wpAny_pure ?_))))
   exact hR vb _ tk (by rw [<- hin]; exact hPb) λb o hbw hbS e=>(Heap.get?_update_other _ _ (Ne.symm hbS)).trans (hk' b o hbw e))
 | succ k ih =>
  intro j s vb c hk hj kp hst hPb hS hR
  have hlt:j+1 < n:=by omega
  refine codeAny_builtin F.entry_min_loop (by
   rw [Around.under_plainId F.plain_min_loop _]
   show wpAny _ A.in1 (seqItems? (.ref S) >>= _) _ _ s
   refine wpAny_bind (wpAny_seqItems hS rfl ?_)
   show wpAny _ A.in1 (tryCatch (pyNext (.ref I)) _ >>= _) _ _ s
   refine wpAny_bind (wpAny_tryCatch (W.item (j+1) s _ _ hlt hst λv h' tk hP hst' hk'=>?_))
   have hS':=hk' S _ hSw hS
   have kp':iq h0 h':=λc o e=>hk' c o (h0w c o e).1 (kp c o e)
   show wpAny _ A.in1 (tryCatch (holding [v,v] (richCompare .Lt v vb >>= _)) _ >>= _) _ _ _
   refine wpAny_bind (wpAny_tryCatch (wpAny_holding (wpAny_bind (hcmp (j+1) (argBest bt j) v vb _ _ _ (Nat.lt_succ_of_le (Zfg bt j)) kp' hP hPb (wpAny_bind (wpAny_holding (wpAny_truthy_bool (wpAny_bind (wpAny_letGo (wpAny_pure ?_))))))))))
   cases hb:bt (j+1) (argBest bt j) with
   | true =>
    simp only [if_true]
    refine wpAny_bind (wpAny_updateSeq hS' rfl (wpAny_bind (wpAny_letGo ?_)))
    rw [rm]
    refine wpAny_pure ⟨plainId_quiet F.plain_min_loop _,ih (j+1) _ v _ (by omega) hlt (λc o e=>(Heap.get?_update_other _ _ (Ne.symm (h0w c o e).2)).trans (kp' c o e)) (W.frame _ _ _ hst' λb hbf o e=>?_) (by simp only [argBest,hb,if_true]; exact hP) (Heap.get?_update_self _ hS' rfl)
     λv' h'' tk'' hP' hk''=>hR v' h'' tk'' hP' λb o hbw hbS e=>hk'' b o hbw hbS ((Heap.get?_update_other _ _ (Ne.symm hbS)).trans (hk' b o hbw e))⟩
    exact (Heap.get?_update_other _ _ (λh:S=b=>hSf (by rw [h]; exact hbf))).trans e
   | false =>
    simp only [Bool.false_eq_true,if_false]
    refine wpAny_bind (wpAny_letGo ?_)
    rw [rm]
    exact wpAny_pure ⟨plainId_quiet F.plain_min_loop _,ih (j+1) _ vb c (by omega) hlt kp' hst' (by simp only [argBest,hb,Bool.false_eq_true,if_false]; exact hPb) hS' λv' h'' tk'' hP' hk'' =>
     hR v' h'' tk'' hP' λb o hbw hbS e=>hk'' b o hbw hbS (hk' b o hbw e)⟩)
theorem ZiI (W:Walks prog w A.in1 I fp wr n P St) (bt:Nat->Nat->Bool) (hcmp:ZfC prog w A.in1 h0 P bt) (hSf:S ∉ fp) (h0w:∀ c o,h0.get? c=some o->c ∉ wr/\c≠S) (hn:0 < n) {s:Shared} {c:Nat} (kp:iq h0 s.heap) (hst:St 0 s.heap)
  (hS:s.heap.get? S=some { cls:=.type "list",data:=.seq #[] c })
  (hR:∀ v h' tk,P (argBest bt (n - 1)) v->(∀ b o,b ∉ wr->b≠S->s.heap.get? b=some o->h'.get? b=some o)->R (.ok (.ret v)) { s with heap:=h',toks:=tk }) :
  codeAny (model prog w) A (.builtin "min.loop" ⟨[.ref I,.none,.ref S],[]⟩) R s:=by
 have hSw:S ∉ wr:=λh=>hSf (W.sub _ h)
 refine codeAny_builtin F.entry_min_loop (by
  rw [Around.under_plainId F.plain_min_loop _]
  show wpAny _ A.in1 (seqItems? (.ref S) >>= _) _ _ s
  refine wpAny_bind (wpAny_seqItems hS rfl ?_)
  show wpAny _ A.in1 (tryCatch (pyNext (.ref I)) _ >>= _) _ _ s
  refine wpAny_bind (wpAny_tryCatch (W.item 0 s _ _ hn hst λv h' tk hP hst' hk'=>?_))
  have hS':=hk' S _ hSw hS
  have kp':iq h0 h':=λc o e=>hk' c o (h0w c o e).1 (kp c o e)
  show wpAny _ A.in1 (updateSeq S (λ_=>#[v,v]) >>= _) _ _ _
  refine wpAny_bind (wpAny_updateSeq hS' rfl ?_)
  rw [rm]
  refine wpAny_pure ⟨plainId_quiet F.plain_min_loop _,ZiH W bt hcmp hSf h0w _ 0 _ v _ rfl hn (λc o e=>(Heap.get?_update_other _ _ (Ne.symm (h0w c o e).2)).trans (kp' c o e)) (W.frame _ _ _ hst' λb hbf o e=>?_) hP (Heap.get?_update_self _ hS' rfl)
   λv' h'' tk'' hP' hk''=>hR v' h'' tk'' hP' λb o hbw hbS e=>hk'' b o hbw hbS ((Heap.get?_update_other _ _ (Ne.symm hbS)).trans (hk' b o hbw e))⟩
  exact (Heap.get?_update_other _ _ (λh:S=b=>hSf (by rw [h]; exact hbf))).trans e)
end
section
variable {prog:Program} {w:World} {A:Around} {E:Value->Shared->Prop} {s:Shared}
theorem ZiG {a b:Value} {Q:Value->Shared->Prop} {c:Bool} (hh:A.handled=none) (hcmp:∀ (s':Shared) (Q:Value->Shared->Prop) (E:Value->Shared->Prop),iq s.heap s'.heap->Q (.bool c) s'->wpAny (model prog w) A.in1 (richCompare .Lt b a) Q E s')
  (h:∀ h' tk,iq s.heap h'->Q (if c=true then b else a) { s with heap:=h',toks:=tk }):wpAny (model prog w) A (call (.builtin "min") [a,b]) Q E s:=by
 refine call_function_tree F.kind_min F.plain_min F.entry_min (F.args_min2 _ _) (by
  show wpAny _ A.in1 (Builtin.Builtins.bindParams "min" ["key","default"] 0 ⟨[],[]⟩ >>= _) _ _ s
  refine wpAny_bind (wpAny_of_eq (a:=[none,none]) rfl ?_)
  show wpAny _ A.in1 (newTuple [a,b] >>= _) _ _ s
  refine wpAny_bind (wpAny_newObj_type ?_)
  have hT:(s.heap.push { cls:=.type "tuple",data:=.seq #[a,b] }).IsTuple s.heap.objs.size #[a,b]:=⟨_,Heap.get?_push_size _ rfl,rfl,0,rfl⟩
  have hsz:(s.heap.push { cls:=.type "tuple",data:=.seq #[a,b] }).objs.size=s.heap.objs.size+1:=Heap.size_push ..
  have hgk:iq s.heap (s.heap.push { cls:=.type "tuple",data:=.seq #[a,b] }):=λc o e=>Heap.get?_push_of_some _ e
  generalize (s.heap.push { cls:=.type "tuple",data:=.seq #[a,b] })=g at hT hsz hgk ⊢
  refine wpAny_bind (wpAny_pyIter_tuple hT (wpAny_bind (wpAny_newObj_type ?_)))
  rw [rm]
  have hlt:∀ {c:Nat} {o:Obj},s.heap.get? c=some o->c < s.heap.objs.size:=λe=>Heap.lt_size e
  have hsz2:∀ ob:Obj,(g.push ob).objs.size=s.heap.objs.size+2:=λob=>by rw [Heap.size_push,hsz]
  have W:=Walks.tuple (prog:=prog) (w:=w) (A:=A.in1) hh g.objs.size s.heap.objs.size (by rw [hsz]; exact Nat.ne_of_lt (Nat.lt_succ_self _)) #[a,b]
  refine wpAny_pure ⟨plainId_quiet F.plain_min_loop _,ZiI (A:=A) (h0:=s.heap) W (λi j=>if i=1/\j=0 then c else false) ?_ ?_ ?_ (show 0 < 2 by decide) ?_ ⟨?_,?_⟩ (Heap.get?_push_size _ rfl) ?_⟩
  ·intro i j vi vj s' Q' E' hji kp hi hj hq
   have hi2:i < 2:=by
    have:=(Array.getElem?_eq_some_iff.mp hi).1
    simpa using this
   have e1:i=1:=by omega
   have e2:j=0:=by omega
   subst e1 e2
   have e3:b=vi:=by simpa using hi
   have e4:a=vj:=by simpa using hj
   subst e3 e4
   exact hcmp s' Q' E' kp (by simpa using hq)
  ·intro hm
   have hm':(g.push { cls:=.type "tuple_iterator",data:=.fields #[.ref s.heap.objs.size,.int 0 0] }).objs.size∈[g.objs.size,s.heap.objs.size]:=hm
   rw [hsz2,hsz] at hm'
   simp at hm'
  ·intro (c:Nat) o e
   have hc:=hlt e
   refine ⟨λhm=>?_,?_⟩
   ·have hm':c=g.objs.size:=by simpa using hm
    rw [hm',hsz] at hc
    omega
   ·show c≠(g.push { cls:=.type "tuple_iterator",data:=.fields #[.ref s.heap.objs.size,.int 0 0] }).objs.size
    rw [hsz2]
    omega
  ·exact λc o e=>Heap.get?_push_of_some _ (Heap.get?_push_of_some _ (hgk c o e))
  ·exact ⟨_,Heap.get?_push_of_some _ (Heap.get?_push_size _ rfl),rfl,rfl⟩
  ·exact hT.at λo e=>Heap.get?_push_of_some _ (Heap.get?_push_of_some _ e)
  ·intro v h' tk hP hk
   have hv:v=if c=true then b else a:=by
    cases c with
    | true =>
     have e:argBest (λi j=>if i=1/\j=0 then true else false) ((#[a,b]:Array Value).size - 1)=1:=rfl
     rw [e] at hP
     simpa using hP.symm
    | false =>
     have e:argBest (λi j=>if i=1/\j=0 then false else false) ((#[a,b]:Array Value).size - 1)=0:=rfl
     rw [e] at hP
     simpa using hP.symm
   rw [hv]
   refine h h' tk λ(c:Nat) o e=>hk c o (λhm=>?_) ?_ (Heap.get?_push_of_some _ (Heap.get?_push_of_some _ (hgk c o e)))
   ·have hc:=hlt e
    have hm':c=g.objs.size:=by simpa using hm
    rw [hm',hsz] at hc
    omega
   ·have hc:=hlt e
    show c≠(g.push { cls:=.type "tuple_iterator",data:=.fields #[.ref s.heap.objs.size,.int 0 0] }).objs.size
    rw [hsz2]
    omega)
end
section
variable {X:Cx}
noncomputable def Zb0:List V->Hp->VK->Prop:=λxs H Q=>∃ a b ns ms,xs=[.ref a,.ref b]/\H a=some (.tup (ns.map V.int))/\H b=some (.tup (ms.map V.int))/\Q (if HT.cO ms ns=true then .ref b else .ref a) H
theorem ZeK {k:Nat} (hr:Room k X.A) (hc:X.calm=true):db X (.builtin "min") Zb0:=by
 intro pins s σ H xs us Q I r h
 obtain ⟨a,b,ns,ms,rfl,ha,hb,q⟩:=h
 obtain ⟨u,w',rfl,ru,rw'⟩:=qz r
 cases ru
 cases rw'
 obtain ⟨u1,r1,p1⟩:=fB (b:=false) I.hok ha
 obtain ⟨u2,r2,p2⟩:=fB (b:=false) I.hok hb
 have i1:IntsAre u1.toArray.toList ns:=Zdv r1
 have i2:IntsAre u2.toArray.toList ms:=Zdv r2
 refine ZiG (c:=HT.cO ms ns) (I.ok.hd hc) (λs' Q' E' kp hq=>?_) λh' tk kp=>⟨_,H,I.kept kp,?_,q⟩
 ·have q1:IsTup s'.heap a u1.toArray:=SqAt.at (b:=false) p1 λo e=>kp a o e
  have q2:IsTup s'.heap b u2.toArray:=SqAt.at (b:=false) p2 λo e=>kp b o e
  exact HT.ZiT q2 q1 i2 i1 (show X.A.units+1 < cLine from by have:=hr.units; omega) hq
 ·cases HT.cO ms ns
  ·exact rfl
  ·exact rfl
noncomputable def g6:List PyData->Option PyData
 | [.tuple xs,.tuple ys]=>(ints? xs).bind λns=>(ints? ys).bind λms=>some (if HT.cO ms ns=true then .tuple (ms.map PyData.int) else .tuple (ns.map PyData.int))
 | _=>none
theorem Zan:eG Zb0 g6:=λPK pa m G H vs ds d Q w hv hd k=>by
 unfold g6 at hd
 split at hd
 ·rename_i xs ys
  cases e1:ints? xs with
  | none=>rw [e1] at hd; cases hd
  | some ns =>
   cases e2:ints? ys with
   | none=>rw [e1,e2] at hd; cases hd
   | some ms =>
    rw [e1,e2] at hd
    have hd':(if HT.cO ms ns=true then PyData.tuple (ms.map PyData.int) else .tuple (ns.map PyData.int))=d:=Option.some.inj hd
    cases hv with
    | cons h1 h2 =>
     cases h2 with
     | cons h2 h3 =>
      cases h3
      cases h1 with
      | @tup a us _ a1 a2 =>
       cases h2 with
       | @tup b ws _ b1 b2 =>
        obtain ⟨rfl,rfl⟩:=a2.ints_inv e1
        obtain ⟨rfl,rfl⟩:=b2.ints_inv e2
        refine ⟨a,b,ns,ms,rfl,w.sub _ _ a1,w.sub _ _ b1,?_⟩
        subst hd'
        cases hl:HT.cO ms ns
        ·rw [hl] at k
         exact k.here w (.tup a1 (DnAll.ints _))
        ·rw [hl] at k
         exact k.here w (.tup b1 (DnAll.ints _))
 ·cases hd
end
section
variable {X:Cx} {PK:Pk} {e:Expr} {is:List Sl->Tr (List PyData)}
end
end L2
set_option Elab.async false
set_option linter.all false
set_option maxRecDepth 100000
namespace L2
open PySem PySem.Spec PyProof.Rows
section
variable {prog:Program} {w:World} {A:Around} {E:Value->Shared->Prop} {s:Shared}
end
section
variable {X:Cx}
end
section
variable {X:Cx} {PK:Pk} {a b:Expr} {pos:Pos} {j:List Sl->Tr PyData}
end
end L2
set_option Elab.async false
set_option linter.all false
set_option maxRecDepth 100000
namespace L2
open PySem PySem.Spec PyProof.Rows
section
variable {prog:Program} {w:World} {A:Around} {E:Value->Shared->Prop} {s:Shared}
theorem ZlC {t b:Addr} {ws:List Value} {Q:Value->Shared->Prop} (ht:IsTup s.heap t ([]:List Value).toArray) (hb:IsTup s.heap b ws.toArray) (h1:Q (.ref b) s):wpAny (model prog w) A (binaryOp .Add (.ref t) (.ref b)) Q E s:=by
 obtain ⟨⟨cls,dd,data,sl⟩,ho,hc,n,hd⟩:=id ht
 obtain ⟨⟨cls2,dd2,data2,eM⟩,ho2,hc2,n2,hd2⟩:=id hb
 simp only at hc hd hc2 hd2
 subst hc hd hc2 hd2
 exact concat_meets ⟨_,ho,rfl⟩ ⟨_,ho2,rfl⟩ noFill_tuple_add seq_tuple_add PySem.F.slot_tuple_add PySem.F.entry_tuple_add (PySem.F.args_tuple_add_2 _ _) (tuple_addW0 t b _ ws.toArray n n2 dd dd2 sl eM rfl) ⟨ho,ho2,h1⟩
end
section
variable {X:Cx}
noncomputable def Zca (K:PySem.W.Frag):R2:=λx y H Q=>∃ a b ys,x=.ref a/\y=.ref b/\SqT K H a []/\SqT K H b ys/\Q (.ref b) H
theorem Zie:OpR X (binaryOp .Add) (Zca X.K):=by
 intro pins s σ H x y v u Q I rx ry h
 obtain ⟨a,b,ys,rfl,rfl,ha,hb,q⟩:=h
 cases rx
 cases ry
 obtain ⟨its,r1,p1,_⟩:=I.tuple ha
 obtain ⟨its2,r2,p2,_⟩:=I.tuple hb
 cases r1
 exact ZlC p1 p2 ⟨.ref b,H,I,rfl,q⟩
noncomputable def fo:PyData->PyData->Option PyData
 | .tuple [],.tuple ys=>some (.tuple ys)
 | x,y=>aS x y
noncomputable def Zcd (K:PySem.W.Frag):R2:=λx y H Q=>uP K x y H Q\/Zca K x y H Q
theorem vd:OpR X (binaryOp .Add) (Zcd X.K):=bp.or Zie
theorem tU {K:PySem.W.Frag}:cF (Zcd K) fo:=λPK pa m G H x y dx dy dz Q w hx hy hz k=>by
 unfold fo at hz
 split at hz
 ·cases hz
  cases hx with
  | tup a1 a2 =>
   cases a2
   cases hy with
   | tup b1 b2=>exact .inr ⟨_,_,_,rfl,rfl,SqT.of (w.sub _ _ a1),SqT.of (w.sub _ _ b1),k.here w (.tup b1 b2)⟩
 ·exact .inl (bn PK pa m G H x y _ _ dz Q w hx hy hz k)
theorem mQ {ys:List PyData}:aI fo (.tuple []) (.tuple ys)=.ret (.tuple ys):=rfl
theorem h9 {x:PyData} {xs ys:List PyData} (h:small ((x::xs).length+ys.length)=true):aI fo (.tuple (x::xs)) (.tuple ys)=.ret (.tuple (x::xs++ys)):=by
 show Tr.of (aS (.tuple (x::xs)) (.tuple ys))=_
 unfold aS
 simp only [List.isEmpty_cons,Bool.not_false,Bool.true_and,h,if_true]
 rfl
theorem Zmx {xs ys:List PyData} (h:small (xs.length+ys.length)=true):aI fo (.tuple xs) (.tuple ys)=.ret (.tuple (xs++ys)):=by
 cases xs with
 | nil=>rfl
 | cons x xs=>exact h9 h
end
end L2
set_option Elab.async false
set_option linter.all false
set_option maxRecDepth 100000
namespace L2
open PySem PySem.Spec PyProof.Rows
section
variable {PK:Pk} {X:Cx} {a b:Expr} {pos:Pos} {i j:List Sl->Tr PyData}
noncomputable def wY (r:R2) (f:PyData->PyData->Option (List PyData)):Prop:=∀ (PK:Pk) (pa:Addr) (m:Nat) (G H:Hp) (x y:V) (dx dy:PyData) (dz:List PyData) (Q:VK),Wd PK pa m G H->Dn G x dx->Dn G y dy->f dx dy=some dz->Ko1 PK pa m G H dz Q->r x y H Q
noncomputable def ou (f:PyData->PyData->Option (List PyData)) (i j:List Sl->Tr PyData):List Sl->Tr (List PyData):=λρ=>(i ρ).bind λx=>(j ρ).bind λy=>Tr.of (f x y)
theorem ZmD {r:R2} {f:PyData->PyData->Option (List PyData)} (hv:wY r f):∀ σ H Q,d7 PK (ou f i j) σ H Q->nz r (TAe PK i) (TAe PK j) σ H Q:=by
 rintro σ H Q ⟨pa,G₀,H₀,m,ρ,G,R,q⟩
 refine TAe.then R q λm1 x v G1 H1 s1 w1 R1 d1 q1=>?_
 refine TAe.then R1 q1 λm2 y u G2 H2 s2 w2 R2 d2 q2=>?_
 obtain ⟨z,hz,k⟩:=Tr.ok_of q2
 exact hv PK pa m2 G2 H2 v u x y z Q w2 (d1.mono s2.gs) d2 hz (Ko1.later k (s1.trans s2 w1.some) w2.some)
theorem Zfi {op:Operator} {r:R2} {f:PyData->PyData->Option (List PyData)} (ho:OpR X (binaryOp op) r) (hv:wY r f) (ha:PE X a (TAe PK i)) (hb:PE X b (TAe PK j)):PE X (.BinOp a op b pos) (d7 PK (ou f i j)) :=
 (bY ho ha hb).imp (ZmD hv)
noncomputable def gP:PyData->PyData->Option (List PyData)
 | .list xs,.int k=>if (decide (-1000<=k) && decide (k<=1000) && decide (xs.length<=1000))=true then some (List.replicate k.toNat xs).flatten else none
 | _,_=>none
theorem Zee {G:Hp}:∀ {vs:List V} {ds:List PyData} {us:List V} {es:List PyData},DnAll G vs ds->DnAll G us es->DnAll G (vs++us) (ds++es)
 | _,_,_,_,.nil,h=>h
 | _,_,_,_,.cons a b,h=>.cons a (Zee b h)
theorem Zed {G:Hp} {vs:List V} {ds:List PyData} (h:DnAll G vs ds):∀ k:Nat,DnAll G (List.replicate k vs).flatten (List.replicate k ds).flatten
 | 0=>.nil
 | k+1=>by
  rw [List.replicate_succ,List.replicate_succ,List.flatten_cons,List.flatten_cons]
  exact Zee h (Zed h k)
theorem Zaj:wY uO gP:=λPK pa m G H x y dx dy dz Q w hx hy hz k=>by
 unfold gP at hz
 split at hz
 ·split at hz
  ·rename_i hc
   cases hz
   simp only [Bool.and_eq_true,decide_eq_true_eq] at hc
   cases hx with
   | lst a1 a2 =>
    cases hy
    refine ⟨_,_,_,rfl,rfl,w.sub _ _ a1,by omega,by omega,?_,λp hp=>?_⟩
    ·rw [a2.length]
     have h0:∀ z:Int,z<=1000->z.toNat<=1000:=λz hz=>by omega
     exact Nat.le_trans (Nat.mul_le_mul hc.2 (h0 _ hc.1.2)) (show 1000 * 1000<=sizeLine by decide)
    ·exact k.new w (Zed a2 _) hp
  ·cases hz
 ·cases hz
noncomputable def m8 (f:PyData->PyData->Option (List PyData)) (x y:PyData):Tr (List PyData):=Tr.of (f x y)
noncomputable def ZeX (f:PyData->PyData->Option (List PyData)) (j:List Sl->Tr PyData) (ρ:List Sl) (x:PyData):Tr (List PyData):=(j ρ).bind (m8 f x)
theorem Zka {f:PyData->PyData->Option (List PyData)} {ρ:List Sl}:ou f i j ρ=(i ρ).bind (ZeX f j ρ):=rfl
theorem Zj8 {f:PyData->PyData->Option (List PyData)} {ρ:List Sl} {x:PyData}:ZeX f j ρ x=(j ρ).bind (m8 f x):=rfl
theorem ZbI {xs:List PyData} {k:Int} (h:(decide (-1000<=k) && decide (k<=1000) && decide (xs.length<=1000))=true):m8 gP (.list xs) (.int k)=.ret (List.replicate k.toNat xs).flatten:=by
 simp only [m8,gP,h,if_true]
 rfl
end
theorem pF {α:Type} {n:Nat}:∀ {us:List α},us.length=n+1->∃ (a:α) (t:List α),us=a::t/\t.length=n
 | a::t,h=>⟨a,t,rfl,Nat.succ.inj h⟩
theorem ZiZ {α:Type} {us:List α} (h:us.length=0):us=[]:=List.eq_nil_of_length_eq_zero h
theorem Zc7 {α:Type} {us:List α} (h:us.length=1):∃ a,us=[a]:=by
 obtain ⟨a,t,rfl,h2⟩:=pF h
 exact ⟨a,by rw [ZiZ h2]⟩
theorem Zc6 {α:Type} {us:List α} (h:us.length=2):∃ a0 a1,us=[a0,a1]:=by
 obtain ⟨a0,t,rfl,h2⟩:=pF h
 obtain ⟨a1,rfl⟩:=Zc7 h2
 exact ⟨a0,a1,rfl⟩
theorem Zc5 {α:Type} {us:List α} (h:us.length=3):∃ a0 a1 a2,us=[a0,a1,a2]:=by
 obtain ⟨a0,t,rfl,h2⟩:=pF h
 obtain ⟨a1,a2,rfl⟩:=Zc6 h2
 exact ⟨a0,a1,a2,rfl⟩
theorem Zc4 {α:Type} {us:List α} (h:us.length=4):∃ a0 a1 a2 a3,us=[a0,a1,a2,a3]:=by
 obtain ⟨a0,t,rfl,h2⟩:=pF h
 obtain ⟨a1,a2,a3,rfl⟩:=Zc5 h2
 exact ⟨a0,a1,a2,a3,rfl⟩
theorem Zi1 {α:Type} {us:List α} (h:us.length=5):∃ a0 a1 a2 a3 a4,us=[a0,a1,a2,a3,a4]:=by
 obtain ⟨a0,t,rfl,h2⟩:=pF h
 obtain ⟨a1,a2,a3,a4,rfl⟩:=Zc4 h2
 exact ⟨a0,a1,a2,a3,a4,rfl⟩
end L2
set_option Elab.async false
set_option linter.all false
set_option maxRecDepth 100000
namespace L2
open PySem PySem.Spec PyProof.Rows
section
variable {PK:Pk} {X:Cx} {pos:Pos} {n:Nat} {is:List Sl->Tr (List PyData)} {s t:List Sl->Tr Ou}
theorem Zmd {sts:List Stmt}:PSs X sts (bg PK qe):=λ_ _ _ _ _ _ h=>by
 obtain ⟨pa,G₀,H₀,m,ρ,G,R,z⟩:=h
 exact z.elim
end
end L2
set_option Elab.async false
set_option linter.all false
set_option maxRecDepth 100000
namespace L2
open PySem PySem.Spec PyProof.Rows
section
variable {PK:Pk} {X:Cx} {a b c d e:Expr} {pos:Pos} {i j l n:List Sl->Tr PyData}
open Classical in
noncomputable def m7 (h:Heap) (dx:PyData) (u:Value):Bool:=decide (∃ y as,Reads h u y as/\y.canLay0=true/\PyData.eqv y dx=true)
open Classical in
theorem ZdT {h:Heap} {dx y:PyData} {u:Value} {as:List Addr} (r:Reads h u y as) (hy:y.canLay0=true):m7 h dx u=PyData.eqv y dx:=by
 unfold m7
 cases he:PyData.eqv y dx with
 | true=>exact decide_eq_true ⟨y,as,r,hy,he⟩
 | false =>
  refine decide_eq_false λz=>?_
  obtain ⟨y',as',r',hy',e'⟩:=z
  have:=SeqAt.Reads.unique y y' u as as' hy r r'
  subst this
  rw [he] at e'; cases e'
theorem Zfk {P:Program} {w:World} {H:Hp} {h:Heap} (ok:HOk P w H h) {dx:PyData}:∀ {vs:List V} {ds:List PyData} {us:List Value},DnAll H vs ds->ds.all SeqAt.shaped=true->Vals vs us->us.any (m7 h dx)=ds.any λy=>PyData.eqv y dx
 | _,_,_,.nil,_,.nil=>rfl
 | _,_,_,.cons a t,f,.cons r rs=>by
  rw [List.all_cons,Bool.and_eq_true] at f
  obtain ⟨as,r1⟩:=Dn.reads ok a (PyData.hasDict_of_canLay _ (SeqAt.canLay_of_shaped f.1)) r
  rw [List.any_cons,List.any_cons,ZdT r1 (SeqAt.canLay_of_shaped f.1),Zfk ok t f.2 rs]
theorem ZcQ {P:Program} {w:World} {H:Hp} {s:Shared} (ok:HOk P w H s.heap) {A:Around} (hu:A.units+64 < cLine) {dx:PyData} {v:Value} {bs:List Addr} (rv:Reads s.heap v dx bs) (hx:SeqAt.shaped dx=true):∀ {vs:List V} {ds:List PyData} {us:List Value},DnAll H vs ds->ds.all SeqAt.shaped=true->Vals vs us->∀ u∈us,SeqAt.EqAt A s u v (m7 s.heap dx u)
 | _,_,_,.nil,_,.nil=>λu hu=>by cases hu
 | _,_,_,.cons a t,f,.cons r rs=>λu hm=>by
  rw [List.all_cons,Bool.and_eq_true] at f
  rcases List.mem_cons.mp hm with rfl | hm
  ·obtain ⟨as,r1⟩:=Dn.reads ok a (PyData.hasDict_of_canLay _ (SeqAt.canLay_of_shaped f.1)) r
   rw [ZdT r1 (SeqAt.canLay_of_shaped f.1)]
   exact SeqAt.eqAt_reads _ _ A s _ _ _ _ r1 rv (SeqAt.canLay_of_shaped f.1) (SeqAt.canLay_of_shaped hx) (SeqAt.room_of_shaped f.1 hu)
  ·exact ZcQ ok hu rv hx t f.2 rs u hm
noncomputable def Zb5 (neg:Bool):R2:=λx y H Q=>∃ dx ds,Dn H x dx/\Dn H y (.list ds)/\SeqAt.shaped dx=true/\ds.all SeqAt.shaped=true/\Q (.bl (if neg then !(ds.any λz=>PyData.eqv z dx) else ds.any λz=>PyData.eqv z dx)) H
theorem Zh9 {k:Nat} (hr:Room k X.A):OpR X (compareOp .In) (Zb5 false):=by
 intro pins s σ H x y v u Q I rx ry h
 obtain ⟨dx,ds,hx,hy,sx,sd,q⟩:=h
 cases hy with
 | lst e1 e2 =>
  cases ry
  obtain ⟨its,r,pl,hz⟩:=I.list (SqL.of e1)
  obtain ⟨as,rv⟩:=Dn.reads I.hok hx (PyData.hasDict_of_canLay _ (SeqAt.canLay_of_shaped sx)) rx
  have hu:X.A.in1.units+64 < cLine:=by have:=hr.un; show X.A.units+_+64 < _; omega
  refine SeqAt.in_listAt (m7 s.heap dx) pl.isList (λw hw=>ZcQ I.hok hu rv sx e2 sd r w (by simpa using hw)) ⟨.bl _,H,I,rfl,?_⟩
  rw [show its.toArray.any (m7 s.heap dx)=its.any (m7 s.heap dx) by simp,Zfk I.hok e2 sd r]
  exact q
noncomputable def pL (neg:Bool):PyData->PyData->Option PyData
 | x,.list ds=>if (SeqAt.shaped x && ds.all SeqAt.shaped)=true then some (.bool (if neg then !(ds.any λz=>PyData.eqv z x) else ds.any λz=>PyData.eqv z x)) else none
 | _,_=>none
theorem ZfL {neg:Bool}:cF (Zb5 neg) (pL neg):=λPK pa m G H x y dx dy dz Q w hx hy hz k=>by
 unfold pL at hz
 split at hz
 ·split at hz
  ·rename_i hc
   rw [Bool.and_eq_true] at hc
   cases hz
   exact ⟨_,_,hx.mono w.sub,hy.mono w.sub,hc.1,hc.2,k.here w (.bl _)⟩
  ·cases hz
 ·cases hz
end
end L2
set_option Elab.async false
set_option linter.all false
set_option maxRecDepth 100000
set_option exponentiation.threshold 9000
namespace Tw
open PySem L2
noncomputable def nb (k:Nat) (n:Int):Prop:=n.natAbs < 2 ^ k
theorem aQ {k:Nat} {n:Int} (h:nb k n) (hk:k<=8000):fit n=true:=decide_eq_true (Nat.lt_of_lt_of_le h (Nat.pow_le_pow_right (by decide) hk))
theorem bf {k l:Nat} {n:Int} (h:nb k n) (hk:k<=l):nb l n:=Nat.lt_of_lt_of_le h (Nat.pow_le_pow_right (by decide) hk)
theorem b7 {k l:Nat} {m n:Int} (h:nb k m) (h':nb l n):nb (k+l) (m * n):=by
 unfold nb at *
 rw [Int.natAbs_mul,Nat.pow_add]
 exact Nat.mul_lt_mul'' h h'
theorem dW {k l:Nat} {m n:Int} (h:nb k m) (h':nb l n):nb (max k l+1) (m+n):=by
 have h1:=bf h (Nat.le_max_left k l)
 have h2:=bf h' (Nat.le_max_right k l)
 unfold nb at *
 rw [Nat.pow_succ,Nat.mul_two]
 exact Nat.lt_of_le_of_lt (Int.natAbs_add_le m n) (Nat.add_lt_add h1 h2)
theorem ge {k:Nat} {n:Int} (h:nb k n):nb k (-n):=by
 unfold nb at *
 omega
theorem fH {k l:Nat} {m n:Int} (h:nb k m) (h':nb l n):nb (max k l+1) (m - n):=by
 rw [Int.sub_eq_add_neg]
 exact dW h (ge h')
theorem b6 {k:Nat} {n:Int} (h1:-(2 ^ k:Nat) < n) (h2:n < (2 ^ k:Nat)):nb k n:=by
 unfold nb
 omega
theorem pb {k:Nat} {c:Prop} [Decidable c] {m n:Int} (h:nb k m) (h':nb k n):nb k (if c then m else n):=by split <;> assumption
noncomputable def ws (f:Int->Int):Nat->List Int->Int
 | _,[]=>0
 | k,w::l=>w * f k+ws f (k+1) l
theorem tO {f:Int->Int} {a b:Nat} (hf:∀ x:Int,0<=x->nb b (f x)):∀ {l:List Int} {k:Nat},(∀ w∈l,nb a w)->nb (a+b+l.length) (ws f k l)
 | [],k,h=>by unfold ws nb; exact Nat.pos_of_ne_zero (by simp)
 | w::l,k,h=>by
  unfold ws
  have h1:=b7 (h w (by simp)) (hf k (by omega))
  have h2:=tO hf (l:=l) (k:=k+1) λv hv=>h v (List.mem_cons_of_mem _ hv)
  refine bf (dW h1 h2) ?_
  rw [List.length_cons]
  omega
theorem d9 {f g:Int->Int}:∀ {l:List Int} {k:Nat},(∀ x:Int,0<=x->f x=g x)->ws f k l=ws g k l
 | [],k,h=>rfl
 | w::l,k,h=>by
  unfold ws
  rw [h k (by omega),d9 h]
theorem ZaM {a:Nat}:∀ {l:List Int},(∀ w∈l,nb a w)->nb (a+l.length) l.sum
 | [],h=>by unfold nb; simp; exact Nat.pos_of_ne_zero (by simp)
 | w::l,h=>by
  rw [List.sum_cons]
  refine bf (dW (h w (by simp)) (ZaM (l:=l) λv hv=>h v (List.mem_cons_of_mem _ hv))) ?_
  rw [List.length_cons]
  omega
structure Shp where
 top:Int
 depth:Int
 start:Int
 piece:Int
 keep:Int
 lack:Int
 lost:Int
 back:Int
 late:Int
noncomputable def Shp.l (s:Shp):List Int:=[s.top,s.depth,s.start,s.piece,s.keep,s.lack,s.lost,s.back,s.late]
@[irreducible] noncomputable def Shp.d (s:Shp):PyData:=.tuple (s.l.map PyData.int)
structure Shp.Ok (s:Shp):Prop where
 t0:0<=s.top
 d0:0<=s.depth
 td:s.top+s.depth<=100
 start0:0<=s.start
 start:nb 45 s.start
 piece:nb 45 s.piece
 keep:nb 45 s.keep
 lack:nb 45 s.lack
 lost:nb 45 s.lost
 back:nb 45 s.back
 late:nb 45 s.late
theorem iG (s:Shp):aI ay s.d (.int 0)=.ret (.int s.top):=by unfold Shp.d; rw [cH]; exact congrArg Tr.of eU
theorem iF (s:Shp):aI ay s.d (.int 1)=.ret (.int s.depth):=by unfold Shp.d; rw [cH]; exact congrArg Tr.of gD
theorem iE (s:Shp):aI ay s.d (.int 2)=.ret (.int s.start):=by unfold Shp.d; rw [cH]; exact congrArg Tr.of gC
theorem gL (s:Shp):aI ay s.d (.int 3)=.ret (.int s.piece):=by unfold Shp.d; rw [cH]; exact congrArg Tr.of gB
theorem iD (s:Shp):aI ay s.d (.int 4)=.ret (.int s.keep):=by unfold Shp.d; rw [cH]; exact congrArg Tr.of gA
theorem iC (s:Shp):aI ay s.d (.int 5)=.ret (.int s.lack):=by unfold Shp.d; rw [cH]; exact congrArg Tr.of ij
theorem iB (s:Shp):aI ay s.d (.int 6)=.ret (.int s.lost):=by unfold Shp.d; rw [cH]; exact congrArg Tr.of ii
theorem iz (s:Shp):aI ay s.d (.int 7)=.ret (.int s.back):=by unfold Shp.d; rw [cH]; exact congrArg Tr.of ig
theorem iy (s:Shp):aI ay s.d (.int 8)=.ret (.int s.late):=by unfold Shp.d; rw [cH]; exact congrArg Tr.of ie
section
variable (s:Shp)
noncomputable def Shp.nx (y f:Int):Int:=ci (y - f) (-s.depth)
noncomputable def Shp.day (y f:Int):Int:=(if s.nx y f > 0 then s.keep * s.nx y f else s.lack * -s.nx y f)+s.lost * (s.nx y f - (y - f))
noncomputable def Shp.fin (x:Int):Int:=if x > 0 then -s.back * x else s.late * -x
end
noncomputable def lI (l:List Int):PyData:=.list (l.map PyData.int)
noncomputable def tI (l:List Int):PyData:=.tuple (l.map PyData.int)
noncomputable def fD (fs:List (List Int)):PyData:=.tuple (fs.map tI)
end Tw
set_option Elab.async false
set_option linter.all false
set_option maxRecDepth 100000
namespace L2
open PySem PySem.Spec PyProof.Rows
variable {ρ:List Sl} {s t:List Sl->Tr Ou} {i j l:List Sl->Tr PyData} {is:List Sl->Tr (List PyData)} {k n:Nat} {x y d:PyData} {xs ys:List PyData} {sl:Sl}
theorem iJ {α β:Type} {a:α} {f:α->Tr β}:(Tr.ret a).bind f=f a:=Eq.trans (Tr.ret_bind a f) (Eq.refl _)
theorem ji {gs:List PyData->List Sl->Option (List Sl)}:sE gs (.list xs) ρ=gs xs ρ:=by
 cases h:gs xs ρ <;> exact h
noncomputable def nG (xs:List PyData):Tr (List PyData):=.ret xs.reverse
theorem j6:nG xs=.ret xs.reverse:=rfl
noncomputable def Zbt (xs:List PyData):Tr (List PyData):=(dU xs).bind nG
noncomputable def Zbs (xs:List PyData):Tr (List PyData):=(nJ xs).bind nG
theorem ka:wQ is ρ=(is ρ).bind Zbt:=rfl
theorem j9:wP is ρ=(is ρ).bind Zbs:=rfl
theorem j4:Zbt xs=(dU xs).bind nG:=rfl
theorem jZ:Zbs xs=(nJ xs).bind nG:=rfl
theorem gw (a b c d:Int):bh g6 [.tuple [.int a,.int b],.tuple [.int c,.int d]]=.ret (if c < a\/c=a/\d < b then .tuple [.int c,.int d] else .tuple [.int a,.int b]):=by
 have h1:ints? [PyData.int a,.int b]=some [a,b]:=ints?_map [a,b]
 have h2:ints? [PyData.int c,.int d]=some [c,d]:=ints?_map [c,d]
 unfold bh g6
 simp only [h1,h2]
 show Tr.of (some _)=_
 rw [Tr.of_some]
 have e:HT.cO [c,d] [a,b]=true ↔ (c < a\/c=a/\d < b):=by
  simp only [HT.Zc2,HT.Zc1]
  by_cases hca:c=a
  ·subst hca
   by_cases hdb:d=b
   ·simp [hdb]
   ·simp [hdb]
  ·simp [hca]
 by_cases hc:(c < a\/c=a/\d < b)
 ·rw [if_pos (e.mpr hc),if_pos hc]; rfl
 ·rw [if_neg (λz=>hc (e.mp z)),if_neg hc]; rfl
theorem ZiN (ns:List Int) (h:ns≠[]):bh g8 [.list (ns.map PyData.int)]=.ret (.int (eB ns)):=by
 unfold bh g8 g5
 simp [h]
theorem Zmo {α:Type} {t:Tr α} {P:α->Prop} (h:Al t 0 P):∃ a,t=.ret a/\P a:=by
 have h':=h.out
 cases t with
 | ret a=>exact ⟨a,rfl,h'⟩
 | draw w k=>exact h'.elim
 | fail=>exact h'.elim
theorem Zfl {α:Type} {t:Tr α} {a:α} (h:Al t 0 λb=>b=a):t=.ret a:=by
 obtain ⟨b,e,rfl⟩:=Zmo h
 exact e
theorem Zmm {α:Type} {t:Tr α} {a:α} {P:α->Prop} {N:Nat} (h:t=.ret a) (hp:P a):Al t N P:=by rw [h]; exact dC hp
theorem ZdG {s:List Sl->Tr Ou} {g:PyData->List Sl->Option (List Sl)} {n:Nat} {full:List PyData} (I:List PyData->List Sl->Prop) {Q:Ou->Prop} (ht:∀ pre x post ρ,full=pre++x::post->I pre ρ->∃ ρ1,g x ρ=some ρ1/\(s ρ1).all n λo=>∃ ρ2,o=.next ρ2/\I (pre++[x]) ρ2) (hq:∀ ρ,I full ρ->Q (.next ρ)) :
  ∀ {xs pre:List PyData} {ρ:List Sl},full=pre++xs->I pre ρ->(bK g s xs ρ).all (xs.length * n) Q
 | [],pre,ρ,e,h0=>hq ρ (by rw [e,List.append_nil]; exact h0)
 | x::xs,pre,ρ,e0,h0=>by
  obtain ⟨ρ1,e,ha⟩:=ht pre x xs ρ e0 h0
  have en:(x::xs).length * n=n+xs.length * n:=by rw [List.length_cons,Nat.succ_mul]; omega
  rw [en,dB,e,Tr.of_some,Tr.ret_bind]
  unfold pP
  refine Tr.all_bind ha λo ⟨ρ2,eo,h2⟩=>?_
  subst eo
  rw [cy]
  exact ZdG I ht hq (by rw [e0,List.append_assoc]; rfl) h2
theorem pZ {n N:Nat} {g:PyData->List Sl->Option (List Sl)} {s:List Sl->Tr Ou} {xs:List PyData} {ρ:List Sl} {Q:Ou->Prop} (I:List PyData->List Sl->Prop) (h0:I [] ρ) (hN:xs.length * n<=N) (ht:∀ pre x post ρ,xs=pre++x::post->I pre ρ->∃ ρ1,g x ρ=some ρ1/\Al (s ρ1) n λo=>∃ ρ2,o=.next ρ2/\I (pre++[x]) ρ2) (hq:∀ ρ,I xs ρ->Q (.next ρ)):Al (bK g s xs ρ) N Q :=
 .of (Tr.all_mono (ZdG (full:=xs) I (λpre x post ρ e h=>let ⟨ρ1,e,a⟩:=ht pre x post ρ e h; ⟨ρ1,e,a.out⟩) hq (pre:=[]) rfl h0) hN λ_ h=>h)
theorem uI {lo hi:Int} {pre post:List PyData} {x:PyData} (h:bc lo hi=pre++x::post):x=.int (lo+pre.length)/\(pre.length:Int) < hi - lo:=by
 have h1:(bc lo hi)[pre.length]?=some x:=by rw [h]; simp
 have hl:pre.length < (bc lo hi).length:=(List.getElem?_eq_some_iff.mp h1).1
 rw [dS] at hl
 unfold bc ao at h1
 rw [List.map_map,List.getElem?_map,List.getElem?_range (by omega)] at h1
 refine ⟨?_,by omega⟩
 cases h1
 rfl
theorem ZbA {lo hi:Int} {pre post:List PyData} {x:PyData} (h:(bc lo hi).reverse=pre++x::post):x=.int (hi - 1 - pre.length)/\(pre.length:Int) < hi - lo:=by
 have h1:((bc lo hi).reverse)[pre.length]?=some x:=by rw [h]; simp
 have hl:pre.length < ((bc lo hi).reverse).length:=(List.getElem?_eq_some_iff.mp h1).1
 rw [List.length_reverse,dS] at hl
 rw [List.getElem?_reverse (by rw [dS]; exact hl),dS] at h1
 unfold bc ao at h1
 rw [List.map_map,List.getElem?_map,List.getElem?_range (by omega)] at h1
 refine ⟨?_,by omega⟩
 cases h1
 show PyData.int (lo+(((hi - lo).toNat - 1 - pre.length:Nat):Int))=_
 congr 1
 omega
theorem ZiO {h:PyData->Tr PyData} {f:Int->PyData} {lo hi:Int} (hx:∀ z:Int,lo<=z->z < hi->h (.int z)=.ret (f z)):bz h (bc lo hi)=.ret ((ao lo (hi - lo).toNat).map f):=by
 have key:∀ l:List Int,(∀ z∈l,lo<=z/\z < hi)->bz h (l.map PyData.int)=.ret (l.map f):=by
  intro l
  induction l with
  | nil=>intro _; rfl
  | cons z l ih =>
   intro hz
   have hh:=hz z (by simp)
   rw [List.map_cons,bz,hx z hh.1 hh.2,Tr.ret_bind,ih λy hy=>hz y (List.mem_cons_of_mem _ hy)]
   rfl
 unfold bc
 refine key _ λz hz=>?_
 have:=nM hz
 omega
theorem Zkg (xs:List PyData):(cz xs).length=xs.length:=by unfold cz; simp
end L2
set_option Elab.async false
set_option linter.all false
set_option maxRecDepth 100000
namespace Tw
open PySem L2
noncomputable def bst (g:Int->Int) (top:Int):Nat->Int×Int
 | 0=>(g top,top)
 | n+1=>if (bst g top n).1 < g (top - ((n+1:Nat):Int)) then bst g top n else (g (top - ((n+1:Nat):Int)),top - ((n+1:Nat):Int))
theorem sN (g:Int->Int) (top:Int):∀ n:Nat,top - n<=(bst g top n).2/\(bst g top n).2<=top/\g (bst g top n).2=(bst g top n).1
 | 0=>by unfold bst; simp
 | n+1=>by
  have ih:=sN g top n
  unfold bst
  split
  ·exact ⟨by omega,ih.2.1,ih.2.2⟩
  ·exact ⟨Int.le_refl _,by omega,rfl⟩
theorem wx (g:Int->Int) (top:Int):∀ (n:Nat) (y:Int),top - n<=y->y<=top->(bst g top n).1<=g y
 | 0,y,h1,h2=>by
  have:y=top:=by omega
  subst this
  unfold bst
  exact Int.le_refl _
 | n+1,y,h1,h2=>by
  by_cases hy:y=top - ((n+1:Nat):Int)
  ·unfold bst
   split
   ·subst hy; omega
   ·subst hy; exact Int.le_refl _
  ·have ih:=wx g top n y (by omega) h2
   unfold bst
   split
   ·exact ih
   ·omega
theorem ZeV (g:Int->Int) (top:Int):∀ (n:Nat) (y:Int),top - n<=y->y < (bst g top n).2->(bst g top n).1 < g y
 | 0,y,h1,h2=>by
  unfold bst at h2
  dsimp only at h2
  omega
 | n+1,y,h1,h2=>by
  by_cases hc:(bst g top n).1 < g (top - ((n+1:Nat):Int))
  ·have e:bst g top (n+1)=bst g top n:=by rw [bst,if_pos hc]
   rw [e] at h2 ⊢
   by_cases hy:y=top - ((n+1:Nat):Int)
   ·subst hy; exact hc
   ·exact ZeV g top n y (by omega) h2
  ·have e:bst g top (n+1)=(g (top - ((n+1:Nat):Int)),top - ((n+1:Nat):Int)):=by rw [bst,if_neg hc]
   rw [e] at h2
   dsimp only at h2
   omega
noncomputable def pck (g:Int->Int) (top K x:Int):Int×Int :=
 match (top - x).toNat with
 | 0=>(g x,x)
 | n+1=>if K+(bst g top n).1 < g x then (K+(bst g top n).1,(bst g top n).2) else (g x,x)
noncomputable def cst (g:Int->Int) (top K P x:Int):Int:=(pck g top K x).1 - P * x
noncomputable def lvl (g:Int->Int) (top K x:Int):Int:=(pck g top K x).2
theorem o5 (g:Int->Int) (top K:Int):pck g top K top=(g top,top):=by
 unfold pck
 rw [Int.sub_self]
 rfl
theorem rb (g:Int->Int) (top K:Int) (n:Nat):pck g top K (top - ((n+1:Nat):Int))=if K+(bst g top n).1 < g (top - ((n+1:Nat):Int)) then (K+(bst g top n).1,(bst g top n).2) else (g (top - ((n+1:Nat):Int)),top - ((n+1:Nat):Int)):=by
 unfold pck
 have e:(top - (top - ((n+1:Nat):Int))).toNat=n+1:=by omega
 rw [e]
theorem ra {g:Int->Int} {top K x:Int} (hx:x<=top):(pck g top K x).1<=g x/\∀ y,x < y->y<=top->(pck g top K x).1<=K+g y:=by
 by_cases ht:x=top
 ·subst ht
  rw [o5]
  exact ⟨Int.le_refl _,λy h1 h2=>by omega⟩
 ·obtain ⟨n,hn⟩:∃ n:Nat,x=top - ((n+1:Nat):Int):=⟨(top - x - 1).toNat,by omega⟩
  subst hn
  rw [rb]
  split
  ·rename_i hc
   exact ⟨by dsimp only; omega,λy h1 h2=>by have:=wx g top n y (by omega) h2; dsimp only; omega⟩
  ·rename_i hc
   exact ⟨Int.le_refl _,λy h1 h2=>by have:=wx g top n y (by omega) h2; dsimp only; omega⟩
theorem f9 {g:Int->Int} {top K x:Int} (hx:x<=top):x<=(pck g top K x).2/\(pck g top K x).2<=top/\(((pck g top K x).2=x/\(pck g top K x).1=g x)\/(x < (pck g top K x).2/\(pck g top K x).1=K+g (pck g top K x).2/\(pck g top K x).1 < g x)):=by
 by_cases ht:x=top
 ·subst ht
  rw [o5]
  exact ⟨Int.le_refl _,Int.le_refl _,.inl ⟨rfl,rfl⟩⟩
 ·obtain ⟨n,hn⟩:∃ n:Nat,x=top - ((n+1:Nat):Int):=⟨(top - x - 1).toNat,by omega⟩
  subst hn
  rw [rb]
  have hb:=sN g top n
  split
  ·rename_i hc
   exact ⟨by dsimp only; omega,hb.2.1,.inr ⟨by dsimp only; omega,by dsimp only; rw [hb.2.2],hc⟩⟩
  ·exact ⟨Int.le_refl _,by dsimp only; omega,.inl ⟨rfl,rfl⟩⟩
theorem u4 {g:Int->Int} {top K x y:Int} (hx:x<=top) (h1:x < y) (h2:y < (pck g top K x).2):(pck g top K x).1 < K+g y:=by
 by_cases ht:x=top
 ·subst ht
  rw [o5] at h2
  dsimp only at h2
  omega
 ·obtain ⟨n,hn⟩:∃ n:Nat,x=top - ((n+1:Nat):Int):=⟨(top - x - 1).toNat,by omega⟩
  subst hn
  rw [rb] at h2 ⊢
  split at h2
  ·rename_i hc
   rw [if_pos hc]
   have:=ZeV g top n y (by omega) h2
   dsimp only
   omega
  ·dsimp only at h2
   omega
theorem ZhZ {g:Int->Int} {top K x:Int} {b:Nat} (hx:x<=top) (hg:∀ y,x<=y->y<=top->nb b (g y)) (hK:nb b K):nb (b+1) (pck g top K x).1:=by
 obtain ⟨h1,h2,h3⟩:=f9 (g:=g) (K:=K) hx
 rcases h3 with ⟨e1,e2⟩ | ⟨e1,e2,e3⟩
 ·rw [e2]
  exact bf (hg x (Int.le_refl _) hx) (by omega)
 ·rw [e2]
  exact bf (dW hK (hg _ h1 h2)) (by omega)
structure DayB (l:List Int):Prop where
 len:l.length<=16
 nb:∀ w∈l,nb 30 w
 w0:∀ w∈l,0<=w
 pos:0 < l.sum
theorem sK {s:Shp} (h:s.Ok) {y f:Int} (hy:nb 20 y) (hf:nb 40 f):nb 100 (s.day y f):=by
 have hd:nb 7 s.depth:=by have:=h.t0; have:=h.d0; have:=h.td; exact b6 (by show -128 < _; omega) (by show _ < 128; omega)
 have hn:nb 50 (s.nx y f):=by
  unfold Shp.nx ci
  exact pb (bf (ge hd) (by decide)) (bf (fH hy hf) (by decide))
 unfold Shp.day
 refine bf (dW (pb (k:=95) (b7 h.keep hn) (b7 h.lack (ge hn))) (b7 h.lost (fH hn (fH hy hf)))) (by decide)
theorem ub {day:List Int} (hd:DayB day):nb 46 day.sum:=bf (ZaM hd.nb) (by have:=hd.len; omega)
end Tw
set_option Elab.async false
set_option linter.all false
set_option maxRecDepth 100000
namespace Tw
open PySem L2
noncomputable abbrev rng (lo hi:Int):List Int:=ao lo (hi - lo).toNat
variable {α:Type}
theorem uL (lo:Int) (a b:Nat):ao lo (a+b)=ao lo a++ao (lo+a) b:=by
 unfold ao
 rw [List.range_add,List.map_append,List.map_map]
 congr 1
 apply List.map_congr_left
 intro k _
 show lo+((a+k:Nat):Int)=lo+(a:Int)+(k:Int)
 omega
noncomputable def f3 (lo a b c:Int) (t:Int->Int->Int->Option α):Option α:=(rng lo a).findSome? λu=>(rng (u+1) b).findSome? λv=>(rng (v+1) c).findSome? λw=>t u v w
end Tw
set_option Elab.async false
set_option linter.all false
set_option maxRecDepth 100000
namespace Tw
open PySem L2
noncomputable def enu:Nat->List Int->List PyData
 | _,[]=>[]
 | k,n::ns=>.tuple [.int k,.int n]::enu (k+1) ns
theorem ZdU:∀ (ns:List Int) (k:Nat),(List.range' k (ns.map PyData.int).length).zipWith (λ(n:Nat) x=>PyData.tuple [.int n,x]) (ns.map PyData.int)=enu k ns
 | [],k=>rfl
 | n::ns,k=>by
  rw [List.map_cons,List.length_cons,List.range'_succ,List.zipWith_cons_cons,ZdU ns (k+1)]
  rfl
theorem ia (ns:List Int):cz (ns.map PyData.int)=enu 0 ns:=by
 unfold cz
 rw [List.range_eq_range',ZdU]
theorem n9:∀ (ns:List Int) (k:Nat),(enu k ns).length=ns.length
 | [],k=>rfl
 | n::ns,k=>by rw [enu,List.length_cons,List.length_cons,n9 ns]
noncomputable def bT:Nat->List Int->List Int
 | _,[]=>[]
 | k,n::ns=>if n > 0 then (k:Int)::bT (k+1) ns else bT (k+1) ns
theorem nA:∀ {ns:List Int} {k:Nat} {x:Int},x∈bT k ns->(k:Int)<=x/\x < k+ns.length
 | [],k,x,h=>by cases h
 | n::ns,k,x,h=>by
  unfold bT at h
  rw [List.length_cons]
  split at h
  ·rcases List.mem_cons.mp h with rfl | h
   ·omega
   ·have:=nA h
    omega
  ·have:=nA h
   omega
theorem qC:∀ {ns:List Int} {k:Nat},(∃ n∈ns,n > 0)->bT k ns≠[]
 | [],k,h=>by obtain ⟨n,h,_⟩:=h; cases h
 | n::ns,k,h=>by
  unfold bT
  split
  ·simp
  ·rename_i hn
   obtain ⟨m,hm,hp⟩:=h
   rcases List.mem_cons.mp hm with rfl | hm
   ·exact absurd hp hn
   ·exact qC ⟨m,hm,hp⟩
noncomputable def great (ls:List Int):Int:=eB (bT 0 ls)
noncomputable def reach (fs:List (List Int)):Int:=(fs.map great).sum
structure DayOk (most:Nat) (ls:List Int):Prop where
 len:ls.length<=most
 pos:∃ n∈ls,n > 0
 le:∀ n∈ls,0<=n/\n<=1001
theorem DayOk.mono {m n:Nat} {ls:List Int} (h:DayOk m ls) (hm:m<=n):DayOk n ls:=⟨Nat.le_trans h.len hm,h.pos,h.le⟩
theorem Zgo {ls:List Int} (h:∀ n∈ls,0<=n):∀ n∈ls,n<=ls.sum:=by
 induction ls with
 | nil=>intro n hn; cases hn
 | cons a l ih =>
  intro n hn
  have h0:0<=l.sum:=by
   clear ih hn
   have h':∀ n∈l,0<=n:=λm hm=>h m (List.mem_cons_of_mem _ hm)
   clear h
   induction l with
   | nil=>decide
   | cons b l ih2 =>
    rw [List.sum_cons]
    have:=h' b (by simp)
    have:=ih2 λm hm=>h' m (List.mem_cons_of_mem _ hm)
    omega
  have ha:=h a (by simp)
  rw [List.sum_cons]
  rcases List.mem_cons.mp hn with rfl | hn
  ·omega
  ·have:=ih (λm hm=>h m (List.mem_cons_of_mem _ hm)) n hn
   omega
theorem ZaL:∀ {ns:List Int},(∀ n∈ns,0<=n)->ns.sum≠0->∃ n∈ns,n > 0
 | [],_,h=>absurd rfl h
 | n::ns,hn,h=>by
  by_cases hp:n > 0
  ·exact ⟨n,by simp,hp⟩
  ·have h0:=hn n (by simp)
   rw [List.sum_cons] at h
   obtain ⟨m,hm,hp⟩:=ZaL (ns:=ns) (λm hm=>hn m (List.mem_cons_of_mem _ hm)) (by omega)
   exact ⟨m,List.mem_cons_of_mem _ hm,hp⟩
theorem DayOk.B {m:Nat} {ls:List Int} (h:DayOk m ls) (hm:m<=16):DayB ls:=by
 refine ⟨Nat.le_trans h.len hm,λw hw=>?_,λw hw=>(h.le w hw).1,?_⟩
 ·have:=h.le w hw
  exact b6 (by show -1073741824 < _; omega) (by show _ < 1073741824; omega)
 ·obtain ⟨n,hn,hp⟩:=h.pos
  have:=Zgo (λn hn=>(h.le n hn).1) n hn
  omega
theorem ZjH {most:Nat} {ls:List Int} (h:DayOk most ls):0<=great ls/\great ls<=(most:Int) - 1:=by
 have h1:=(nS (qC (k:=0) h.pos)).1
 have h2:=nA h1
 have:=h.len
 unfold great
 omega
theorem ZbL:∀ {fs:List (List Int)} {most:Nat},1<=most->(∀ ls∈fs,DayOk most ls)->0<=reach fs/\reach fs<=fs.length * ((most:Int) - 1)
 | [],most,_,_=>by unfold reach; simp
 | ls::fs,most,hm,h=>by
  have ih:=ZbL (fs:=fs) hm λl hl=>h l (List.mem_cons_of_mem _ hl)
  have hg:=ZjH (h ls (by simp))
  unfold reach at ih ⊢
  rw [List.map_cons,List.sum_cons,List.length_cons]
  have e:(((fs.length+1:Nat):Int)) * ((most:Int) - 1)=fs.length * ((most:Int) - 1)+((most:Int) - 1):=by
   rw [Int.natCast_add,Int.add_mul]
   simp
  rw [e]
  omega
structure Shp.Dr (s:Shp):Prop where
 t0:0<=s.top
 d0:0<=s.depth
 td:s.top+s.depth<=39
 p:∀ n∈[s.start,s.piece,s.keep,s.lack,s.lost,s.back,s.late],0<=n/\n<=1000000
theorem Shp.Dr.ok {s:Shp} (h:s.Dr):s.Ok:=by
 have hp:=h.p
 simp only [List.mem_cons,List.not_mem_nil,or_false,forall_eq_or_imp,forall_eq] at hp
 obtain ⟨h1,h2,h3,h4,h5,h6,h7⟩:=hp
 have k:∀ n:Int,0<=n/\n<=1000000->nb 45 n:=λn hn=>b6 (by show -35184372088832 < _; omega) (by show _ < 35184372088832; omega)
 exact ⟨h.t0,h.d0,by have:=h.td; omega,h1.1,k _ h1,k _ h2,k _ h3,k _ h4,k _ h5,k _ h6,k _ h7⟩
theorem ZgC {a b c d e f g h i:Int}:PyData.tuple [.int a,.int b,.int c,.int d,.int e,.int f,.int g,.int h,.int i]=(Shp.mk a b c d e f g h i).d:=by
 unfold Shp.d
 rfl
theorem vS (l:List Int):gk (tI l)=.ret (l.map PyData.int):=rfl
theorem sy (l:List (List Int)):gk (fD l)=.ret (l.map tI):=rfl
theorem ua (l:List Int):bh cg [tI l]=.ret (.int l.sum):=fJ l
end Tw
set_option Elab.async false
set_option linter.all false
set_option maxRecDepth 100000
set_option exponentiation.threshold 9000
namespace Tw
open PySem L2
structure Rp (d:PyData) (k n:Nat):Prop where
 hd:d.hasDict=false
 sh:d.showable=true
 dp:d.depth<=k
 ln:d.shown.length<=n
theorem ZgZ {d:PyData} {k n:Nat} (h:Rp d k n) (hk:k<=32) (hn:n<=10000000):nK d=true:=by
 unfold nK
 rw [h.hd,h.sh,decide_eq_true (Nat.le_trans h.dp hk),decide_eq_true (Nat.le_trans h.ln (Nat.le_trans hn (by rw [sizeLine_eq]; decide)))]
 rfl
theorem oO {d:PyData} {k n k' n':Nat} (h:Rp d k n) (hk:k<=k') (hn:n<=n'):Rp d k' n':=⟨h.hd,h.sh,Nat.le_trans h.dp hk,Nat.le_trans h.ln hn⟩
theorem Zg1 {i:Int} (h:nb 1900 i):Rp (.int i) 0 1901:=by
 have h1:=ZaY [i] λn hn=>by simp at hn; subst hn; exact h
 have h2:=(ZaX [i] λn hn=>by simp at hn; subst hn; exact h).1
 refine ⟨rfl,?_,Nat.zero_le _,?_⟩
 ·simp only [List.map_cons,List.map_nil,PyData.showableAll,Bool.and_true] at h1
  exact h1
 ·simp only [List.map_cons,List.map_nil,PyData.shownAll,List.sum_cons,List.sum_nil,List.length_cons,List.length_nil] at h2
  omega
theorem uG {k n:Nat}:∀ {xs:List PyData},(∀ x∈xs,Rp x k n)->PyData.hasDictAll xs=false/\PyData.showableAll xs=true/\PyData.depthAll xs<=k/\((PyData.shownAll xs).map (·.length)).sum<=xs.length * n/\(PyData.shownAll xs).length=xs.length
 | [],_=>⟨rfl,rfl,Nat.zero_le _,by simp [PyData.shownAll],rfl⟩
 | x::xs,h=>by
  obtain ⟨h1,h2,h3,h4,h5⟩:=uG (xs:=xs) λy hy=>h y (List.mem_cons_of_mem _ hy)
  have hx:=h x (by simp)
  refine ⟨?_,?_,?_,?_,?_⟩
  ·rw [PyData.hasDictAll,hx.hd,h1]; rfl
  ·rw [PyData.showableAll,hx.sh,h2]; rfl
  ·rw [PyData.depthAll]; have:=hx.dp; omega
  ·rw [PyData.shownAll,List.map_cons,List.sum_cons,List.length_cons,Nat.succ_mul]; have:=hx.ln; omega
  ·rw [PyData.shownAll,List.length_cons,List.length_cons,h5]
theorem Zbv {xs:List PyData} {k n:Nat} (h:∀ x∈xs,Rp x k n):Rp (.tuple xs) (k+1) (xs.length * n+2 * xs.length+10):=by
 obtain ⟨h1,h2,h3,h4,h5⟩:=uG h
 have c3:=tupleText_len_le (PyData.shownAll xs)
 refine ⟨?_,?_,?_,?_⟩
 ·rw [PyData.hasDict,h1]
 ·rw [PyData.showable,h2]
 ·rw [PyData.depth]; omega
 ·rw [PyData.shown]; omega
theorem Zg0 {xs:List PyData} {k n:Nat} (h:∀ x∈xs,Rp x k n):Rp (.list xs) (k+1) (xs.length * n+2 * xs.length+10):=by
 obtain ⟨h1,h2,h3,h4,h5⟩:=uG h
 have c3:=listText_len_le (PyData.shownAll xs)
 refine ⟨?_,?_,?_,?_⟩
 ·rw [PyData.hasDict,h1]
 ·rw [PyData.showable,h2]
 ·rw [PyData.depth]; omega
 ·rw [PyData.shown]; omega
theorem Zbw {l:List Int} {m:Nat} (h:∀ n∈l,nb 1900 n) (hl:l.length<=m):Rp (tI l) 1 (m * 1903+10):=by
 refine oO (Zbv (k:=0) (n:=1901) λx hx=>?_) (Nat.le_refl _) ?_
 ·obtain ⟨i,hi,rfl⟩:=List.mem_map.mp hx
  exact Zg1 (h i hi)
 ·rw [List.length_map]
  have:l.length * 1903<=m * 1903:=Nat.mul_le_mul_right _ hl
  omega
theorem ZgY {s:Shp} (h:s.Ok):Rp s.d 1 20000:=by
 have e:s.d=tI s.l:=by unfold Shp.d; rfl
 rw [e]
 refine oO (Zbw (m:=9) (λn hn=>?_) (Nat.le_refl _)) (Nat.le_refl _) (by decide)
 have:=h.t0
 have:=h.d0
 have:=h.td
 unfold Shp.l at hn
 simp only [List.mem_cons,List.not_mem_nil,or_false] at hn
 have k:∀ n:Int,nb 45 n->nb 1900 n:=λn hn=>bf hn (by decide)
 have k1:nb 1900 s.top:=k _ (b6 (by show -35184372088832 < _; omega) (by show _ < 35184372088832; omega))
 have k2:nb 1900 s.depth:=k _ (b6 (by show -35184372088832 < _; omega) (by show _ < 35184372088832; omega))
 rcases hn with rfl | rfl | rfl | rfl | rfl | rfl | rfl | rfl | rfl
 ·exact k1
 ·exact k2
 ·exact k _ h.start
 ·exact k _ h.piece
 ·exact k _ h.keep
 ·exact k _ h.lack
 ·exact k _ h.lost
 ·exact k _ h.back
 ·exact k _ h.late
theorem Zg3 {l:List Int} (h:DayB l):Rp (tI l) 1 40000:=oO (Zbw (m:=16) (λn hn=>bf (h.nb n hn) (by decide)) h.len) (Nat.le_refl _) (by decide)
theorem Zg2 {fs:List (List Int)} (h:∀ l∈fs,DayB l) (hl:fs.length<=10):Rp (fD fs) 2 500000:=by
 refine oO (Zbv (k:=1) (n:=40000) λx hx=>?_) (Nat.le_refl _) ?_
 ·obtain ⟨l,hm,rfl⟩:=List.mem_map.mp hx
  exact Zg3 (h l hm)
 ·rw [List.length_map]
  have:fs.length * 40000<=10 * 40000:=Nat.mul_le_mul_right _ hl
  omega
theorem Zgs (x:Str):(x == x)=true:=by simp
end Tw
set_option Elab.async false
set_option linter.all false
set_option maxRecDepth 100000
set_option exponentiation.threshold 9000
namespace Tw
open PySem L2
theorem euclid {p:List Sl->Tr Bool} {s:List Sl->Tr Ou} {E:Nat->Nat->List Sl} (hp:∀ a b:Nat,p (E a b)=.ret (decide (b≠0))) (hs:∀ a b:Nat,b≠0->s (E a b)=.ret (.next (E b (a % b)))) :
  ∀ n k a b:Nat,b < 2 ^ n->dQ p s (2 * n+1+k) (E a b)=.ret (.next (E (Nat.gcd a b) 0)):=by
 have stop:∀ k a:Nat,dQ p s (k+1) (E a 0)=.ret (.next (E a 0)):=λk a=>by
  rw [dQ,hp,Tr.ret_bind]
  rfl
 have go:∀ k a b:Nat,b≠0->dQ p s (k+1) (E a b)=dQ p s k (E b (a % b)):=λk a b hb=>by
  rw [dQ,hp,Tr.ret_bind,decide_eq_true hb,if_pos rfl,hs a b hb,Tr.ret_bind]
 intro n
 induction n with
 | zero =>
  intro k a b hb
  have e:b=0:=by simp at hb; exact hb
  subst e
  rw [Nat.gcd_zero_right,Nat.add_comm (2 * 0+1) k]
  exact stop k a
 | succ n ih =>
  intro k a b hb
  by_cases h0:b=0
  ·subst h0
   have e:2 * (n+1)+1+k=(2 * (n+1)+k)+1:=by omega
   rw [Nat.gcd_zero_right,e]
   exact stop _ a
  ·have e:2 * (n+1)+1+k=(2 * n+2+k)+1:=by omega
   rw [e,go _ a b h0]
   have hr:a % b < b:=Nat.mod_lt _ (Nat.pos_of_ne_zero h0)
   by_cases h1:a % b=0
   ·rw [h1]
    have e2:2 * n+2+k=(2 * n+1+k)+1:=by omega
    have eg:Nat.gcd a b=b:=by rw [Nat.gcd_comm,Nat.gcd_rec,h1,Nat.gcd_zero_left]
    rw [e2,eg]
    exact stop _ b
   ·have e2:2 * n+2+k=(2 * n+1+k)+1:=by omega
    rw [e2,go _ b (a % b) h1]
    have hlt:b % (a % b) < 2 ^ n:=by
     have h2:b % (a % b) < a % b:=Nat.mod_lt _ (Nat.pos_of_ne_zero h1)
     have h3:b % (a % b)+a % b<=b:=by
      have h4:=Nat.div_add_mod b (a % b)
      have h5:1<=b / (a % b):=(Nat.le_div_iff_mul_le (Nat.pos_of_ne_zero h1)).mpr (by omega)
      have h6:a % b<=(a % b) * (b / (a % b)):=Nat.le_mul_of_pos_right _ h5
      omega
     rw [Nat.pow_succ] at hb
     omega
    rw [ih k (a % b) (b % (a % b)) hlt]
    have eg:Nat.gcd a b=Nat.gcd (a % b) (b % (a % b)):=by
     rw [Nat.gcd_comm a b,Nat.gcd_rec b a,Nat.gcd_rec (a % b) b,Nat.gcd_comm]
    rw [eg]
theorem ZdK (a b:Nat):(a:Int).fmod (b:Int)=((a % b:Nat):Int):=by
 rw [Int.fmod_eq_emod_of_nonneg _ (Int.natCast_nonneg b)]
 rfl
theorem Zfq (n:Int):sV n=(n.natAbs:Int):=by
 unfold sV
 split <;> omega
noncomputable def nD (t b:Int):PyData:=.tuple [.int (Gc.hI t b),.int (Gc.gg t b)]
theorem ZiU {t b:Int} {k l:Nat} (ht:nb k t) (hb:nb l b) (h0:b≠0):nb k (Gc.hI t b)/\nb l (Gc.gg t b):=by
 obtain ⟨h1,h2⟩:=Gc.ZiV (t:=t) h0
 exact ⟨Nat.lt_of_le_of_lt h1 ht,Nat.lt_of_le_of_lt h2 hb⟩
theorem ZkN {t b:Int} {l:Nat} (hb:nb l b) (h0:b≠0):nb l (Gc.den t b):=by
 unfold nb
 rw [Gc.wf]
 exact Nat.lt_of_le_of_lt (Nat.gcd_le_right _ (by omega)) hb
noncomputable def oa (c sc l:Int):PyData:=.tuple [nD c sc,.int l]
noncomputable def pr (p:Int×Int):List Int:=[p.1,p.2]
end Tw
set_option Elab.async false
set_option linter.all false
set_option maxRecDepth 100000
namespace L2
open PySem PySem.Spec PyProof.Rows
variable {PK:Pk} {X:Cx} {st:Stmt} {i n:List Sl->Tr PyData}
noncomputable def Zb6 (K:PySem.W.Frag):V->V->Hp->VK->Prop:=λx y H Q=>∃ p xs i v,x=.ref p/\y=.int i/\SqL K H p xs/\0<=i/\bw xs i=some v/\Q v H
theorem ZjI:Zfx X (Zb6 X.K):=by
 intro pins s σ H x y v u Q I rx ry h
 obtain ⟨p,xs,i,z,rfl,rfl,hq,h0,he,q⟩:=h
 cases rx
 obtain ⟨t,rfl⟩:=ry
 obtain ⟨its,r,pl,hz⟩:=I.list hq
 obtain ⟨j,h1,h2,h3,h4,h5⟩:=sP he
 obtain ⟨w,ew,rw'⟩:=r.get h2
 have hl:=r.length
 have hn:=hU
 have fin:EP X pins σ Q w s:=⟨z,H,I,rw',q⟩
 have hj:i.toNat=j:=by
  rw [seqIndex_of h0 h5] at h1
  exact Option.some.inj h1
 exact wpAny_getItem_list pl.isList h0 (by omega) (by rw [hj]; simpa using ew) fin
noncomputable def vn (xs:List PyData):PyData->Option (Nat×Int)
 | .int y=>if 0<=y then (match xs[y.toNat]? with | some (.int a)=>some (y.toNat,a) | _=>none) else none
 | _=>none
noncomputable def Zdw:PyData->Option Int
 | .int b=>some b
 | _=>none
noncomputable def qi (g:Int->Int->Int) (k:Nat) (n i:List Sl->Tr PyData):List Sl->Tr Ou:=λρ=>match ρ[k]? with
 | some (.own xs)=>(n ρ).bind λy=>(Tr.of (vn xs y)).bind λja=>(i ρ).bind λz=>(Tr.of (Zdw z)).bind λb=>.ret (.next (ρ.set k (.own (xs.set ja.1 (.int (g ja.2 b))))))
 | _=>.fail
theorem Zmh {k:Nat} {g:Int->Int->Int} (h:PS X st (ZaH (dm k) (TAe PK n) (TAe PK i) (Zb6 X.K) (ipI g) uM)):PS X st (bg PK (qi g k n i)):=h.imp λD σ H hz0=>by
 obtain ⟨pa,G₀,H₀,m,ρ,G,R,z⟩:=hz0
 unfold qi at z
 split at z
 ·rename_i xs hx
  obtain ⟨o,h1,h2⟩:=R.sl k _ hx
  cases h2 with
  | @own p vs _ a1 a2 a3 a4 =>
   refine ⟨_,h1,?_⟩
   refine TAe.then R z λm1 y v G1 H1 s1 w1 R1 d1 q1=>?_
   rw [Tr.ok_bind] at q1
   obtain ⟨ja,hja,q1⟩:=Tr.ok_of q1
   cases d1 with
   | int y =>
    have hy:∃ a,0<=y/\xs[y.toNat]?=some (.int a)/\ja=(y.toNat,a):=by
     have hja:(if 0<=y then (match xs[y.toNat]? with | some (.int a)=>some (y.toNat,a) | _=>none) else none)=some ja:=hja
     by_cases h0:0<=y
     ·rw [if_pos h0] at hja
      cases e:xs[y.toNat]? with
      | none=>rw [e] at hja; cases hja
      | some u =>
       rw [e] at hja
       cases u with
       | int a=>cases hja; exact ⟨a,h0,rfl,rfl⟩
       | _=>cases hja
     ·rw [if_neg h0] at hja; cases hja
    obtain ⟨a,h0,hat,rfl⟩:=hy
    obtain ⟨o,h1',h2⟩:=R1.sl k _ hx
    rw [h1] at h1'
    cases h1'
    cases h2 with
    | @own _ vs1 _ b1 b2 b3 b4 =>
     obtain ⟨va,hva,da⟩:=DnAll.get y.toNat b4 hat
     cases da
     refine ⟨p,vs1,y,.int a,rfl,rfl,SqL.of b1,h0,il h0 hva,?_⟩
     refine TAe.then R1 q1 λm2 z2 u G2 H2 s2 w2 R2 d2 q2=>?_
     rw [Tr.ok_bind] at q2
     obtain ⟨b,hb,q2⟩:=Tr.ok_of q2
     cases d2 with
     | int b' =>
      cases hb
      obtain ⟨o,h1',h2⟩:=R2.sl k _ hx
      rw [h1] at h1'
      cases h1'
      cases h2 with
      | @own _ vs2 _ c1 c2 c3 c4 =>
       have hlt:y.toNat < xs.length:=(List.getElem?_eq_some_iff.mp hat).1
       refine ⟨a,b,rfl,rfl,p,vs2,y,y.toNat,rfl,rfl,c1,?_,?_⟩
       ·unfold dJ
        rw [if_pos h0,if_pos (by rw [c4.length]; omega)]
       ·exact q2 σ G2 _ (s1.gs.trans s2.gs) (R2.change hx h1 (c4.set y.toNat (.int _)))
     | _=>cases hb
   | _=>cases hja
 ·exact z.elim
variable {ρ:List Sl} {k:Nat} {g:Int->Int->Int} {xs:List PyData} {sl:Sl}
noncomputable def ag3 (g:Int->Int->Int) (k:Nat) (xs:List PyData) (ρ:List Sl) (ja:Nat×Int) (b:Int):Tr Ou:=.ret (.next (ρ.set k (.own (xs.set ja.1 (.int (g ja.2 b))))))
noncomputable def wJ (g:Int->Int->Int) (k:Nat) (xs:List PyData) (ρ:List Sl) (ja:Nat×Int) (z:PyData):Tr Ou:=(Tr.of (Zdw z)).bind (ag3 g k xs ρ ja)
noncomputable def wK (g:Int->Int->Int) (k:Nat) (i:List Sl->Tr PyData) (xs:List PyData) (ρ:List Sl) (ja:Nat×Int):Tr Ou:=(i ρ).bind (wJ g k xs ρ ja)
noncomputable def wL (g:Int->Int->Int) (k:Nat) (i:List Sl->Tr PyData) (xs:List PyData) (ρ:List Sl) (y:PyData):Tr Ou:=(Tr.of (vn xs y)).bind (wK g k i xs ρ)
theorem Zkb (h:ρ[k]?=some (.own xs)):qi g k n i ρ=(n ρ).bind (wL g k i xs ρ):=by
 unfold qi
 rw [h]
 rfl
theorem Zke {y:Int} {a:Int} (h0:0<=y) (h:xs[y.toNat]?=some (.int a)):wL g k i xs ρ (.int y)=wK g k i xs ρ (y.toNat,a):=by
 have e:vn xs (.int y)=some (y.toNat,a):=by
  show (if 0<=y then (match xs[y.toNat]? with | some (.int a)=>some (y.toNat,a) | _=>none) else none)=_
  rw [if_pos h0,h]
 unfold wL
 rw [e]
 rfl
theorem Zkd {ja:Nat×Int}:wK g k i xs ρ ja=(i ρ).bind (wJ g k xs ρ ja):=rfl
theorem Zkc {ja:Nat×Int} (b:Int):wJ g k xs ρ ja (.int b)=.ret (.next (ρ.set k (.own (xs.set ja.1 (.int (g ja.2 b)))))):=rfl
end L2
set_option Elab.async false
set_option linter.all false
set_option maxRecDepth 100000
namespace L2
open PySem PySem.Spec PyProof.Rows
section
variable {PK:Pk} {X:Cx} {pos:Pos} {i j:List Sl->Tr PyData}
theorem Kn.dct {pa:Addr} {m:Nat} {G H:Hp} {ks:List (am×V)} {ds:List PyData} {Q:VK} {p:Addr} (k:Kn PK pa m G H (.dict ((ks.map λk=>match k.1 with | .inl i=>PyData.int i | .inr x=>PyData.str x).zip ds)) Q) (w:Wd PK pa m G H) (d:DnAll G (ks.map (·.2)) ds) (hp:H p=none):Q (.ref p) (upd H p (.dK ks)):=by
 obtain ⟨w1,s1⟩:=w.new (o:=.dK ks) hp
 exact k _ _ _ s1 w1 (.dct (.inl bE) (DnAll.mono s1.gs d))
end
end L2
set_option Elab.async false
set_option linter.all false
set_option maxRecDepth 100000
namespace PySem
open Sem (wp)
section
variable {prog:Program} {w:World} {A:Around} {E:Value->Shared->Prop} {s:Shared} {a:Addr} {o:Obj} {xs:Array Value} {k:Nat}
end
end PySem
set_option Elab.async false
set_option linter.all false
set_option maxRecDepth 100000
namespace PySem
open Sem (wp)
section
variable {prog:Program} {w:World} {A:Around} {E:Value->Shared->Prop} {s:Shared}
end
end PySem
set_option Elab.async false
set_option linter.all false
set_option maxRecDepth 100000
namespace PySem
open Sem (wp)
section
variable {prog:Program} {w:World} {A:Around} {E:Value->Shared->Prop} {s:Shared}
end
section
variable {K:Type} [DecidableEq K]
end
end PySem
namespace L2
open PySem PySem.Spec PyProof.Rows
section
variable {prog:Program} {w:World} {A:Around} {R:Result->Shared->Prop} {K:Type} [DecidableEq K] {knd:KeyKind prog w K} {kf:Nat->K}
theorem xf {h h':Heap} {d:Addr} {kvs:List (K×Value)} (x:h.DictOf knd d kvs) (k:∀ o,h.get? d=some o->h'.get? d=some o):h'.DictOf knd d kvs :=
 let ⟨o,es,ep,ho,r⟩:=x; ⟨o,es,ep,k o ho,r⟩
end
end L2
set_option Elab.async false
set_option linter.all false
set_option maxRecDepth 100000
namespace L2
open PySem PySem.Spec PyProof.Rows
section
variable {prog:Program} {w:World} {A:Around} {E:Value->Shared->Prop} {s:Shared} {K:Type} [DecidableEq K] {knd:KeyKind prog w K} {kf:Nat->K}
end
end L2
set_option Elab.async false
set_option linter.all false
set_option maxRecDepth 100000
namespace L2
open PySem PySem.Spec PyProof.Rows
section
variable {PK:Pk} {X:Cx} {a:Expr} {p p2 pos pos2:Pos} {i:List Sl->Tr PyData}
end
end L2
set_option Elab.async false
set_option linter.all false
set_option maxRecDepth 100000
namespace L2
open PySem PySem.Spec PyProof.Rows
section
variable {X:Cx} {PK:Pk} {e:Expr} {es:List Expr} {i:List Sl->Tr PyData} {is:List Sl->Tr (List PyData)}
end
end L2
set_option Elab.async false
set_option linter.all false
set_option maxRecDepth 100000
namespace L2
open PySem PySem.Spec PyProof.Rows
section
variable {prog:Program} {w:World} {A:Around} {R:Result->Shared->Prop} {K:Type} [DecidableEq K] {knd:KeyKind prog w K} {kf:Nat->K} {lo:Int}
end
section
variable {prog:Program} {w:World} {A:Around} {E:Value->Shared->Prop} {s:Shared} {K:Type} [DecidableEq K] {knd:KeyKind prog w K} {kf:Nat->K} {lo:Int}
end
end L2
set_option Elab.async false
set_option linter.all false
set_option maxRecDepth 100000
namespace L2
open PySem PySem.Spec PyProof.Rows
theorem Zi7 {ks:List (am×V)} {vs:List (am×Value)} (r:KV ks vs):ks.length=vs.length:=by
 induction r with
 | nil=>rfl
 | cons _ _ ih=>rw [List.length_cons,List.length_cons,ih]
end L2
set_option Elab.async false
set_option linter.all false
set_option maxRecDepth 100000
namespace L2
open PySem PySem.Spec PyProof.Rows
end L2
set_option Elab.async false
set_option linter.all false
set_option maxRecDepth 100000
namespace L2
open PySem PySem.Spec PyProof.Rows
section
variable {X:Cx} {tg:Expr}
end
variable {PK:Pk} {X:Cx} {is:List Sl->Tr (List PyData)} {ρ:List Sl}
end L2
set_option Elab.async false
set_option linter.all false
set_option maxRecDepth 100000
namespace L2
open PySem PySem.Spec PyProof.Rows
noncomputable def dD (kvs:List (Int×PyData)):PyData:=.dict (kvs.map λkv=>(.int kv.1,kv.2))
noncomputable def gS (kvs:List (Int×PyData)) (k:Int) (v:PyData):List (Int×PyData) :=
 if (kvs.any λkv=>decide (kv.1=k))=true then kvs.map (λkv=>if kv.1=k then (kv.1,v) else kv) else kvs++[(k,v)]
section
variable {G:Hp} {ks:List (am×V)} {kvs:List (Int×PyData)}
theorem Zdg (i k:Int):decide ((Sum.inl i:am)=Sum.inl k)=decide (i=k):=by
 by_cases h:i=k
 ·subst h; simp
 ·rw [decide_eq_false h,decide_eq_false λe=>h (Sum.inl.inj e)]
theorem KD.any (h:KD G ks kvs) (k:Int):(ks.any λkv=>decide (kv.1=Sum.inl k))=kvs.any λkv=>decide (kv.1=k):=by
 induction h with
 | nil=>rfl
 | cons _ _ ih=>rw [List.any_cons,List.any_cons,ih]; dsimp only; rw [Zdg]
theorem KD.snoc (h:KD G ks kvs) {k:Int} {v:V} {d:PyData} (hd:Dn G v d):KD G (ks++[(.inl k,v)]) (kvs++[(k,d)]):=by
 induction h with
 | nil=>exact .cons hd .nil
 | cons h1 _ ih=>exact .cons h1 ih
theorem KD.map (h:KD G ks kvs) {k:Int} {v:V} {d:PyData} (hd:Dn G v d):KD G (ks.map λkv=>if kv.1=Sum.inl k then (kv.1,v) else kv) (kvs.map λkv=>if kv.1=k then (kv.1,d) else kv):=by
 induction h with
 | nil=>exact .nil
 | @cons i u x ks kvs h1 _ ih =>
  rw [List.map_cons,List.map_cons]
  by_cases hk:i=k
  ·subst hk
   rw [if_pos rfl,if_pos rfl]
   exact .cons hd ih
  ·rw [if_neg (λe=>hk (Sum.inl.inj e)),if_neg hk]
   exact .cons h1 ih
theorem KD.put (h:KD G ks kvs) (k:Int) {v:V} {d:PyData} (hd:Dn G v d):KD G (bx ks (.inl k) v) (gS kvs k d):=by
 unfold bx gS
 rw [h.any]
 split
 ·exact h.map hd
 ·exact h.snoc hd
theorem KD.vals (h:KD G ks kvs):DnAll G (ks.map (·.2)) (kvs.map (·.2)):=by
 induction h with
 | nil=>exact .nil
 | cons h1 _ ih=>exact .cons h1 ih
theorem KD.zip (h:KD G ks kvs):((ks.map λk=>match k.1 with | .inl i=>PyData.int i | .inr x=>PyData.str x).zip (kvs.map (·.2)))=kvs.map λkv=>(.int kv.1,kv.2):=by
 induction h with
 | nil=>rfl
 | cons h1 _ ih=>rw [List.map_cons,List.map_cons,List.zip_cons_cons,ih,List.map_cons]
end
section
variable {PK:Pk} {pa:Addr} {G₀ H₀ G H:Hp} {m:Nat} {σ:St} {ρ:List Sl}
end
variable {PK:Pk} {X:Cx} {a b c e:Expr} {es:List Expr} {pos:Pos} {i j l:List Sl->Tr PyData} {is:List Sl->Tr (List PyData)} {st:Stmt} {s:List Sl->Tr Ou}
noncomputable def Zna (k:Nat) (n i:List Sl->Tr PyData):List Sl->Tr Ou:=λρ=>(i ρ).bind λx=>match ρ[k]? with
 | some (.dic xs)=>(n ρ).bind λy=>match y with
  | .int y=>if small (xs.length+1)=true then .ret (.next (ρ.set k (.dic (gS xs y x)))) else .fail
  | _=>.fail
 | _=>.fail
noncomputable def fk:PyData->PyData->Option PyData
 | .dict kvs,.int k=>(kvs.find? λkv=>match kv.1 with | .int i=>decide (i=k) | _=>false).map (·.2)
 | _,_=>none
theorem wg {G:Hp} {k:Int} {d:PyData}:∀ {ks:List (am×V)} {ds:List PyData},DnAll G (ks.map (·.2)) ds->fk (.dict ((ks.map λk=>match k.1 with | .inl i=>PyData.int i | .inr x=>PyData.str x).zip ds)) (.int k)=some d->∃ v,bC ks (.inl k)=some v/\Dn G v d
 | [],_,h,e=>by cases h; cases e
 | kv::ks,_,h,e=>by
  rw [List.map_cons] at h
  cases h with
  | @cons _ _ x ds h1 h2 =>
   rw [List.map_cons,List.zip_cons_cons] at e
   obtain ⟨q,v⟩:=kv
   cases q with
   | inl i =>
    by_cases hk:i=k
    ·subst hk
     refine ⟨v,dk rfl,?_⟩
     have e':some x=some d:=by
      rw [<- e]
      show _=Option.map _ (List.find? _ _)
      rw [List.find?_cons]
      simp
     cases e'
     exact h1
    ·have e2:fk (.dict ((ks.map λk=>match k.1 with | .inl i=>PyData.int i | .inr x=>PyData.str x).zip ds)) (.int k)=some d:=by
      rw [<- e]
      show Option.map _ (List.find? _ _)=Option.map _ (List.find? _ _)
      rw [List.find?_cons]
      simp [hk]
     obtain ⟨v',hv,dn⟩:=wg h2 e2
     refine ⟨v',?_,dn⟩
     rw [<- hv]
     unfold bC
     rw [List.find?_cons]
     dsimp only
     rw [Zdg,decide_eq_false hk]
   | inr y =>
    have e2:fk (.dict ((ks.map λk=>match k.1 with | .inl i=>PyData.int i | .inr x=>PyData.str x).zip ds)) (.int k)=some d:=by
     rw [<- e]
     show Option.map _ (List.find? _ _)=Option.map _ (List.find? _ _)
     rw [List.find?_cons]
    obtain ⟨v',hv,dn⟩:=wg h2 e2
    refine ⟨v',?_,dn⟩
    rw [<- hv]
    unfold bC
    rw [List.find?_cons]
    simp
theorem Rd.up {G H:Hp} (s:Sub G H) {a:Addr} {u:HO} (h:Rd G a u):Rd H a u:=h.imp (s _ _) λ⟨o,h⟩=>⟨o,s _ _ h⟩
theorem Zfn (h:PE X e (t7 (TAe PK i) (TAe PK j))):PE X e (TAe PK (ad fk i j)):=h.imp λσ H Q hz0=>by
 obtain ⟨pa,G₀,H₀,m,ρ,G,R,q⟩:=hz0
 refine TAe.then R q λm1 x v G1 H1 s1 w1 R1 d1 q1=>?_
 refine TAe.then R1 q1 λm2 y u G2 H2 s2 w2 R2 d2 q2=>?_
 obtain ⟨z,hz,k⟩:=Tr.ok_of q2
 cases d1 with
 | dct r1 r2 =>
  cases d2 with
  | int n =>
   obtain ⟨v',hv,dn⟩:=wg r2 hz
   exact ⟨_,v',rfl,.inl ⟨_,.inl n,(r1.up s2.gs).up w2.sub,rfl,hv.symm⟩,(Kn.later k (s1.trans s2 w1.some) w2.some).here w2 (dn.mono s2.gs)⟩
  | _=>cases hz
 | _=>cases hz
end L2
set_option Elab.async false
set_option linter.all false
set_option maxRecDepth 100000
namespace L2
open PySem PySem.Spec PyProof.Rows
section
variable {X:Cx} {pins:List (Addr×Obj)} {σ:St} {H:Hp} {s:Shared}
theorem Inv.trackD {D:Addr} {ys:List (am×V)} {us:List (am×Value)} (I:Inv X pins σ H s) (hD:H D=none) (ho:s.heap.DictOf (cp X.prog X.w) D us) (r:KV ys us) (hz:ys.length<=sizeLine) (hsys:(D == sysModules)=false)
  (hL:D≠X.env.locals) (hs0:X.s₀.heap.objs.size<=D) (hc:∀ x c,X.env.cells.lookup x=some c->c≠D) (hp:∀ p∈X.pn++pins,p.1≠D):Inv X pins σ (upd H D (.dK ys)) s:=by
 have ne:∀ {b:Addr} {o:HO},H b=some o->b≠D:=λe=>cL e hD
 refine I.step (g':=s.gens) (d':=s.drawn) (t':=s.toks) (h':=s.heap) (ch:=[D]) (λb hb=>?_) (λb o _ _ _ e _=>e) (λb o _ _ _ e _=>⟨o.slots,e⟩) (λb o hb e n=>?_) (λb o _ e=>⟨o,e⟩)
  (λb xs e=>by rw [az (ne e)]; exact e) (λb o u e=>by rw [az (ne e)]; exact e) (λb ps e=>⟨#[],by rw [az (ne e),e]; simp⟩) (λm hm=>hm) (λb u e=>?_) I.bare
 ·have e:b=D:=by simpa using hb
  subst e
  exact ⟨.inr hs0,hL,hc,hp⟩
 ·have hb':b≠D:=by simpa using hb
  rw [az hb']
  exact n
 ·by_cases hb:b=D
  ·subst hb
   rw [bE] at e
   cases e
   exact ⟨hz,hsys,us,r,ho⟩
  ·rw [az hb] at e
   exact (I.hok b u e).stay (λc v _ q=>q) (λc q=>by rw [az (ne q)]; exact q) λc xs q=>by rw [az (ne q)]; exact q
end
theorem Zlu (kx vx target iter:Expr) (scope:Scope) (pos:Pos) (it:Value) (D:Addr) (env:Env) :
  compTurn (.DictComp kx vx [⟨target,iter,[],0⟩] scope pos) 0 it (.ref D) env=(standAt iter.pos >>= λ_=>pyNext it >>= λr=>match r with
   | none=>pure (.done .next)
   | some v=>letOwnedTupleGo target it v >>= λ_=>assign target env v >>= λ_ =>
    (eval kx env >>= λkv=>holding [kv] (eval vx env) >>= λvv=>standAt { kx.pos with endLine:=vx.pos.endLine,endCol:=vx.pos.endCol } >>= λ_=>holding [kv,vv] (dictSet D kv vv)) >>= λ_ =>
     again (.compLoop (.DictComp kx vx [⟨target,iter,[],0⟩] scope pos) 0 it (.ref D) env)):=by rfl
theorem Zlw {prog:Program} {w:World} {A:Around} {R:Result->Shared->Prop} {s:Shared} {kx vx target iter:Expr} {scope:Scope} {pos:Pos} {it:Value} {D:Addr} {env:Env} (J:Nat->Shared->Prop)
  (step:∀ k s0,J k s0->wpAny (model prog w) A (pyNext it) (λgot s1=>match got with
   | none=>R (.ok .next) s1
   | some v=>wpAny (model prog w) A (letOwnedTupleGo target it v) (λ_ s2=>wpAny (model prog w) A (assign target env v) (λ_ s3=>wpAny (model prog w) A (eval kx env) (λkv s4 =>
     wpAny (model prog w) A (eval vx env) (λy s5=>wpAny (model prog w) A (dictSet D kv y) (λ_ s6=>∃ j,j < k/\J j s6) (λ_ _=>False) s5) (λ_ _=>False) s4) (λ_ _=>False) s3) (λ_ _=>False) s2) (λ_ _=>False) s1) (λ_ _=>False) s0)
  (k:Nat) (h:J k s):codeAny (model prog w) A (.compLoop (.DictComp kx vx [⟨target,iter,[],0⟩] scope pos) 0 it (.ref D) env) R s:=by
 refine codeAny_loop rfl J (λk0 s0 hJ=>?_) k h
 show wpAny _ _ ((compTurn (.DictComp kx vx [⟨target,iter,[],0⟩] scope pos) 0 it (.ref D) env).onRaise (λx=>do noteFrame x env; theTreesLotGoes x)) _ _ s0
 apply wpAny_noted
 rw [Zlu]
 refine wpAny_bind (wpAny_standAt (wpAny_bind (wpAny_mono (step k0 s0 hJ) (λgot s1 h1=>?_) λ_ _ z=>z.elim)))
 cases got with
 | none=>exact wpAny_pure h1
 | some v =>
  refine wpAny_bind (wpAny_mono h1 (λ_ s2 h2=>?_) λ_ _ z=>z.elim)
  refine wpAny_bind (wpAny_mono h2 (λ_ s3 h3=>?_) λ_ _ z=>z.elim)
  refine wpAny_bind (wpAny_bind (wpAny_mono h3 (λkv s4 h4=>?_) λ_ _ z=>z.elim))
  refine wpAny_bind (wpAny_holding (wpAny_mono h4 (λy s5 h5=>?_) λ_ _ z=>z.elim))
  refine wpAny_bind (wpAny_standAt (wpAny_holding (wpAny_mono h5 (λ_ s6 h6=>?_) λ_ _ z=>z.elim)))
  exact wpAny_pure ⟨rfl,h6⟩
noncomputable def oD (wi:TI) (n:Nat) (ix:List Nat) (g:Blk->TG) (tk te:Blk->TE):TE:=λσ H Q=>wi σ H λJ H1=>∀ b:Blk,∃ W:Nat->Nat->St->List (am×V)->Hp->Prop,(∃ m,W 0 m (cI n ix σ) [] H1)/\∀ i m τ ys H2,W i m τ ys H2 ->
 (J.stop i H2/\∀ p v H',H2 p=none->v=V.ref p->H'=upd H2 p (.dK ys)->Q v H') \/
 (J.go i H2/\ys.length < sizeLine/\∀ x H3,J.yld i H2 x H3->g b x τ H3 λτ2 H4=>tk b τ2 H4 λkv H5=>te b τ2 H5 λy H6=>∃ (z:Int) (m':Nat),kv=.int z/\m' < m/\W (i+1) m' τ2 (bx ys (.inl z) y) H6)
section
variable {X:Cx} {pins:List (Addr×Obj)} {σ:St} {H:Hp} {s:Shared}
theorem Zeq {kx vx target iter:Expr} {scope:Scope} {pos:Pos} {Nx ts:List Str} {ix:List Nat} {g:Blk->TG} {tk te:Blk->TE} {cl:List (Str×Addr)} {s2:Shared} {itv:Value} {R:Value->Addr->Result->Shared->Prop}
  {E:Value->Shared->Prop} {Q:VK}
  (hc:X.calm=true) (hg:∀ b,PG (aX X (bN Nx ts ix) scope b) target (g b)) (hk:∀ b,PE (aX X (bN Nx ts ix) scope b) kx (tk b)) (he:∀ b,PE (aX X (bN Nx ts ix) scope b) vx (te b))
  (hNx:X.N=Nx) (ok:BlkOk Nx X.env.scope scope ix) (cl1:∀ x c,cl.lookup x=some c->X.env.cells.lookup x=some c) (cl2:∀ y∈scope.names,y.2=.free->∃ c,cl.lookup y.1=some c)
  (h2:qo X pins σ target (λJ H1=>∀ b:Blk,∃ W:Nat->Nat->St->List (am×V)->Hp->Prop,(∃ m,W 0 m (cI ts.length ix σ) [] H1)/\∀ i m τ ys H2,W i m τ ys H2 ->
   (J.stop i H2/\∀ p v H',H2 p=none->v=V.ref p->H'=upd H2 p (.dK ys)->Q v H') \/
   (J.go i H2/\ys.length < sizeLine/\∀ x H3,J.yld i H2 x H3->g b x τ H3 λτ2 H4=>tk b τ2 H4 λkv H5=>te b τ2 H5 λy H6=>∃ (z:Int) (m':Nat),kv=.int z/\m' < m/\W (i+1) m' τ2 (bx ys (.inl z) y) H6)) itv s2)
  (hR:∀ (D C:Addr) (H':Hp) (s':Shared) (v:V),Inv X pins σ H' s'->v=.ref D->Q v H'->(∃ m,s'.heap.Ns C m)->H' C=none->C≠X.env.locals->X.s₀.heap.objs.size<=C->(∀ x c,X.env.cells.lookup x=some c->c≠C)->(∀ p∈X.pn++pins,p.1≠C) ->
   R (.ref D) C (.ok .next) s') :
  wpAny (model X.prog X.w) X.A newDict (λacc s₃=>wpAny (model X.prog X.w) X.A (newFunctionEnv scope X.env.globals cl [] X.env.qual none .none (some X.env)) (λcenv s₄ =>
   codeAny (model X.prog X.w) X.A (.compStart (.DictComp kx vx [⟨target,iter,[],0⟩] scope pos) 0 itv acc { cenv with scope:=relabel scope X.env }) (R acc cenv.locals) s₄) E s₃) E s2:=by
 obtain ⟨it,fp,tn,J,H1,e,I2,T,st2,f2,q2⟩:=h2
 subst e
 refine wpAny_newObj_type (tR ?_)
 dsimp only
 generalize hG:s2.heap.push { cls:=.type "dict",dict:=none,data:=.dict #[] }=G
 have hGs:G.objs.size=s2.heap.objs.size+1:=by rw [<- hG,Heap.size_push]
 have hfs:∀ b∈fp,b < s2.heap.objs.size:=λb hb=>let ⟨o,e,_⟩:=T.obj _ _ st2 b hb; Heap.lt_size e
 have kpG:∀ b o,G.get? b=some o->(pushCells (G.push { cls:=.type "dict",data:=.dict #[] }) scope.names).get? b=some o:=λb o e=>pushCells_keeps _ _ _ _ (Heap.get?_push_of_some _ e)
 have hns3:(pushCells (G.push { cls:=.type "dict",data:=.dict #[] }) scope.names).Ns G.objs.size (λ_=>none):=(Heap.Ns.new G (.type "dict")).keeps (pushCells_keeps _ _)
 obtain ⟨sp1,sp2,sp4,sp3⟩:=wq scope.names (G.push { cls:=.type "dict",data:=.dict #[] }) cl
 rw [Heap.size_push] at sp1 sp2 sp3 sp4
 generalize hh3:pushCells (G.push { cls:=.type "dict",data:=.dict #[] }) scope.names=h3 at kpG hns3 sp1 ⊢
 have kp:∀ b o,s2.heap.get? b=some o->h3.get? b=some o:=λb o e=>kpG b o (by rw [<- hG]; exact Heap.get?_push_of_some _ e)
 have hD3:h3.get? s2.heap.objs.size=some { cls:=.type "dict",data:=.dict #[] }:=kpG _ _ (by rw [<- hG]; exact Heap.get?_push_size _ rfl)
 have hDo:h3.DictOf (cp X.prog X.w) s2.heap.objs.size []:=xf (h:=G) (by rw [<- hG]; exact Heap.DictOf.new _) λo e=>kpG _ o e
 have clB:∀ x c,cl.lookup x=some c->c < G.objs.size+1:=λx c e=>by
  obtain ⟨v,q⟩:=I2.cell x c (cl1 x c e)
  exact Nat.lt_succ_of_lt (Nat.lt_of_lt_of_le q.lt (by rw [hGs]; exact Nat.le_succ _))
 have csI:=sp3 clB λx y c e1 e2=>I2.ok.inj x y c (cl1 x c e1) (cl1 y c e2)
 have cs1:∀ x c,(cellsFrom (G.objs.size+1) scope.names cl).lookup x=some c->X.env.cells.lookup x=some c\/(G.objs.size < c/\h3.IsCell c none/\(x,NameKind.cell)∈scope.names):=λx c e=>by
  rcases sp1 x c e with z | ⟨z1,z2,z3⟩
  ·exact .inl (cl1 x c z)
  ·exact .inr ⟨by omega,z2,z3⟩
 have cs2:∀ y∈scope.names,(y.2=.free\/y.2=.cell)->∃ c,(cellsFrom (G.objs.size+1) scope.names cl).lookup y.1=some c:=λy hy hk=>by
  refine sp2 y.1 ?_
  rcases hk with z | z
  ·exact .inr (cl2 y hy z)
  ·exact .inl (by rw [<- z]; exact hy)
 have csA:∀ x c,(x,NameKind.cell)∈scope.names->(cellsFrom (G.objs.size+1) scope.names cl).lookup x=some c->G.objs.size<=c:=λx c e1 e2=>Nat.le_of_succ_le (sp4 x c e1 e2)
 generalize hcs:cellsFrom (G.objs.size+1) scope.names cl=cs at csI cs1 cs2 csA ⊢
 generalize hCe:G.objs.size=C at hns3 cs1 csA ⊢
 have hC:s2.heap.objs.size<=C:=by omega
 have hDC:s2.heap.objs.size≠C:=by omega
 let B:Blk:=⟨cs,C,s2,H1,fp,X.pn++pins⟩
 have I3:Inv (aX X (bN Nx ts ix) scope B) [] (cI ts.length ix σ) H1 { s2 with heap:=h3 }:=vU I2 hNx ok cs1 csI cs2 csA f2 hfs hC kp hns3
 have fC:H1 s2.heap.objs.size=none:=I2.hok.fresh (Nat.le_refl _)
 have cellIn:∀ x c,cs.lookup x=some c->c≠s2.heap.objs.size:=λx c e=>by
  rcases cs1 x c e with z | ⟨z,_,_⟩
  ·obtain ⟨v,q⟩:=I2.cell x c z
   exact Nat.ne_of_lt q.lt
  ·exact Nat.ne_of_gt (Nat.lt_of_le_of_lt hC z)
 have pinIn:∀ p∈X.pn++pins,p.1 < s2.heap.objs.size:=λp hp=>Heap.lt_size (I2.pin p hp).1
 have nofrs:s2.heap.objs.size ∉ frs X.stack:=λhb=>by
  rcases List.mem_cons.mp (I2.stkSub _ hb) with z | z
  ·exact absurd I2.lt (by rw [<- z]; exact Nat.lt_irrefl _)
  ·exact I2.nofs (Nat.le_refl _) z
 -- a state with the list at its place,pinned
 have pinD:∀ {τ:St} {H':Hp} {s':Shared} {ob:Obj},Inv (aX X (bN Nx ts ix) scope B) [] τ H' s'->s'.heap.get? s2.heap.objs.size=some ob->H' s2.heap.objs.size=none->(∀ v,ob.data≠.cell v)->Inv (aX X (bN Nx ts ix) scope B) [(s2.heap.objs.size,ob)] τ H' s' :=
  λ{τ H' s' ob} I' ho hn hd=>I'.pins_of λp hp=>by
   have e:p=(s2.heap.objs.size,ob):=by simpa using hp
   subst e
   exact ⟨ho,hn,hDC,nofrs,hd⟩
 obtain ⟨W,⟨m0,w0⟩,turn⟩:=q2 B
 have stat:∀ {H':Hp} {ob:Obj},(∀ b∈fp,H' b=none)->∀ b∈fp,eY (aX X (bN Nx ts ix) scope B) [(s2.heap.objs.size,ob)] H' b:=λ{H' ob} hn b hb=>by
  refine ⟨hn b hb,Nat.ne_of_lt (Nat.lt_of_lt_of_le (hfs b hb) hC),λz=>?_,.inl hb,λx c e=>by
   rcases cs1 x c e with z | ⟨z,_,_⟩
   ·exact (f2 b hb).2.2.2.2.1 x c z
   ·exact Nat.ne_of_gt (Nat.lt_of_lt_of_le (hfs b hb) (Nat.le_trans hC (Nat.le_of_lt z))),λp hp=>?_⟩
  ·rcases List.mem_cons.mp (I2.stkSub _ z) with q | q
   ·exact (f2 b hb).2.1 q
   ·exact (f2 b hb).2.2.1 q
  ·rcases List.mem_append.mp hp with z | z
   ·exact (f2 b hb).2.2.2.2.2 p z
   ·have e:p=(s2.heap.objs.size,ob):=by simpa using z
    subst e
    exact Nat.ne_of_gt (hfs b hb)
 have loop:∀ s4:Shared,s4={ s2 with heap:=h3 } ->
   codeAny (model X.prog X.w) X.A (.compLoop (.DictComp kx vx [⟨target,iter,[],0⟩] scope pos) 0 (.ref it) (.ref s2.heap.objs.size) (compEnvC scope cs C X.env)) (R (.ref s2.heap.objs.size) C) s4:=by
  rintro s4 rfl
  refine Zlw (λk s'=>∃ i τ ys us ob H',Inv (aX X (bN Nx ts ix) scope B) [(s2.heap.objs.size,(ob:Obj))] τ H' s'/\tn i s'.heap/\(∀ b∈fp,H' b=none)/\KV ys us/\s'.heap.DictOf (cp X.prog X.w) s2.heap.objs.size us/\ys.length<=sizeLine/\W i k τ ys H') ?_ m0
   ⟨0,_,[],[],_,H1,pinD I3 hD3 fC (λv z=>by cases z),T.keep _ _ _ st2 λb hb o e=>kp b o e,λb hb=>(f2 b hb).1,.nil,hDo,Nat.zero_le _,w0⟩
  rintro k s5 ⟨i,τ,ys,us,ob,H5,I5,st5,fr5,rv,hDO,hz,w5⟩
  rcases turn i k τ ys H5 w5 with ⟨stop,qn⟩ | ⟨go,hlt,step⟩
  ·have p5:=I5.pin (s2.heap.objs.size,ob) (List.mem_append_right _ (by simp))
   refine thn (T.done (aX X (bN Nx ts ix) scope B) rfl rfl rfl hc i _ s5 τ H5 _ I5 (stat fr5) st5 stop) λgot s6 hz0=>?_
   obtain ⟨hr,I6⟩:=hz0
   subst hr
   obtain ⟨ho,hn,_,_,_⟩:=I6.pin (s2.heap.objs.size,ob) (List.mem_append_right _ (by simp))
   have hDO6:s6.heap.DictOf (cp X.prog X.w) s2.heap.objs.size us:=xf hDO λo e=>by
    rw [p5.1] at e
    cases e
    exact ho
   have I7:Inv X pins σ H5 s6:=I2.call' (ch:=fp) (H':=H5) (by exact I6.os) I6.base I6.hok I6.bare λb hb=>⟨(f2 b hb).2.2.2.1,(f2 b hb).2.1,(f2 b hb).2.2.2.2.1,(f2 b hb).2.2.2.2.2⟩
   have hs0:X.s₀.heap.objs.size<=s2.heap.objs.size:=I2.sz
   have I8:=I7.trackD hn hDO6 rv hz (beq_eq_false_iff_ne.mpr (Nat.ne_of_gt I2.big)) (Nat.ne_of_gt I2.lt) hs0 (λx c e z=>by
    obtain ⟨v,q⟩:=I2.cell x c e
    exact absurd q.lt (by rw [z]; exact Nat.lt_irrefl _)) (λp hp=>Nat.ne_of_lt (pinIn p hp))
   obtain ⟨m6,hm6,_⟩:=I6.loc
   refine hR _ C _ s6 _ I8 rfl (qn _ _ _ hn rfl rfl) ⟨m6,hm6⟩ ?_ (λz=>?_) (Nat.le_trans hs0 hC) (λx c e z=>?_) λp hp=>Nat.ne_of_lt (Nat.lt_of_lt_of_le (pinIn p hp) hC)
   ·rw [az (Ne.symm hDC)]
    exact I6.free
   ·exact absurd (Nat.lt_of_lt_of_le I2.lt hC) (by rw [z]; exact Nat.lt_irrefl _)
   ·obtain ⟨v,q⟩:=I2.cell x c e
    exact absurd (Nat.lt_of_lt_of_le q.lt hC) (by rw [z]; exact Nat.lt_irrefl _)
  ·have p5:=I5.pin (s2.heap.objs.size,ob) (List.mem_append_right _ (by simp))
   refine thn (T.item (aX X (bN Nx ts ix) scope B) rfl rfl rfl hc i _ s5 τ H5 _ I5 (stat fr5) st5 go) λgot s6 hz0=>?_
   obtain ⟨u,hr,h6⟩:=hz0
   subst hr
   refine thn h6 λ_ s7 hz0=>?_
   obtain ⟨x,H7,I7,r7,y7,st7,fr7⟩:=hz0
   have I7':=I7.pinned (stat fr7) (T.obj _ _ st7)
   refine thn (hg B _ s7 τ H7 x u _ I7' r7 (step x H7 y7)) λ_ s8 hz0=>?_
   obtain ⟨τ8,H8,I8,q8⟩:=hz0
   refine thn (hk B _ s8 τ8 H8 _ I8 q8) λkv sk hz0=>?_
   obtain ⟨vk,Hk,Ik,rk,qk⟩:=hz0
   refine thn (he B _ sk τ8 Hk _ Ik qk) λy s9 hz0=>?_
   obtain ⟨vy,H9,I9,r9,zk,m',ek,hm',w9⟩:=hz0
   subst ek
   obtain ⟨tk9,rfl⟩:=rk
   obtain ⟨ho,hn,_,_,_⟩:=I9.pin (s2.heap.objs.size,ob) (List.mem_append_right _ (List.mem_append_left _ (by simp)))
   have hDO9:s9.heap.DictOf (cp X.prog X.w) s2.heap.objs.size us:=xf hDO λo e=>by
    rw [p5.1] at e
    cases e
    exact ho
   have lenv:ys.length=us.length:=Zi7 rv
   refine wpAny_dictSet_pairs (knd:=cp X.prog X.w) (k:=(Sum.inl zk:am)) (ZcO _ _ _ _) hDO9 (λh' hpl hsb=>?_) (by omega)
   obtain ⟨ob',es',ep',ho',hc',hd',_⟩:=hpl
   have hpl:h'.DictOf (cp X.prog X.w) s2.heap.objs.size (stored us (Sum.inl zk) y):=⟨ob',es',ep',ho',hc',hd',by assumption⟩
   have I9':Inv (aX X (bN Nx ts ix) scope B) [] τ8 H9 s9:=I9.pins_of λp hp=>absurd hp (by simp)
   have I10:Inv (aX X (bN Nx ts ix) scope B) [] τ8 H9 { s9 with heap:=h',toks:=s9.toks+1 }:=I9'.turned (it:=s2.heap.objs.size) (t':=s9.toks+1) (λb o hb e=>(hsb.2 b hb).trans e) hn hDC (.inr (Nat.le_refl _)) cellIn (λp hp=>by
    have hp':p∈(X.pn++pins)++[]:=hp
    rw [List.append_nil] at hp'
    exact Nat.ne_of_lt (pinIn p hp'))
   refine ⟨m',hm',i+1,τ8,bx ys (.inl zk) vy,stored us (Sum.inl zk) y,ob',H9,pinD I10 ho' hn (λv z=>by rw [hd'] at z; cases z),?_,λb hb=>?_,rv.put _ r9,hpl,by have:=pE ys (Sum.inl zk:am) vy; omega,w9⟩
   ·refine T.keep _ _ _ st7 λb hb o e=>?_
    have q:=(I9.pin (b,o) (List.mem_append_right _ (List.mem_append_right _ (fI hb e)))).1
    exact (hsb.2 b (Nat.ne_of_lt (hfs b hb))).trans q
   ·obtain ⟨o,e,d⟩:=T.obj _ _ st7 b hb
    exact (I9.pin (b,o) (List.mem_append_right _ (List.mem_append_right _ (fI hb e)))).2.1
 exact codeAny_compStart_dict (loop _ rfl) (T.self X.A 0 _ _ _ (T.keep _ _ _ st2 λb hb o e=>kp b o e) (loop _ rfl))
theorem Zj2 (kx vx gens scope pos) (env:Env):eval (.DictComp kx vx gens scope pos) env=comprehension (.DictComp kx vx gens scope pos) scope env (firstIterPos gens pos) newDict (firstAsync gens) (firstIter gens env):=by rw [eval]
theorem ZhU {kx vx target iter:Expr} {scope:Scope} {pos:Pos} {wi:TI} {g:Blk->TG} {tk te:Blk->TE} (Nx:List Str) (ts:List Str) (ix:List Nat)
  (hc:X.calm=true) (hi:PI X target iter wi) (hg:∀ b,PG (aX X (bN Nx ts ix) scope b) target (g b)) (hk:∀ b,PE (aX X (bN Nx ts ix) scope b) kx (tk b)) (he:∀ b,PE (aX X (bN Nx ts ix) scope b) vx (te b))
  (hNx:X.N=Nx) (ok:BlkOk Nx X.env.scope scope ix) (hs:∀ x,foldedSetIterable iter X.env x=pure x:=by intro _; rfl) :
  PE X (.DictComp kx vx [⟨target,iter,[],0⟩] scope pos) (oD wi ts.length ix g tk te):=by
 intro pins s σ H Q I h
 obtain ⟨cl,hcl,cl1,cl2⟩:=pU (scope:=scope) (env:=X.env) λy hy hf=>I.ok.has y.1 (ok.frees y hy hf)
 rw [Zj2]
 refine wpAny_comprehension_free (use:=none) rfl hs hcl ok.kind ok.locs (thn (hi pins s σ H _ I h) λv s1 h1=>thn h1 λitv s2 h2=>?_)
 refine Zeq (R:=λacc C=>compPost (model X.prog X.w) X.A X.xe none (EP X pins σ Q) acc C) hc hg hk he hNx ok cl1 cl2 h2 ?_
 rintro D C H' s' v I' rfl q ⟨m,hm⟩ hn hL h0 hcl' hp
 exact ⟨m,hm,λh' hsb=>⟨.ref D,H',I'.turned (it:=C) (t':=s'.toks) (λb o hb e=>(hsb.2 b hb).trans e) hn hL (.inr h0) hcl' hp,rfl,q⟩⟩
theorem Zhq {kx vx target iter:Expr} {scope:Scope} {pos pos' spos:Pos} {wi:TI} {g:Blk->TG} {tk te:Blk->TE} {i:Nat} {x:Str} (Nx:List Str) (ts:List Str) (ix:List Nat)
  (hc:X.calm=true) (hN:X.N.Nodup) (hix:X.N[i]?=some x) (hx:X.env.scope.names.lookup x=some .local) (hi:PI X target iter wi) (hg:∀ b,PG (aX X (bN Nx ts ix) scope b) target (g b)) (hk:∀ b,PE (aX X (bN Nx ts ix) scope b) kx (tk b)) (he:∀ b,PE (aX X (bN Nx ts ix) scope b) vx (te b))
  (hNx:X.N=Nx) (ok:BlkOk Nx X.env.scope scope ix) (hsw:swapsWith (.DictComp kx vx [⟨target,iter,[],0⟩] scope pos) (some (.Name x pos')) spos.line X.env=pure true) (hs:∀ x,foldedSetIterable iter X.env x=pure x:=by intro _; rfl) :
  PS X (.Assign [.Name x pos'] (.DictComp kx vx [⟨target,iter,[],0⟩] scope pos) spos) (eK (oD wi ts.length ix g tk te) (fi i)):=by
 intro pins s σ H D0 I h
 obtain ⟨cl,hcl,cl1,cl2⟩:=pU (scope:=scope) (env:=X.env) λy hy hf=>I.ok.has y.1 (ok.frees y hy hf)
 rw [exec_Assign_Name_used _ _ _ _ hsw]
 refine wpAny_bind (wpAny_standAt (wpAny_bind ?_))
 show wpAny _ X.A (do let _ <- comprehension (.DictComp kx vx [⟨target,iter,[],0⟩] scope pos) scope X.env _ newDict false (eval iter X.env) (some (assign (.Name x pos') X.env))) _ _ s
 refine wpAny_bind (thn (wpAny_comprehension_free (use:=some (assign (.Name x pos') X.env)) (Q:=λ_ s'=>SP X pins D0 .next s') rfl hs hcl ok.kind ok.locs (thn (hi pins s σ H _ I h) λv s1 h1=>thn h1 λitv s2 h2=>?_)) λ_ s' hq=>wpAny_pure (wpAny_pure hq))
 refine Zeq (R:=λacc C=>compPost (model X.prog X.w) X.A X.xe (some (assign (.Name x pos') X.env)) (λ_ s'=>SP X pins D0 .next s') acc C) (Q:=λx H1=>fi i x σ H1 D0.nx) hc hg hk he hNx ok cl1 cl2 h2 ?_
 rintro D C H' s' v I' rfl q ⟨m,hm⟩ hn hL h0 hcl' hp
 show wpAny _ X.A (assign (.Name x pos') X.env (.ref D)) _ _ _
 refine wpAny_assign_Name (ui I' hN hix (.inl hx) (show RelV (.ref D) (.ref D) from rfl) (λs'' I'' hch=>?_) (.inr hx))
 obtain ⟨a,hsb,ha⟩:=hch
 have haC:C≠a:=by
  rcases ha with z | z
  ·rw [z]; exact hL
  ·exact λe=>hcl' _ _ z e.symm
 exact ⟨m,hm.sameBut hsb haC,λh'' hs''=>⟨_,H',I''.turned (it:=C) (t':=s''.toks) (λb o hb e=>(hs''.2 b hb).trans e) hn hL (.inr h0) hcl' hp,q⟩⟩
end
end L2
set_option Elab.async false
set_option linter.all false
set_option maxRecDepth 100000
namespace L2
open PySem PySem.Spec PyProof.Rows
section
variable {PK:Pk} {X:Cx} {e:Expr} {is:List Sl->Tr (List PyData)} {kx i:List Sl->Tr PyData}
noncomputable def fM:List (Int×PyData)->List PyData->Option PyData
 | kvs,[]=>some (dD kvs)
 | kvs,.tuple [.int k,v]::ps=>fM (gS kvs k v) ps
 | _,_=>none
noncomputable def Zes (i:List Sl->Tr PyData) (τ:List Sl):PyData->Tr PyData
 | .int z=>(i τ).bind λv=>.ret (.tuple [.int z,v])
 | _=>.fail
noncomputable def ib (kx i:List Sl->Tr PyData) (τ:List Sl):Tr PyData:=(kx τ).bind (Zes i τ)
noncomputable def gI (is:List Sl->Tr (List PyData)) (n:Nat) (ix:List Nat) (g:PyData->List Sl->Option (List Sl)) (kx i:List Sl->Tr PyData):List Sl->Tr PyData:=λρ =>
 (is ρ).bind λxs=>if small xs.length=true then (bz (λx=>(Tr.of (g x (blk n ix ρ))).bind (ib kx i)) xs).bind λps=>Tr.of (fM [] ps) else .fail
theorem Zep {n:Nat} {ix:List Nat} {g:PyData->List Sl->Option (List Sl)} (hn:fx n g):∀ σ H Q,TAe PK (gI is n ix g kx i) σ H Q->oD (dP PK is) n ix (λ_=>d8 PK g) (λ_=>TAe PK kx) (λ_=>TAe PK i) σ H Q:=by
 rintro σ H Q ⟨pa,G₀,H₀,m,ρ,G,R,z⟩
 refine ⟨pa,G₀,H₀,m,ρ,G,R,Tr.ok_mono (Tr.ok_bind.mp z) λm1 xs k J G1 H1 s1 w1 jo=>λB=>?_⟩
 obtain ⟨hs,k⟩:=ff k
 have hs:xs.length<=sizeLine:=of_decide_eq_true hs
 let el:PyData->Tr PyData:=λx=>(Tr.of (g x (blk n ix ρ))).bind (ib kx i)
 let W:Nat->Nat->St->List (am×V)->Hp->Prop:=λk mm τ ks H2=>mm=xs.length - k/\k<=xs.length/\ks.length<=k/\∃ m G2 kvs,Sub G1 G2/\Stp pa G H G2 H2/\Rl PK pa G₀ H₀ m τ (blk n ix ρ) G2 H2 /\
  KD G2 ks kvs/\((bz el (xs.drop k)).bind λzs=>Tr.of (fM kvs zs)).ok m λm' d=>Kn PK pa m' G H d Q
 refine ⟨W,⟨xs.length,rfl,Nat.zero_le _,Nat.le_refl _,m1,G1,[],.refl,s1,(R.step s1 w1).blk n ix,.nil,k⟩,?_⟩
 rintro k mm τ ks H2 ⟨rfl,hk,hy,m2,G2,kvs,sb,st2,R2,dn,k2⟩
 obtain ⟨j1,j2⟩:=jo m2 G2 H2 sb R2.wd
 by_cases hlt:k < xs.length
 ·have hx:xs[k]?=some xs[k]:=by simp [hlt]
  obtain ⟨jg,jy⟩:=j1 k _ hx
  refine .inr ⟨jg,by omega,λx H3 y=>?_⟩
  obtain ⟨G3,s3,w3,d3⟩:=jy x H3 y
  rw [List.drop_eq_getElem_cons hlt] at k2
  unfold bz at k2
  rw [Tr.ok_bind,Tr.ok_bind,Tr.ok_bind] at k2
  obtain ⟨ρ3,hg3,k3⟩:=Tr.ok_of k2
  refine ⟨pa,G₀,H₀,m2,_,G3,_,ρ3,R2.step s3 w3,d3,hg3,λτ4 R4=>?_⟩
  unfold ib at k3
  refine ⟨pa,G₀,H₀,m2,ρ3,G3,R4,Tr.ok_mono (Tr.ok_bind.mp k3) λm5 kd k5=>?_⟩
  intro v G5 H5 s5 w5 d5
  have s35:=s3.trans s5 w3.some
  obtain ⟨pl,pk⟩:=hn _ _ _ hg3
  obtain ⟨z,rfl,k5⟩:∃ z:Int,kd=.int z/\((i ρ3).bind λv=>Tr.ret (PyData.tuple [.int z,v])).ok m5 λm' y=>((bz el (xs.drop (k+1))).bind λzs=>Tr.ret (y::zs)).ok m' λm' zs=>(Tr.of (fM kvs zs)).ok m' λm'' d=>Kn PK pa m'' G H d Q:=by
   cases kd with
   | int z=>exact ⟨z,rfl,k5⟩
   | _=>exact k5.elim
  have ev:v=.int z:=by cases d5; rfl
  refine ⟨pa,G₀,H₀,m5,ρ3,G5,R4.step s5 w5,Tr.ok_mono (Tr.ok_bind.mp k5) λm6 yd k6=>?_⟩
  intro u G6 H6 s6 w6 d6
  have s56:=s35.trans s6 w5.some
  have k8:((bz el (xs.drop (k+1))).bind λzs=>Tr.of (fM (gS kvs z yd) zs)).ok m6 λm' d=>Kn PK pa m' G H d Q:=by
   have k6':((bz el (xs.drop (k+1))).bind λzs=>Tr.ret (PyData.tuple [.int z,yd]::zs)).ok m6 λm' zs=>(Tr.of (fM kvs zs)).ok m' λm'' d=>Kn PK pa m'' G H d Q:=k6
   rw [Tr.ok_bind] at k6' ⊢
   exact Tr.ok_mono k6' λm' zs q=>q
  refine ⟨z,xs.length - (k+1),ev,by omega,rfl,hlt,by have:=pE ks (Sum.inl z:am) u; omega,m6,G6,gS kvs z yd,sb.trans s56.gs,st2.trans s56 R2.wd.some,?_,(KD.mono s56.gs dn).put z d6,k8⟩
  refine ((R4.step s5 w5).step s6 w6).weak pl λq sl hq=>?_
  by_cases hqn:q < n
  ·left
   unfold blk at hq
   rw [List.getElem?_append_left (by simpa using hqn),List.getElem?_replicate,if_pos hqn] at hq
   cases hq
   rfl
  ·right
   rw [pk q (Nat.le_of_not_lt hqn)]
   exact hq
 ·have e:k=xs.length:=by omega
  subst e
  refine .inl ⟨j2,λp v H' hp ev eH=>?_⟩
  subst ev eH
  rw [List.drop_length] at k2
  have k2':Kn PK pa m2 G H (dD kvs) Q:=k2
  have k3:=Kn.later k2' st2 R2.wd.some
  refine Kn.dct (ks:=ks) (ds:=kvs.map (·.2)) ?_ R2.wd dn.vals hp
  exact Eq.mpr (congrArg (λz=>Kn PK pa m2 G2 H2 (PyData.dict z) Q) dn.zip) k3
theorem Zmu {n:Nat} {ix:List Nat} {g:PyData->List Sl->Option (List Sl)} (h:PE X e (oD (dP PK is) n ix (λ_=>d8 PK g) (λ_=>TAe PK kx) (λ_=>TAe PK i))) (hn:fx n g):PE X e (TAe PK (gI is n ix g kx i)):=h.imp (Zep hn)
theorem Zmf {st:Stmt} {n k:Nat} {ix:List Nat} {g:PyData->List Sl->Option (List Sl)} (h:PS X st (eK (oD (dP PK is) n ix (λ_=>d8 PK g) (λ_=>TAe PK kx) (λ_=>TAe PK i)) (fi k))) (hn:fx n g):PS X st (bg PK (aR k (gI is n ix g kx i))) :=
 aY (h.imp (ZaJ (Zep hn)))
end
end L2
set_option Elab.async false
set_option linter.all false
set_option maxRecDepth 100000
namespace L2
open PySem PySem.Spec PyProof.Rows
end L2
set_option Elab.async false
set_option linter.all false
set_option maxRecDepth 100000
namespace L2
open PySem PySem.Spec PyProof.Rows
section
variable {prog:Program} {w:World} {A:Around} {E:Value->Shared->Prop} {s:Shared}
end
end L2
set_option Elab.async false
set_option linter.all false
set_option maxRecDepth 100000
namespace L2
open PySem PySem.Spec PyProof.Rows
section
variable {prog:Program} {w:World} {A:Around} {R:Result->Shared->Prop} {I:Addr} {fp wr:List Addr} {G:Array GenState->Array GenState->Prop} {n:Nat} {P:Nat->Value->Prop} {St:Nat->Shared->Prop}
end
section
variable {prog:Program} {w:World} {A:Around} {E:Value->Shared->Prop} {s:Shared}
end
end L2
set_option Elab.async false
set_option linter.all false
set_option maxRecDepth 100000
namespace L2
open PySem PySem.Spec PyProof.Rows
section
variable {prog:Program} {w:World} {A:Around} {E:Value->Shared->Prop} {s:Shared}
end
end L2
set_option Elab.async false
set_option linter.all false
set_option maxRecDepth 100000
namespace PySem.F
end PySem.F
namespace L2
open PySem PySem.Spec PyProof.Rows
section
variable {prog:Program} {w:World} {A:Around} {E:Value->Shared->Prop} {s:Shared} {I p:Addr} {first:Value} {i n ep ep':Nat} {o:Obj} {es:Array (Int×Value)} {t:SetTable}
end
end L2
set_option Elab.async false
set_option linter.all false
set_option maxRecDepth 100000
namespace L2
open PySem PySem.Spec PyProof.Rows
section
variable {prog:Program} {w:World} {A:Around} {E:Value->Shared->Prop} {s:Shared} {I p:Addr} {i n ep:Nat} {o:Obj} {es:Array (Int×Value)} {t:SetTable}
end
end L2
set_option Elab.async false
set_option linter.all false
set_option maxRecDepth 100000
namespace PySem.F
end PySem.F
namespace L2
open PySem PySem.Spec PyProof.Rows
section
variable {prog:Program} {w:World} {A:Around} {E:Value->Shared->Prop} {s:Shared} {I p tp:Addr} {n ep:Nat} {o:Obj} {es:Array (Int×Value)} {t:SetTable}
end
end L2
set_option Elab.async false
set_option linter.all false
set_option maxRecDepth 100000
namespace L2
open PySem PySem.Spec PyProof.Rows
section
variable {prog:Program} {w:World} {A:Around} {E:Value->Shared->Prop} {s:Shared} {p:Addr}
end
end L2
set_option Elab.async false
set_option linter.all false
set_option maxRecDepth 100000
namespace L2
open PySem PySem.Spec PyProof.Rows
section
variable {prog:Program} {w:World} {A:Around} {E:Value->Shared->Prop} {s:Shared} {p:Addr}
end
end L2
set_option Elab.async false
set_option linter.all false
set_option maxRecDepth 100000
namespace L2
open PySem PySem.Spec PyProof.Rows
section
variable {prog:Program} {w:World} {A:Around} {E:Value->Shared->Prop} {s:Shared} {p:Addr}
end
section
variable {X:Cx}
end
variable {PK:Pk} {X:Cx} {is:List Sl->Tr (List PyData)} {e:Expr}
end L2
set_option Elab.async false
set_option linter.all false
set_option maxRecDepth 100000
namespace L2
open PySem PySem.Spec PyProof.Rows
section
variable {prog:Program} {w:World} {A:Around} {E:Value->Shared->Prop} {s:Shared} {p:Addr}
end
section
variable {X:Cx}
end
variable {PK:Pk} {X:Cx} {is:List Sl->Tr (List PyData)} {e:Expr}
end L2
set_option Elab.async false
set_option linter.all false
set_option maxRecDepth 100000
namespace L2
open PySem PySem.Spec PyProof.Rows
section
variable {prog:Program} {w:World} {A:Around} {E:Value->Shared->Prop} {s:Shared} {p:Addr}
theorem Zly {u:Obj} {us:Array Value} {k:Nat} {R:List Value->Shared->Prop} (hu:s.heap.get? p=some u) (uc:u.cls=.type "tuple") (ud:u.data=.seq us k) (hk:us.size<=sizeLine)
  (h:∀ h',(∀ b o,s.heap.get? b=some o->h'.get? b=some o)->s.heap.objs.size<=h'.objs.size->R us.toList { s with heap:=h' }):wpAny (model prog w) A (collect (.ref p)) R E s:=by
 have g0:(s.heap.push { cls:=.type "list",data:=.seq ([]:List Value).toArray }).get? s.heap.objs.size=some { cls:=.type "list",data:=.seq #[] }:=Heap.get?_push_size _ rfl
 have g2:=Heap.get?_update_self (Obj.mapSeq λx=>x++us) g0 rfl
 have walk:=wpAny_extend_seq (prog:=prog) (w:=w) (A:=A) (hsz:=hk) (s:={ s with heap:=s.heap.push { cls:=.type "list",data:=.seq ([]:List Value).toArray } })
  (R:=λq z=>q=.ok (.ret (.ref s.heap.objs.size))/\z={ s with heap:=Heap.update (s.heap.push { cls:=.type "list",data:=.seq ([]:List Value).toArray }) s.heap.objs.size (Obj.mapSeq λx=>x++us) })
  s.heap.objs.size p (.ref s.heap.objs.size) 0 (.inr rfl) g0 (Heap.get?_push_of_some _ hu) uc ud ⟨rfl,rfl⟩
 have fin:wpAny (model prog w) A (load s.heap.objs.size >>= λo=>match o.data with | .seq xs _=>pure xs.toList | _=>unsupported "internal:collect") R E { s with heap:=Heap.update (s.heap.push { cls:=.type "list",data:=.seq ([]:List Value).toArray }) s.heap.objs.size (Obj.mapSeq λx=>x++us) }:=by
  refine wpAny_bind (wpAny_load g2 (wpAny_pure ?_))
  have e0:((#[]:Array Value)++us).toList=us.toList:=by simp
  show R ((#[]:Array Value)++us).toList _
  rw [e0]
  refine h _ (λb o q=>?_) ?_
  ·rw [Heap.get?_update_other _ _ (Nat.ne_of_gt (Heap.lt_size q))]
   exact Heap.get?_push_of_some _ q
  ·rw [Heap.size_update,Heap.size_push]
   exact Nat.le_succ _
 unfold collect
 refine wpAny_bind (wpAny_runValue (codeAny_builtin F.entry_proto_collect ?_))
 rw [Around.under_plainId F.plain_proto_collect _]
 show wpAny _ A.in1 (newList [] >>= λl=>again (.builtin "list.__iadd__" ⟨[l,.ref p],[]⟩)) _ _ s
 refine wpAny_bind (wpAny_newObj_type (wpAny_pure ⟨plainId_quiet F.plain_list_iadd _,codeAny_builtin F.entry_list_iadd ?_⟩))
 rw [Around.under_plainId F.plain_list_iadd _]
 refine wpAny_mono walk (λfl s' z=>?_) λe s' z=>?_
 ·cases fl with
  | done f =>
   obtain ⟨e,rfl⟩:=z
   cases e
   exact fin
  | again c1 =>
   refine ⟨z.1,codeAny_mono z.2 λq s2 y=>?_⟩
   obtain ⟨rfl,rfl⟩:=y
   exact fin
 ·obtain ⟨e',_⟩:=z
  cases e'
theorem Zgu {u:Obj} {us:List Value} {k:Nat} {ns:List Int} {Q:Value->Shared->Prop} (hu:s.heap.get? p=some u) (uc:u.cls=.type "tuple") (ud:u.data=.seq us.toArray k) (i1:IntsAre us ns) (h64:us.length < 64)
  (h:∀ h' q (out:Array Value) (ms:List Int) e,IntsAre out.toList ms->ms.Perm ns->ms.Pairwise (·<=·)->s.heap.objs.size<=q->h'.get? q=some (seqObj "list" out e)->(∀ b o,s.heap.get? b=some o->h'.get? b=some o)->Q (.ref q) { s with heap:=h' }) :
  wpAny (model prog w) A (call (.builtin "sorted") [.ref p]) Q E s:=by
 refine Calls.call_function_entry kind_sorted plain_sorted entry_sorted (args_sorted1 _) ?_
 unfold Builtin.«sorted»
 refine wpAny_bind (m:=checkCount "sorted" 1 1 _) (wpAny_pure (wpAny_bind (Zly (A:=A.in1) hu uc ud (by simp; rw [sizeLine_eq]; omega) λh1 kp hsz=>?_)))
 rw [show us.toArray.toList=us by simp]
 refine wpAny_bind (wpAny_newList ?_ (by rw [sizeLine_eq]; omega))
 have g1:(h1.push (seqObj "list" us.toArray 0)).get? h1.objs.size=some (seqObj "list" us.toArray 0):=Heap.get?_push_size _ rfl
 refine wpAny_bind (wpAny_holding (wpAny_call_entry slot_list_sort ⟨_,g1,rfl⟩ entry_list_sort (list_sort_tree (s:={ s with heap:=h1.push (seqObj "list" us.toArray 0) }) g1 i1 h64 λout ms a1 a2 a3=>⟨_,rfl,?_⟩) (args_list_sort _)))
 obtain ⟨e,he⟩:=sortedHeap_at (out:=out) g1
 refine wpAny_pure ⟨_,rfl,h _ _ out ms e a1 a2 a3 hsz he λb o q=>?_⟩
 have hb:=Heap.lt_size (kp b o q)
 rw [sortedHeap_old (Nat.ne_of_lt hb) (by rw [Heap.size_push]; exact Nat.lt_succ_of_lt hb)]
 exact Heap.get?_push_of_some _ (kp b o q)
end
noncomputable def ZbP (K:PySem.W.Frag):List V->Hp->VK->Prop:=λxs H Q=>∃ l ns,xs=[.ref l]/\SqT K H l (ns.map V.int)/\ns.length < 64 /\
  ∀ (ns':List Int) q,ns'.Perm ns->ns'.Pairwise (·<=·)->H q=none->Q (.ref q) (upd H q (.lst (ns'.map V.int)))
theorem ZlG {X:Cx}:db X (.builtin "sorted") (ZbP X.K):=by
 intro pins s σ H xs us Q I r h
 obtain ⟨l,ns,rfl,hl,h64,q⟩:=h
 obtain ⟨u,rfl,ru⟩:=eh r
 cases ru
 obtain ⟨its,rv,⟨o,ho,hc,n,hd⟩,hz⟩:=I.tuple hl
 have hlen:its.length=ns.length:=by
  have:=rv.length
  rw [List.length_map] at this
  exact this.symm
 refine Zgu ho hc hd (vW ns its rv) (by omega) λh' b out ms e a1 a2 a3 hb he old=>?_
 refine ⟨.ref b,_,I.laid (h':=h') (t':=s.toks) old hb (show ObjOk X.prog X.w _ _ _ (.lst (ms.map V.int)) from ⟨?_,out.toList,e,tX a1,by simpa using he⟩),rfl,q ms _ a2 a3 (I.hok.fresh hb)⟩
 rw [List.length_map,a2.length_eq,sizeLine_eq]
 omega
noncomputable def oF:List PyData->Option (List PyData)
 | [.tuple xs]=>(ints? xs).bind λns=>if decide (ns.length < 64)=true then some ((dq ns).map PyData.int) else none
 | _=>none
theorem ZfO {K:PySem.W.Frag}:tt (ZbP K) oF:=λPK pa m G H vs ds d Q w hv hd k=>by
 unfold oF at hd
 split at hd
 ·rename_i xs
  cases e:ints? xs with
  | none=>rw [e] at hd; cases hd
  | some ns =>
   rw [e] at hd
   have hd':(if decide (ns.length < 64)=true then some ((dq ns).map PyData.int) else none)=some d:=hd
   split at hd'
   ·rename_i hc
    cases hd'
    cases hv with
    | cons h1 h2 =>
     cases h2
     cases h1 with
     | tup a1 a2 =>
      obtain ⟨rfl,rfl⟩:=a2.ints_inv e
      refine ⟨_,ns,rfl,SqT.of (w.sub _ _ a1),of_decide_eq_true hc,λns' q hp hs hq=>?_⟩
      have:ns'=dq ns:=ZaQ (hp.trans (qB ns).symm) hs (uk ns)
      subst this
      exact k.new w (DnAll.ints _) hq
   ·cases hd'
 ·cases hd
theorem Zj3 (ns:List Int) (h:ns.length < 64):pV oF [.tuple (ns.map .int)]=.ret ((dq ns).map .int):=by
 unfold pV oF
 simp [h]
end L2
set_option Elab.async false
set_option linter.all false
set_option maxRecDepth 100000
namespace L2
open PySem PySem.Spec PyProof.Rows
end L2
set_option Elab.async false
set_option linter.all false
set_option maxRecDepth 100000
namespace L2
open PySem PySem.Spec PyProof.Rows
end L2
set_option Elab.async false
set_option linter.all false
set_option maxRecDepth 100000
namespace L2
open PySem PySem.Spec PyProof.Rows
end L2
set_option Elab.async false
set_option linter.all false
set_option maxRecDepth 100000
namespace L2
open PySem PySem.Spec PySem.Calls PyProof.Rows
section
variable {M:Model} {A:Around} {E:Value->Shared->Prop}
variable {nm q:Str} {C N:Addr} {bs bm:List Value} {hdct:Bool} {sn:List Str} {sub:List Value} {ab:Bool} {col:Option Bool} {dd:Option Addr} {k0 k1 k2 k3 k5:Option Value} {newId:String}
variable {nm' q':Str} {D N':Addr} {bs' bm':List Value} {hdct':Bool} {sn':List Str} {sub':List Value} {ab':Bool} {col':Option Bool} {dd':Option Addr} {j0 j1 j2 j3 j5:Option Value} {newId':String}
end
section
variable {prog:Program} {w:World} {A:Around} {E:Value->Shared->Prop} {s:Shared} {env:Env}
end
end L2
set_option Elab.async false
set_option linter.all false
set_option maxRecDepth 100000
namespace L2
open PySem PySem.Spec PyProof.Rows
section
variable {X:Cx} {pins:List (Addr×Obj)} {σ:St} {H:Hp} {s:Shared}
end
end L2
set_option Elab.async false
set_option linter.all false
set_option maxRecDepth 100000
namespace L2
open PySem PySem.Spec PyProof.Rows
end L2
set_option Elab.async false
set_option linter.all false
set_option maxRecDepth 100000
namespace PySem
section
variable {M:Model} {A:Around} {E:Value->Shared->Prop} {h:Heap} {g:Array GenState} {d:Drawn} {t:Nat} {os:OsState}
variable {nm q:Str} {C N:Addr} {bs bm bmB:List Value} {hdct:Bool} {sn:List Str} {sub:List Value} {ab:Bool} {col:Option Bool} {dd:Option Addr} {k0 k1 k2 k3 k5:Option Value} {B newId:String}
end
section
variable {prog:Program} {w:World} {A:Around} {E:Value->Shared->Prop} {h:Heap} {g:Array GenState} {d:Drawn} {t:Nat} {os:OsState} {a:Addr} {o:Obj}
 {nm q:Str} {C N:Addr} {bs bm bmB:List Value} {hdct:Bool} {sn:List Str} {sub:List Value} {ab:Bool} {col:Option Bool} {dd:Option Addr} {k0 k1 k2 k3 k5:Option Value} {B newId:String} {mN:Str->Option Value}
end
end PySem
set_option Elab.async false
set_option linter.all false
set_option maxRecDepth 100000
namespace L2
open PySem PySem.Spec PyProof.Rows
section
variable {X:Cx} {C:Addr} {B:String} {bmB:List Value}
end
end L2
set_option Elab.async false
set_option linter.all false
set_option maxRecDepth 100000
namespace L2
open PySem PySem.Spec PyProof.Rows
end L2
set_option Elab.async false
set_option linter.all false
set_option maxRecDepth 100000
namespace L2
open PySem PySem.Spec PyProof.Rows
end L2
set_option Elab.async false
set_option linter.all false
set_option maxRecDepth 100000
namespace L2
open PySem PySem.Spec PyProof.Rows
noncomputable def kI (k:List Int):List am:=k.map Sum.inl
theorem Zdl:∀ {a b:List Int},kI a=kI b->a=b
 | [],[],_=>rfl
 | [],_::_,h=>by cases h
 | _::_,[],h=>by cases h
 | x::a,y::b,h=>by
  have h1:(Sum.inl x:am)::kI a=Sum.inl y::kI b:=h
  injection h1 with h2 h3
  injection h2 with h4
  rw [h4,Zdl h3]
structure Nts (F:List Int->Option Int) (KS:List (List Int)) (kvs:List (List am×V)):Prop where
 nd:(kvs.map (·.1)).Nodup
 ks:∀ k∈kvs.map (·.1),∃ ns∈KS,k=kI ns
 vl:∀ ns v,bC kvs (kI ns)=some v->∃ n,F ns=some n/\v=.int n
noncomputable def fy (F:List Int->Option Int) (KS:List (List Int)):Pk where
 is o _ _:=∃ kvs:List (List am×V),o=.dT kvs/\Nts F KS kvs
 mono:=λ_ h=>h
variable {F:List Int->Option Int} {KS:List (List Int)}
theorem ZcG {α:Type} [DecidableEq α]:∀ {l m:List α},l.Nodup->(∀ x∈l,x∈m)->l.length<=m.length
 | [],m,_,_=>Nat.zero_le _
 | x::l,m,h,hs=>by
  rw [List.nodup_cons] at h
  have hx:=hs x (by simp)
  have ih:=ZcG (l:=l) (m:=m.erase x) h.2 λy hy=>by
   have hne:y≠x:=λe=>h.1 (e ▸ hy)
   exact (List.mem_erase_of_ne hne).mpr (hs y (List.mem_cons_of_mem _ hy))
  rw [List.length_erase_of_mem hx] at ih
  have:=List.length_pos_of_mem hx
  rw [List.length_cons]
  omega
theorem Nts.len {kvs:List (List am×V)} (h:Nts F KS kvs):kvs.length<=KS.length:=by
 have:=ZcG (l:=kvs.map (·.1)) (m:=KS.map kI) h.nd λk hk=>by
  obtain ⟨ns,h1,rfl⟩:=h.ks k hk
  exact List.mem_map.mpr ⟨ns,h1,rfl⟩
 rw [List.length_map,List.length_map] at this
 exact this
theorem Nts.nil:Nts F KS []:=⟨List.nodup_nil,λk hk=>by simp at hk,λns v h=>by cases h⟩
theorem Zaq {κ:Type} [DecidableEq κ] {k:κ}:∀ {kvs:List (κ×V)},bC kvs k=none->k ∉ kvs.map (·.1)
 | [],_=>by simp
 | p::r,h=>by
  by_cases e:p.1=k
  ·rw [dk e] at h; cases h
  ·rw [dF e] at h
   rw [List.map_cons,List.mem_cons]
   rintro (q | q)
   ·exact e q.symm
   ·exact Zaq h q
theorem Nts.put {kvs:List (List am×V)} (h:Nts F KS kvs) {ns:List Int} {n:Int} (hF:F ns=some n) (hk:ns∈KS):Nts F KS (bx kvs (kI ns) (.int n)):=by
 have hv:∀ ms v,bC (bx kvs (kI ns) (.int n)) (kI ms)=some v->∃ n,F ms=some n/\v=.int n:=λms v e=>by
  rw [Zas] at e
  split at e
  ·rename_i q
   cases e
   exact ⟨n,by rw [Zdl q]; exact hF,rfl⟩
  ·exact h.vl ms v e
 cases e:bC kvs (kI ns) with
 | none =>
  rw [Zhj _ e] at hv ⊢
  refine ⟨?_,λk hk'=>?_,hv⟩
  ·rw [List.map_append,List.nodup_append]
   refine ⟨h.nd,by simp,λa ha b hb q=>?_⟩
   have:b=kI ns:=by simpa using hb
   rw [q,this] at ha
   exact Zaq e ha
  ·rw [List.map_append,List.mem_append] at hk'
   rcases hk' with q | q
   ·exact h.ks k q
   ·have:k=kI ns:=by simpa using q
    exact ⟨ns,hk,this⟩
 | some w =>
  have em:(bx kvs (kI ns) (.int n)).map (·.1)=kvs.map (·.1):=by
   unfold bx
   rw [gK,e]
   rw [if_pos (show (some w).isSome=true from rfl),List.map_map]
   refine List.map_congr_left λp _=>?_
   show (if p.1=kI ns then (p.1,V.int n) else p).1=p.1
   split <;> rfl
  exact ⟨by rw [em]; exact h.nd,λk hk'=>h.ks k (by rw [em] at hk'; exact hk'),hv⟩
noncomputable def fh:List PyData->Option (List Int)
 | []=>some []
 | .int n::r=>(fh r).map (n::·)
 | _=>none
theorem Zdu {G:Hp}:∀ {vs:List V} {xs:List PyData} {ns:List Int},DnAll G vs xs->fh xs=some ns->vs=(kI ns).map kV
 | _,_,ns,.nil,h=>by cases h; rfl
 | _,_,ns,.cons (d:=x) d t,h=>by
  cases x with
  | int n =>
   rw [fh] at h
   cases e:fh _ with
   | none=>rw [e] at h; cases h
   | some ms =>
    rw [e] at h
    cases h
    have:=Zdu t e
    cases d
    rw [this]
    rfl
  | _=>cases h
theorem sA (ns:List Int):fh (ns.map PyData.int)=some ns:=by
 induction ns with
 | nil=>rfl
 | cons n ns ih=>rw [List.map_cons,fh,ih]; rfl
theorem ZcA {α:Type} {c:Prop} [Decidable c] {t:Tr α} {m:Nat} {Z:Nat->α->Prop} (h:(if c then t else Tr.fail).ok m Z):c/\t.ok m Z:=by
 by_cases q:c
 ·rw [if_pos q] at h; exact ⟨q,h⟩
 ·rw [if_neg q] at h; exact h.elim
noncomputable def qf (F:List Int->Option Int) (KS:List (List Int)) (jk ik:Nat) (body:List Sl->Tr Ou) (iv:List Sl->Tr PyData):List Sl->Tr Ou:=λρ =>
 match ρ[jk]?,ρ[ik]? with
 | some .pen,some (.d (.tuple xs)) =>
  match fh xs,body ρ with
  | some ns,.ret (.next ρ') =>
   match ρ'[jk]?,ρ'[ik]?,iv ρ' with
   | some .pen,some (.d (.tuple ys)),.ret (.int n)=>if fh ys=some ns/\F ns=some n/\ns∈KS then .ret (.ret (.d (.int n))) else .fail
   | _,_,_=>.fail
  | _,_=>.fail
 | _,_=>.fail
variable {X:Cx}
theorem ZiJ (hL:KS.length < sizeLine) {jk ik:Nat} {body:List Sl->Tr Ou} {iv:List Sl->Tr PyData}:∀ D σ H,bg (fy F KS) (qf F KS jk ik body iv) D σ H ->
  iw (ZaC (tB (ZaD (dm ik) (dm jk))) (iw (bg (fy F KS) body) (Zbr (dm jk) (dm ik) (TAe (fy F KS) iv))) ZaB) (Zaz (t7 (dm jk) (dm ik))) D σ H:=by
 rintro D σ H ⟨pa,G₀,H₀,m,ρ,G,R,z⟩
 unfold qf at z
 split at z
 ·rename_i xs hj hi
  split at z
  ·rename_i ns ρ' hns hb
   split at z
   ·rename_i ys n hj' hi' hiv
    obtain ⟨⟨c1,c2,c3⟩,z⟩:=ZcA z
    have key:∀ {σ':St} {ρ'':List Sl} {G' H':Hp} {m':Nat} {zs:List PyData},Rl (fy F KS) pa G₀ H₀ m' σ' ρ'' G' H'->ρ''[jk]?=some .pen->ρ''[ik]?=some (.d (.tuple zs))->fh zs=some ns ->
      ∃ b,σ'[jk]?=some (some (.ref pa))/\σ'[ik]?=some (some (.ref b))/\G' b=some (.tup ((kI ns).map kV)):=λ{σ' ρ'' G' H' m' zs} R' h1 h2 h3=>by
     obtain ⟨o1,e1,s1⟩:=R'.sl jk _ h1
     cases s1
     obtain ⟨o2,e2,s2⟩:=R'.sl ik _ h2
     cases s2 with
     | d dd =>
      cases dd with
      | tup g1 g2 =>
       rw [Zdu g2 h3] at g1
       exact ⟨_,e1,e2,g1⟩
    obtain ⟨b,e1,e2,e3⟩:=key R hj hi hns
    obtain ⟨o,ho,kvs,rfl,nt⟩:=R.wd.pen
    refine ⟨_,e2,_,e1,pa,bC kvs (kI ns),rfl,DGet.t ho (R.wd.sub _ _ e3),?_⟩
    refine ⟨_,rfl,?_⟩
    cases hv:bC kvs (kI ns) with
    | some v =>
     obtain ⟨n',hn',rfl⟩:=nt.vl ns v hv
     rw [c2] at hn'
     cases hn'
     refine Zjs ?_
     refine ⟨_,e1,_,e2,pa,.int n,rfl,?_,?_⟩
     ·rw [<- hv]; exact DGet.t ho (R.wd.sub _ _ e3)
     ·exact z _ _ _ R.st R.wd (.int n)
    | none =>
     show if true=true then _ else _
     rw [if_pos rfl]
     refine ⟨pa,G₀,H₀,m,ρ,G,R,?_⟩
     rw [hb]
     intro σ' G' H' sb R'
     obtain ⟨b',e1',e2',e3'⟩:=key R' hj' hi' c1
     refine ⟨pa,G₀,H₀,m,ρ',G',R',?_⟩
     rw [hiv]
     intro v G1 H1 s1 w1 d1
     cases d1
     have R1:=R'.step s1 w1
     have e3'':=s1.gs _ _ e3'
     obtain ⟨o1,ho1,kvs1,rfl,nt1⟩:=w1.pen
     have hne:b'≠pa:=λe=>by rw [e,w1.gpa] at e3''; cases e3''
     have hb1:H1 b'=some (.tup ((kI ns).map kV)):=w1.sub _ _ e3''
     refine ⟨_,e1',_,e2',pa,_,rfl,DPut.t ho1 hb1 (Nat.lt_of_le_of_lt nt1.len hL),?_⟩
     have st2:Stp pa G1 H1 G1 (upd H1 pa (.dT (bx kvs1 (kI ns) (.int n)))):=⟨λ_ _ h=>h,λ_ _ h=>.inl h,λb o h hn=>by rw [az hn]; exact h⟩
     have w2:Wd (fy F KS) pa m G1 (upd H1 pa (.dT (bx kvs1 (kI ns) (.int n)))):=⟨λb o h=>by
      have hn:b≠pa:=λe=>by rw [e,w1.gpa] at h; cases h
      rw [az hn]
      exact w1.sub _ _ h,w1.gpa,_,bE,_,rfl,nt1.put c2 c3⟩
     refine ⟨_,e1',_,e2',pa,.int n,rfl,?_,?_⟩
     ·have:=DGet.t (k:=kI ns) (H:=upd H1 pa (.dT (bx kvs1 (kI ns) (.int n)))) (b:=b') bE (by rw [az hne]; exact hb1)
      rw [Zas,if_pos rfl] at this
      exact this
     ·exact z _ _ _ (R1.st.trans st2 w1.some) w2 (.int n)
   ·exact z.elim
  ·exact z.elim
 ·exact z.elim
end L2
set_option Elab.async false
set_option linter.all false
set_option maxRecDepth 100000
namespace L2
open PySem PySem.Spec PyProof.Rows
variable {X:Cx} {F:List Int->Option Int} {KS:List (List Int)}
noncomputable def tf (fs:PyData->List Int->Option Int) (ks:PyData->List (List Int)) (f:(List Int->Option Int)->List (List Int)->List Sl->Tr Re) (i:List Sl->Tr PyData) (js:List Sl->Tr (List PyData)):List Sl->Tr Re:=λρ =>
 (i ρ).bind λa=>(js ρ).bind λxs=>if (ks a).length < sizeLine then
  match f (fs a) (ks a) (.d a::.pen::xs.map Sl.d) with
  | .ret (.d (.int n))=>.ret (.d (.int n))
  | _=>.fail else .fail
theorem Zfe {pa:Addr} {G:Hp}:∀ {vs:List V} {xs:List PyData},DnAll G vs xs->ArsOk pa G vs (xs.map Sl.d)
 | _,_,.nil=>.nil
 | _,_,.cons h t=>.cons (.d h) (Zfe t)
theorem Stp.oldM {pa:Addr} {G H G' H':Hp} (st:Stp pa G H G' H') (hp:∃ o,H' pa=some o) {p:Addr} (h:H' p=none):H p=none:=by
 cases e:H p with
 | none=>rfl
 | some u =>
  by_cases hc:p=pa
  ·subst hc
   obtain ⟨o,z⟩:=hp
   rw [h] at z; cases z
  ·rw [st.hk p u e hc] at h; cases h
noncomputable def oG (n:Nat) (f:(List Int->Option Int)->List (List Int)->List Sl->Tr Re):Sp:=λvs H Q E=>vs.length=n/\∃ F KS,KS.length < sizeLine/\wO (fy F KS) n (f F KS) vs H Q E
theorem Zmj {PK:Pk} {x:Str} {k:Nat} {ps:List Str} {fs:PyData->List Int->Option Int} {ks:PyData->List (List Int)} {f:(List Int->Option Int)->List (List Int)->List Sl->Tr Re} {i:List Sl->Tr PyData} {js:List Sl->Tr (List PyData)} {e:Expr} {es:List Expr} {pp pd pos:Pos}
  (C:Callee X.prog X.w X.K X.mg X.base x k ps (oG ps.length f)) (hlen:∀ F KS as m Z,(f F KS as).ok m Z->as.length=ps.length) (hr:Room k X.A) (hg:Gl X x) (ha:PE X e (TAe PK i)) (hes:PA X es (TAd PK js))
  (hdb:(x == ("__debug__":Str))=false:=by decide)
  (he:starEach (e::.Dict [] [] pd::es) X.env=(false,eval e X.env)::starEach (.Dict [] [] pd::es) X.env:=by rfl)
  (he2:starEach (.Dict [] [] pd::es) X.env=(false,eval (.Dict [] [] pd) X.env)::starEach es X.env:=by rfl)
  (hpl:(backTo pos (starEach (.Dict [] [] pd::es) X.env)).any (·.1)=false:=by rfl) :
  PE X (.Call (.Name x pp) (e::.Dict [] [] pd::es) [] pos) (tu PK (tf fs ks f i js)) :=
 (uY C hr hg (bo ha (bo ZhS hes he2) he) hdb he hpl).imp λσ H Q hz0=>by
  obtain ⟨pa,G₀,H₀,m,ρ,G,R,z⟩:=hz0
  refine TAe.then R z λm1 a v G1 H1 s1 w1 R1 d1 q1=>?_
  intro p hp
  obtain ⟨w2,s2⟩:=w1.own (o:=.dT []) hp
  have R2:=R1.step s2 w2
  refine ⟨pa,G₀,H₀,m1,ρ,G1,R2,Tr.ok_mono (Tr.ok_bind.mp q1) λm3 xs q3 vs G3 H3 s3 w3 d3=>?_⟩
  obtain ⟨hL,q4⟩:=ZcA q3
  have hpp:p≠pa:=λe=>w1.ne hp e.symm
  have hp3:H3 p=some (.dT []):=s3.hk _ _ bE hpp
  have gp1:G1 p=none:=w1.gnone hp
  have gp3:G3 p=none:=by
   cases e:G3 p with
   | none=>rfl
   | some u =>
    rcases s3.gn p u e with h | h
    ·rw [gp1] at h; cases h
    ·rw [bE] at h; cases h
  show oG ps.length f ((v::.ref p::vs)++[]) H3 Q E0
  rw [List.append_nil]
  split at q4
  ·rename_i n hf
   have st13:Stp pa G H G3 H3:=(s1.trans s2 w1.some).trans s3 w2.some
   have hok:(f (fs a) (ks a) (.d a::.pen::xs.map Sl.d)).ok m3 λm' r=>Kr (fy (fs a) (ks a)) p m' G3 H3 r Q:=by
    rw [hf]
    intro v' G' H' st w' dv
    refine q4 v' G' H' ⟨λb o h=>st.gs b o (st13.gs b o h),λb o h=>?_,λb o h hn=>?_⟩ ⟨w'.sub,?_,?_⟩ dv
    ·rcases st.gn b o h with h1 | h1
     ·exact st13.gn b o h1
     ·exact .inr (st13.oldM w3.some h1)
    ·have hb:b≠p:=λe=>by
      have hH:H p=none:=s1.oldM w1.some hp
      rw [e,hH] at h; cases h
     exact st.hk b o (st13.hk b o h hn) hb
    ·cases e:G' pa with
     | none=>rfl
     | some u =>
      rcases st.gn pa u e with h | h
      ·rw [w3.gpa] at h; cases h
      ·obtain ⟨o,ho⟩:=w3.some
       rw [ho] at h; cases h
    ·obtain ⟨o,ho,hi⟩:=w3.pen
     exact ⟨o,st.hk _ _ ho (λe=>hpp e.symm),PK.mono st.gs hi⟩
   have hars:ArsOk p G3 (v::.ref p::vs) (.d a::.pen::xs.map Sl.d):=.cons (.d (d1.mono s3.gs)) (.cons .pen (Zfe d3))
   have hl:(v::V.ref p::vs).length=ps.length:=by rw [hars.length]; exact hlen _ _ _ _ _ hok
   exact ⟨hl,fs a,ks a,hL,hl,p,m3,G3,_,⟨w3.sub,gp3,_,hp3,[],rfl,Nts.nil⟩,hars,hok⟩
  ·exact q4.elim
theorem CalM.at {P:Program} {w:World} {K:PySem.W.Frag} {mg:Str->Option Value} {base:Heap} {x:Str} {k:Nat} {ps:List Str} {f:(List Int->Option Int)->List (List Int)->List Sl->Tr Re} (C:Callee P w K mg base x k ps (oG ps.length f)) (hlen:∀ F KS as m Z,(f F KS as).ok m Z->as.length=ps.length) (hL:KS.length < sizeLine):ACal (fy F KS) P w K mg base x k ps (f F KS):=by
 obtain ⟨f',fd,FN,hm,hk,hb⟩:=C.ex
 exact ⟨⟨⟨f',fd,FN.imp λvs H Q E h=>⟨h.1,F,KS,hL,h⟩,hm,hk,hb⟩⟩,hlen F KS⟩
theorem Zfp {st:Stmt} {P:Program} {w:World} {K:PySem.W.Frag} {mg:Str->Option Value} {base:Heap} {x:Str} {N ps:List Str} {kk k:Nat} {s:(List Int->Option Int)->List (List Int)->List Sl->Tr Ou} (D:Def K mg x st ps) (S:FnScope N ps (aK st)) (hk:N.length - ps.length=k)
  (hbody:∀ (F:List Int->Option Int) (KS:List (List Int)),KS.length < sizeLine->∀ (f:Addr) (cdv:Value) (A:Around) (outer:List Env) (sh:Shared) (H:Hp) (E:XK),Room kk (A.deeper (envOfC x (aK st) sh.heap.objs.size f cdv)) ->
   PSs (gy gJ P w K mg base N x (aK st) f cdv A outer sh H E).nox (fN st) (bg (fy F KS) (s F KS))):Callee P w K mg base x (kk+1) ps (oG ps.length λF KS=>bj ps.length k (s F KS)):=by
 refine D.ok S (λvs H Q E h=>h.1) λf cdv A outer sh H vs Q E hr hsp=>?_
 obtain ⟨_,F,KS,hL,hv,pa,m,G,as,wd,ar,z⟩:=hsp
 refine ⟨_,hbody F KS hL f cdv A outer sh H E hr,?_⟩
 unfold bj at z
 obtain ⟨_,z⟩:=ff z
 refine ⟨pa,G,H,m,_,G,Rl.start wd ar (by rw [hv]; exact hk),Tr.ok_mono (Tr.ok_bind.mp z) λm1 o ko=>?_⟩
 cases o with
 | next ρ=>exact λσ G1 H1 sb R1=>ko .non G1 H1 R1.st R1.wd .non
 | ret r=>exact ko
 | brk ρ=>exact ko.elim
 | cont ρ=>exact ko.elim
theorem Zfu {n k:Nat} {s:List Sl->Tr Ou}:∀ as m Z,(bj n k s as).ok m Z->as.length=n:=λas m Z h=>by
 unfold bj at h
 exact of_decide_eq_true (ff h).1
end L2
set_option Elab.async false
set_option linter.all false
set_option maxRecDepth 100000
namespace L2
open PySem PySem.Spec PyProof.Rows
variable {X:Cx} {PK:Pk}
theorem vz {st:Stmt} {B:List Stmt} {s b:List Sl->Tr Ou} {u:TS} (h1:PS X st (bg PK s)) (h2:PSs X B (iw (bg PK b) u)):PSs X (st::B) (iw (bg PK (ap s b)) u) :=
 (cK h1 h2).imp λD σ H z=>Zft { D with nx:=u D } σ H z
theorem ZiA {st p:Stmt} {s:List Sl->Tr Ou} {u:TS} (h1:PS X st (bg PK s)) (h2:PS X p u):PSs X [st,p] (iw (bg PK s) u):=cK h1 (gT h2)
end L2
set_option Elab.async false
set_option linter.all false
set_option maxRecDepth 100000
namespace My
open PySem PySem.Spec PyProof.Rows L2 Tw
noncomputable def b8:List (List Int)->Int
 | []=>1
 | day::r=>day.sum * b8 r
section
variable (s:Shp)
noncomputable def eu (p:Int):Int:=if 0 < p then s.start+s.piece * p else 0
noncomputable def dH (x:Int):Int:=s.keep * ci x 0+s.lack * ci (0 - x) 0
noncomputable def pS (x:Int):Int:=s.late * ci (0 - x) 0 - s.back * ci x 0
end
noncomputable def nC:List Int->Option Shp
 | [a,b,c,d,e,f,g,h,i]=>some ⟨a,b,c,d,e,f,g,h,i⟩
 | _=>none
noncomputable def fV:PyData->Option (List Int)
 | .tuple xs=>fh xs
 | _=>none
noncomputable def pR:List PyData->Option (List (List Int))
 | []=>some []
 | x::r=>(fV x).bind λa=>(pR r).map (a::·)
end My
set_option Elab.async false
set_option linter.all false
set_option maxRecDepth 100000
namespace My
open PySem PySem.Spec PyProof.Rows L2 Tw
noncomputable def rse (p:Int×Int) (c:Int):Int:=if c < p.1 then p.2 - c else 0
noncomputable def bU:List (Int×Int)->Int->Int
 | [],_=>0
 | p::_,c=>rse p c
noncomputable def vP (s:Shp):List (List Int)->List (Int×Int)->Int->List Int->Int
 | [],_,x,way=>pS s (x+way.sum)
 | day::rest,P,x,way=>eu s (bU P (x+way.sum)) * b8 (day::rest)+ws (λf=>dH s (x+way.headD 0 - f) * b8 rest+vP s rest (P.drop 1) (x+way.headD 0 - f) (way.drop 1++[bU P (x+way.sum)])) 0 day
noncomputable def o4:List PyData->Option (List (Int×Int))
 | []=>some []
 | .tuple [.int a,.int b]::r=>(o4 r).map ((a,b)::·)
 | _=>none
noncomputable def gm:PyData->List Int->Option Int
 | .list [sd,.tuple fd,_,.list pd],t::x::way=>(fV sd).bind λl=>(nC l).bind λs=>(pR fd).bind λfs=>(o4 pd).map λP=>vP s (fs.drop t.toNat) (P.drop t.toNat) x way
 | _,_=>none
noncomputable def eZ:Nat->List (List Int)
 | 0=>[[]]
 | n+1=>(eZ n).flatMap λw=>(List.range 40).map λa:Nat=>(a:Int)::w
noncomputable def eS:PyData->List (List Int)
 | .list [sd,.tuple fd,_,.list pd]=>match (fV sd).bind nC with
  | some s=>(List.range fd.length).flatMap λt:Nat=>(List.range 40).flatMap λx:Nat=>(eZ (fd.length - pd.length)).map λw=>(t:Int)::((x:Int) - s.depth)::w
  | none=>[]
 | _=>[]
end My
set_option Elab.async false
set_option linter.all false
set_option maxRecDepth 100000
namespace Bar
variable (A:Nat->Nat->Int)
noncomputable def bX (f:Nat->Int):Nat->Int
 | 0=>0
 | n+1=>bX f n+f n
end Bar
set_option Elab.async false
set_option linter.all false
set_option maxRecDepth 100000
namespace Tw
open PySem L2
theorem qy {f g:Int->Int}:∀ {l:List Int} {k:Nat},ws (λx=>f x+g x) k l=ws f k l+ws g k l
 | [],k=>rfl
 | w::l,k=>by
  unfold ws
  rw [qy (l:=l),Int.mul_add]
  omega
theorem tP {f:Int->Int} {m:Int}:∀ {l:List Int} {k:Nat},ws (λx=>m * f x) k l=m * ws f k l
 | [],k=>by unfold ws; simp
 | w::l,k=>by
  unfold ws
  rw [tP (l:=l)]
  grind
end Tw
set_option Elab.async false
set_option linter.all false
set_option maxRecDepth 100000
namespace Tw
open PySem L2
noncomputable def prd:List (List Int)->Int
 | []=>1
 | d::fs=>prd fs * d.sum
theorem qx {a:Int}:∀ (l:List Int) (k:Nat),ws (λ_=>a) k l=a * l.sum
 | [],k=>by simp [ws]
 | w::l,k=>by
  unfold ws
  rw [qx l,List.sum_cons,Int.mul_add,Int.mul_comm]
theorem ir {f:Int->Int} {a b:Nat}:∀ {l:List Int} {k:Nat},(∀ w∈l,nb a w)->(∀ x:Int,(k:Int)<=x->x < k+l.length->nb b (f x))->nb (a+b+l.length) (ws f k l)
 | [],k,_,_=>by unfold ws nb; exact Nat.pos_of_ne_zero (by simp)
 | w::l,k,hw,hf=>by
  rw [List.length_cons] at hf ⊢
  have h1:=b7 (hw w (by simp)) (hf k (by omega) (by omega))
  have h2:=ir (f:=f) (a:=a) (b:=b) (l:=l) (k:=k+1) (λv hv=>hw v (List.mem_cons_of_mem _ hv)) λx x1 x2=>hf x (by omega) (by omega)
  unfold ws
  exact bf (dW h1 h2) (by omega)
end Tw
set_option Elab.async false
set_option linter.all false
set_option maxRecDepth 100000
namespace Tw
open PySem L2
theorem e9 (d:List Int) (fs:List (List Int)):reach (d::fs)=great d+reach fs:=by
 unfold reach
 rw [List.map_cons,List.sum_cons]
theorem iI:∀ {fs:List (List Int)},(∀ l∈fs,∃ n∈l,n > 0)->0<=reach fs
 | [],_=>by decide
 | d::fs,h=>by
  have:=iI (fs:=fs) λl hl=>h l (List.mem_cons_of_mem _ hl)
  have h1:=(nS (qC (k:=0) (h d (by simp)))).1
  have h2:=nA h1
  rw [e9]
  unfold great
  omega
end Tw
set_option Elab.async false
set_option linter.all false
set_option maxRecDepth 100000
namespace Tw
open PySem L2
theorem ZiQ {h:PyData->Tr (Option PyData)} {p:Int->Bool} {f:Int->Int} {lo hi:Int} (hx:∀ z,lo<=z->z < hi->h (.int z)=.ret (if p z=true then some (.int (f z)) else none)):cN h (bc lo hi)=.ret ((((ao lo (hi - lo).toNat).filter p).map f).map PyData.int):=by
 have key:∀ l:List Int,(∀ z∈l,lo<=z/\z < hi)->cN h (l.map PyData.int)=.ret (((l.filter p).map f).map PyData.int):=by
  intro l
  induction l with
  | nil=>intro _; rfl
  | cons z l ih =>
   intro hz
   have hh:=hz z (by simp)
   rw [List.map_cons,cN,hx z hh.1 hh.2,Tr.ret_bind,ih λy hy=>hz y (List.mem_cons_of_mem _ hy),Tr.ret_bind]
   cases hp:p z with
   | true=>rw [List.filter_cons_of_pos hp]; rfl
   | false=>rw [List.filter_cons_of_neg (by simp [hp])]; rfl
 unfold bc
 refine key _ λz hz=>?_
 have:=nM hz
 omega
noncomputable def rh (g:Int->Int) (top K least k:Int):Bool:=decide (lvl g top K (least+k)=least+k)
noncomputable def sM (g:Int->Int) (top K G x:Int):Bool:=decide (K+g G=(pck g top K x).1)
noncomputable def mks (a b:Int):PyData:=.tuple [.str "marks",.int a,.int b]
noncomputable def mkn (a b:Int):PyData:=.tuple [.str "none",.int a,.int b]
noncomputable def vA (g:Int->Int) (top K least:Int):PyData :=
 match (ao 0 (top - least).toNat).reverse.find? (λk=>!rh g top K least k) with
 | none=>mks least least
 | some l=>match (ao 0 l.toNat).reverse.find? (λk=>!sM g top K (lvl g top K (least+l)) (least+k)) with
  | some k=>mkn (least+k) (least+l)
  | none=>mks (least+l+1) (lvl g top K (least+l))
theorem u5 {g:Int->Int} {top K x:Int} (hx:x<=top):lvl g top K x=x ↔ g x=(pck g top K x).1:=by
 unfold lvl
 rcases (f9 (g:=g) (K:=K) hx).2.2 with ⟨a,b⟩ | ⟨a,b,c⟩
 ·exact ⟨λ_=>b.symm,λ_=>a⟩
 ·exact ⟨λz=>by omega,λz=>by omega⟩
end Tw
set_option Elab.async false
set_option linter.all false
set_option maxRecDepth 100000
namespace Tw
open PySem PySem.Spec PyProof.Rows L2
noncomputable def KC (K a b:Int) (g:Int->Int):Prop:=∀ u v w,a<=u->u < v->v < w->w<=b->(w - u) * g v<=(w - v) * g u+(v - u) * (g w+K)
theorem KC.mono {K K' a b:Int} {g:Int->Int} (h:KC K a b g) (hK:K<=K'):KC K' a b g:=λu v w h1 h2 h3 h4=>by
 have a1:=h u v w h1 h2 h3 h4
 have a2:=Int.mul_le_mul_of_nonneg_left (show g w+K<=g w+K' by omega) (show 0<=v - u by omega)
 omega
theorem KC.sub {K a a' b:Int} {g:Int->Int} (h:KC K a b g) (ha:a<=a'):KC K a' b g:=λu v w h1 h2 h3 h4=>h u v w (by omega) h2 h3 h4
theorem KC.congr {K a b:Int} {g g':Int->Int} (h:KC K a b g) (e:∀ x,a<=x->x<=b->g' x=g x):KC K a b g':=λu v w h1 h2 h3 h4=>by
 rw [e u h1 (by omega),e v (by omega) (by omega),e w (by omega) h4]
 exact h u v w h1 h2 h3 h4
theorem KC.add {K K' a b:Int} {g g':Int->Int} (h:KC K a b g) (h':KC K' a b g'):KC (K+K') a b λx=>g x+g' x:=λu v w h1 h2 h3 h4=>by
 have a1:=h u v w h1 h2 h3 h4
 have a2:=h' u v w h1 h2 h3 h4
 show (w - u) * (g v+g' v)<=(w - v) * (g u+g' u)+(v - u) * (g w+g' w+(K+K'))
 have e1:(w - u) * (g v+g' v)=(w - u) * g v+(w - u) * g' v:=by grind
 have e2:(w - v) * (g u+g' u)+(v - u) * (g w+g' w+(K+K'))=((w - v) * g u+(v - u) * (g w+K))+((w - v) * g' u+(v - u) * (g' w+K')):=by grind
 omega
theorem KC.mul {K a b m:Int} {g:Int->Int} (h:KC K a b g) (hm:0<=m):KC (m * K) a b λx=>m * g x:=λu v w h1 h2 h3 h4=>by
 have a1:=Int.mul_le_mul_of_nonneg_left (h u v w h1 h2 h3 h4) hm
 have e1:m * ((w - u) * g v)=(w - u) * (m * g v):=by grind
 have e2:m * ((w - v) * g u+(v - u) * (g w+K))=(w - v) * (m * g u)+(v - u) * (m * g w+m * K):=by grind
 rw [e1,e2] at a1
 exact a1
theorem Zdi (P a b:Int):KC 0 a b λx=>P * x:=λu v w h1 h2 h3 h4=>by
 show (w - u) * (P * v)<=(w - v) * (P * u)+(v - u) * (P * w+0)
 have:(w - u) * (P * v)=(w - v) * (P * u)+(v - u) * (P * w+0):=by grind
 omega
theorem KC.shift {K a b c:Int} {g:Int->Int} (h:KC K a b g):KC K (a+c) (b+c) λx=>g (x - c):=λu v w h1 h2 h3 h4=>by
 have:=h (u - c) (v - c) (w - c) (by omega) (by omega) (by omega) (by omega)
 have e1:w - c - (u - c)=w - u:=by omega
 have e2:w - c - (v - c)=w - v:=by omega
 have e3:v - c - (u - c)=v - u:=by omega
 rw [e1,e2,e3] at this
 exact this
theorem Zdh {p q a b:Int} (hpq:p<=q):KC 0 a b λx=>if x > 0 then q * x else p * x:=λu v w h1 h2 h3 h4=>by
 have hd:0<=q - p:=by omega
 have key:∀ x:Int,(if x > 0 then q * x else p * x)=p * x+(q - p) * (if x > 0 then x else 0):=λx=>by split <;> grind
 show (w - u) * (if v > 0 then q * v else p * v)<=(w - v) * (if u > 0 then q * u else p * u)+(v - u) * ((if w > 0 then q * w else p * w)+0)
 rw [key u,key v,key w]
 have hm:(w - u) * (if v > 0 then v else 0)<=(w - v) * (if u > 0 then u else 0)+(v - u) * (if w > 0 then w else 0):=by
  by_cases hu:u > 0
  ·rw [if_pos hu,if_pos (by omega),if_pos (by omega)]
   have:(w - u) * v=(w - v) * u+(v - u) * w:=by grind
   omega
  ·rw [if_neg hu]
   by_cases hv:v > 0
   ·rw [if_pos hv,if_pos (by omega)]
    have e:(v - u) * w - (w - u) * v=(-u) * (w - v):=by grind
    have:=Int.mul_nonneg (show 0<=-u by omega) (show 0<=w - v by omega)
    omega
   ·rw [if_neg hv]
    have:=Int.mul_nonneg (show 0<=v - u by omega) (show 0<=(if w > 0 then w else 0) by split <;> omega)
    omega
 have a1:=Int.mul_le_mul_of_nonneg_left hm hd
 generalize (if u > 0 then u else 0)=mu at *
 generalize (if v > 0 then v else 0)=mv at *
 generalize (if w > 0 then w else 0)=mw at *
 have e1:(w - u) * (p * v+(q - p) * mv)=(w - u) * (p * v)+(q - p) * ((w - u) * mv):=by grind
 have e2:(w - v) * (p * u+(q - p) * mu)+(v - u) * (p * w+(q - p) * mw+0)=(w - u) * (p * v)+(q - p) * ((w - v) * mu+(v - u) * mw):=by grind
 omega
theorem Zjj {K a top:Int} {g:Int->Int} (hK:0<=K) (h:KC K a top g):KC K a top λx=>(pck g top K x).1:=λu v w h1 h2 h3 h4=>by
 show (w - u) * (pck g top K v).1<=(w - v) * (pck g top K u).1+(v - u) * ((pck g top K w).1+K)
 obtain ⟨v1,v2⟩:=ra (g:=g) (top:=top) (K:=K) (x:=v) (by omega)
 have vK:∀ y,v<=y->y<=top->(pck g top K v).1<=K+g y:=λy y1 y2=>by
  by_cases e:y=v
  ·subst e; omega
  ·exact v2 y (by omega) y2
 have fw:(pck g top K v).1<=(pck g top K w).1+K:=by
  obtain ⟨_,w2,w3⟩:=f9 (g:=g) (top:=top) (K:=K) (x:=w) (by omega)
  rcases w3 with ⟨_,e⟩ | ⟨l,e,_⟩
  ·have:=vK w (by omega) h4
   omega
  ·have:=vK _ (show v<=(pck g top K w).2 by omega) w2
   omega
 -- from a place p before v,by its own sum
 have base:∀ p,a<=p->p < v->(w - p) * (pck g top K v).1<=(w - v) * g p+(v - p) * ((pck g top K w).1+K):=λp p1 p2=>by
  obtain ⟨_,w2,w3⟩:=f9 (g:=g) (top:=top) (K:=K) (x:=w) (by omega)
  rcases w3 with ⟨_,e⟩ | ⟨l,e,_⟩
  ·rw [e]
   have a1:=h p v w p1 p2 h3 h4
   have a2:=Int.mul_le_mul_of_nonneg_left v1 (show 0<=w - p by omega)
   omega
  ·rw [e]
   generalize (pck g top K w).2=q at *
   have fq:=vK q (by omega) w2
   have a1:=h p v q p1 p2 (by omega) w2
   have a2:=Int.mul_le_mul_of_nonneg_left v1 (show 0<=q - p by omega)
   generalize (pck g top K v).1=f at *
   generalize g v=gv at *
   generalize g q=gq at *
   generalize g p=gp at *
   have a3:=Int.mul_nonneg (show 0<=v - p by omega) hK
   by_cases hg:f<=gp
   ·have b1:=Int.mul_le_mul_of_nonneg_left hg (show 0<=w - v by omega)
    have b2:=Int.mul_le_mul_of_nonneg_left fq (show 0<=v - p by omega)
    have e1:(w - p) * f=(w - v) * f+(v - p) * f:=by grind
    have e2:(v - p) * (K+gq+K)=(v - p) * (K+gq)+(v - p) * K:=by grind
    omega
   ·have b1:=Int.mul_nonneg (show 0<=q - w by omega) (show 0<=f - gp by omega)
    have e1:(q - p) * f - (q - v) * gp=(w - p) * f - (w - v) * gp+(q - w) * (f - gp):=by grind
    have e2:(v - p) * (K+gq+K)=(v - p) * (gq+K)+(v - p) * K:=by grind
    omega
 obtain ⟨_,u2,u3⟩:=f9 (g:=g) (top:=top) (K:=K) (x:=u) (by omega)
 rcases u3 with ⟨_,e⟩ | ⟨l,e,_⟩
 ·rw [e]
  exact base u h1 h2
 ·rw [e]
  generalize (pck g top K u).2=p at *
  by_cases hp:p < v
  ·have b:=base p (by omega) hp
   have c1:=Int.mul_nonneg (show 0<=w - v by omega) hK
   have c2:=Int.mul_le_mul_of_nonneg_left fw (show 0<=p - u by omega)
   generalize (pck g top K v).1=f at *
   generalize (pck g top K w).1+K=fwK at *
   have e1:(w - u) * f=(w - p) * f+(p - u) * f:=by grind
   have e2:(w - v) * (K+g p)+(v - u) * fwK=(w - v) * g p+(v - p) * fwK+((w - v) * K+(p - u) * fwK):=by grind
   omega
  ·have b:=vK p (by omega) u2
   have c1:=Int.mul_le_mul_of_nonneg_left b (show 0<=w - v by omega)
   have c2:=Int.mul_le_mul_of_nonneg_left fw (show 0<=v - u by omega)
   generalize (pck g top K v).1=f at *
   have e1:(w - u) * f=(w - v) * f+(v - u) * f:=by grind
   omega
theorem nY {K a b:Int} {F:Int->Int->Int}:∀ {l:List Int} {k:Nat},(∀ w∈l,0<=w)->(∀ f∈bT k l,KC K a b λy=>F y f)->KC (l.sum * K) a b λy=>ws (λf=>F y f) k l
 | [],k,_,_=>λu v w h1 h2 h3 h4=>by
  show (w - u) * 0<=(w - v) * 0+(v - u) * (0+([]:List Int).sum * K)
  simp
 | w::l,k,h0,h=>by
  have hw:=h0 w (by simp)
  by_cases hp:w > 0
  ·have es:bT k (w::l)=(k:Int)::bT (k+1) l:=by rw [bT,if_pos hp]
   rw [es] at h
   have a1:=(h k (by simp)).mul (m:=w) (by omega)
   have a2:=nY (K:=K) (a:=a) (b:=b) (F:=F) (l:=l) (k:=k+1) (λv hv=>h0 v (List.mem_cons_of_mem _ hv)) λf hf=>h f (List.mem_cons_of_mem _ hf)
   have e:(w::l).sum * K=w * K+l.sum * K:=by rw [List.sum_cons,Int.add_mul]
   rw [e]
   exact a1.add a2
  ·have hz:w=0:=by omega
   have es:bT k (w::l)=bT (k+1) l:=by rw [bT,if_neg hp]
   rw [es] at h
   have a2:=nY (K:=K) (a:=a) (b:=b) (F:=F) (l:=l) (k:=k+1) (λv hv=>h0 v (List.mem_cons_of_mem _ hv)) h
   have e:(w::l).sum=l.sum:=by rw [List.sum_cons,hz,Int.zero_add]
   rw [e]
   refine a2.congr λx _ _=>?_
   show ws (λf=>F x f) k (w::l)=ws (λf=>F x f) (k+1) l
   rw [ws,hz,Int.zero_mul,Int.zero_add]
end Tw
set_option Elab.async false
set_option linter.all false
set_option maxRecDepth 100000
namespace Tw
open PySem PySem.Spec PyProof.Rows L2
theorem KC.subR {K a b b':Int} {g:Int->Int} (h:KC K a b g) (hb:b'<=b):KC K a b' g:=λu v w h1 h2 h3 h4=>h u v w h1 h2 h3 (by omega)
structure Shp.Cv (s:Shp):Prop where
 k0:0<=s.keep
 l0:0<=s.lack
 bl:s.back<=s.late
theorem Zjk {s:Shp} (c:s.Cv) (a b:Int):KC 0 a b s.fin:=by
 have h:=Zdh (p:=-s.late) (q:=-s.back) (a:=a) (b:=b) (by have:=c.bl; omega)
 refine h.congr λx _ _=>?_
 unfold Shp.fin
 split
 ·rfl
 ·grind
theorem Zjl {s:Shp} (c:s.Cv) {a b f:Int} (ha:-s.depth+f<=a):KC 0 a b λy=>s.day y f:=by
 have h:=Zdh (p:=-s.lack) (q:=s.keep) (a:=a - f) (b:=b - f) (by have:=c.k0; have:=c.l0; omega)
 have h2:=h.shift (c:=f)
 have e1:a - f+f=a:=by omega
 have e2:b - f+f=b:=by omega
 rw [e1,e2] at h2
 refine h2.congr λx x1 _=>?_
 have en:s.nx x f=x - f:=by unfold Shp.nx ci; split <;> omega
 show s.day x f=if x - f > 0 then s.keep * (x - f) else -s.lack * (x - f)
 unfold Shp.day
 rw [en]
 split <;> grind
theorem sC {d:List Int} {f:Int} (h:f∈bT 0 d):f<=great d:=by
 unfold great
 exact (nS (List.ne_nil_of_mem h)).2 f h
end Tw
set_option Elab.async false
set_option linter.all false
set_option maxRecDepth 100000
namespace Tw
open PySem PySem.Spec PyProof.Rows L2
theorem sr {K a top:Int} {g:Int->Int} (h:KC K a top g) {z y G:Int} (hz:a<=z) (zy:z < y) (yG:y < G) (Gt:G<=top) (hy:K+g G < g y):K+g G < g z:=by
 have k:=h z y G hz zy yG Gt
 apply Int.not_le.mp
 intro hc
 have a1:=Int.mul_le_mul_of_nonneg_left hc (show 0<=G - y by omega)
 have a2:=Int.mul_le_mul_of_nonneg_left (show K+g G+1<=g y by omega) (show 0<=G - z by omega)
 have e1:(G - z) * (K+g G+1)=(G - y) * (K+g G)+(y - z) * (g G+K)+(G - z):=by grind
 omega
theorem Zji {K a top:Int} {g:Int->Int} (hK:0<=K) (h:KC K a top g) {z y G:Int} (hz:a<=z) (zy:z<=y) (yG:y < G) (Gt:G<=top) (hy:K+g G < g y) (ey:(pck g top K y).1=K+g G):K+g G=(pck g top K z).1:=by
 by_cases e:z=y
 ·subst e; exact ey.symm
 ·have zy':z < y:=by omega
  obtain ⟨b1,b2⟩:=ra (g:=g) (top:=top) (K:=K) (x:=z) (by omega)
  obtain ⟨c1,c2⟩:=ra (g:=g) (top:=top) (K:=K) (x:=y) (by omega)
  have hzG:=b2 G (by omega) Gt
  have hz':=sr h hz zy' yG Gt hy
  obtain ⟨_,w2,w3⟩:=f9 (g:=g) (top:=top) (K:=K) (x:=z) (by omega)
  rcases w3 with ⟨_,e⟩ | ⟨l,e,_⟩
  ·omega
  ·generalize (pck g top K z).2=w at *
   have:g G<=g w:=by
    by_cases h1:y < w
    ·have:=c2 w h1 w2
     omega
    ·by_cases h2:w=y
     ·subst h2; omega
     ·have:=sr h (z:=w) (by omega) (by omega) yG Gt hy
      omega
   omega
theorem Zhc (n:Nat):(ao 0 (n+1)).reverse=(n:Int)::(ao 0 n).reverse:=by
 unfold ao
 rw [List.range_succ,List.map_append,List.reverse_append]
 simp
theorem revf {p:Int->Bool}:∀ n:Nat,((∀ k:Int,0<=k->k < n->p k=false)/\(ao 0 n).reverse.find? p=none)\/∃ l:Int,0<=l/\l < n/\p l=true/\(∀ k:Int,l < k->k < n->p k=false)/\(ao 0 n).reverse.find? p=some l
 | 0=>.inl ⟨λk k0 k1=>by omega,rfl⟩
 | n+1=>by
  rw [Zhc]
  cases hp:p n with
  | true=>exact .inr ⟨n,by omega,by omega,hp,λk k0 k1=>by omega,by rw [List.find?_cons,hp]⟩
  | false =>
   have ef:((n:Int)::(ao 0 n).reverse).find? p=(ao 0 n).reverse.find? p:=by rw [List.find?_cons,hp]
   rw [ef]
   rcases revf (p:=p) n with ⟨h1,h2⟩ | ⟨l,l0,l1,h1,h2,h3⟩
   ·refine .inl ⟨λk k0 k1=>?_,h2⟩
    by_cases e:k=n
    ·rw [e]; exact hp
    ·exact h1 k k0 (by omega)
   ·refine .inr ⟨l,l0,by omega,h1,λk k0 k1=>?_,h3⟩
    by_cases e:k=n
    ·rw [e]; exact hp
    ·exact h2 k k0 (by omega)
inductive Mk (g:Int->Int) (top K least:Int):Int->Int->Prop where
 | own:(∀ x,least<=x->x<=top->lvl g top K x=x)->Mk g top K least least least
 | two:∀ y G:Int,least<=y->y < G->G<=top->lvl g top K y=G->(∀ x,y < x->x<=top->lvl g top K x=x)->(∀ x,least<=x->x<=y->K+g G=(pck g top K x).1)->(K=0->y+1=G)->Mk g top K least (y+1) G
theorem ZcV (g:Int->Int) (top K:Int):lvl g top K top=top:=by unfold lvl; rw [o5]
theorem ZiE {K a top:Int} {g:Int->Int} (hK:0<=K) (h:KC K a top g) {least:Int} (l0:a<=least) (l1:least<=top):∃ L G,vA g top K least=mks L G/\Mk g top K least L G:=by
 have own:∀ k,rh g top K least k=true ↔ lvl g top K (least+k)=least+k:=λk=>by unfold rh; exact decide_eq_true_iff
 rcases revf (p:=λk=>!rh g top K least k) (top - least).toNat with ⟨h1,h2⟩ | ⟨l,n0,n1,h1,h2,h3⟩
 ·refine ⟨least,least,?_,.own λx x1 x2=>?_⟩
  ·unfold vA
   rw [h2]
  ·by_cases e:x=top
   ·rw [e]; exact ZcV g top K
   ·have:=h1 (x - least) (by omega) (by omega)
    have hx:=(own (x - least)).mp (by simpa using this)
    have e2:least+(x - least)=x:=by omega
    rw [e2] at hx
    exact hx
 ·have hno:¬ lvl g top K (least+l)=least+l:=λe=>by
   have:=(own l).mpr e
   rw [this] at h1
   cases h1
  obtain ⟨p1,p2,p3⟩:=f9 (g:=g) (top:=top) (K:=K) (x:=least+l) (by omega)
  unfold lvl at hno
  rcases p3 with ⟨e,_⟩ | ⟨p4,p5,p6⟩
  ·exact absurd e hno
  ·have hown:∀ x,least+l < x->x<=top->lvl g top K x=x:=λx x1 x2=>by
    by_cases e:x=top
    ·rw [e]; exact ZcV g top K
    ·have:=h2 (x - least) (by omega) (by omega)
     have hx:=(own (x - least)).mp (by simpa using this)
     have e2:least+(x - least)=x:=by omega
     rw [e2] at hx
     exact hx
   have hsame:∀ x,least<=x->x<=least+l->K+g (pck g top K (least+l)).2=(pck g top K x).1:=λx x1 x2=>Zji hK h (by omega) x2 p4 p2 (by omega) p5
   refine ⟨least+l+1,(pck g top K (least+l)).2,?_,.two (least+l) _ (by omega) p4 p2 rfl hown hsame λk0=>?_⟩
   ·have hf:(ao 0 l.toNat).reverse.find? (λk=>!sM g top K (lvl g top K (least+l)) (least+k))=none:=by
     rw [List.find?_eq_none]
     intro k hk
     have hk':=nM (List.mem_reverse.mp hk)
     have:=hsame (least+k) (by omega) (by omega)
     have hc:sM g top K (lvl g top K (least+l)) (least+k)=true:=by
      unfold sM lvl
      exact decide_eq_true this
     rw [hc]
     decide
    unfold vA
    rw [h3]
    dsimp only
    rw [hf]
    rfl
   ·by_cases e:least+l+1=(pck g top K (least+l)).2
    ·exact e
    ·have q1:=u4 (g:=g) (top:=top) (K:=K) (x:=least+l) (y:=least+l+1) (by omega) (by omega) (by omega)
     have q2:=(u5 (g:=g) (top:=top) (K:=K) (x:=least+l+1) (by omega)).mp (hown _ (by omega) (by omega))
     have q3:=(ra (g:=g) (top:=top) (K:=K) (x:=least+l+1) (by omega)).2 (pck g top K (least+l)).2 (by omega) p2
     omega
end Tw
set_option Elab.async false
set_option linter.all false
set_option maxRecDepth 100000
namespace Tw
open PySem PySem.Spec PyProof.Rows L2
noncomputable def eQ (p:Int×Int) (x:Int):Int:=if x < p.1 then (if p.2 > x then p.2 else x) else x
noncomputable def oh (g:Int->Int) (K x y:Int):Int:=if x < y then K+g y else g y
theorem ZiS {g:Int->Int} {top K least L G:Int} (h:Mk g top K least L G) (hl:least<=top) {x:Int} (hx:x<=top):x<=eQ (L,G) x/\eQ (L,G) x<=top:=by
 unfold eQ
 dsimp only
 cases h with
 | own=>split <;> (try split) <;> omega
 | two y h1 h2 h3=>split <;> (try split) <;> omega
theorem ZiD {g:Int->Int} {top K least L G:Int} (h:Mk g top K least L G) {x:Int} (x1:least<=x) (x2:x<=top):oh g K x (eQ (L,G) x)=(pck g top K x).1:=by
 cases h with
 | own h1 =>
  have e:eQ (least,least) x=x:=by unfold eQ; dsimp only; rw [if_neg (by omega)]
  rw [e]
  unfold oh
  rw [if_neg (by omega)]
  exact (u5 x2).mp (h1 x x1 x2)
 | two y G h1 h2 h3 h4 h5 h6 h7 =>
  by_cases hxy:x<=y
  ·have e:eQ (y+1,G) x=G:=by unfold eQ; dsimp only; rw [if_pos (by omega),if_pos (by omega)]
   rw [e]
   unfold oh
   rw [if_pos (by omega)]
   exact h6 x x1 hxy
  ·have e:eQ (y+1,G) x=x:=by unfold eQ; dsimp only; rw [if_neg (by omega)]
   rw [e]
   unfold oh
   rw [if_neg (by omega)]
   exact (u5 x2).mp (h5 x (by omega) x2)
end Tw
set_option Elab.async false
set_option linter.all false
set_option maxRecDepth 100000
namespace L2
open PySem PySem.Spec PyProof.Rows
structure Pen4 (K:PySem.W.Frag) (H:Hp) (p c:Addr) (ns:List Int) (m:Nat):Prop where
 ex:∃ (k:Nat) (left:Int),H p=some (.dK (bR c k left))/\k<=m/\0<=left
 cells:SqL K H c (ns.map V.int)
 len:ns.length<=63
noncomputable def ZaP (K:PySem.W.Frag):Sp:=λvs H Q _=>∃ (p c:Addr) (ns:List Int) (m:Nat) (most:Int),vs=[.ref p,.int most]/\Pen4 K H p c ns m/\m<=500000/\0 < most/\most < 1073741824 /\
 ∀ (r:Int) (H':Hp),0<=r->r < most->Pen4 K H' p c ns (m+1)->Kept p H H'->Q (.int r) H'
noncomputable def Zgt (K:PySem.W.Frag):Sp:=λvs H Q _=>∃ (a:Addr) (ns:List Int),vs=[.ref a]/\SqL K H a (ns.map V.int)/\ns.length<=63 /\
 ∀ (p:Addr) (H':Hp),H p=none->Pen4 K H' p a ns 0->Same H H'->Q (.ref p) H'
noncomputable def bG (cn:PySem.W.Frag×Addr×List Int):Pk where
 is:=λo G m=>∃ (k:Nat) (left:Int),o=.dK (bR cn.2.1 k left)/\k<=m/\0<=left/\SqL cn.1 G cn.2.1 (cn.2.2.map V.int)/\cn.2.2.length<=63
 mono:=λs ⟨k,left,e,h1,h2,h3,h4⟩=>⟨k,left,e,h1,h2,Same.seq (λb o h=>s b o h) h3,h4⟩
theorem Zck {cn:PySem.W.Frag×Addr×List Int}:PkLow (bG cn):=⟨λ⟨_,_,_,_,_,h3,_⟩ _ ⟨k,left,e,h1,h2,_,h4⟩=>⟨k,left,e,h1,h2,h3,h4⟩⟩
theorem Zhn {ι:Type} {X:Cx} {e:List Stmt} {t:ι->TS} (h:∀ i,PSs X e (t i)):PSs X e (λD σ H=>∃ i,t i D σ H):=λpins s σ H D I z=>by
 obtain ⟨i,z⟩:=z
 exact h i pins s σ H D I z
noncomputable def rN:List Sl->Tr Re:=λas=>match as with
 | [.pen,.d (.int most)]=>.draw most λr=>.ret (.d (.int r))
 | _=>.fail
theorem Zea {as:List Sl} {m:Nat} {Z:Nat->Re->Prop} (h:(rN as).ok m Z):∃ most,as=[.pen,.d (.int most)]:=by
 unfold rN at h
 split at h
 ·exact ⟨_,rfl⟩
 ·exact h.elim
theorem ZkH {P:Program} {w:World} {K:PySem.W.Frag} {c:Addr×List Int} {mg:Str->Option Value} {base:Heap} {x:Str} {k:Nat} {ps:List Str} (hp:ps.length=2) (C:Callee P w K mg base x k ps (ZaP K)):ACal (bG (K,c)) P w K mg base x k ps rN:=by
 refine ⟨?_,λas m Z h=>by obtain ⟨most,rfl⟩:=Zea h; exact hp.symm⟩
 obtain ⟨f,fd,F,hm,hk,hb⟩:=C.ex
 refine ⟨f,fd,F.imp λvs H Q E h=>?_,hm,hk,hb⟩
 obtain ⟨hv,pa,m,G,as,wd,ar,z⟩:=h
 obtain ⟨most,rfl⟩:=Zea z
 obtain ⟨h1,h2,h3,h4⟩:=z
 cases ar with
 | cons a1 ar =>
  cases ar with
  | cons a2 ar =>
   cases ar
   cases a1
   cases a2 with
   | d d2 =>
    cases d2
    obtain ⟨c,ns⟩:=c
    obtain ⟨o,ho,kk,left,rfl,q1,q2,q3,q4⟩:=wd.pen
    replace q3:SqL K G c (ns.map V.int):=q3
    refine ⟨pa,c,ns,m,most,rfl,⟨⟨kk,left,ho,q1,q2⟩,Same.seq (λb o h=>wd.sub b o h) q3,q4⟩,by omega,h2,h3,λr H' r0 r1 P' K'=>?_⟩
    refine h4 r r0 r1 (.int r) G H' ⟨λ_ _ q=>q,λ_ _ q=>.inl q,λb o e n=>K' b o e n⟩ ⟨λb o e=>K' b o (wd.sub b o e) (λz=>by subst z; rw [wd.gpa] at e; cases e),wd.gpa,?_⟩ (.int r)
    obtain ⟨⟨k2,l2,e2,g1,g2⟩,_,_⟩:=P'
    exact ⟨_,e2,k2,l2,rfl,g1,g2,q3,q4⟩
noncomputable def ZaO:PySem.W.Frag->Sp:=λK vs H Q _=>∃ (a:Addr) (ns:List Int),vs=[.ref a]/\SqL K H a (ns.map V.int)/\ns.length<=63/\∀ H',Q (.bl true) H'
theorem Zi4 {K:PySem.W.Frag} {D:Ends} {p c:Addr} {ns:List Int} {H:Hp} {σ:St} {s:List Sl->Tr Ou} {n:Nat} (P:Pen4 K H p c ns 0) (hσ:σ.length=n+2) (h1:σ[1]?=some (some (.ref p))) (hrt:∀ H',D.rt (.bl true) H')
  (h:(s (.un::.pen::List.replicate n .un)).ok 0 λ_ o=>o=.ret (.d (.bool true))):∃ cn:Addr×List Int,bg (bG (K,cn)) s D σ H:=by
 obtain ⟨⟨k,l,e,hk,hl⟩,hc,hn⟩:=P
 obtain ⟨G,gs,gp,gc⟩:∃ G:Hp,(∀ b o,G b=some o->H b=some o)/\G p=none/\SqL K G c (ns.map V.int):=by
  rcases hc with (hc | ⟨o,hc⟩) | hc
  ·refine ⟨λb=>if b=c then H c else none,λb o hb=>?_,?_,.inl (.inl (by simp [hc]))⟩
   ·by_cases hbc:b=c
    ·subst hbc; simpa using hb
    ·simp [hbc] at hb
   ·have:p≠c:=o9 e hc (by intro z; cases z)
    exact if_neg this
  ·refine ⟨λb=>if b=c then H c else none,λb o hb=>?_,?_,.inl (.inr ⟨o,by simp [hc]⟩)⟩
   ·by_cases hbc:b=c
    ·subst hbc; simpa using hb
    ·simp [hbc] at hb
   ·have:p≠c:=o9 e hc (by intro z; cases z)
    exact if_neg this
  ·exact ⟨λ_=>none,λb o hb=>(by cases hb),rfl,.inr hc⟩
 have key:∀ (i:Nat) (sl:Sl),(Sl.un::.pen::List.replicate n .un)[i]?=some sl->sl=.un\/(i=1/\sl=.pen):=λi sl hi=>by
  match i with
  | 0=>simp at hi; exact .inl hi.symm
  | 1=>simp at hi; exact .inr ⟨rfl,hi.symm⟩
  | i+2 =>
   simp [List.getElem?_replicate] at hi
   exact .inl hi.2.symm
 refine ⟨(c,ns),p,G,H,0,_,G,⟨⟨gs,gp,?_⟩,.refl,⟨_,e⟩,λi sl hi=>?_,by simp [hσ],λi j xs ys _ hi _=>?_,λi j xs ys _ hi _=>by rcases key i _ hi with z | ⟨_,z⟩ <;> cases z⟩,Tr.ok_mono h λm o ho=>?_⟩
 ·exact ⟨_,e,k,l,rfl,hk,hl,gc,hn⟩
 ·have hlt:i < σ.length:=by
   have:=(List.getElem?_eq_some_iff.mp hi).1
   simp at this
   omega
  rcases key i sl hi with rfl | ⟨rfl,rfl⟩
  ·exact ⟨σ[i],by simp [hlt],.un⟩
  ·exact ⟨_,h1,.pen⟩
 ·rcases key i _ hi with z | ⟨_,z⟩ <;> cases z
 ·subst ho
  intro v G H' s' w' d
  cases (show Dn G v (.bool true) from d)
  exact hrt H'
end L2
set_option Elab.async false
set_option linter.all false
set_option maxRecDepth 100000
namespace My
open PySem PySem.Spec PyProof.Rows L2
noncomputable def top (i:Nat):Stmt:=PySem.Challenge.pw_twomarks_k60_whole_goods_under_way_by_tw.main.body.getD i (.Pass ⟨0,0,0,0⟩)
noncomputable abbrev Zbd:Stmt:=top 5
noncomputable abbrev ZmP:List Str:=["one","other"]
theorem uu:FnScope ZmP ["one","other"] (aK Zbd):=⟨rfl,rfl,rfl,by decide +kernel,rfl,by decide +kernel,by decide +kernel⟩
noncomputable abbrev Za6:Stmt:=top 6
noncomputable abbrev ZmI:List Str:=["top","bottom","divisor"]
theorem ur:FnScope ZmI ["top","bottom"] (aK Za6):=⟨rfl,rfl,rfl,by decide +kernel,rfl,by decide +kernel,by decide +kernel⟩
noncomputable abbrev uA:Stmt:=top 17
noncomputable abbrev qt:List Str:=["day"]
theorem ZgK:FnScope qt ["day"] (aK uA):=⟨rfl,rfl,rfl,by decide +kernel,rfl,by decide +kernel,by decide +kernel⟩
noncomputable abbrev Za8:Stmt:=top 18
noncomputable abbrev ZmK:List Str:=["shop","level","fall"]
theorem ZgI:FnScope ZmK ["shop","level","fall"] (aK Za8):=⟨rfl,rfl,rfl,by decide +kernel,rfl,by decide +kernel,by decide +kernel⟩
noncomputable abbrev Zbb:Stmt:=top 19
noncomputable abbrev ZmN:List Str:=["shop","level","fall","stock","sold_never","held"]
theorem qG:FnScope ZmN ["shop","level","fall"] (aK Zbb):=⟨rfl,rfl,rfl,by decide +kernel,rfl,by decide +kernel,by decide +kernel⟩
noncomputable abbrev Zba:Stmt:=top 20
noncomputable abbrev ZmM:List Str:=["shop","stock"]
theorem ZgM:FnScope ZmM ["shop","stock"] (aK Zba):=⟨rfl,rfl,rfl,by decide +kernel,rfl,by decide +kernel,by decide +kernel⟩
noncomputable abbrev Zbe:Stmt:=top 22
noncomputable abbrev ZmQ:List Str:=["shop","low","by_level","scale","picks","best","stock","own","cost","level"]
theorem gM:FnScope ZmQ ["shop","low","by_level","scale"] (aK Zbe):=⟨rfl,rfl,rfl,by decide +kernel,rfl,by decide +kernel,by decide +kernel⟩
noncomputable abbrev uB:Stmt:=top 24
noncomputable abbrev tH:List Str:=["shop","falls","t"]
theorem ZgL:FnScope tH ["shop","falls","t"] (aK uB):=⟨rfl,rfl,rfl,by decide +kernel,rfl,by decide +kernel,by decide +kernel⟩
noncomputable abbrev Zbf:Stmt:=top 26
noncomputable abbrev ZmR:List Str:=["shop","falls","stock"]
theorem ZgN:FnScope ZmR ["shop","falls","stock"] (aK Zbf):=⟨rfl,rfl,rfl,by decide +kernel,rfl,by decide +kernel,by decide +kernel⟩
noncomputable abbrev Za7:Stmt:=top 27
noncomputable abbrev ZmJ:List Str:=["days","scale","day"]
theorem qF:FnScope ZmJ ["days"] (aK Za7):=⟨rfl,rfl,rfl,by decide +kernel,rfl,by decide +kernel,by decide +kernel⟩
noncomputable abbrev Za4:Stmt:=top 28
noncomputable abbrev ZmG:List Str:=["days","weights","day","longer","fallen","weight","fall","own"]
theorem fX:FnScope ZmG ["days"] (aK Za4):=⟨rfl,rfl,rfl,by decide +kernel,rfl,by decide +kernel,by decide +kernel⟩
noncomputable abbrev ux:Stmt:=top 29
noncomputable abbrev qq:List Str:=["shop","weights","stock"]
theorem ZgG:FnScope qq ["shop","weights","stock"] (aK ux):=⟨rfl,rfl,rfl,by decide +kernel,rfl,by decide +kernel,by decide +kernel⟩
noncomputable abbrev uw:Stmt:=top 30
noncomputable abbrev qp:List Str:=["shop","weights","stock"]
theorem ZgF:FnScope qp ["shop","weights","stock"] (aK uw):=⟨rfl,rfl,rfl,by decide +kernel,rfl,by decide +kernel,by decide +kernel⟩
noncomputable abbrev uy:Stmt:=top 31
noncomputable abbrev qr:List Str:=["day","ahead","level"]
theorem ZgH:FnScope qr ["day","ahead","level"] (aK uy):=⟨rfl,rfl,rfl,by decide +kernel,rfl,by decide +kernel,by decide +kernel⟩
noncomputable abbrev Zbc:Stmt:=top 32
noncomputable abbrev ZmO:List Str:=["shop","falls","days","ahead","low","scale","later","weights","by_level","level","total"]
theorem iH:FnScope ZmO ["shop","falls","days","ahead","low"] (aK Zbc):=⟨rfl,rfl,rfl,by decide +kernel,rfl,by decide +kernel,by decide +kernel⟩
noncomputable abbrev uz:Stmt:=top 33
noncomputable abbrev tF:List Str:=["falls","t","stock"]
theorem ZgJ:FnScope tF ["falls","t","stock"] (aK uz):=⟨rfl,rfl,rfl,by decide +kernel,rfl,by decide +kernel,by decide +kernel⟩
noncomputable abbrev uC:Stmt:=top 34
noncomputable abbrev tJ:List Str:=["shop","falls","orders","stock","weights","low"]
theorem ut:FnScope tJ ["shop","falls","orders","stock"] (aK uC):=⟨rfl,rfl,rfl,by decide +kernel,rfl,by decide +kernel,by decide +kernel⟩
noncomputable abbrev qJ:Stmt:=top 35
noncomputable abbrev fT:List Str:=["shop","falls","days","stock","orders","ahead","told","t","low","scale","picks"]
theorem fY:FnScope fT ["shop","falls","days","stock"] (aK qJ):=⟨rfl,rfl,rfl,by decide +kernel,rfl,by decide +kernel,by decide +kernel⟩
noncomputable abbrev Za9:Stmt:=top 36
noncomputable abbrev ZmL:List Str:=["shop","falls","days","stock","told","total","t"]
theorem oM:FnScope ZmL ["shop","falls","days","stock"] (aK Za9):=⟨rfl,rfl,rfl,by decide +kernel,rfl,by decide +kernel,by decide +kernel⟩
noncomputable abbrev Za5:Stmt:=top 37
noncomputable abbrev ZmH:List Str:=["shop","falls","days","stock","told","total"]
theorem uq:FnScope ZmH ["shop","falls","days","stock"] (aK Za5):=⟨rfl,rfl,rfl,by decide +kernel,rfl,by decide +kernel,by decide +kernel⟩
noncomputable abbrev Zbj:Stmt:=top 39
noncomputable abbrev ZmV:List Str:=["_law_script"]
theorem ZgR:FnScope ZmV ["_law_script"] (aK Zbj):=⟨rfl,rfl,rfl,by decide +kernel,rfl,by decide +kernel,by decide +kernel⟩
noncomputable abbrev Zbo:Stmt:=top 40
noncomputable abbrev Zm0:List Str:=["_law_pen_here","_law_many","_law_digit","_law_script","_law_at","_law_cell","_law_primes","_law_number"]
theorem fE:FnScope Zm0 ["_law_pen_here","_law_many"] (aK Zbo):=⟨rfl,rfl,rfl,by decide +kernel,rfl,by decide +kernel,by decide +kernel⟩
noncomputable abbrev Zbi:Stmt:=top 41
noncomputable abbrev ZmU:List Str:=["_law_pen_here","_law_way","_law_found","_law_k","_law_some"]
theorem nE:FnScope ZmU ["_law_pen_here"] (aK Zbi):=⟨rfl,rfl,rfl,by decide +kernel,rfl,by decide +kernel,by decide +kernel⟩
noncomputable abbrev Zbn:Stmt:=top 42
noncomputable abbrev ZmZ:List Str:=["_law_pen_here","_law_days","_law_most","_law_found","_law_t","_law_way","_law_one","_law_k"]
theorem nF:FnScope ZmZ ["_law_pen_here","_law_days","_law_most"] (aK Zbn):=⟨rfl,rfl,rfl,by decide +kernel,rfl,by decide +kernel,by decide +kernel⟩
noncomputable abbrev uD:Stmt:=top 43
noncomputable abbrev np:List Str:=["_law_falls_here"]
theorem ZgP:FnScope np ["_law_falls_here"] (aK uD):=⟨rfl,rfl,rfl,by decide +kernel,rfl,by decide +kernel,by decide +kernel⟩
noncomputable abbrev Zbq:Stmt:=top 44
noncomputable abbrev Zm2:List Str:=["_law_pen_here","_law_days","_law_falls_here","_law_room","_law_top","_law_more","_law_stock","_law_prices_here"]
theorem gN:FnScope Zm2 ["_law_pen_here"] (aK Zbq):=⟨rfl,rfl,rfl,by decide +kernel,rfl,by decide +kernel,by decide +kernel⟩
noncomputable abbrev qL:Stmt:=top 45
noncomputable abbrev nq:List Str:=["_law_row","_law_low","_law_levels","_law_many"]
theorem uv:FnScope nq ["_law_row","_law_low"] (aK qL):=⟨rfl,rfl,rfl,by decide +kernel,rfl,by decide +kernel,by decide +kernel⟩
noncomputable abbrev Zbk:Stmt:=top 46
noncomputable abbrev ZmW:List Str:=["_law_shop","_law_falls_here","_law_days","_law_stock","_law_table","_law_found","_law_t","_law_low"]
theorem oN:FnScope ZmW ["_law_shop","_law_falls_here","_law_days","_law_stock"] (aK Zbk):=⟨rfl,rfl,rfl,by decide +kernel,rfl,by decide +kernel,by decide +kernel⟩
noncomputable abbrev Zbg:Stmt:=top 47
noncomputable abbrev ZmS:List Str:=["_law_shop","_law_rest_here","_law_at_end"]
theorem ZgO:FnScope ZmS ["_law_shop","_law_rest_here","_law_at_end"] (aK Zbg):=⟨rfl,rfl,rfl,by decide +kernel,rfl,by decide +kernel,by decide +kernel⟩
noncomputable abbrev Zbh:Stmt:=top 48
noncomputable abbrev ZmT:List Str:=["_law_pairs_here","_law_t","_law_at"]
theorem ZgQ:FnScope ZmT ["_law_pairs_here","_law_t","_law_at"] (aK Zbh):=⟨rfl,rfl,rfl,by decide +kernel,rfl,by decide +kernel,by decide +kernel⟩
noncomputable abbrev Zbl:Stmt:=top 49
noncomputable abbrev ZmX:List Str:=["_law_asked_here","_law_known","_law_t","_law_stock","_law_way","_law_shop","_law_falls_here","_law_bottoms","_law_pairs_here","_law_key","_law_lies","_law_pieces","_law_cost","_law_fall","_law_weight","_law_later","_law_day"]
theorem dG:FnScope ZmX ["_law_asked_here","_law_known","_law_t","_law_stock","_law_way"] (aK Zbl):=⟨rfl,rfl,rfl,by decide +kernel,rfl,by decide +kernel,by decide +kernel⟩
noncomputable abbrev Zbp:Stmt:=top 50
noncomputable abbrev Zm1:List Str:=["_law_falls_here","_law_found","_law_one"]
theorem qI:FnScope Zm1 ["_law_falls_here"] (aK Zbp):=⟨rfl,rfl,rfl,by decide +kernel,rfl,by decide +kernel,by decide +kernel⟩
noncomputable abbrev Zbm:Stmt:=top 51
noncomputable abbrev ZmY:List Str:=["_law_found","_law_number","_law_bottom_here","_law_one","_law_other"]
theorem qH:FnScope ZmY ["_law_found","_law_number","_law_bottom_here"] (aK Zbm):=⟨rfl,rfl,rfl,by decide +kernel,rfl,by decide +kernel,by decide +kernel⟩
noncomputable abbrev qK:Stmt:=top 52
noncomputable abbrev tG:List Str:=["_law_script","_law_pen_here","_law_shop","_law_falls_here","_law_stock","_law_kept","_law_bottoms","_law_days","_law_pairs_here","_law_cost","_law_again"]
theorem e8:FnScope tG ["_law_script"] (aK qK):=⟨rfl,rfl,rfl,by decide +kernel,rfl,by decide +kernel,by decide +kernel⟩
structure Txt (K:PySem.W.Frag) (mg:Str->Option Value):Prop where
 cM:mg "len"=none
 nP:mg "abs"=none
 iS:mg "max"=none
 pe:mg "min"=none
 ZcJ:mg "repr"=none
 ZcK:mg "int"=none
 Ziu:mg "list"=none
 iR:mg "tuple"=none
 Ziv:mg "bool"=none
 dX:mg "range"=none
 vq:mg "isinstance"=none
 ZcH:mg "sorted"=none
 fg:mg "sum"=none
 gf:mg "enumerate"=none
 Zm7:mg "ValueError"=none
 ZcI:mg "reversed"=none
 sD:∃ t,mg "TOP"=some (.int 0 t)
 ZdE:∃ t,mg "DEPTH"=some (.int 1 t)
 ZjL:∃ t,mg "START"=some (.int 2 t)
 ZdD:∃ t,mg "PIECE"=some (.int 3 t)
 ZjP:∃ t,mg "KEEP"=some (.int 4 t)
 ZjO:∃ t,mg "LACK"=some (.int 5 t)
 ZjM:∃ t,mg "LOST"=some (.int 6 t)
 ZjQ:∃ t,mg "BACK"=some (.int 7 t)
 ZjN:∃ t,mg "LATE"=some (.int 8 t)
 Zlb:Def K mg "common_divisor" Zbd ["one","other"]
 ZkW:Def K mg "share" Za6 ["top","bottom"]
 Zk4:Def K mg "greatest_seen" uA ["day"]
 Zk0:Def K mg "next_stock" Za8 ["shop","level","fall"]
 Zk9:Def K mg "day_cost" Zbb ["shop","level","fall"]
 Zk7:Def K mg "end_cost" Zba ["shop","stock"]
 Zlc:Def K mg "cheapest_from" Zbe ["shop","low","by_level","scale"]
 Zk6:Def K mg "free_from" uB ["shop","falls","t"]
 Zld:Def K mg "ask_free" Zbf ["shop","falls","stock"]
 ZkY:Def K mg "scale_of" Za7 ["days"]
 ZkQ:Def K mg "weights_together" Za4 ["days"]
 ZkS:Def K mg "weighed_day" ux ["shop","weights","stock"]
 ZkR:Def K mg "weighed_end" uw ["shop","weights","stock"]
 ZkT:Def K mg "weighed_ahead" uy ["day","ahead","level"]
 Zla:Def K mg "counted_sums" Zbc ["shop","falls","days","ahead","low"]
 Zk2:Def K mg "least_counted" uz ["falls","t","stock"]
 Zk8:Def K mg "end_ahead" uC ["shop","falls","orders","stock"]
 ZkV:Def K mg "short_days" qJ ["shop","falls","days","stock"]
 Zk1:Def K mg "least_late" Za9 ["shop","falls","days","stock"]
 ZkU:Def K mg "short_table" Za5 ["shop","falls","days","stock"]
 Zli:Def K mg "_law_pen" Zbj ["_law_script"]
 Zln:Def K mg "_law_draw" Zbo ["_law_pen_here","_law_many"]
 Zlh:Def K mg "_law_prices" Zbi ["_law_pen_here"]
 Zlm:Def K mg "_law_falls" Zbn ["_law_pen_here","_law_days","_law_most"]
 Zlf:Def K mg "_law_reach" uD ["_law_falls_here"]
 Zlp:Def K mg "_law_asked" Zbq ["_law_pen_here"]
 Zlk:Def K mg "_law_pair" qL ["_law_row","_law_low"]
 Zlj:Def K mg "_law_pairs" Zbk ["_law_shop","_law_falls_here","_law_days","_law_stock"]
 Zle:Def K mg "_law_rest" Zbg ["_law_shop","_law_rest_here","_law_at_end"]
 Zlg:Def K mg "_law_raised" Zbh ["_law_pairs_here","_law_t","_law_at"]
 Zet:Def K mg "_law_on" Zbl ["_law_asked_here","_law_known","_law_t","_law_stock","_law_way"]
 Zlo:Def K mg "_law_bottom" Zbp ["_law_falls_here"]
 Zll:Def K mg "_law_is_share" Zbm ["_law_found","_law_number","_law_bottom_here"]
 Zk3:Def K mg "law" qK ["_law_script"]
theorem ZlA (ns:List Int) (a:Nat) (h:ns≠[]):∃ z:Int,bw (ns.map V.int) ((a:Int) % ((ns.map V.int).length:Nat))=some (.int z):=by
 have hl:0 < ns.length:=List.length_pos_iff.mpr h
 have hl':(ns.map V.int).length=ns.length:=List.length_map ..
 have e:(a:Int) % ((ns.map V.int).length:Nat)=((a % ns.length:Nat):Int):=by rw [hl']; omega
 have hlt:a % ns.length < ns.length:=Nat.mod_lt _ hl
 rw [e]
 exact ⟨ns[a % ns.length],eV (by rw [List.getElem?_map,List.getElem?_eq_getElem hlt]; rfl)⟩
noncomputable def prs:List V:=[V.int 2147483629,V.int 2147483587,V.int 2147483579,V.int 2147483563,V.int 2147483549,V.int 2147483543,V.int 2147483497,V.int 2147483489]++[V.int 2147483477,V.int 2147483423,V.int 2147483399,V.int 2147483353]
theorem Zci (a:Nat):∃ pr:Int,bw prs ((a:Int) % 12)=some (.int pr)/\2147483000 < pr/\pr<=2147483647:=by
 have e:(a:Int) % 12=((a % 12:Nat):Int):=by omega
 rw [e]
 have h:a % 12 < prs.length:=by show a % 12 < 12; exact Nat.mod_lt _ (by decide)
 generalize a % 12=b at h ⊢
 have hm:∀ x∈prs,∃ pr:Int,x=.int pr/\2147483000 < pr/\pr<=2147483647:=by
  intro x hx
  simp only [prs,List.cons_append,List.nil_append,List.mem_cons,List.not_mem_nil,or_false] at hx
  rcases hx with rfl | rfl | rfl | rfl | rfl | rfl | rfl | rfl | rfl | rfl | rfl | rfl <;> exact ⟨_,rfl,by decide,by decide⟩
 obtain ⟨pr,e1,e2⟩:=hm prs[b] (List.getElem_mem h)
 exact ⟨pr,by rw [eV (List.getElem?_eq_getElem h),e1],e2⟩
theorem Zl7 {z a:Int} (h0:0<=a) (h1:a<=500000):(z % 2147483647+48271 * a+11).natAbs < 2 ^ 64:=by omega
theorem Zl6 {n a:Int} (n0:0<=n) (n1:n < 2147483647) (h0:0<=a) (h1:a<=500000):(n * (2 * a+40503)+a).natAbs < 2 ^ 64:=by
 have p0:0<=n * (2 * a+40503):=Int.mul_nonneg n0 (by omega)
 have p1:n * (2 * a+40503)<=2147483647 * 1040503:=Int.mul_le_mul (by omega) (by omega) (by omega) (by omega)
 omega
theorem uj {K:PySem.W.Frag} {H:Hp} {p c:Addr} {xs:List V} {d:List (am×V)} {o:HO} (hd:H p=some (.dK d)) (hc:SqL K H c xs):SqL K (upd H p o) c xs:=by
 rcases hc with (hc | ⟨u,hc⟩) | hc
 ·exact .inl (.inl (by rw [az (o9 hc hd (by intro z; cases z))]; exact hc))
 ·exact .inl (.inr ⟨u,by rw [az (o9 hc hd (by intro z; cases z))]; exact hc⟩)
 ·exact .inr hc
section
variable {P:Program} {w:World} {K:PySem.W.Frag} {mg:Str->Option Value} {base:Heap}
theorem Zif (T:Txt K mg):Callee P w K mg base "_law_pen" 1 ["_law_script"] (Zgt K):=by
 refine T.Zli.ok ZgR (λvs H Q E h=>?_) (λf cdv A outer s H vs Q E hr h=>?_)
 ·obtain ⟨a,ns,rfl,_⟩:=h
  rfl
 ·obtain ⟨a,ns,rfl,hS,hlen,k⟩:=h
  have hu:=hW hr
  refine ⟨_,(gT (fZ (ZhT (uV fb (pv 0) (uV fb bH (uV fb bH Zhw))) rfl rfl (by simp) (by decide)))),?_⟩
  intro p hp
  refine ⟨_,rfl,bE,bR a 0 0,rfl,(by show 3<=15; decide),?_⟩
  have s0:Same H (upd (upd H p (.dK [])) p (.dK (bR a 0 0))):=λb o e=>by
   rw [az (cL e hp),az (cL e hp)]
   exact e
  exact k p _ hp ⟨⟨0,0,by rw [bE]; rfl,Nat.le_refl _,Int.le_refl _⟩,s0.seq hS,hlen⟩ s0
theorem Zih (T:Txt K mg):Callee P w K mg base "_law_draw" 1 ["_law_pen_here","_law_many"] (ZaP K):=by
 refine T.Zln.ok fE (λvs H Q E h=>?_) (λf cdv A outer s H vs Q E hr h=>?_)
 ·obtain ⟨p,c,ns,m,most,rfl,_⟩:=h
  rfl
 ·obtain ⟨p,c,ns,m,most,rfl,hP,hm,h0,h1,k⟩:=h
  have hu:=hW hr
  refine ⟨_,(cK (o0 (oY fe (gY hu (pv 0) fb (λ_ _=>rfl)) bH (nomark _)) (cK (aG (i:=2) fE.nd rfl (Or.inl rfl) (bY gb (gY hu (pv 0) fb (λ_ _=>rfl)) (pv 1)))
 (cK (qW hu (pv 0) fb (bY vc (gY hu (pv 0) fb (λ_ _=>rfl)) (pv 1)) rfl)
 (gT (fZ (pv 2))))) oZ)
 (cK (aG (i:=3) fE.nd rfl (Or.inl rfl) (gY hu (pv 0) fb (λ_ _=>rfl)))
 (cK (aG (i:=4) fE.nd rfl (Or.inl rfl) (gY hu (pv 0) fb (λ_ _=>rfl)))
 (cK (qW hu (pv 0) fb (bY iQ (pv 4) bH) rfl)
 (cK (aG (i:=5) fE.nd rfl (Or.inl rfl) bH)
 (cK (PS.join (o0 (oY fe (aU (cQ) rfl T.cM boot_len (bo (pv 3) cb)) bH (nomark _)) (gT (aG (i:=5) fE.nd rfl (Or.inl rfl) (q9 su (pv 3) (bY gb (pv 4) (aU (cQ) rfl T.cM boot_len (bo (pv 3) cb))) (λ_ _=>rfl)))) oZ))
 (cK (o0 (PT.join (PW.pt (Zcg (oY nO (pv 4) (aU (cQ) rfl T.cM boot_len (bo (pv 3) cb)) (nomark _)) (Zcf (oY Zia (aU (oj) rfl T.nP boot_abs (bo (pv 5) cb)) (bY u8 bH bH) (nomark _)))))) (cK (qW hu (pv 0) fb (bY vc (aU (oj) rfl T.nP boot_abs (bo (pv 5) cb)) (pv 1)) rfl)
 (gT (fZ (bY gb (aU (oj) rfl T.nP boot_abs (bo (pv 5) cb)) (pv 1))))) oZ)
 (cK (aG (i:=6) fE.nd rfl (Or.inl rfl) (uX (bo bH (bo bH (bo bH (bo bH (bo bH (bo bH (bo bH (bo bH cb))))))))))
 (cK (aG (i:=6) fE.nd rfl (Or.inl rfl) (bY Zcx (pv 6) (uX (bo bH (bo bH (bo bH (bo bH cb)))))))
 (cK (aG (i:=7) fE.nd rfl (Or.inl rfl) (bY gb (bY u8 (bY iQ (bY iQ (bY gb (pv 5) bH) (bY u9 bH (pv 4))) bH) bH) (q9 su (pv 6) (bY gb (pv 4) bH) (λ_ _=>rfl))))
 (cK (aG (i:=7) fE.nd rfl (Or.inl rfl) (bY gb (bY u8 (bY iQ (bY u9 (pv 7) (bY iQ (bY u9 bH (pv 4)) bH)) (pv 4)) bH) (q9 su (pv 6) (bY gb (bY iQ (pv 4) bH) bH) (λ_ _=>rfl))))
 (gT (fZ (bY gb (bY vc (pv 7) bH) (pv 1))))))))))))))),?_⟩
  obtain ⟨⟨a,l,hd,ha,hl⟩,hc,hn⟩:=hP
  refine ⟨_,rfl,p,_,rfl,we hd,_,_,rfl,rfl,_,rfl,?_⟩
  refine sw (λhz=>?_) (λhz=>?_)
  ·refine ⟨_,rfl,p,_,rfl,we hd,_,rfl,_,_,rfl,rfl,h0,?_⟩
   refine ⟨_,rfl,p,_,rfl,we hd,_,rfl,_,_,rfl,rfl,⟨h0,h1⟩,_,rfl,p,_,rfl,Zec hd,?_⟩
   exact ⟨_,rfl,k _ _ (Int.emod_nonneg _ (by omega)) (Int.emod_lt_of_pos _ h0) ⟨⟨a,_,bE,by omega,Int.ediv_nonneg hl (by omega)⟩,uj hd hc,hn⟩ Kept.refl.pen⟩
  ·refine ⟨_,rfl,p,_,rfl,ZkL hd,?_⟩
   refine ⟨_,rfl,p,_,rfl,ZkM hd,?_⟩
   refine ⟨_,rfl,_,_,rfl,rfl,_,rfl,p,_,rfl,ZkI hd,?_⟩
   have hd1:(upd H p (.dK (bR c ((a:Int)+1) l))) p=some (.dK (bR c ((a+1:Nat):Int) l)):=by
    rw [bE]
    rfl
   have hc1:SqL K (upd H p (.dK (bR c ((a:Int)+1) l))) c (ns.map V.int):=uj hd hc
   have k1:Kept p H (upd H p (.dK (bR c ((a:Int)+1) l))):=Kept.refl.pen
   generalize upd H p (.dK (bR c ((a:Int)+1) l))=H1 at hd1 hc1 k1
   refine ⟨λσ' H'=>∃ (z:Int),σ'=[some (.ref p),some (.int most),none,some (.ref c),some (.int a),some (.int z),none,none]/\H'=H1,?_,?_⟩
   ·refine ⟨_,rfl,c,_,rfl,.inl hc1,_,_,rfl,rfl,_,rfl,?_⟩
    refine sw (λhlen=>?_) (λ_=>⟨1013,rfl,rfl⟩)
    have hlen':(0:Int) < ((ns.map V.int).length:Nat):=of_decide_eq_true hlen
    have hne':ns≠[]:=by
     rintro rfl
     simp at hlen'
    obtain ⟨z,hz2⟩:=ZlA ns a hne'
    refine ⟨_,rfl,_,rfl,_,rfl,c,_,rfl,.inl hc1,_,_,rfl,rfl,hlen',c,_,_,_,rfl,rfl,hc1,hz2,?_⟩
    exact ⟨z,rfl,rfl⟩
   ·rintro σ2 H2 ⟨z,rfl,rfl⟩
    refine ⟨λ_ H'=>H'=H2,?_,?_⟩
    ·refine ⟨_,rfl,_,rfl,c,_,rfl,.inl hc1,_,_,rfl,rfl,_,rfl,?_⟩
     refine sw (λ_=>?_) (λ_=>rfl)
     exact ⟨_,rfl,z,rfl,_,_,rfl,rfl,⟨by decide,by decide,by decide⟩,_,_,rfl,rfl,_,rfl,rfl⟩
    ·rintro b H3 rfl
     have ab:0<=(if z < 0 then -z else z):=by split <;> omega
     refine sw (λ_=>?_) (λ_=>?_)
     ·refine ⟨_,rfl,z,rfl,_,rfl,_,_,rfl,rfl,⟨h0,h1⟩,_,rfl,p,_,rfl,Zec hd1,?_⟩
      refine ⟨_,rfl,z,rfl,_,rfl,_,_,rfl,rfl,h0,?_⟩
      exact k _ _ (Int.emod_nonneg _ (by omega)) (Int.emod_lt_of_pos _ h0) ⟨⟨a+1,_,bE,by omega,Int.ediv_nonneg ab (by omega)⟩,uj hd1 hc1,hn⟩ k1.pen
     ·refine ⟨by show 8<=sizeLine; decide,λq hq=>?_⟩
      refine ⟨_,rfl,by show 4<=sizeLine; decide,λq2 hq2=>?_⟩
      have eq1:(upd (upd H3 q (.lst [V.int 2147483629,V.int 2147483587,V.int 2147483579,V.int 2147483563,V.int 2147483549,V.int 2147483543,V.int 2147483497,V.int 2147483489])) q2 (.lst [V.int 2147483477,V.int 2147483423,V.int 2147483399,V.int 2147483353])) q=some (.lst [V.int 2147483629,V.int 2147483587,V.int 2147483579,V.int 2147483563,V.int 2147483549,V.int 2147483543,V.int 2147483497,V.int 2147483489]):=by
       rw [az (cL bE hq2),bE]
      refine ⟨q,q2,_,_,rfl,rfl,eq1,bE,by show 12<=sizeLine; decide,λq3 hq3=>?_⟩
      have s3:Same H3 (upd (upd (upd H3 q (.lst [V.int 2147483629,V.int 2147483587,V.int 2147483579,V.int 2147483563,V.int 2147483549,V.int 2147483543,V.int 2147483497,V.int 2147483489])) q2 (.lst [V.int 2147483477,V.int 2147483423,V.int 2147483399,V.int 2147483353])) q3 (.lst prs)):=(((Same.refl H3).new hq).new hq2).new hq3
      obtain ⟨pr,hpr,g1,g2⟩:=Zci a
      obtain ⟨pr2,hpr2,f1,f2⟩:=Zci (a+5)
      rw [show ((a+5:Nat):Int)=(a:Int)+5 by omega] at hpr2
      refine ⟨_,rfl,_,_,rfl,rfl,(by show (0:Int) < 2147483647; decide),_,rfl,_,_,rfl,rfl,.inl ⟨by decide,by decide⟩,_,_,rfl,rfl,_,_,rfl,rfl,_,_,rfl,rfl,⟨by decide,by decide,Zl7 (by omega) (by omega)⟩,_,rfl,_,rfl,_,_,rfl,rfl,(by show (0:Int) < 12; decide),q3,_,_,_,rfl,rfl,SqL.of bE,hpr,_,_,rfl,rfl,(by omega),?_⟩
      have m0:0<=((z % 2147483647+48271 * (a:Int)+11) ^ (3:Int).toNat) % pr:=Int.emod_nonneg _ (by omega)
      have m1:((z % 2147483647+48271 * (a:Int)+11) ^ (3:Int).toNat) % pr < 2147483647:=Int.lt_of_lt_of_le (Int.emod_lt_of_pos _ (by omega)) g2
      refine ⟨_,rfl,_,rfl,_,_,rfl,rfl,.inl ⟨by decide,by decide⟩,_,_,rfl,rfl,_,_,rfl,rfl,.inl ⟨Int.lt_of_lt_of_le (by decide) m0,Int.lt_trans m1 (by decide)⟩,_,rfl,_,_,rfl,rfl,_,_,rfl,rfl,⟨by decide,by decide,Zl6 m0 m1 (by omega) (by omega)⟩,_,rfl,_,rfl,_,_,rfl,rfl,_,_,rfl,rfl,(by show (0:Int) < 12; decide),q3,_,_,_,rfl,rfl,SqL.of bE,hpr2,_,_,rfl,rfl,(by omega),?_⟩
      refine ⟨_,rfl,_,_,rfl,rfl,⟨by decide,by decide⟩,_,rfl,_,_,rfl,rfl,h0,?_⟩
      refine k _ _ (Int.emod_nonneg _ (by omega)) (Int.emod_lt_of_pos _ h0) ⟨⟨a+1,l,s3 _ _ hd1,by omega,hl⟩,s3.seq hc1,hn⟩ ?_
      exact λb o e n=>s3 b o (k1 b o e n)
end
end My
set_option Elab.async false
set_option linter.all false
set_option maxRecDepth 100000
namespace My
open PySem PySem.Spec PyProof.Rows L2
section
variable {cn:Addr×List Int} {P:Program} {w:World} {K:PySem.W.Frag} {mg:Str->Option Value} {base:Heap}
noncomputable def tT:List Sl->Tr Bool :=
 (ip (aa 1))
noncomputable def vO:List Sl->Tr Ou :=
 (ni 0 1 (af (aa 1) (af (ad nQ (aa 0) (aa 1)) al)))
noncomputable def rP:List Sl->Tr Re:=bj 2 0
 (ap (ni 0 1 (af (aW oq (af (aa 0) al)) (af (aW oq (af (aa 1) al)) al)))
 (ap (dQ tT vO 100000)
 (eE 0)))
theorem Zl3 (T:Txt K mg):ACal (bG (K,cn)) P w K mg base "common_divisor" 1 ["one","other"] rP:=bQ T.Zlb uu rfl λf cdv A outer sh H E hr=>by
 exact (av (sQ (qV (i:=0) (j:=1) rfl uu.nd rfl rfl (by decide) rfl rfl (ag (bb (t:=aP) (aU oj rfl T.nP boot_abs (ag (ac (pv 0)) au)) tW) (ag (bb (t:=aP) (aU oj rfl T.nP boot_abs (ag (ac (pv 1)) au)) tW) au)) rfl))
 (av (Ze7 100000 PassesOwn.never (om (ac (pv 1)))
  (aB (sQ (qV (i:=0) (j:=1) rfl uu.nd rfl rfl (by decide) rfl rfl (ag (ac (pv 1)) (ag (aq Zcv Zak (ac (pv 0)) (ac (pv 1))) au)) rfl))))
 (aB (m9 (pv 0)))))
noncomputable def oV:List Sl->Tr PyData :=
 (aa 0)
noncomputable def o7:List Sl->Tr Bool :=
 (bM (ad (cW λi j=>decide (i > j)) (aa 1) (aC (.int 0))))
noncomputable def pz:List Sl->Tr Re:=bj 1 0
 (bD (aW g8 (af (bO (nj (eF (aa 0)) 2 [] (bq (aw (ai 0) (aw (ai 1) bi))) o7 oV)) al)))
theorem ZeR (T:Txt K mg):ACal (bG (K,cn)) P w K mg base "greatest_seen" 1 ["day"] pz:=bQ T.Zk4 ZgK rfl λf cdv A outer sh H E hr=>by
 exact (aB (bI (bb (t:=aP) (aU (ZeL rfl) rfl T.iS boot_max (ag (ce (sS (qZ qt ["fall","weight"] [] rfl (gF (f7 rfl rfl T.gf (ac (pv 0)))) (λb=>(dZ rfl (bB (aV (aT (i:=0) (show ((bN qt ["fall","weight"] [])).Nodup by decide +kernel) rfl (Or.inl rfl))) (bB (aV (aT (i:=1) (show ((bN qt ["fall","weight"] [])).Nodup by decide +kernel) rfl (Or.inl rfl))) dE)) (bA (bA dA)))) (λb=>(ck fe dR (ac (pv 1)) ak (nomark _))) (λb=>(ac (pv 0))) rfl (show BlkOk qt (aK uA) _ [] from ⟨rfl,by decide +kernel,by decide +kernel,by decide +kernel,by decide +kernel⟩)) (gU (dt (cu (by decide)) (dt (cu (by decide)) gW))))) au)) Zao)))
noncomputable def rA:List Sl->Tr Re:=bj 3 0
 (bD (aW g7 (af (ad bP (aa 1) (aa 2)) (af (gG (ad ay (aa 0) (aC (.int 1)))) al))))
theorem ZlP (T:Txt K mg):ACal (bG (K,cn)) P w K mg base "next_stock" 1 ["shop","level","fall"] rA:=bQ T.Zk0 ZgI rfl λf cdv A outer sh H E hr=>by
 exact (aB (bI (bb (t:=aP) (aU (pW rfl) rfl T.iS boot_max (ag (aq bZ bW (ac (pv 1)) (ac (pv 2))) (ag (oo (ba a9 aZ (ac (pv 0)) (d4 rfl T.ZdE) (λ_ _=>rfl))) au))) oA)))
noncomputable def pA:List Sl->Tr Re:=bj 2 0
 (ap (cE (bM (ad (cW λi j=>decide (i > j)) (aa 1) (aC (.int 0))))
  (bD (ad bv (gG (ad ay (aa 0) (aC (.int 7)))) (aa 1)))
  cB)
 (bD (ad bv (ad ay (aa 0) (aC (.int 8))) (gG (aa 1)))))
theorem ZlZ (T:Txt K mg):ACal (bG (K,cn)) P w K mg base "end_cost" 1 ["shop","stock"] pA:=bQ T.Zk7 ZgM rfl λf cdv A outer sh H E hr=>by
 exact (av (cT (ck fe dR (ac (pv 1)) ak (nomark _))
 (aB (bI (aq bV bS (oo (ba a9 aZ (ac (pv 0)) (d4 rfl T.ZjQ) (λ_ _=>rfl))) (ac (pv 1)))))
 cS)
 (aB (bI (aq bV bS (ba a9 aZ (ac (pv 0)) (d4 rfl T.ZjN) (λ_ _=>rfl)) (oo (ac (pv 1)))))))
noncomputable def Zdd:List Sl->Tr Ou :=
 (ap (aR 7 (dO (af (ad ay (aa 2) (ad bP (aa 6) (aa 1))) (af (aa 6) al))))
 (ap (nk (bq (aw (ai 8) (aw (ai 9) bi))) (aW g6 (af (aa 7) (af (dO (af (ad aS (ad bv (aa 3) (ad ay (aa 0) (aC (.int 2)))) (ad ay (aa 5) (aC (.int 0)))) (af (ad ay (aa 5) (aC (.int 1))) al))) al))))
 (ap (fS 4 (dO (af (ad bP (aa 8) (ad bv (ad bv (aa 3) (ad ay (aa 0) (aC (.int 3)))) (aa 6))) (af (aa 9) al))))
 (aR 5 (aW g6 (af (aa 7) (af (aa 5) al)))))))
noncomputable def rQ:List Sl->Tr Re:=bj 4 6
 (ap (fQ 4 (cD al))
 (ap (aR 5 (dO (af (ad ay (aa 2) (gG (aC (.int 1)))) (af (ad ay (aa 0) (aC (.int 0))) al))))
 (ap (cJ (wP (af (aa 1) (af (ad aS (ad ay (aa 0) (aC (.int 0))) (aC (.int 1))) al))) (ai 6) Zdd)
 (ap (qb 4)
 (eE 4)))))
theorem Zl4 (T:Txt K mg):ACal (bG (K,cn)) P w K mg base "cheapest_from" 1 ["shop","low","by_level","scale"] rQ:=bQ T.Zlc gM rfl λf cdv A outer sh H E hr=>by
 exact (av (im (aG (i:=4) gM.nd rfl (Or.inl rfl) (c8 au)))
 (av (aY (aG (i:=5) gM.nd rfl (Or.inl rfl) (eW (ag (ba a9 aZ (ac (pv 2)) (oo ak) (λ_ _=>rfl)) (ag (ba a9 aZ (ac (pv 0)) (d4 rfl T.sD) (λ_ _=>rfl)) au)))))
 (av (dh PassesOwn.never rfl (Zmp (Zcl rfl T.ZcI (fc ZeJ rfl T.dX boot_range (ag (ac (pv 1)) (ag (aq bp bn (ba a9 aZ (ac (pv 0)) (d4 rfl T.sD) (λ_ _=>rfl)) ak) au))))) (aV (aT (i:=6) gM.nd rfl (Or.inl rfl)))
  (av (aY (aG (i:=7) gM.nd rfl (Or.inl rfl) (eW (ag (ba a9 aZ (ac (pv 2)) (aq bZ bW (ac (pv 6)) (ac (pv 1))) (λ_ _=>rfl)) (ag (ac (pv 6)) au)))))
 (av (pY (iL (bb (t:=aP) (aU (ZeK hr rfl) rfl T.pe boot_min (ag (ac (pv 7)) (ag (eW (ag (aq bp bn (aq bV bS (ac (pv 3)) (ba a9 aZ (ac (pv 0)) (d4 rfl T.ZjL) (λ_ _=>rfl))) (ba a9 aZ (ac (pv 5)) ak (λ_ _=>rfl))) (ag (ba a9 aZ (ac (pv 5)) ak (λ_ _=>rfl)) au))) au))) Zan) (dZ rfl (bB (aV (aT (i:=8) gM.nd rfl (Or.inl rfl))) (bB (aV (aT (i:=9) gM.nd rfl (Or.inl rfl))) dE)) (bA (bA dA)))))
 (av (nc (fF (iO PySem.F.plainAttrs_list PySem.F.slot_list_append PySem.F.type_list_append iV (pv 4) (bo (eW (ag (aq bZ bW (ac (pv 8)) (aq bV bS (aq bV bS (ac (pv 3)) (ba a9 aZ (ac (pv 0)) (d4 rfl T.ZdD) (λ_ _=>rfl))) (ac (pv 6)))) (ag (ac (pv 9)) au))) cb))))
 (aB (aY (aG (i:=5) gM.nd rfl (Or.inl rfl) (bb (t:=aP) (aU (ZeK hr rfl) rfl T.pe boot_min (ag (ac (pv 7)) (ag (ac (pv 5)) au))) Zan))))))))
 (av (Ze9 (fF (Zcp PySem.F.plainAttrs_list PySem.F.slot_list_reverse PySem.F.type_list_reverse ZcL (pv 4))))
 (aB (m9 (pv 4)))))))
noncomputable def rZ:List Sl->Tr Ou :=
 (qj pM 1 (aW cg (af (aa 2) al)))
noncomputable def g9:List Sl->Tr Re:=bj 1 2
 (ap (aR 1 (aC (.int 1)))
 (ap (cJ (fu (aa 0)) (ai 2) rZ)
 (eE 1)))
theorem pX (T:Txt K mg):ACal (bG (K,cn)) P w K mg base "scale_of" 1 ["days"] g9:=bQ T.ZkY qF rfl λf cdv A outer sh H E hr=>by
 exact (av (aY (aG (i:=1) qF.nd rfl (Or.inl rfl) ak))
 (av (dh PassesOwn.never rfl (gE (ac (pv 0))) (aV (aT (i:=2) qF.nd rfl (Or.inl rfl)))
  (aB (Zfd ZfM (Zch (i:=1) qF.nd rfl (Or.inl rfl) (bb (t:=aP) (aU (fm rfl) rfl T.fg boot_sum (ag (ac (pv 2)) au)) e7) (pip Zjz)))))
 (aB (m9 (pv 1)))))
noncomputable def rX:List Sl->Tr Ou :=
 (qi (λi j=>i+j) 3 (ad aS (aa 4) (aa 6)) (ad bv (aa 5) (aa 7)))
noncomputable def rW:List Sl->Tr Ou :=
 (cJ (eF (aa 2)) (bq (aw (ai 6) (aw (ai 7) bi))) rX)
noncomputable def rV:List Sl->Tr Ou :=
 (ap (fQ 3 (ou gP (bO (cD (af (aC (.int 0)) al))) (ad bP (ad aS (aW bJ (af (aa 1) al)) (aW bJ (af (aa 2) al))) (aC (.int 1)))))
 (ap (cJ (eF (aa 1)) (bq (aw (ai 4) (aw (ai 5) bi))) rW)
 (gH 3 (aR 1 (aa 3)))))
noncomputable def nU:List Sl->Tr Re:=bj 1 7
 (ap (aR 1 (bO (cD (af (aC (.int 1)) al))))
 (ap (cJ (fu (aa 0)) (ai 2) rV)
 (eE 1)))
theorem ww (T:Txt K mg):ACal (bG (K,cn)) P w K mg base "weights_together" 1 ["days"] nU:=bQ T.ZkQ fX rfl λf cdv A outer sh H E hr=>by
 exact (av (aY (aG (i:=1) fX.nd rfl (Or.inl rfl) (ce (c8 (ag ak au)))))
 (av (dh PassesOwn.never rfl (gE (ac (pv 0))) (aV (aT (i:=2) fX.nd rfl (Or.inl rfl)))
  (av (im (aG (i:=3) fX.nd rfl (Or.inl rfl) (Zfi u7 Zaj (ce (c8 (ag ak au))) (aq bZ bW (aq bp bn (bb (t:=aP) (aU cQ rfl T.cM boot_len (ag (ac (pv 1)) au)) di) (bb (t:=aP) (aU cQ rfl T.cM boot_len (ag (ac (pv 2)) au)) di)) ak))))
 (av (dh PassesOwn.never rfl (gF (f7 rfl rfl T.gf (ac (pv 1)))) (dZ rfl (bB (aV (aT (i:=4) fX.nd rfl (Or.inl rfl))) (bB (aV (aT (i:=5) fX.nd rfl (Or.inl rfl))) dE)) (bA (bA dA)))
  (aB (dh PassesOwn.never rfl (gF (f7 rfl rfl T.gf (ac (pv 2)))) (dZ rfl (bB (aV (aT (i:=6) fX.nd rfl (Or.inl rfl))) (bB (aV (aT (i:=7) fX.nd rfl (Or.inl rfl))) dE)) (bA (bA dA)))
  (aB (Zmh (Zhs (pv 3) (aq bp bn (ac (pv 4)) (ac (pv 6))) ZjI (aq bV bS (ac (pv 5)) (ac (pv 7))) Zjy uo))))))
 (aB (na (k:=3) (aY (aG (i:=1) fX.nd rfl (Or.inl rfl) (ac (pv 3)))))))))
 (aB (m9 (pv 1)))))
noncomputable def qP:List Sl->Tr PyData :=
 (ad bv (aa 1) (ad fk (aa 2) (ad bP (aa 3) (aa 0))))
noncomputable def re:List Sl->Tr Bool :=
 (bM (ad (cW λi j=>decide (i > j)) (aa 1) (aC (.int 0))))
noncomputable def ph:List Sl->Tr Re:=bj 3 0
 (bD (aW cg (af (bO (nj (eF (aa 0)) 2 [1,2] (bq (aw (ai 0) (aw (ai 1) bi))) re qP)) al)))
theorem ZlN (T:Txt K mg):ACal (bG (K,cn)) P w K mg base "weighed_ahead" 1 ["day","ahead","level"] ph:=bQ T.ZkT ZgH rfl λf cdv A outer sh H E hr=>by
 exact (aB (bI (bb (t:=aP) (aU (fm rfl) rfl T.fg boot_sum (ag (ce (sS (qZ qr ["fall","weight"] [1,2] rfl (gF (f7 rfl rfl T.gf (ac (pv 0)))) (λb=>(dZ rfl (bB (aV (aT (i:=0) (show ((bN qr ["fall","weight"] [1,2])).Nodup by decide +kernel) rfl (Or.inl rfl))) (bB (aV (aT (i:=1) (show ((bN qr ["fall","weight"] [1,2])).Nodup by decide +kernel) rfl (Or.inl rfl))) dE)) (bA (bA dA)))) (λb=>(ck fe dR (ac (pv 1)) ak (nomark _))) (λb=>(aq bV bS (ac (pv 1)) (Zfn (gY (hW hr) (ac (pv 2)) (aq bZ bW (ac (pv 3)) (ac (pv 0))) (λ_ _=>rfl))))) rfl (show BlkOk qr (aK uy) _ [1,2] from ⟨rfl,by decide +kernel,by decide +kernel,by decide +kernel,by decide +kernel⟩)) (gU (dt (cu (by decide)) (dt (cu (by decide)) gW))))) au)) e7)))
noncomputable abbrev cx:=rN
theorem cR (T:Txt K mg):ACal (bG (K,cn)) P w K mg base "_law_draw" 1 ["_law_pen_here","_law_many"] cx:=ZkH rfl (Zih T)
noncomputable def oT:List Sl->Tr PyData :=
 (aa 0)
noncomputable def o6:List Sl->Tr Bool :=
 (bM (ad (cW λi j=>decide (i > j)) (aa 1) (aC (.int 0))))
noncomputable def oS:List Sl->Tr PyData :=
 (aW g8 (af (bO (nj (eF (aa 0)) 2 [] (bq (aw (ai 0) (aw (ai 1) bi))) o6 oT)) al))
noncomputable def pw:List Sl->Tr Re:=bj 1 0
 (bD (aW cg (af (bO (eX (fu (aa 0)) 1 [] (ai 0) oS)) al)))
theorem ZeQ (T:Txt K mg):ACal (bG (K,cn)) P w K mg base "_law_reach" 1 ["_law_falls_here"] pw:=bQ T.Zlf ZgP rfl λf cdv A outer sh H E hr=>by
 exact (aB (bI (bb (t:=aP) (aU (fm rfl) rfl T.fg boot_sum (ag (ce (ng (iM np ["_law_one"] [] rfl (gE (ac (pv 0))) (λb=>(aV (aT (i:=0) (show ((bN np ["_law_one"] [])).Nodup by decide +kernel) rfl (Or.inl rfl)))) (λb=>(bb (t:=aP) (aU (ZeL rfl) rfl T.iS boot_max (ag (ce (sS (qZ (bN np ["_law_one"] []) ["_law_fall","_law_weight"] [] rfl (gF (f7 rfl rfl T.gf (ac (pv 0)))) (λb=>(dZ rfl (bB (aV (aT (i:=0) (show ((bN (bN np ["_law_one"] []) ["_law_fall","_law_weight"] [])).Nodup by decide +kernel) rfl (Or.inl rfl))) (bB (aV (aT (i:=1) (show ((bN (bN np ["_law_one"] []) ["_law_fall","_law_weight"] [])).Nodup by decide +kernel) rfl (Or.inl rfl))) dE)) (bA (bA dA)))) (λb=>(ck fe dR (ac (pv 1)) ak (nomark _))) (λb=>(ac (pv 0))) rfl (BlkOk.leaf rfl (by decide +kernel) (by decide +kernel))) (gU (dt (cu (by decide)) (dt (cu (by decide)) gW))))) au)) Zao)) rfl (show BlkOk np (aK uD) _ [] from ⟨rfl,by decide +kernel,by decide +kernel,by decide +kernel,by decide +kernel⟩)) (cu (by decide)))) au)) e7)))
noncomputable def uT:List Sl->Tr PyData :=
 (ad ay (aa 0) (aC (.int 1)))
noncomputable def qT:List Sl->Tr PyData :=
 (aa 0)
noncomputable def rf:List Sl->Tr Bool :=
 (bM (ad eA (ad ay (aa 1) (aa 0)) (ad aS (aa 2) (aa 0))))
noncomputable def rE:List Sl->Tr Re:=bj 2 2
 (ap (aR 2 (bO (eX (fu (aa 0)) 1 [] (ai 0) uT)))
 (ap (aR 3 (aW bJ (af (bO (nj (fR (af (aW bJ (af (aa 2) al)) al)) 1 [2,1] (ai 0) rf qT)) al)))
 (ap (cE (bM (ad eA (aa 2) (ad fo (bO (ou gP (cA (aa 2) cC (cw (aC (.int 1)))) (aa 3))) (bO (wS (af (ad aS (aa 1) (aa 3)) (af (ad aS (aa 1) (aW bJ (af (aa 2) al))) al)))))))
  (bD (aC .none))
  cB)
 (bD (dO (af (ad aS (aa 1) (aa 3)) (af (ad ay (aa 2) (aC (.int 0))) al)))))))
theorem ZlT (T:Txt K mg):ACal (bG (K,cn)) P w K mg base "_law_pair" 1 ["_law_row","_law_low"] rE:=bQ T.Zlk uv rfl λf cdv A outer sh H E hr=>by
 exact (av (aY (aG (i:=2) uv.nd rfl (Or.inr rfl) (ce (ng (iM nq ["_law_pair_here"] [] rfl (gE (ac (pv 0))) (λb=>(aV (aT (i:=0) (show ((bN nq ["_law_pair_here"] [])).Nodup by decide +kernel) rfl (Or.inl rfl)))) (λb=>(ba a9 aZ (ac (pv 0)) ak (λ_ _=>rfl))) rfl (show BlkOk nq (aK qL) _ [] from ⟨rfl,by decide +kernel,by decide +kernel,by decide +kernel,by decide +kernel⟩)) (cu (by decide))))))
 (av (aY (aG (i:=3) uv.nd rfl (Or.inl rfl) (bb (t:=aP) (aU cQ rfl T.cM boot_len (ag (ce (sS (qZ nq ["_law_k"] [2,1] rfl (io (gX rfl T.dX (ag (bb (t:=aP) (aU cQ rfl T.cM boot_len (ag (ac (pv 2)) au)) di) au))) (λb=>(aV (aT (i:=0) (show ((bN nq ["_law_k"] [2,1])).Nodup by decide +kernel) rfl (Or.inl rfl)))) (λb=>(ck (o8 hr) oz (ba a9 aZ (ac (pv 1)) (ac (pv 0)) (λ_ _=>rfl)) (aq bp bn (ac (pv 2)) (ac (pv 0))) (nomark _))) (λb=>(ac (pv 0))) rfl (show BlkOk nq (aK qL) _ [2,1] from ⟨rfl,by decide +kernel,by decide +kernel,by decide +kernel,by decide +kernel⟩)) (cu (by decide)))) au)) di)))
 (av (cT (ck (o8 hr) oz (ac (pv 2)) (aq vd tU (ce (Zfi u7 Zaj (c9 (ac (pv 2)) cZ (cY ak)) (ac (pv 3)))) (ce (Zmk (fc (ZlJ hr.hd) rfl T.Ziu boot_list (bo (fc ZeJ rfl T.dX boot_range (ag (aq bp bn (ac (pv 1)) (ac (pv 3))) (ag (aq bp bn (ac (pv 1)) (bb (t:=aP) (aU cQ rfl T.cM boot_len (ag (ac (pv 2)) au)) di)) au))) cb))))) (nomark _))
  (aB (bI p7))
  cS)
 (aB (bI (eW (ag (aq bp bn (ac (pv 1)) (ac (pv 3))) (ag (ba a9 aZ (ac (pv 2)) ak (λ_ _=>rfl)) au))))))))
noncomputable def iY:List Sl->Tr Re:=bj 3 0
 (ap (cE (ip (aa 2))
  (bD (ad bP (ad bv (ad ay (aa 0) (aC (.int 8))) (aW g7 (af (ad bP (aC (.int 0)) (aa 1)) (af (aC (.int 0)) al)))) (ad bv (ad ay (aa 0) (aC (.int 7))) (aW g7 (af (aa 1) (af (aC (.int 0)) al))))))
  cB)
 (bD (ad aS (ad bv (ad ay (aa 0) (aC (.int 4))) (aW g7 (af (aa 1) (af (aC (.int 0)) al)))) (ad bv (ad ay (aa 0) (aC (.int 5))) (aW g7 (af (ad bP (aC (.int 0)) (aa 1)) (af (aC (.int 0)) al)))))))
noncomputable def iZ:List Sl->Tr Re:=bj 3 0
 (ap (cE (wX (bM (ad (cW λi j=>decide (i < j)) (aa 1) (aW bJ (af (aa 0) al)))) (bM (ad (cW λi j=>decide (i < j)) (aa 2) (ad ay (ad ay (aa 0) (aa 1)) (aC (.int 0))))))
  (bD (ad bP (ad ay (ad ay (aa 0) (aa 1)) (aC (.int 1))) (aa 2)))
  cB)
 (bD (aC (.int 0))))
noncomputable def sf:List Sl->Tr Ou :=
 (aR 1 (ad bv (aa 1) (aW cg (af (aa 2) al))))
noncomputable def rH:List Sl->Tr Re:=bj 1 2
 (ap (aR 1 (aC (.int 1)))
 (ap (cJ (fu (aa 0)) (ai 2) sf)
 (eE 1)))
theorem ZlW (T:Txt K mg):ACal (bG (K,cn)) P w K mg base "_law_bottom" 1 ["_law_falls_here"] rH:=bQ T.Zlo qI rfl λf cdv A outer sh H E hr=>by
 exact (av (aY (aG (i:=1) qI.nd rfl (Or.inl rfl) ak))
 (av (dh PassesOwn.never rfl (gE (ac (pv 0))) (aV (aT (i:=2) qI.nd rfl (Or.inl rfl)))
  (aB (aY (aG (i:=1) qI.nd rfl (Or.inl rfl) (aq bV bS (ac (pv 1)) (bb (t:=aP) (aU (fm rfl) rfl T.fg boot_sum (ag (ac (pv 2)) au)) e7))))))
 (aB (m9 (pv 1)))))
noncomputable def r8:List Sl->Tr Ou :=
 (cE (qc (qd (ip (qg "int" (aa 3)))) (ip (qg "bool" (aa 3))))
  (bD (aC (.bool false)))
  cB)
noncomputable def tS:List Sl->Tr Bool :=
 (bM (ad (cW λi j=>decide (i > j)) (aa 4) (aC (.int 0))))
noncomputable def vJ:List Sl->Tr Ou :=
 (ni 3 4 (af (aa 4) (af (ad nQ (aa 3) (aa 4)) al)))
noncomputable def rF:List Sl->Tr Re:=bj 3 2
 (ap (cE (qc (qd (ip (qg "tuple" (aa 0)))) (bM (ad eA (aW bJ (af (aa 0) al)) (aC (.int 2)))))
  (bD (aC (.bool false)))
  cB)
 (ap (cJ (fu (aa 0)) (ai 3) r8)
 (ap (ni 3 4 (af (aW oq (af (ad ay (aa 0) (aC (.int 0))) al)) (af (ad ay (aa 0) (aC (.int 1))) al)))
 (ap (cE (bM (ad (cW λi j=>decide (i < j)) (aa 4) (aC (.int 1))))
  (bD (aC (.bool false)))
  cB)
 (ap (dQ tS vJ 100000)
 (bD (wW (ad eT (aa 3) (aC (.int 1))) (ad eT (ad bv (ad ay (aa 0) (aC (.int 0))) (aa 2)) (ad bv (aa 1) (ad ay (aa 0) (aC (.int 1))))))))))))
theorem ZlU (T:Txt K mg):ACal (bG (K,cn)) P w K mg base "_law_is_share" 1 ["_law_found","_law_number","_law_bottom_here"] rF:=bQ T.Zll qH rfl λf cdv A outer sh H E hr=>by
 exact (av (cT (sO (wC (wE (om (wN (T:="tuple") (Or.inr (Or.inr (Or.inr (Or.inr (Or.inl rfl))))) rfl (aU wv rfl T.vq boot_isinstance (bo (ac (pv 0)) (bo (uZ (v:=.ty "tuple") rfl T.iR boot_tuple rfl) cb)))))) (wB (ck (o8 hr) oz (bb (t:=aP) (aU cQ rfl T.cM boot_len (ag (ac (pv 0)) au)) di) ak (nomark _)))))
 (aB (bI nh))
 cS)
 (av (dh PassesOwn.never rfl (gE (ac (pv 0))) (aV (aT (i:=3) qH.nd rfl (Or.inl rfl)))
  (aB (cT (sO (wC (wE (om (wN (T:="int") (Or.inl rfl) rfl (aU wv rfl T.vq boot_isinstance (bo (ac (pv 3)) (bo (uZ (v:=.ty "int") rfl T.ZcK boot_int rfl) cb)))))) (wB (om (wN (T:="bool") (Or.inr (Or.inl rfl)) rfl (aU wv rfl T.vq boot_isinstance (bo (ac (pv 3)) (bo (uZ (v:=.ty "bool") rfl T.Ziv boot_bool rfl) cb))))))))
  (aB (bI nh))
  cS)))
 (av (sQ (qV (i:=3) (j:=4) rfl qH.nd rfl rfl (by decide) rfl rfl (ag (bb (t:=aP) (aU oj rfl T.nP boot_abs (ag (ba a9 aZ (ac (pv 0)) ak (λ_ _=>rfl)) au)) tW) (ag (ba a9 aZ (ac (pv 0)) ak (λ_ _=>rfl)) au)) rfl))
 (av (cT (ck nO dR (ac (pv 4)) ak (nomark _))
  (aB (bI nh))
  cS)
 (av (Ze7 100000 PassesOwn.never (ck fe dR (ac (pv 4)) ak (nomark _))
  (aB (sQ (qV (i:=3) (j:=4) rfl qH.nd rfl rfl (by decide) rfl rfl (ag (ac (pv 4)) (ag (aq Zcv Zak (ac (pv 3)) (ac (pv 4))) au)) rfl))))
 (aB (bI (Zmv (sT (iP hr) iu (ac (pv 3)) ak (nomark _)) (Zms (sT (iP hr) iu (aq bV bS (ba a9 aZ (ac (pv 0)) ak (λ_ _=>rfl)) (ac (pv 2))) (aq bV bS (ac (pv 1)) (ba a9 aZ (ac (pv 0)) ak (λ_ _=>rfl))) (nomark _)))))))))))
noncomputable def nW:List Sl->Tr Re:=bj 2 1
 (ap (cE (bM (ad eT (aa 1) (aC (.int 0))))
  qe
  cB)
 (ap (aR 2 (aJ (aH rP (ah (aa 0) (ah (aa 1) aA)))))
 (ap (cE (bM (ad (cW λi j=>decide (i < j)) (aa 1) (aC (.int 0))))
  (aR 2 (gG (aa 2)))
  cB)
 (bD (dO (af (ad n8 (aa 0) (aa 2)) (af (ad n8 (aa 1) (aa 2)) al)))))))
theorem ZeO (T:Txt K mg):ACal (bG (K,cn)) P w K mg base "share" 2 ["top","bottom"] nW:=bQ T.ZkW ur rfl λf cdv A outer sh H E hr=>by
 exact (av (cT (ck (iP hr) iu (ac (pv 1)) ak (nomark _))
 (aB Zfb)
 cS)
 (av (aY (aG (i:=2) ur.nd rfl (Or.inl rfl) (aO (aM (Zl3 T) (hr.mono (by decide)) rfl (aj (ac (pv 0)) (aj (ac (pv 1)) aN))))))
 (av (cT (ck nO dR (ac (pv 1)) ak (nomark _))
  (aB (aY (aG (i:=2) ur.nd rfl (Or.inl rfl) (oo (ac (pv 2))))))
  cS)
 (aB (bI (eW (ag (aq Zcw Zal (ac (pv 0)) (ac (pv 2))) (ag (aq Zcw Zal (ac (pv 1)) (ac (pv 2))) au))))))))
noncomputable def pB:List Sl->Tr Re:=bj 3 3
 (ap (aR 3 (aJ (aH rA (ah (aa 0) (ah (aa 1) (ah (aa 2) aA))))))
 (ap (aR 4 (ad bP (aa 3) (ad bP (aa 1) (aa 2))))
 (ap (aR 5 (wT (bM (ad (cW λi j=>decide (i > j)) (aa 3) (aC (.int 0)))) (ad bv (ad ay (aa 0) (aC (.int 4))) (aa 3)) (ad bv (ad ay (aa 0) (aC (.int 5))) (gG (aa 3)))))
 (bD (ad aS (aa 5) (ad bv (ad ay (aa 0) (aC (.int 6))) (aa 4)))))))
theorem Zl1 (T:Txt K mg):ACal (bG (K,cn)) P w K mg base "day_cost" 2 ["shop","level","fall"] pB:=bQ T.Zk9 qG rfl λf cdv A outer sh H E hr=>by
 exact (av (aY (aG (i:=3) qG.nd rfl (Or.inl rfl) (aO (aM (ZlP T) (hr.mono (by decide)) rfl (aj (ac (pv 0)) (aj (ac (pv 1)) (aj (ac (pv 2)) aN)))))))
 (av (aY (aG (i:=4) qG.nd rfl (Or.inl rfl) (aq bZ bW (ac (pv 3)) (aq bZ bW (ac (pv 1)) (ac (pv 2))))))
 (av (aY (aG (i:=5) qG.nd rfl (Or.inl rfl) (Zmt (ck fe dR (ac (pv 3)) ak (nomark _)) (aq bV bS (ba a9 aZ (ac (pv 0)) (d4 rfl T.ZjP) (λ_ _=>rfl)) (ac (pv 3))) (aq bV bS (ba a9 aZ (ac (pv 0)) (d4 rfl T.ZjO) (λ_ _=>rfl)) (oo (ac (pv 3)))))))
 (aB (bI (aq bp bn (ac (pv 5)) (aq bV bS (ba a9 aZ (ac (pv 0)) (d4 rfl T.ZjM) (λ_ _=>rfl)) (ac (pv 4)))))))))
noncomputable def uU:List Sl->Tr PyData :=
 (aJ (aH pz (ah (aa 0) aA)))
noncomputable def rL:List Sl->Tr Re:=bj 3 0
 (bD (ad bP (aW cg (af (bO (eX (fu (cA (aa 1) (cw (aa 2)) cC)) 1 [] (ai 0) uU)) al)) (ad ay (aa 0) (aC (.int 1)))))
theorem ZlY (T:Txt K mg):ACal (bG (K,cn)) P w K mg base "free_from" 2 ["shop","falls","t"] rL:=bQ T.Zk6 ZgL rfl λf cdv A outer sh H E hr=>by
 exact (aB (bI (aq bZ bW (bb (t:=aP) (aU (fm rfl) rfl T.fg boot_sum (ag (ce (ng (iM tH ["day"] [] rfl (gE (c9 (ac (pv 1)) (cY (ac (pv 2))) cZ)) (λb=>(aV (aT (i:=0) (show ((bN tH ["day"] [])).Nodup by decide +kernel) rfl (Or.inl rfl)))) (λb=>(aO (aM (ZeR T) (hr.mono (by decide)) rfl (aj (ac (pv 0)) aN)))) rfl (show BlkOk tH (aK uB) _ [] from ⟨rfl,by decide +kernel,by decide +kernel,by decide +kernel,by decide +kernel⟩)) (cu (by decide)))) au)) e7) (ba a9 aZ (ac (pv 0)) (d4 rfl T.ZdE) (λ_ _=>rfl)))))
noncomputable def uQ:List Sl->Tr PyData :=
 (ad bv (aa 1) (aJ (aH pA (ah (aa 2) (ah (ad bP (aa 3) (aa 0)) aA)))))
noncomputable def rq:List Sl->Tr Re:=bj 3 0
 (bD (aW cg (af (bO (eX (eF (aa 1)) 2 [0,2] (bq (aw (ai 0) (aw (ai 1) bi))) uQ)) al)))
theorem ZlM (T:Txt K mg):ACal (bG (K,cn)) P w K mg base "weighed_end" 2 ["shop","weights","stock"] rq:=bQ T.ZkR ZgF rfl λf cdv A outer sh H E hr=>by
 exact (aB (bI (bb (t:=aP) (aU (fm rfl) rfl T.fg boot_sum (ag (ce (ng (iM qp ["fallen","weight"] [0,2] rfl (gF (f7 rfl rfl T.gf (ac (pv 1)))) (λb=>(dZ rfl (bB (aV (aT (i:=0) (show ((bN qp ["fallen","weight"] [0,2])).Nodup by decide +kernel) rfl (Or.inl rfl))) (bB (aV (aT (i:=1) (show ((bN qp ["fallen","weight"] [0,2])).Nodup by decide +kernel) rfl (Or.inl rfl))) dE)) (bA (bA dA)))) (λb=>(aq bV bS (ac (pv 1)) (aO (aM (ZlZ T) (hr.mono (by decide)) rfl (aj (ac (pv 2)) (aj (aq bZ bW (ac (pv 3)) (ac (pv 0))) aN)))))) rfl (show BlkOk qp (aK uw) _ [0,2] from ⟨rfl,by decide +kernel,by decide +kernel,by decide +kernel,by decide +kernel⟩)) (gU (dt (cu (by decide)) (dt (cu (by decide)) gW))))) au)) e7)))
noncomputable def uS:List Sl->Tr PyData :=
 (aJ (aH pz (ah (aa 0) aA)))
noncomputable def pq:List Sl->Tr Re:=bj 3 0
 (bD (ad bP (aa 2) (aW cg (af (bO (eX (fu (cA (aa 0) cC (cw (aa 1)))) 1 [] (ai 0) uS)) al))))
theorem ZeP (T:Txt K mg):ACal (bG (K,cn)) P w K mg base "least_counted" 2 ["falls","t","stock"] pq:=bQ T.Zk2 ZgJ rfl λf cdv A outer sh H E hr=>by
 exact (aB (bI (aq bZ bW (ac (pv 2)) (bb (t:=aP) (aU (fm rfl) rfl T.fg boot_sum (ag (ce (ng (iM tF ["day"] [] rfl (gE (c9 (ac (pv 0)) cZ (cY (ac (pv 1))))) (λb=>(aV (aT (i:=0) (show ((bN tF ["day"] [])).Nodup by decide +kernel) rfl (Or.inl rfl)))) (λb=>(aO (aM (ZeR T) (hr.mono (by decide)) rfl (aj (ac (pv 0)) aN)))) rfl (show BlkOk tF (aK uz) _ [] from ⟨rfl,by decide +kernel,by decide +kernel,by decide +kernel,by decide +kernel⟩)) (cu (by decide)))) au)) e7))))
noncomputable def vI:List Sl->Tr Ou :=
 (ap (aR 4 (bO (cD (af (aJ (aH cx (b9 0 (ah (aC (.int 10)) aA)))) (af (aJ (aH cx (b9 0 (ah (aC (.int 40)) aA)))) (af (aJ (aH cx (b9 0 (ah (aC (.int 1000001)) aA)))) (af (ad ay (bO (cD (af (aC (.int 0)) (af (aC (.int 1)) (af (aC (.int 7)) (af (aC (.int 1000000)) al)))))) (aJ (aH cx (b9 0 (ah (aC (.int 4)) aA))))) al)))))))
 (fS 2 (ad ay (aa 4) (aa 1))))
noncomputable def rC:List Sl->Tr Re:=bj 1 4
 (ap (aR 1 (aJ (aH cx (b9 0 (ah (aC (.int 4)) aA)))))
 (ap (fQ 2 (cD al))
 (ap (cJ (fR (af (aC (.int 7)) al)) (ai 3) vI)
 (ap (cE (bM (ad eT (aJ (aH cx (b9 0 (ah (aC (.int 4)) aA)))) (aC (.int 0))))
  (qa 2 (aC (.int 0)) (aC (.int 0)))
  cB)
 (ap (cE (bM (ad (cW λi j=>decide (i > j)) (aJ (aH cx (b9 0 (ah (aC (.int 3)) aA)))) (aC (.int 0))))
  (gH 2 (aR 2 (ad fo (cA (aa 2) cC (cw (aC (.int 5)))) (bO (qh oH (af (cA (aa 2) (cw (aC (.int 5))) cC) al))))))
  cB)
 (gH 2 (bD (aW fA (af (aa 2) al)))))))))
theorem ZlR (T:Txt K mg):ACal (bG (K,cn)) P w K mg base "_law_prices" 2 ["_law_pen_here"] rC:=bQ T.Zlh nE rfl λf cdv A outer sh H E hr=>by
 exact (av (aY (aG (i:=1) nE.nd rfl (Or.inl rfl) (aO (aM (cR T) (hr.mono (by decide)) rfl (cr (pv 0) (aj ak aN))))))
 (av (im (aG (i:=2) nE.nd rfl (Or.inl rfl) (c8 au)))
 (av (dh PassesOwn.never rfl (io (gX rfl T.dX (ag ak au))) (aV (aT (i:=3) nE.nd rfl (Or.inl rfl)))
  (av (aY (aG (i:=4) nE.nd rfl (Or.inl rfl) (ce (c8 (ag (aO (aM (cR T) (hr.mono (by decide)) rfl (cr (pv 0) (aj ak aN)))) (ag (aO (aM (cR T) (hr.mono (by decide)) rfl (cr (pv 0) (aj ak aN)))) (ag (aO (aM (cR T) (hr.mono (by decide)) rfl (cr (pv 0) (aj ak aN)))) (ag (ba a9 aZ (ce (c8 (ag ak (ag ak (ag ak (ag ak au)))))) (aO (aM (cR T) (hr.mono (by decide)) rfl (cr (pv 0) (aj ak aN)))) (λ_ _=>rfl)) au))))))))
 (aB (nc (fF (iO PySem.F.plainAttrs_list PySem.F.slot_list_append PySem.F.type_list_append iV (pv 2) (bo (ba a9 aZ (ac (pv 4)) (ac (pv 1)) (λ_ _=>rfl)) cb)))))))
 (av (cT (ck (iP hr) iu (aO (aM (cR T) (hr.mono (by decide)) rfl (cr (pv 0) (aj ak aN)))) ak (nomark _))
  (aB (Ze8 (iL ak (Zcm (pv 2) ak uo))))
  cS)
 (av (cT (ck fe dR (aO (aM (cR T) (hr.mono (by decide)) rfl (cr (pv 0) (aj ak aN)))) ak (nomark _))
  (aB (na (k:=2) (aY (aG (i:=2) nE.nd rfl (Or.inl rfl) (aq vd tU (c9 (ac (pv 2)) cZ (cY ak)) (ce (Zfj (t:=aP) (aU ZlF rfl T.ZcH boot_sorted (ag (c9 (ac (pv 2)) (cY ak) cZ) au)) ZfP)))))))
  cS)
 (aB (na (k:=2) (bI (bb (t:=aP) (fc oi rfl T.iR boot_tuple (ag (ac (pv 2)) au)) nw)))))))))
noncomputable def vM:List Sl->Tr Ou :=
 (fS 6 (ad ay (bO (cD (af (aC (.int 1)) (af (aJ (aH cx (b9 0 (ah (aC (.int 2)) aA)))) (af (aJ (aH cx (b9 0 (ah (aC (.int 4)) aA)))) (af (aJ (aH cx (b9 0 (ah (aC (.int 1001)) aA)))) al)))))) (aa 5)))
noncomputable def vL:List Sl->Tr Ou :=
 (ap (aR 5 (aJ (aH cx (b9 0 (ah (aC (.int 4)) aA)))))
 (ap (fQ 6 (cD al))
 (ap (cJ (fR (af (ad aS (aC (.int 1)) (aJ (aH cx (b9 0 (ah (aa 2) aA))))) al)) (ai 7) vM)
 (ap (cE (bM (ad eT (tj cg (p8 6 aA)) (aC (.int 0))))
  (qa 6 (aJ (aH cx (b9 0 (ah (tj bJ (p8 6 aA)) aA)))) (ad aS (aC (.int 1)) (aJ (aH cx (b9 0 (ah (aC (.int 9)) aA))))))
  cB)
 (gH 6 (fS 3 (aW fA (af (aa 6) al))))))))
noncomputable def rG:List Sl->Tr Re:=bj 3 5
 (ap (fQ 3 (cD al))
 (ap (cJ (fR (af (aa 1) al)) (ai 4) vL)
 (gH 3 (bD (aW fA (af (aa 3) al))))))
theorem ZlV (T:Txt K mg):ACal (bG (K,cn)) P w K mg base "_law_falls" 2 ["_law_pen_here","_law_days","_law_most"] rG:=bQ T.Zlm nF rfl λf cdv A outer sh H E hr=>by
 exact (av (im (aG (i:=3) nF.nd rfl (Or.inl rfl) (c8 au)))
 (av (dh PassesOwn.never rfl (io (gX rfl T.dX (ag (ac (pv 1)) au))) (aV (aT (i:=4) nF.nd rfl (Or.inl rfl)))
  (av (aY (aG (i:=5) nF.nd rfl (Or.inl rfl) (aO (aM (cR T) (hr.mono (by decide)) rfl (cr (pv 0) (aj ak aN))))))
 (av (im (aG (i:=6) nF.nd rfl (Or.inl rfl) (c8 au)))
 (av (dh PassesOwn.never rfl (io (gX rfl T.dX (ag (aq bp bn ak (aO (aM (cR T) (hr.mono (by decide)) rfl (cr (pv 0) (aj (ac (pv 2)) aN))))) au))) (aV (aT (i:=7) nF.nd rfl (Or.inl rfl)))
  (aB (nc (fF (iO PySem.F.plainAttrs_list PySem.F.slot_list_append PySem.F.type_list_append iV (pv 6) (bo (ba a9 aZ (ce (c8 (ag ak (ag (aO (aM (cR T) (hr.mono (by decide)) rfl (cr (pv 0) (aj ak aN)))) (ag (aO (aM (cR T) (hr.mono (by decide)) rfl (cr (pv 0) (aj ak aN)))) (ag (aO (aM (cR T) (hr.mono (by decide)) rfl (cr (pv 0) (aj ak aN)))) au)))))) (ac (pv 5)) (λ_ _=>rfl)) cb))))))
 (av (cT (ck (iP hr) iu (Zfo Zck (aU (fm rfl) rfl T.fg boot_sum (Zfs (pv 6) Zfr)) e7) ak (nomark _))
  (aB (Ze8 (iL (aq bp bn ak (aO (aM (cR T) (hr.mono (by decide)) rfl (cr (pv 0) (aj ak aN))))) (Zcm (pv 6) (aO (aM (cR T) (hr.mono (by decide)) rfl (cr (pv 0) (aj (Zfo Zck (aU cQ rfl T.cM boot_len (Zfs (pv 6) Zfr)) di) aN)))) uo))))
  cS)
 (aB (na (k:=6) (nc (fF (iO PySem.F.plainAttrs_list PySem.F.slot_list_append PySem.F.type_list_append iV (pv 3) (bo (bb (t:=aP) (fc oi rfl T.iR boot_tuple (ag (ac (pv 6)) au)) nw) cb)))))))))))
 (aB (na (k:=3) (bI (bb (t:=aP) (fc oi rfl T.iR boot_tuple (ag (ac (pv 3)) au)) nw))))))
noncomputable def pC:List Sl->Tr Re:=bj 3 0
 (cE (bM (ad (cW λi j=>decide (i < j)) (aa 2) (aJ (aH rL (ah (aa 0) (ah (aa 1) (ah (aC (.int 0)) aA)))))))
  qe
  cB)
theorem ZeS (T:Txt K mg):ACal (bG (K,cn)) P w K mg base "ask_free" 3 ["shop","falls","stock"] pC:=bQ T.Zld ZgN rfl λf cdv A outer sh H E hr=>by
 exact (aB (cT (ck nO dR (ac (pv 2)) (aO (aM (ZlY T) (hr.mono (by decide)) rfl (aj (ac (pv 0)) (aj (ac (pv 1)) (aj ak aN))))) (nomark _))
 (aB Zfb)
 cS))
noncomputable def uR:List Sl->Tr PyData :=
 (ad bv (aa 1) (aJ (aH pB (ah (aa 2) (ah (aa 3) (ah (aa 0) aA))))))
noncomputable def nV:List Sl->Tr Re:=bj 3 0
 (bD (aW cg (af (bO (eX (eF (aa 1)) 2 [0,2] (bq (aw (ai 0) (aw (ai 1) bi))) uR)) al)))
theorem ZeM (T:Txt K mg):ACal (bG (K,cn)) P w K mg base "weighed_day" 3 ["shop","weights","stock"] nV:=bQ T.ZkS ZgG rfl λf cdv A outer sh H E hr=>by
 exact (aB (bI (bb (t:=aP) (aU (fm rfl) rfl T.fg boot_sum (ag (ce (ng (iM qq ["fallen","weight"] [0,2] rfl (gF (f7 rfl rfl T.gf (ac (pv 1)))) (λb=>(dZ rfl (bB (aV (aT (i:=0) (show ((bN qq ["fallen","weight"] [0,2])).Nodup by decide +kernel) rfl (Or.inl rfl))) (bB (aV (aT (i:=1) (show ((bN qq ["fallen","weight"] [0,2])).Nodup by decide +kernel) rfl (Or.inl rfl))) dE)) (bA (bA dA)))) (λb=>(aq bV bS (ac (pv 1)) (aO (aM (Zl1 T) (hr.mono (by decide)) rfl (aj (ac (pv 2)) (aj (ac (pv 3)) (aj (ac (pv 0)) aN))))))) rfl (show BlkOk qq (aK ux) _ [0,2] from ⟨rfl,by decide +kernel,by decide +kernel,by decide +kernel,by decide +kernel⟩)) (gU (dt (cu (by decide)) (dt (cu (by decide)) gW))))) au)) e7)))
noncomputable def qU:List Sl->Tr PyData :=
 (aa 0)
noncomputable def oW:List Sl->Tr PyData :=
 (aJ (aH rq (ah (aa 1) (ah (aa 2) (ah (aa 0) aA)))))
noncomputable def rM:List Sl->Tr Re:=bj 4 2
 (ap (aR 4 (aJ (aH nU (ah (cA (aa 1) (cw (aa 2)) cC) aA))))
 (ap (aR 5 (aJ (aH pq (ah (aa 1) (ah (aa 2) (ah (aa 3) aA))))))
 (bD (gI (ot (af (aa 5) (af (ad aS (ad ay (aa 0) (aC (.int 0))) (aC (.int 1))) al))) 1 [0,4] (ai 0) qU oW))))
theorem Zl0 (T:Txt K mg):ACal (bG (K,cn)) P w K mg base "end_ahead" 3 ["shop","falls","orders","stock"] rM:=bQ T.Zk8 ut rfl λf cdv A outer sh H E hr=>by
 exact (av (aY (aG (i:=4) ut.nd rfl (Or.inr rfl) (aO (aM (ww T) (hr.mono (by decide)) rfl (aj (c9 (ac (pv 1)) (cY (ac (pv 2))) cZ) aN)))))
 (av (aY (aG (i:=5) ut.nd rfl (Or.inl rfl) (aO (aM (ZeP T) (hr.mono (by decide)) rfl (aj (ac (pv 1)) (aj (ac (pv 2)) (aj (ac (pv 3)) aN)))))))
 (aB (bI (Zmu (ZhU tJ ["counted"] [0,4] rfl (wI (uW rfl T.dX (ag (ac (pv 5)) (ag (aq bp bn (ba a9 aZ (ac (pv 0)) (d4 rfl T.sD) (λ_ _=>rfl)) ak) au)))) (λb=>(aV (aT (i:=0) (show ((bN tJ ["counted"] [0,4])).Nodup by decide +kernel) rfl (Or.inl rfl)))) (λb=>(ac (pv 0))) (λb=>(aO (aM (ZlM T) (hr.mono (by decide)) rfl (aj (ac (pv 1)) (aj (ac (pv 2)) (aj (ac (pv 0)) aN)))))) rfl (show BlkOk tJ (aK uC) _ [0,4] from ⟨rfl,by decide +kernel,by decide +kernel,by decide +kernel,by decide +kernel⟩)) (cu (by decide)))))))
noncomputable def rJ:List Sl->Tr Re:=bj 1 7
 (ap (aR 1 (ad aS (aC (.int 2)) (aJ (aH cx (b9 0 (ah (aC (.int 5)) aA))))))
 (ap (aR 2 (aJ (aH rG (b9 0 (ah (aa 1) (ah (ad ay (bO (cD (af (aC (.int 8)) (af (aC (.int 6)) (af (aC (.int 4)) (af (aC (.int 4)) (af (aC (.int 4)) al))))))) (ad bP (aa 1) (aC (.int 2)))) aA))))))
 (ap (aR 3 (ad bP (aC (.int 39)) (aJ (aH pw (ah (aa 2) aA)))))
 (ap (aR 4 (aJ (aH cx (b9 0 (ah (ad aS (aW nR (af (aa 3) (af (ad ay (bO (cD (af (aC (.int 3)) (af (aC (.int 12)) (af (aC (.int 12)) al))))) (aJ (aH cx (b9 0 (ah (aC (.int 3)) aA))))) al))) (aC (.int 1))) aA)))))
 (ap (aR 5 (aW nR (af (ad bP (aa 3) (aa 4)) (af (aJ (aH cx (b9 0 (ah (aC (.int 4)) aA)))) al))))
 (ap (aR 6 (ad bP (aJ (aH cx (b9 0 (ah (ad aS (ad aS (aa 4) (aa 5)) (aC (.int 1))) aA)))) (aa 5)))
 (ap (aR 7 (aJ (aH rC (b9 0 aA))))
 (wR (cD (af (ad aS (ad aS (dO (af (aa 4) (af (ad aS (ad bP (aC (.int 39)) (aa 3)) (aa 5)) al))) (cA (aa 7) cC (cw (aC (.int 5))))) (aW fA (af (bO (qh oF (af (cA (aa 7) (cw (aC (.int 5))) cC) al))) al))) (af (aa 2) (af (aa 6) al))))))))))))
theorem ZlX (T:Txt K mg):ACal (bG (K,cn)) P w K mg base "_law_asked" 3 ["_law_pen_here"] rJ:=bQ T.Zlp gN rfl λf cdv A outer sh H E hr=>by
 exact (av (aY (aG (i:=1) gN.nd rfl (Or.inl rfl) (aq bp bn ak (aO (aM (cR T) (hr.mono (by decide)) rfl (cr (pv 0) (aj ak aN)))))))
 (av (aY (aG (i:=2) gN.nd rfl (Or.inl rfl) (aO (aM (ZlV T) (hr.mono (by decide)) rfl (cr (pv 0) (aj (ac (pv 1)) (aj (ba a9 aZ (ce (c8 (ag ak (ag ak (ag ak (ag ak (ag ak au))))))) (aq bZ bW (ac (pv 1)) ak) (λ_ _=>rfl)) aN)))))))
 (av (aY (aG (i:=3) gN.nd rfl (Or.inl rfl) (aq bZ bW ak (aO (aM (ZeQ T) (hr.mono (by decide)) rfl (aj (ac (pv 2)) aN))))))
 (av (aY (aG (i:=4) gN.nd rfl (Or.inl rfl) (aO (aM (cR T) (hr.mono (by decide)) rfl (cr (pv 0) (aj (aq bp bn (bb (t:=aP) (aU (wu rfl) rfl T.pe boot_min (ag (ac (pv 3)) (ag (ba a9 aZ (ce (c8 (ag ak (ag ak (ag ak au))))) (aO (aM (cR T) (hr.mono (by decide)) rfl (cr (pv 0) (aj ak aN)))) (λ_ _=>rfl)) au))) tV) ak) aN))))))
 (av (aY (aG (i:=5) gN.nd rfl (Or.inl rfl) (bb (t:=aP) (aU (wu rfl) rfl T.pe boot_min (ag (aq bZ bW (ac (pv 3)) (ac (pv 4))) (ag (aO (aM (cR T) (hr.mono (by decide)) rfl (cr (pv 0) (aj ak aN)))) au))) tV)))
 (av (aY (aG (i:=6) gN.nd rfl (Or.inl rfl) (aq bZ bW (aO (aM (cR T) (hr.mono (by decide)) rfl (cr (pv 0) (aj (aq bp bn (aq bp bn (ac (pv 4)) (ac (pv 5))) ak) aN)))) (ac (pv 5)))))
 (av (aY (aG (i:=7) gN.nd rfl (Or.inl rfl) (aO (aM (ZlR T) (hr.mono (by decide)) rfl (cr (pv 0) aN)))))
 (aB (Zmg (c8 (ag (aq bp bn (aq bp bn (eW (ag (ac (pv 4)) (ag (aq bp bn (aq bZ bW ak (ac (pv 3))) (ac (pv 5))) au))) (c9 (ac (pv 7)) cZ (cY ak))) (bb (t:=aP) (fc oi rfl T.iR boot_tuple (ag (ce (Zfj (t:=aP) (aU ZlG rfl T.ZcH boot_sorted (ag (c9 (ac (pv 7)) (cY ak) cZ) au)) ZfO)) au)) nw)) (ag (ac (pv 2)) (ag (ac (pv 6)) au)))))))))))))
noncomputable def si:List Sl->Tr Ou :=
 (ap (aR 10 (ad aS (ad bv (ad bv (aa 5) (ad ay (aa 0) (aC (.int 3)))) (aa 9)) (ad bv (aa 6) (aJ (aH nV (ah (aa 0) (ah (aa 7) (ah (aa 9) aA))))))))
 (fS 8 (ad aS (aa 10) (aJ (aH ph (ah (ad ay (aa 1) (aC (.int 0))) (ah (aa 3) (ah (aa 9) aA))))))))
noncomputable def rO:List Sl->Tr Re:=bj 5 6
 (ap (aR 5 (aJ (aH g9 (ah (aa 1) aA))))
 (ap (aR 6 (aJ (aH g9 (ah (cA (aa 1) (cw (ad aS (aa 2) (aC (.int 1)))) cC) aA))))
 (ap (aR 7 (aJ (aH nU (ah (cA (aa 1) cC (cw (ad aS (aa 2) (aC (.int 1))))) aA))))
 (ap (fQ 8 (cD al))
 (ap (cJ (ot (af (aa 4) (af (ad aS (ad ay (aa 0) (aC (.int 0))) (aC (.int 1))) al))) (ai 9) si)
 (eE 8))))))
theorem Zl2 (T:Txt K mg):ACal (bG (K,cn)) P w K mg base "counted_sums" 4 ["shop","falls","days","ahead","low"] rO:=bQ T.Zla iH rfl λf cdv A outer sh H E hr=>by
 exact (av (aY (aG (i:=5) iH.nd rfl (Or.inl rfl) (aO (aM (pX T) (hr.mono (by decide)) rfl (aj (ac (pv 1)) aN)))))
 (av (aY (aG (i:=6) iH.nd rfl (Or.inl rfl) (aO (aM (pX T) (hr.mono (by decide)) rfl (aj (c9 (ac (pv 1)) (cY (aq bp bn (ac (pv 2)) ak)) cZ) aN)))))
 (av (aY (aG (i:=7) iH.nd rfl (Or.inl rfl) (aO (aM (ww T) (hr.mono (by decide)) rfl (aj (c9 (ac (pv 1)) cZ (cY (aq bp bn (ac (pv 2)) ak))) aN)))))
 (av (im (aG (i:=8) iH.nd rfl (Or.inl rfl) (c8 au)))
 (av (dh PassesOwn.never rfl (wI (uW rfl T.dX (ag (ac (pv 4)) (ag (aq bp bn (ba a9 aZ (ac (pv 0)) (d4 rfl T.sD) (λ_ _=>rfl)) ak) au)))) (aV (aT (i:=9) iH.nd rfl (Or.inl rfl)))
  (av (aY (aG (i:=10) iH.nd rfl (Or.inl rfl) (aq bp bn (aq bV bS (aq bV bS (ac (pv 5)) (ba a9 aZ (ac (pv 0)) (d4 rfl T.ZdD) (λ_ _=>rfl))) (ac (pv 9))) (aq bV bS (ac (pv 6)) (aO (aM (ZeM T) (hr.mono (by decide)) rfl (aj (ac (pv 0)) (aj (ac (pv 7)) (aj (ac (pv 9)) aN)))))))))
 (aB (nc (fF (iO PySem.F.plainAttrs_list PySem.F.slot_list_append PySem.F.type_list_append iV (pv 8) (bo (aq bp bn (ac (pv 10)) (aO (aM (ZlN T) (hr.mono (by decide)) rfl (aj (ba a9 aZ (ac (pv 1)) ak (λ_ _=>rfl)) (aj (ac (pv 3)) (aj (ac (pv 9)) aN)))))) cb)))))))
 (aB (m9 (pv 8))))))))
noncomputable def qS:List Sl->Tr PyData :=
 (dO (af (aJ (aH nW (ah (aa 0) (ah (aa 2) aA)))) (af (aa 1) al)))
noncomputable def qR:List Sl->Tr PyData :=
 (ad aS (aa 3) (aa 0))
noncomputable def qQ:List Sl->Tr PyData :=
 (aa 1)
noncomputable def rY:List Sl->Tr Ou :=
 (ap (aR 8 (aJ (aH pq (ah (aa 1) (ah (aa 7) (ah (aa 3) aA))))))
 (ap (aR 9 (aJ (aH g9 (ah (cA (aa 1) (cw (aa 7)) cC) aA))))
 (ap (aR 10 (aJ (aH rQ (ah (aa 0) (ah (aa 8) (ah (aJ (aH rO (ah (aa 0) (ah (cA (aa 1) (cw (aa 7)) cC) (ah (aa 2) (ah (aa 5) (ah (aa 8) aA))))))) (ah (aa 9) aA)))))))
 (ap (fS 6 (aW fA (af (bO (eX (fu (aa 10)) 2 [9] (bq (aw (ai 0) (aw (ai 1) bi))) qS)) al)))
 (aR 5 (gI (eF (aa 10)) 3 [8] (bq (aw (ai 0) (aw (bq (aw (ai 1) (aw (ai 2) bi))) bi))) qR qQ))))))
noncomputable def pj:List Sl->Tr Re:=bj 4 7
 (ap (aR 4 (ad bP (aW bJ (af (aa 1) al)) (aa 2)))
 (ap (aR 5 (aJ (aH rM (ah (aa 0) (ah (aa 1) (ah (aa 4) (ah (aa 3) aA)))))))
 (ap (fQ 6 (cD al))
 (ap (cJ (wQ (af (aa 4) al)) (ai 7) rY)
 (ap (qb 6)
 (gH 6 (bD (dO (af (aa 6) (af (ad fk (aa 5) (aa 3)) al))))))))))
theorem ZeN (T:Txt K mg):ACal (bG (K,cn)) P w K mg base "short_days" 5 ["shop","falls","days","stock"] pj:=bQ T.ZkV fY rfl λf cdv A outer sh H E hr=>by
 exact (av (aY (aG (i:=4) fY.nd rfl (Or.inl rfl) (aq bZ bW (bb (t:=aP) (aU cQ rfl T.cM boot_len (ag (ac (pv 1)) au)) di) (ac (pv 2)))))
 (av (aY (aG (i:=5) fY.nd rfl (Or.inl rfl) (aO (aM (Zl0 T) (hr.mono (by decide)) rfl (aj (ac (pv 0)) (aj (ac (pv 1)) (aj (ac (pv 4)) (aj (ac (pv 3)) aN))))))))
 (av (im (aG (i:=6) fY.nd rfl (Or.inl rfl) (c8 au)))
 (av (dh PassesOwn.never rfl (Zmq (Zcl rfl T.ZcI (fc ZlI rfl T.dX boot_range (ag (ac (pv 4)) au)))) (aV (aT (i:=7) fY.nd rfl (Or.inl rfl)))
  (av (aY (aG (i:=8) fY.nd rfl (Or.inr rfl) (aO (aM (ZeP T) (hr.mono (by decide)) rfl (aj (ac (pv 1)) (aj (ac (pv 7)) (aj (ac (pv 3)) aN)))))))
 (av (aY (aG (i:=9) fY.nd rfl (Or.inr rfl) (aO (aM (pX T) (hr.mono (by decide)) rfl (aj (c9 (ac (pv 1)) (cY (ac (pv 7))) cZ) aN)))))
 (av (aY (aG (i:=10) fY.nd rfl (Or.inl rfl) (aO (aM (Zl4 T) (hr.mono (by decide)) rfl (aj (ac (pv 0)) (aj (ac (pv 8)) (aj (aO (aM (Zl2 T) (hr.mono (by decide)) rfl (aj (ac (pv 0)) (aj (c9 (ac (pv 1)) (cY (ac (pv 7))) cZ) (aj (ac (pv 2)) (aj (ac (pv 5)) (aj (ac (pv 8)) aN))))))) (aj (ac (pv 9)) aN))))))))
 (av (nc (fF (iO PySem.F.plainAttrs_list PySem.F.slot_list_append PySem.F.type_list_append iV (pv 6) (bo (bb (t:=aP) (fc oi rfl T.iR boot_tuple (ag (ce (ng (iM fT ["cost","level"] [9] rfl (gE (ac (pv 10))) (λb=>(dZ rfl (bB (aV (aT (i:=0) (show ((bN fT ["cost","level"] [9])).Nodup by decide +kernel) rfl (Or.inl rfl))) (bB (aV (aT (i:=1) (show ((bN fT ["cost","level"] [9])).Nodup by decide +kernel) rfl (Or.inl rfl))) dE)) (bA (bA dA)))) (λb=>(eW (ag (aO (aM (ZeO T) (hr.mono (by decide)) rfl (aj (ac (pv 0)) (aj (ac (pv 2)) aN)))) (ag (ac (pv 1)) au)))) rfl (show BlkOk fT (aK qJ) _ [9] from ⟨rfl,by decide +kernel,by decide +kernel,by decide +kernel,by decide +kernel⟩)) (gU (dt (cu (by decide)) (dt (cu (by decide)) gW))))) au)) nw) cb))))
 (aB (Zmf (Zhq (i:=5) fT ["at","cost","level"] [8] rfl fY.nd rfl rfl (gF (f7 rfl rfl T.gf (ac (pv 10)))) (λb=>(dZ rfl (bB (aV (aT (i:=0) (show ((bN fT ["at","cost","level"] [8])).Nodup by decide +kernel) rfl (Or.inl rfl))) (bB (dZ rfl (bB (aV (aT (i:=1) (show ((bN fT ["at","cost","level"] [8])).Nodup by decide +kernel) rfl (Or.inl rfl))) (bB (aV (aT (i:=2) (show ((bN fT ["at","cost","level"] [8])).Nodup by decide +kernel) rfl (Or.inl rfl))) dE)) (bA (bA dA))) dE)) (bA (bA dA)))) (λb=>(aq bp bn (ac (pv 3)) (ac (pv 0)))) (λb=>(ac (pv 1))) rfl (show BlkOk fT (aK qJ) _ [8] from ⟨rfl,by decide +kernel,by decide +kernel,by decide +kernel,by decide +kernel⟩) rfl) (gU (dt (cu (by decide)) (dt (gU (dt (cu (by decide)) (dt (cu (by decide)) gW))) gW))))))))))
 (av (Ze9 (fF (Zcp PySem.F.plainAttrs_list PySem.F.slot_list_reverse PySem.F.type_list_reverse ZcL (pv 6))))
 (aB (na (k:=6) (bI (eW (ag (ac (pv 6)) (ag (Zfn (gY (hW hr) (ac (pv 5)) (ac (pv 3)) (λ_ _=>rfl))) au)))))))))))
noncomputable def r6:List Sl->Tr Ou :=
 (qj sB 5 (ad bv (aJ (aH g9 (ah (cA (aa 1) (cw (ad aS (aa 6) (aC (.int 1)))) cC) aA))) (aJ (aH nV (ah (aa 0) (ah (aJ (aH nU (ah (cA (aa 1) cC (cw (ad aS (aa 6) (aC (.int 1))))) aA))) (ah (aa 3) aA)))))))
noncomputable def rB:List Sl->Tr Re:=bj 4 3
 (ap (sZ (aJ (aH pC (ah (aa 0) (ah (aa 1) (ah (aa 3) aA))))))
 (ap (nk (bq (aw (ai 4) (aw (ai 5) bi))) (aJ (aH pj (ah (aa 0) (ah (aa 1) (ah (aa 2) (ah (aa 3) aA)))))))
 (ap (cJ (fR (af (aa 2) al)) (ai 6) r6)
 (sX (aH nW (ah (aa 5) (ah (aJ (aH g9 (ah (aa 1) aA))) aA)))))))
theorem ZlQ (T:Txt K mg):ACal (bG (K,cn)) P w K mg base "least_late" 6 ["shop","falls","days","stock"] rB:=bQ T.Zk1 oM rfl λf cdv A outer sh H E hr=>by
 exact (av (Zfc (aO (aM (ZeS T) (hr.mono (by decide)) rfl (aj (ac (pv 0)) (aj (ac (pv 1)) (aj (ac (pv 3)) aN))))))
 (av (pY (iL (aO (aM (ZeN T) (hr.mono (by decide)) rfl (aj (ac (pv 0)) (aj (ac (pv 1)) (aj (ac (pv 2)) (aj (ac (pv 3)) aN)))))) (dZ rfl (bB (aV (aT (i:=4) oM.nd rfl (Or.inl rfl))) (bB (aV (aT (i:=5) oM.nd rfl (Or.inl rfl))) dE)) (bA (bA dA)))))
 (av (dh PassesOwn.never rfl (io (gX rfl T.dX (ag (ac (pv 2)) au))) (aV (aT (i:=6) oM.nd rfl (Or.inl rfl)))
  (aB (Zfd ZfN (Zch (i:=5) oM.nd rfl (Or.inl rfl) (aq bV bS (aO (aM (pX T) (hr.mono (by decide)) rfl (aj (c9 (ac (pv 1)) (cY (aq bp bn (ac (pv 6)) ak)) cZ) aN))) (aO (aM (ZeM T) (hr.mono (by decide)) rfl (aj (ac (pv 0)) (aj (aO (aM (ww T) (hr.mono (by decide)) rfl (aj (c9 (ac (pv 1)) cZ (cY (aq bp bn (ac (pv 6)) ak))) aN))) (aj (ac (pv 3)) aN)))))) (pip ZjA)))))
 (aB (Zfa (aM (ZeO T) (hr.mono (by decide)) rfl (aj (ac (pv 5)) (aj (aO (aM (pX T) (hr.mono (by decide)) rfl (aj (ac (pv 1)) aN))) aN))))))))
noncomputable def rz:List Sl->Tr Re:=bj 4 2
 (ap (sZ (aJ (aH pC (ah (aa 0) (ah (aa 1) (ah (aa 3) aA))))))
 (ap (nk (bq (aw (ai 4) (aw (ai 5) bi))) (aJ (aH pj (ah (aa 0) (ah (aa 1) (ah (aa 2) (ah (aa 3) aA)))))))
 (bD (aW fA (af (aa 4) al)))))
theorem ZlO (T:Txt K mg):ACal (bG (K,cn)) P w K mg base "short_table" 6 ["shop","falls","days","stock"] rz:=bQ T.ZkU uq rfl λf cdv A outer sh H E hr=>by
 exact (av (Zfc (aO (aM (ZeS T) (hr.mono (by decide)) rfl (aj (ac (pv 0)) (aj (ac (pv 1)) (aj (ac (pv 3)) aN))))))
 (av (pY (iL (aO (aM (ZeN T) (hr.mono (by decide)) rfl (aj (ac (pv 0)) (aj (ac (pv 1)) (aj (ac (pv 2)) (aj (ac (pv 3)) aN)))))) (dZ rfl (bB (aV (aT (i:=4) uq.nd rfl (Or.inl rfl))) (bB (aV (aT (i:=5) uq.nd rfl (Or.inl rfl))) dE)) (bA (bA dA)))))
 (aB (bI (bb (t:=aP) (fc oi rfl T.iR boot_tuple (ag (ac (pv 4)) au)) nw)))))
noncomputable def pG:List Sl->Tr Ou :=
 (ap (aR 7 (ad bP (aa 3) (aJ (aH pw (ah (cA (aa 1) cC (cw (aa 6))) aA)))))
 (ap (cE (qc (bM (ad eA (aW bJ (af (aa 4) al)) (ad bP (aW bJ (af (aa 1) al)) (aa 2)))) (bM (ad eA (aW bJ (af (ad ay (aa 4) (aa 6)) al)) (ad aS (ad bP (ad ay (aa 0) (aC (.int 0))) (aa 7)) (aC (.int 1))))))
  (bD (aC .none))
  cB)
 (fS 5 (aJ (aH rE (ah (ad ay (aa 4) (aa 6)) (ah (aa 7) aA)))))))
noncomputable def rD:List Sl->Tr Re:=bj 4 4
 (ap (aR 4 (aJ (aH rz (ah (aa 0) (ah (aa 1) (ah (aa 2) (ah (aa 3) aA)))))))
 (ap (fQ 5 (cD al))
 (ap (cJ (fR (af (ad bP (aW bJ (af (aa 1) al)) (aa 2)) al)) (ai 6) pG)
 (ap (gH 5 (cE (bM (ad (pL false) (aC .none) (aa 5)))
  (bD (aC .none))
  cB))
 (eE 5)))))
theorem ZlS (T:Txt K mg):ACal (bG (K,cn)) P w K mg base "_law_pairs" 7 ["_law_shop","_law_falls_here","_law_days","_law_stock"] rD:=bQ T.Zlj oN rfl λf cdv A outer sh H E hr=>by
 exact (av (aY (aG (i:=4) oN.nd rfl (Or.inl rfl) (aO (aM (ZlO T) (hr.mono (by decide)) rfl (aj (ac (pv 0)) (aj (ac (pv 1)) (aj (ac (pv 2)) (aj (ac (pv 3)) aN))))))))
 (av (im (aG (i:=5) oN.nd rfl (Or.inl rfl) (c8 au)))
 (av (dh PassesOwn.never rfl (io (gX rfl T.dX (ag (aq bZ bW (bb (t:=aP) (aU cQ rfl T.cM boot_len (ag (ac (pv 1)) au)) di) (ac (pv 2))) au))) (aV (aT (i:=6) oN.nd rfl (Or.inl rfl)))
  (av (aY (aG (i:=7) oN.nd rfl (Or.inl rfl) (aq bZ bW (ac (pv 3)) (aO (aM (ZeQ T) (hr.mono (by decide)) rfl (aj (c9 (ac (pv 1)) cZ (cY (ac (pv 6)))) aN))))))
 (av (cT (sO (wC (ck (o8 hr) oz (bb (t:=aP) (aU cQ rfl T.cM boot_len (ag (ac (pv 4)) au)) di) (aq bZ bW (bb (t:=aP) (aU cQ rfl T.cM boot_len (ag (ac (pv 1)) au)) di) (ac (pv 2))) (nomark _)) (wB (ck (o8 hr) oz (bb (t:=aP) (aU cQ rfl T.cM boot_len (ag (ba a9 aZ (ac (pv 4)) (ac (pv 6)) (λ_ _=>rfl)) au)) di) (aq bp bn (aq bZ bW (ba a9 aZ (ac (pv 0)) ak (λ_ _=>rfl)) (ac (pv 7))) ak) (nomark _)))))
  (aB (bI p7))
  cS)
 (aB (nc (fF (iO PySem.F.plainAttrs_list PySem.F.slot_list_append PySem.F.type_list_append iV (pv 5) (bo (aO (aM (ZlT T) (hr.mono (by decide)) rfl (aj (ba a9 aZ (ac (pv 4)) (ac (pv 6)) (λ_ _=>rfl)) (aj (ac (pv 7)) aN)))) cb))))))))
 (av (na (k:=5) (cT (ck (Zh9 hr) ZfL p7 (ac (pv 5)) (by with_unfolding_all rfl))
  (aB (bI p7))
  cS))
 (aB (m9 (pv 5)))))))
section
variable {F:List Int->Option Int} {KS:List (List Int)}
theorem ZeT (T:Txt K mg):ACal (fy F KS) P w K mg base "_law_rest" 1 ["_law_shop","_law_rest_here","_law_at_end"] iY:=bQ T.Zle ZgO rfl λf cdv A outer sh H E hr=>by
 exact (av (cT (om (ac (pv 2)))
 (aB (bI (aq bZ bW (aq bV bS (ba a9 aZ (ac (pv 0)) ak (λ_ _=>rfl)) (bb (t:=aP) (aU (pW rfl) rfl T.iS boot_max (ag (aq bZ bW ak (ac (pv 1))) (ag ak au))) oA)) (aq bV bS (ba a9 aZ (ac (pv 0)) ak (λ_ _=>rfl)) (bb (t:=aP) (aU (pW rfl) rfl T.iS boot_max (ag (ac (pv 1)) (ag ak au))) oA)))))
 cS)
 (aB (bI (aq bp bn (aq bV bS (ba a9 aZ (ac (pv 0)) ak (λ_ _=>rfl)) (bb (t:=aP) (aU (pW rfl) rfl T.iS boot_max (ag (ac (pv 1)) (ag ak au))) oA)) (aq bV bS (ba a9 aZ (ac (pv 0)) ak (λ_ _=>rfl)) (bb (t:=aP) (aU (pW rfl) rfl T.iS boot_max (ag (aq bZ bW ak (ac (pv 1))) (ag ak au))) oA))))))
theorem Zl5 (T:Txt K mg):ACal (fy F KS) P w K mg base "_law_raised" 1 ["_law_pairs_here","_law_t","_law_at"] iZ:=bQ T.Zlg ZgQ rfl λf cdv A outer sh H E hr=>by
 exact (av (cT (sO (Zma (ck nO dR (ac (pv 1)) (bb (t:=aP) (aU cQ rfl T.cM boot_len (ag (ac (pv 0)) au)) di) (nomark _)) (Zl9 (ck nO dR (ac (pv 2)) (ba a9 aZ (ba a9 aZ (ac (pv 0)) (ac (pv 1)) (λ_ _=>rfl)) ak (λ_ _=>rfl)) (nomark _)))))
 (aB (bI (aq bZ bW (ba a9 aZ (ba a9 aZ (ac (pv 0)) (ac (pv 1)) (λ_ _=>rfl)) ak (λ_ _=>rfl)) (ac (pv 2)))))
 cS)
 (aB (bI ak)))
noncomputable def i9 (slf:List Sl->Tr Re):List Sl->Tr Ou :=
 (cE (bM (ad (cW λi j=>decide (i > j)) (aa 14) (aC (.int 0))))
  (ap (aR 15 (aJ (aH slf (ah (aa 0) (b9 1 (ah (ad aS (aa 2) (aC (.int 1))) (ah (ad bP (aa 10) (aa 13)) (ah (ad fo (cA (aa 4) (cw (aC (.int 1))) cC) (dO (af (aa 11) al))) aA))))))))
 (ap (aR 16 (aJ (aH iY (ah (aa 5) (ah (ad bP (aa 10) (aa 13)) (ah (aC (.bool false)) aA))))))
 (aR 12 (ad aS (aa 12) (ad bv (aa 14) (ad aS (ad bv (aa 16) (ad ay (aa 7) (ad aS (aa 2) (aC (.int 1))))) (aa 15)))))))
  cB)
end
noncomputable def wA (F:List Int->Option Int) (KS:List (List Int)) (slf:List Sl->Tr Re):List Sl->Tr Ou :=
 (ap (nk (sE (aw (ai 5) (aw (ai 6) (aw (ai 7) (aw (ai 8) bi))))) (aa 0))
 (ap (cE (bM (ad eT (aa 2) (aW bJ (af (aa 6) al))))
  (sX (aH iY (ah (aa 5) (ah (ad aS (aa 3) (aW cg (af (aa 4) al))) (ah (aC (.bool true)) aA)))))
  cB)
 (ap (aR 9 (ad aS (dO (af (aa 2) (af (aa 3) al))) (aa 4)))
 (qf F KS 1 9 (ap (aR 10 (ad aS (aa 3) (ad ay (aa 4) (aC (.int 0)))))
 (ap (aR 11 (aJ (aH iZ (ah (aa 8) (ah (aa 2) (ah (ad aS (aa 10) (aW cg (af (cA (aa 4) (cw (aC (.int 1))) cC) al))) aA))))))
 (ap (aR 12 (ad bv (ad bv (ad aS (ad ay (aa 5) (aC (.int 2))) (ad bv (ad ay (aa 5) (aC (.int 3))) (aa 11))) (aW nZ (af (ad (cW λi j=>decide (i > j)) (aa 11) (aC (.int 0))) al))) (ad ay (aa 7) (aa 2))))
 (cJ (eF (ad ay (aa 6) (aa 2))) (bq (aw (ai 13) (aw (ai 14) bi))) (i9 slf))))) (aa 12)))))
noncomputable def eP (F:List Int->Option Int) (KS:List (List Int)):Nat->List Sl->Tr Re
 | 0=>bj 5 12 qe
 | n+1=>bj 5 12 (wA F KS (eP F KS n))
theorem ZcZ:∀ (n:Nat) (F:List Int->Option Int) (KS:List (List Int)) (as:List Sl) (m:Nat) (Z:Nat->Re->Prop),(eP F KS n as).ok m Z->as.length=5
 | 0,_,_,as,m,Z,h=>Zfu as m Z h
 | n+1,_,_,as,m,Z,h=>Zfu as m Z h
theorem ZeU (T:Txt K mg):∀ n:Nat,Callee P w K mg base "_law_on" (3+2 * n) ["_law_asked_here","_law_known","_law_t","_law_stock","_law_way"] (oG 5 λF KS=>eP F KS n)
 | 0=>Zfp (kk:=2) T.Zet dG rfl λF KS hL f cdv A outer sh H E hr=>Zmd
 | n+1=>Zfp (kk:=3+2 * n+1) T.Zet dG rfl λF KS hL f cdv A outer sh H E hr=>by
  exact (av (pY (iL (ac (pv 0)) (Zfm rfl (bB (aV (aT (i:=5) dG.nd rfl (Or.inl rfl))) (bB (aV (aT (i:=6) dG.nd rfl (Or.inl rfl))) (bB (aV (aT (i:=7) dG.nd rfl (Or.inl rfl))) (bB (aV (aT (i:=8) dG.nd rfl (Or.inl rfl))) dE)))) (bA (bA (bA (bA dA)))))))
 (av (cT (ck (iP hr) iu (ac (pv 2)) (bb (t:=aP) (aU cQ rfl T.cM boot_len (ag (ac (pv 6)) au)) di) (nomark _))
  (aB (Zfa (aM (ZeT T) (hr.mono (by omega)) rfl (aj (ac (pv 5)) (aj (aq bp bn (ac (pv 3)) (bb (t:=aP) (aU (fm rfl) rfl T.fg boot_sum (ag (ac (pv 4)) au)) e7)) (aj nh aN))))))
  cS)
 (av (aY (aG (i:=9) dG.nd rfl (Or.inl rfl) (aq bp bn (eW (ag (ac (pv 2)) (ag (ac (pv 3)) au))) (ac (pv 4)))))
 (PSs.imp (cK (o0 (Zhm (Zh0 (hW hr) (pv 9) (pv 1)) (by with_unfolding_all rfl)) (vz (aY (aG (i:=10) dG.nd rfl (Or.inl rfl) (aq bp bn (ac (pv 3)) (ba a9 aZ (ac (pv 4)) ak (λ_ _=>rfl)))))
 (vz (aY (aG (i:=11) dG.nd rfl (Or.inl rfl) (aO (aM (Zl5 T) (hr.mono (by omega)) rfl (aj (ac (pv 8)) (aj (ac (pv 2)) (aj (aq bp bn (ac (pv 10)) (bb (t:=aP) (aU (fm rfl) rfl T.fg boot_sum (ag (c9 (ac (pv 4)) (cY ak) cZ) au)) e7)) aN)))))))
 (vz (aY (aG (i:=12) dG.nd rfl (Or.inl rfl) (aq bV bS (aq bV bS (aq bp bn (ba a9 aZ (ac (pv 5)) ak (λ_ _=>rfl)) (aq bV bS (ba a9 aZ (ac (pv 5)) ak (λ_ _=>rfl)) (ac (pv 11)))) (bb (t:=aP) (fc ZlK rfl T.ZcK boot_int (ag (sT fe dR (ac (pv 11)) ak (nomark _)) au)) ZfQ)) (ba a9 aZ (ac (pv 7)) (ac (pv 2)) (λ_ _=>rfl)))))
 (ZiA (dh PassesOwn.never rfl (gF (f7 rfl rfl T.gf (ba a9 aZ (ac (pv 6)) (ac (pv 2)) (λ_ _=>rfl)))) (dZ rfl (bB (aV (aT (i:=13) dG.nd rfl (Or.inl rfl))) (bB (aV (aT (i:=14) dG.nd rfl (Or.inl rfl))) dE)) (bA (bA dA)))
  (aB (cT (ck fe dR (ac (pv 14)) ak (nomark _))
  (av (aY (aG (i:=15) dG.nd rfl (Or.inl rfl) (aO (aM (CalM.at (ZeU T n) (ZcZ n) hL) (hr.mono (by omega)) rfl (aj (ac (pv 0)) (cr (pv 1) (aj (aq bp bn (ac (pv 2)) ak) (aj (aq bZ bW (ac (pv 10)) (ac (pv 13))) (aj (aq vd tU (c9 (ac (pv 4)) (cY ak) cZ) (eW (ag (ac (pv 11)) au))) aN)))))))))
 (av (aY (aG (i:=16) dG.nd rfl (Or.inl rfl) (aO (aM (ZeT T) (hr.mono (by omega)) rfl (aj (ac (pv 5)) (aj (aq bZ bW (ac (pv 10)) (ac (pv 13))) (aj nh aN)))))))
 (aB (aY (aG (i:=12) dG.nd rfl (Or.inl rfl) (aq bp bn (ac (pv 12)) (aq bV bS (ac (pv 14)) (aq bp bn (aq bV bS (ac (pv 16)) (ba a9 aZ (ac (pv 7)) (aq bp bn (ac (pv 2)) ak) (λ_ _=>rfl))) (ac (pv 15))))))))))
  cS))) (qW (hW hr) (pv 1) (pv 9) (ac (pv 12)) rfl))))) oZ) (gT (fZ (gY (hW hr) (pv 1) (pv 9) (λ_ _=>rfl))))) (ZiJ hL)))))
noncomputable def oU:List Sl->Tr PyData :=
 (aJ (aH rH (ah (cA (aa 1) (cw (aa 0)) cC) aA)))
noncomputable def sg:List Sl->Tr Ou :=
 (cE (qd (ip (aJ (aH rF (ah (aJ (aH rB (ah (aa 2) (ah (aa 3) (ah (aa 7) (ah (aa 4) aA)))))) (ah (aa 9) (ah (ad ay (aa 6) (aC (.int 0))) aA)))))))
  (bD (aC (.bool false)))
  cB)
noncomputable def vN:List Sl->Tr Ou :=
 (ap (aR 8 (aJ (aH rD (ah (aa 2) (ah (aa 3) (ah (aa 7) (ah (aa 4) aA)))))))
 (ap (cE (bM (ad pJ (aa 8) (aC .none)))
  (bD (aC (.bool false)))
  cB)
 (ap (aR 9 (aJ (tf gm eS (λF KS=>eP F KS 7) (bO (cD (af (aa 2) (af (aa 3) (af (aa 6) (af (aa 8) al)))))) (af (aC (.int 0)) (af (aa 4) (af (ad oQ (dO (af (aC (.int 0)) al)) (aa 7)) al))))))
 (cJ (fR (af (aC (.int 2)) al)) (ai 10) sg))))
noncomputable def rK:List Sl->Tr Ou :=
 (ap (nk (sE (aw (ai 2) (aw (ai 3) (aw (ai 4) bi)))) (aJ (aH rJ (b9 1 aA))))
 (ap (aR 5 (aW nL (af (bO (cD (af (aa 2) (af (aa 3) al)))) al)))
 (ap (aR 6 (bO (eX (fR (af (ad aS (aW bJ (af (aa 3) al)) (aC (.int 1))) al)) 1 [3] (ai 0) oU)))
 (ap (cJ (ot (af (aC (.int 1)) (af (ad aS (aW nR (af (aC (.int 3)) (af (ad bP (aW bJ (af (aa 3) al)) (aC (.int 1))) al))) (aC (.int 1))) al))) (ai 7) vN)
 (bD (ad eT (aW nL (af (bO (cD (af (aa 2) (af (aa 3) al)))) al)) (aa 5)))))))
noncomputable abbrev vH:List Sl:=.un::.pen::List.replicate 9 .un
theorem Zig (T:Txt K mg) {f:Addr} {fd:FuncData} (F:Fun K "law" "law" qK f fd) (hl:(rK vH).ok 0 λ_ o=>o=.ret (.d (.bool true))):FnOk P w K mg base gJ 18 f fd ["_law_script"] (ZaO K):=by
 refine F.ok e8 (λvs H Q E h=>?_) (λcdv A outer s H vs Q E hr h=>?_)
 ·obtain ⟨a,ns,rfl,_⟩:=h
  rfl
 ·obtain ⟨a,ns,rfl,hS,hlen,k⟩:=h
  have hu:=hW hr
  refine ⟨_,(cK (aG (i:=1) e8.nd rfl (Or.inl rfl) (uY (Zif T) (hr.mono (by decide)) rfl (bo (pv 0) cb)))
 (Zhn (t:=λcn=>bg (bG (K,cn)) rK) λcn=>(av (pY (iL (aO (aM (ZlX T) (hr.mono (by decide)) rfl (cr (pv 1) aN))) (Zfm rfl (bB (aV (aT (i:=2) e8.nd rfl (Or.inl rfl))) (bB (aV (aT (i:=3) e8.nd rfl (Or.inr rfl))) (bB (aV (aT (i:=4) e8.nd rfl (Or.inl rfl))) dE))) (bA (bA (bA dA))))))
 (av (aY (aG (i:=5) e8.nd rfl (Or.inl rfl) (bb (t:=aP) (aU (ZeI hr) rfl T.ZcJ boot_repr (ag (ce (c8 (ag (ac (pv 2)) (ag (ac (pv 3)) au)))) au)) Zam)))
 (av (Zme (Zhp (i:=6) tG ["_law_t"] [3] rfl e8.nd rfl rfl (io (gX rfl T.dX (ag (aq bp bn (bb (t:=aP) (aU cQ rfl T.cM boot_len (ag (ac (pv 3)) au)) di) ak) au))) (λb=>(aV (aT (i:=0) (show ((bN tG ["_law_t"] [3])).Nodup by decide +kernel) rfl (Or.inl rfl)))) (λb=>(aO (aM (ZlW T) (hr.mono (by decide)) rfl (aj (c9 (ac (pv 1)) (cY (ac (pv 0))) cZ) aN)))) rfl (show BlkOk tG (aK qK) _ [3] from ⟨rfl,by decide +kernel,by decide +kernel,by decide +kernel,by decide +kernel⟩) rfl) (cu (by decide)))
 (av (dh PassesOwn.never rfl (wI (uW rfl T.dX (ag ak (ag (aq bp bn (bb (t:=aP) (aU (wu rfl) rfl T.pe boot_min (ag ak (ag (aq bZ bW (bb (t:=aP) (aU cQ rfl T.cM boot_len (ag (ac (pv 3)) au)) di) ak) au))) tV) ak) au)))) (aV (aT (i:=7) e8.nd rfl (Or.inl rfl)))
  (av (aY (aG (i:=8) e8.nd rfl (Or.inl rfl) (aO (aM (ZlS T) (hr.mono (by decide)) rfl (aj (ac (pv 2)) (aj (ac (pv 3)) (aj (ac (pv 7)) (aj (ac (pv 4)) aN))))))))
 (av (cT (ck Zh8 ZfK (ac (pv 8)) p7 (nomark _))
  (aB (bI nh))
  cS)
 (av (aY (aG (i:=9) e8.nd rfl (Or.inl rfl) (aO (Zmj (fs:=gm) (ks:=eS) (f:=λF KS=>eP F KS 7) (ZeU T 7) (ZcZ 7) (hr.mono (by decide)) rfl (ce (c8 (ag (ac (pv 2)) (ag (ac (pv 3)) (ag (ac (pv 6)) (ag (ac (pv 8)) au)))))) (ag ak (ag (ac (pv 4)) (ag (aq Zh2 ZfJ (eW (ag ak au)) (ac (pv 7))) au)))))))
 (aB (dh PassesOwn.never rfl (io (gX rfl T.dX (ag ak au))) (aV (aT (i:=10) e8.nd rfl (Or.inl rfl)))
  (aB (cT (wE (om (aO (aM (ZlU T) (hr.mono (by decide)) rfl (aj (aO (aM (ZlQ T) (hr.mono (by decide)) rfl (aj (ac (pv 2)) (aj (ac (pv 3)) (aj (ac (pv 7)) (aj (ac (pv 4)) aN)))))) (aj (ac (pv 9)) (aj (ba a9 aZ (ac (pv 6)) ak (λ_ _=>rfl)) aN)))))))
  (aB (bI nh))
  cS))))))))
 (aB (bI (sT (iP hr) iu (bb (t:=aP) (aU (ZeI hr) rfl T.ZcJ boot_repr (ag (ce (c8 (ag (ac (pv 2)) (ag (ac (pv 3)) au)))) au)) Zam) (ac (pv 5)) (nomark _)))))))))),?_⟩
  refine ⟨_,rfl,a,ns,rfl,hS,hlen,λp H' hp hP hs=>?_⟩
  exact Zi4 (n:=9) hP rfl rfl (λH'=>k H') hl
end
end My
set_option Elab.async false
set_option linter.all false
set_option maxRecDepth 100000
local macro_rules | `(tactic| simp_arith [$ls,*] $[$loc]?) => do let b : Lean.TSyntaxArray ``Lean.Parser.Tactic.simpLemma ← (("L2.jt L2.jr L2.mZ L2.mz L2.my L2.mR L2.h8 L2.gx L2.jH L2.mj L2.l7 L2.kR L2.l8 L2.l5 L2.kQ L2.lA L2.fL L2.cH L2.eU L2.gD L2.gC L2.gB L2.gA L2.ij L2.ii L2.ig L2.ie L2.kP L2.kO L2.jG L2.jz L2.jF L2.jE L2.jD L2.jC L2.jA L2.jB L2.mP L2.kJ L2.kM L2.mM L2.mO L2.kG L2.kH L2.kL L2.mL L2.mJ L2.mK L2.lP L2.lN L2.lO L2.kN L2.mi L2.mh L2.mf L2.jx L2.jw L2.kZ L2.kY L2.k9 L2.k7 L2.bF L2.mr L2.ml L2.fK L2.dM L2.mS L2.kW L2.kT L2.lB L2.lC L2.jv L2.ju L2.fj L2.fJ L2.kU L2.lz L2.ly L2.jL L2.jK L2.jJ L2.hX L2.jI L2.kD L2.kC L2.kB L2.kX L2.hZ L2.mV L2.mW L2.mY L2.mX L2.ky L2.kw L2.mU L2.mT L2.mx L2.ku L2.kr L2.me L2.lZ L2.lY L2.jY L2.jV L2.jU L2.jX L2.jW L2.jM L2.lH L2.lF L2.lG L2.kq L2.kn L2.km L2.kl L2.kj L2.ki L2.kh L2.kg L2.ke L2.jT L2.jS L2.jR L2.jQ L2.i6 L2.i5 L2.mD L2.mC L2.mB L2.lQ L2.kF L2.kE L2.mI L2.mH L2.mG L2.kc L2.kb L2.lR L2.jn L2.jp L2.jm L2.jl L2.jq L2.mF L2.mE L2.kK L2.jf L2.jd L2.jh L2.jj L2.je L2.kA L2.kz L2.lv L2.lu L2.lq L2.j8 L2.j7 L2.l9 L2.md L2.ma L2.lW L2.lV L2.gt L2.cP L2.cy L2.lT L2.lU L2.lS L2.lp L2.lm L2.ll L2.iT L2.iU L2.iX L2.iW L2.ld L2.lg L2.lc L2.la L2.lh L2.lj L2.li L2.lJ L2.lL L2.lM L2.lK L2.mq L2.mn L2.lX L2.jP L2.jO L2.jN L2.mQ L2.h9 L2.ji L2.j6 L2.ka L2.j9 L2.j4 L2.jZ L2.gw Tw.iG Tw.iF Tw.iE Tw.gL Tw.iD Tw.iC Tw.iB Tw.iz Tw.iy L2.kS L2.lD L2.iJ L2.Tr.of_some L2.Tr.bind_assoc L2.Tr.draw_bind List.cons_append List.nil_append List.replicate_succ List.replicate_zero List.length_cons List.length_nil L2.Re.val_d L2.Re.val_own L2.blk L2.gz List.map_cons List.map_nil List.getElem?_cons_zero List.getElem?_cons_succ Option.getD_some Nat.reduceAdd Nat.reduceLeDiff List.isEmpty_cons".splitOn " ").toArray.map fun s => Lean.mkIdent s.toName).mapM fun i => `(Lean.Parser.Tactic.simpLemma| $i:ident); `(tactic| simp only [$b,*, $ls,*] $[$loc]?)
namespace My
open PySem PySem.Spec PyProof.Rows L2 Tw
theorem Zkr (s:Shp) (y f:Int):rA [.d s.d,.d (.int y),.d (.int f)]=.ret (.d (.int (s.nx y f))):=by
 simp_arith [rA,Shp.nx]
theorem Zky {s:Shp} (h:s.Ok) {x:Int} (hx:nb 20 x):pA [.d s.d,.d (.int x)]=.ret (.d (.int (s.fin x))):=by
 have f1:=aQ (ge h.back) (by decide)
 have f2:=aQ h.late (by decide)
 have f3:=aQ hx (by decide)
 have f4:=aQ (ge hx) (by decide)
 by_cases hp:x > 0
 ·simp_arith [pA,decide_eq_true hp,f1,f3,Shp.fin,if_pos hp]
 ·simp_arith [pA,decide_eq_false hp,f2,f4,Shp.fin,if_neg hp]
theorem ZkA {s:Shp} (h:s.Ok) {y f:Int} (hy:nb 20 y) (hf:nb 40 f):pB [.d s.d,.d (.int y),.d (.int f)]=.ret (.d (.int (s.day y f))):=by
 have hd:nb 7 s.depth:=by have:=h.t0; have:=h.d0; have:=h.td; exact b6 (by show -128 < _; omega) (by show _ < 128; omega)
 have hn:nb 50 (s.nx y f):=by
  unfold Shp.nx ci
  exact pb (bf (ge hd) (by decide)) (bf (fH hy hf) (by decide))
 have f1:=aQ h.keep (by decide)
 have f2:=aQ hn (by decide)
 have f3:=aQ (ge hn) (by decide)
 have f4:=aQ h.lack (by decide)
 have f5:=aQ h.lost (by decide)
 have f6:=aQ (fH hn (fH hy hf)) (by decide)
 have e:=Zkr s y f
 by_cases hp:s.nx y f > 0
 ·simp_arith [pB,e,decide_eq_true hp,f1,f2,f5,f6,Shp.day,if_pos hp]
 ·simp_arith [pB,e,decide_eq_false hp,f3,f4,f5,f6,Shp.day,if_neg hp]
end My
set_option Elab.async false
set_option linter.all false
set_option maxRecDepth 100000
namespace My
open PySem PySem.Spec PyProof.Rows L2 Tw
end My
set_option Elab.async false
set_option linter.all false
set_option maxRecDepth 100000
namespace My
open PySem PySem.Spec PyProof.Rows L2 Tw
theorem Zmb {xs:List PyData} {v:PyData} (h:xs[xs.length - 1]?=some v):bw xs (-1)=some v:=by
 have hl:xs≠[]:=λe=>by subst e; cases h
 have hp:0 < xs.length:=List.length_pos_iff.mpr hl
 obtain ⟨k,hk⟩:=Nat.exists_eq_succ_of_ne_zero (Nat.ne_of_gt hp)
 unfold bw dJ
 have e0:(-1:Int)+(xs.length:Int)=(k:Int):=by rw [hk]; show (-1:Int)+((k:Int)+1)=k; rw [Int.add_comm,Int.add_assoc]; exact Int.add_zero _
 have e:((-1:Int)+(xs.length:Int)).toNat=xs.length - 1:=by rw [e0,hk]; exact Int.toNat_natCast k
 rw [if_neg (by decide),if_pos (by omega)]
 show xs[((-1:Int)+(xs.length:Int)).toNat]?=some v
 rw [e]
 exact h
noncomputable def dw (g:Int->Int) (top K P x:Int):PyData:=.tuple [.int (cst g top K P x),.int (lvl g top K x)]
theorem Zg6 {lo hi:Int} {F:Int->PyData}:((List.range (hi - lo).toNat).map λ(i:Nat)=>F (hi - 1 - i)).reverse=(ao lo (hi - lo).toNat).map F:=by
 unfold ao
 rw [List.map_map]
 apply List.ext_getElem?
 intro i
 by_cases hi':i < (hi - lo).toNat
 ·rw [List.getElem?_reverse (by simpa using hi'),List.length_map,List.length_range,List.getElem?_map,List.getElem?_map,List.getElem?_range (by omega),List.getElem?_range hi']
  show some (F (hi - 1 - (((hi - lo).toNat - 1 - i:Nat):Int)))=some (F (lo+(i:Int)))
  congr 2
  omega
 ·rw [List.getElem?_eq_none (by simpa using hi'),List.getElem?_eq_none (by simpa using hi')]
theorem ZkC {s:Shp} (h:s.Ok) {low:Int} (hl:low<=s.top) (hl0:-1000<=low) {g:Int->Int} {b:Nat} (hg:∀ x,low<=x->x<=s.top->nb b (g x)) {sc:Int} (hs:nb b sc) (hK:0<=sc * s.start) (hb:b<=3000) :
  rQ [.d s.d,.d (.int low),.d (lI ((ao low (s.top+1 - low).toNat).map g)),.d (.int sc)]=.ret (.own ((ao low (s.top+1 - low).toNat).map (dw g s.top (sc * s.start) (sc * s.piece)))):=by
 have:=h.t0
 have:=h.d0
 have:=h.td
 have hn:0 < (s.top+1 - low).toNat:=by omega
 have hlen:(((ao low (s.top+1 - low).toNat).map g).map PyData.int).length=(s.top+1 - low).toNat:=by rw [List.length_map,List.length_map,gR]
 have hat:∀ x,low<=x->x<=s.top->(((ao low (s.top+1 - low).toNat).map g).map PyData.int)[(x - low).toNat]?=some (.int (g x)):=λx h1 h2=>by
  unfold ao
  rw [List.map_map,List.map_map,List.getElem?_map,List.getElem?_range (by omega)]
  show some (PyData.int (g (low+((x - low).toNat:Int))))=_
  congr 3
  omega
 have hlast:bw (((ao low (s.top+1 - low).toNat).map g).map PyData.int) (-1)=some (.int (g s.top)):=Zmb (by
  rw [hlen]
  have:=hat s.top hl (Int.le_refl _)
  have e:(s.top - low).toNat=(s.top+1 - low).toNat - 1:=by
   obtain ⟨k,hk⟩:=Int.eq_ofNat_of_zero_le (Int.sub_nonneg_of_le hl)
   have hk2:s.top+1 - low=((k+1:Nat):Int):=by omega
   rw [hk,hk2]
   rfl
  rw [e] at this
  exact this)
 have r1:dL low=true:=dg (by omega) (by omega)
 have r2:dL (s.top+1)=true:=dg (by omega) (by omega)
 have f1:=aQ hs (by omega)
 have f2:=aQ h.start (by decide)
 have f3:=aQ h.piece (by decide)
 have f4:=aQ (b7 hs h.piece) (by omega)
 apply Zfl
 simp_arith [rQ,lI,hlast,sG r1 r2]
 refine fP (n:=0) (n':=0) (P:=λo=>∃ J5 J6 J7 J8 J9:Sl,o=.next [.d s.d,.d (.int low),.d (.list (((ao low (s.top+1 - low).toNat).map g).map PyData.int)),.d (.int sc),.own ((List.range (s.top+1 - low).toNat).map λ(i:Nat)=>dw g s.top (sc * s.start) (sc * s.piece) (s.top+1 - 1 - i)),J5,J6,J7,J8,J9]) ?_ (by decide) ?_
 ·refine pZ (n:=0) (λpre ρ=>∃ J6 J7 J8 J9:Sl,ρ=[.d s.d,.d (.int low),.d (.list (((ao low (s.top+1 - low).toNat).map g).map PyData.int)),.d (.int sc),.own ((List.range pre.length).map λ(i:Nat)=>dw g s.top (sc * s.start) (sc * s.piece) (s.top+1 - 1 - i)),.d (.tuple [.int (bst g s.top (pre.length - 1)).1,.int (bst g s.top (pre.length - 1)).2]),J6,J7,J8,J9]) ⟨.un,.un,.un,.un,rfl⟩ (by simp) ?_ ?_
  ·rintro pre x post ρ e ⟨J6,J7,J8,J9,rfl⟩
   obtain ⟨rfl,hpre⟩:=ZbA e
   refine ⟨_,rfl,?_⟩
   generalize hk:pre.length=k at hpre ⊢
   have hx1:low<=s.top+1 - 1 - (k:Int):=by omega
   have hx2:s.top+1 - 1 - (k:Int)<=s.top:=by omega
   have ha:bw (((ao low (s.top+1 - low).toNat).map g).map PyData.int) (s.top+1 - 1 - (k:Int) - low)=some (.int (g (s.top+1 - 1 - (k:Int)))):=il (by omega) (hat _ hx1 hx2)
   have hxn:nb 20 (s.top+1 - 1 - (k:Int)):=b6 (by show -1048576 < _; omega) (by show _ < 1048576; omega)
   have f5:=aQ hxn (by decide)
   have hsm:small (((List.range k).map λ(i:Nat)=>dw g s.top (sc * s.start) (sc * s.piece) (s.top+1 - 1 - i)).length+1)=true:=bF (by rw [List.length_map,List.length_range]; omega)
   have el:(pre++[PyData.int (s.top+1 - 1 - (k:Int))]).length=k+1:=by rw [List.length_append,hk]; rfl
   have m1:bh g6 [.tuple [.int (g (s.top+1 - 1 - (k:Int))),.int (s.top+1 - 1 - (k:Int))],.tuple [.int (sc * s.start+(bst g s.top (k - 1)).1),.int (bst g s.top (k - 1)).2]]=.ret (.tuple [.int (pck g s.top (sc * s.start) (s.top+1 - 1 - (k:Int))).1,.int (pck g s.top (sc * s.start) (s.top+1 - 1 - (k:Int))).2]):=by
    rw [gw]
    cases k with
    | zero =>
     have ex:s.top+1 - 1 - ((0:Nat):Int)=s.top:=by simp
     rw [ex,o5,if_neg]
     show ¬ (sc * s.start+g s.top < g s.top\/sc * s.start+g s.top=g s.top/\s.top < s.top)
     omega
    | succ n =>
     have ex:s.top+1 - 1 - ((n+1:Nat):Int)=s.top - ((n+1:Nat):Int):=by omega
     rw [ex,rb,Nat.add_sub_cancel]
     have hb:=(sN g s.top n).1
     by_cases hc:sc * s.start+(bst g s.top n).1 < g (s.top - ((n+1:Nat):Int))
     ·rw [if_pos (.inl hc),if_pos hc]
     ·rw [if_neg (by omega),if_neg hc]
   have m2:bh g6 [.tuple [.int (g (s.top+1 - 1 - (k:Int))),.int (s.top+1 - 1 - (k:Int))],.tuple [.int (bst g s.top (k - 1)).1,.int (bst g s.top (k - 1)).2]]=.ret (.tuple [.int (bst g s.top k).1,.int (bst g s.top k).2]):=by
    rw [gw]
    cases k with
    | zero =>
     have ex:s.top+1 - 1 - ((0:Nat):Int)=s.top:=by simp
     rw [ex,if_neg]
     ·rfl
     ·show ¬ (g s.top < g s.top\/g s.top=g s.top/\s.top < s.top)
      omega
    | succ n =>
     have ex:s.top+1 - 1 - ((n+1:Nat):Int)=s.top - ((n+1:Nat):Int):=by omega
     rw [ex,Nat.add_sub_cancel]
     have hb:=(sN g s.top n).1
     rw [bst]
     by_cases hc:(bst g s.top n).1 < g (s.top - ((n+1:Nat):Int))
     ·rw [if_pos (.inl hc),if_pos hc]
     ·rw [if_neg (by omega),if_neg hc]
   simp_arith [Zdd,ha,m1,m2,f1,f2,f3,f4,f5,hsm]
   rw [el,List.range_succ,List.map_append]
   exact dC ⟨_,rfl,_,_,_,_,rfl⟩
  ·rintro ρ ⟨J6,J7,J8,J9,rfl⟩
   rw [List.length_reverse,dS]
   exact ⟨_,J6,J7,J8,J9,rfl⟩
 ·rintro _ ⟨J5,J6,J7,J8,J9,rfl⟩
  simp_arith [List.isEmpty_cons]
  rw [Zg6]
  exact dC rfl
end My
set_option Elab.async false
set_option linter.all false
set_option maxRecDepth 100000
set_option exponentiation.threshold 9000
namespace My
open PySem PySem.Spec PyProof.Rows L2 Tw
theorem Zkv {a b:Int} (hb:nb 8000 b):rP [.d (.int a),.d (.int b)]=.ret (.d (.int (Nat.gcd a.natAbs b.natAbs:Nat))):=by
 have key:=euclid (p:=tT) (s:=vO) (E:=λa b=>[.d (.int a),.d (.int b)]) (λa b=>by
  simp_arith [tT]
  by_cases h:b=0
  ·subst h; rfl
  ·rw [decide_eq_true h]
   congr 1
   simp [h]) (λa b h=>by
  have h':(b:Int)≠0:=by omega
  simp_arith [vO,ZdO h',ZdK]) 8000 83999 a.natAbs b.natAbs hb
 have e:2 * 8000+1+83999=100000:=rfl
 rw [e] at key
 simp_arith [rP,Zfq,key]
theorem Zd0 {t b:Int} (h0:b≠0) (hb:nb 7000 b):nW [.d (.int t),.d (.int b)]=.ret (.d (nD t b)):=by
 have e:=Zkv (a:=t) (b:=b) (bf hb (by decide))
 have e0:(b == 0)=false:=beq_eq_false_iff_ne.mpr h0
 have hd:=Gc.Zel (t:=t) h0
 have hf:=aQ (ZkN (t:=t) hb h0) (by decide)
 unfold nD Gc.hI Gc.gg
 by_cases hn:b < 0
 ·have ed:Gc.den t b=-((Nat.gcd t.natAbs b.natAbs:Nat):Int):=by unfold Gc.den Gc.jc; rw [if_pos hn]
  rw [ed] at hd hf ⊢
  simp_arith [nW,e0,e,decide_eq_true hn,ZdP hd hf]
 ·have ed:Gc.den t b=((Nat.gcd t.natAbs b.natAbs:Nat):Int):=by unfold Gc.den Gc.jc; rw [if_neg hn]
  rw [ed] at hd hf ⊢
  simp_arith [nW,e0,e,decide_eq_false hn,ZdP hd hf]
end My
set_option Elab.async false
set_option linter.all false
set_option maxRecDepth 100000
set_option exponentiation.threshold 9000
namespace My
open PySem PySem.Spec PyProof.Rows L2 Tw Bar
noncomputable def bu (n:Nat) (r:Nat->Int):List PyData:=((List.range n).map r).map PyData.int
theorem uH (n:Nat) (r:Nat->Int):(bu n r).length=n:=by unfold bu; rw [List.length_map,List.length_map,List.length_range]
theorem qN {n:Nat} {r:Nat->Int} {j:Nat} (h:j < n):(bu n r)[j]?=some (.int (r j)):=by
 unfold bu
 rw [List.getElem?_map,List.getElem?_map,List.getElem?_range h]
 rfl
theorem Zg4 {n:Nat} {r:Nat->Int} {j:Nat} (h:j < n) (v:Int):(bu n r).set j (.int v)=bu n λq=>if q=j then v else r q:=by
 apply List.ext_getElem?
 intro q
 rw [List.getElem?_set]
 by_cases e:j=q
 ·subst e
  rw [if_pos rfl,if_pos (by rw [uH]; exact h),qN h,if_pos rfl]
 ·rw [if_neg e]
  by_cases hq:q < n
  ·rw [qN hq,qN hq,if_neg (λz=>e z.symm)]
  ·rw [List.getElem?_eq_none (by rw [uH]; omega),List.getElem?_eq_none (by rw [uH]; omega)]
theorem qM {n:Nat} {r r':Nat->Int} (h:∀ j,j < n->r j=r' j):bu n r=bu n r':=by
 unfold bu
 congr 1
 exact List.map_congr_left λj hj=>h j (List.mem_range.mp hj)
noncomputable def cvN (a b:List Int) (k:Nat):Int:=ws (λi=>ws (λj=>if (i+j).toNat=k then 1 else 0) 0 b) 0 a
noncomputable def cq (a b:List Int):List Int:=(List.range (a.length+b.length - 1)).map (cvN a b)
theorem Zev (a b:List Int):(cq a b).length=a.length+b.length - 1:=by unfold cq; rw [List.length_map,List.length_range]
theorem uh (f g:Nat->Int):∀ n:Nat,Bar.bX (λj=>f j+g j) n=Bar.bX f n+Bar.bX g n
 | 0=>rfl
 | n+1=>by rw [Bar.bX,Bar.bX,Bar.bX,uh f g n]; omega
theorem ug (f:Nat->Int) (c:Int):∀ n:Nat,Bar.bX (λj=>c * f j) n=c * Bar.bX f n
 | 0=>by rw [Bar.bX,Bar.bX,Int.mul_zero]
 | n+1=>by rw [Bar.bX,Bar.bX,ug f c n,Int.mul_add]
theorem uf {f:Nat->Int}:∀ n:Nat,(∀ j,j < n->f j=0)->Bar.bX f n=0
 | 0,_=>rfl
 | n+1,h=>by rw [Bar.bX,uf n λj hj=>h j (by omega),h n (by omega)]; rfl
theorem Zgp {g n:Nat} (h:g < n) (v:Nat->Int):Bar.bX (λj=>(if g=j then 1 else 0) * v j) n=v g:=by
 have key:∀ m:Nat,Bar.bX (λj=>(if g=j then 1 else 0) * v j) m=if g < m then v g else 0:=by
  intro m
  induction m with
  | zero=>rfl
  | succ m ih =>
   rw [Bar.bX,ih]
   by_cases e:g=m
   ·subst e
    rw [if_neg (by omega),if_pos rfl,if_pos (by omega),Int.one_mul]
    omega
   ·rw [if_neg e]
    by_cases e2:g < m
    ·rw [if_pos e2,if_pos (by omega)]
     simp
    ·rw [if_neg e2,if_neg (by omega)]
     simp
 rw [key,if_pos h]
theorem ZaN {n:Nat} {ix:Int->Nat} (v:Nat->Int):∀ (l:List Int) (k:Nat),(∀ q:Nat,q < l.length->ix ((k+q:Nat):Int) < n)->Bar.bX (λj=>ws (λf=>if ix f=j then 1 else 0) k l * v j) n=ws (λf=>v (ix f)) k l
 | [],k,_=>by
  rw [uf n λj _=>by rw [ws,Int.zero_mul]]
  rfl
 | w::l,k,h=>by
  have ih:=ZaN v l (k+1) λq hq=>by
   have:=h (q+1) (by rw [List.length_cons]; omega)
   rw [show k+(q+1)=k+1+q by omega] at this
   exact this
  have e:(λj=>ws (λf=>if ix f=j then 1 else 0) k (w::l) * v j)=λj=>w * ((if ix (k:Int)=j then 1 else 0) * v j)+ws (λf=>if ix f=j then 1 else 0) (k+1) l * v j:=funext λj=>by rw [ws,Int.add_mul,Int.mul_assoc]
  have h0:=h 0 (by simp)
  rw [Nat.add_zero] at h0
  rw [e,uh,ug,Zgp h0,ih]
  rfl
theorem ZfE (f:Int->Int) (c:Nat->Int):∀ (n k:Nat),ws f k ((List.range n).map c)=Bar.bX (λj=>c j * f ((k+j:Nat):Int)) n:=by
 intro n
 induction n generalizing c with
 | zero=>intro k; rfl
 | succ n ih =>
  intro k
  have e:Bar.bX (λj=>c j * f ((k+j:Nat):Int)) (n+1)=c 0 * f ((k:Nat):Int)+Bar.bX (λj=>c (j+1) * f ((k+1+j:Nat):Int)) n:=by
   have:∀ m:Nat,Bar.bX (λj=>c j * f ((k+j:Nat):Int)) (m+1)=c 0 * f ((k:Nat):Int)+Bar.bX (λj=>c (j+1) * f ((k+1+j:Nat):Int)) m:=by
    intro m
    induction m with
    | zero=>show 0+c 0 * f ((k+0:Nat):Int)=c 0 * f (k:Int)+0; rw [Nat.add_zero]; omega
    | succ m ihm =>
     rw [Bar.bX,ihm,Bar.bX,show k+(m+1)=k+1+m by omega]
     omega
   exact this n
  rw [List.range_succ_eq_map,List.map_cons,List.map_map,ws,e]
  have:=ih (c ∘ Nat.succ) (k+1)
  rw [this]
  rfl
theorem ZfG (f:Int->Int) (a b:List Int) (hb:0 < b.length):ws f 0 (cq a b)=ws (λi=>ws (λj=>f (i+j)) 0 b) 0 a:=by
 unfold cq
 rw [ZfE]
 have key:∀ (l:List Int) (k:Nat),k+l.length<=a.length->Bar.bX (λq=>ws (λi=>ws (λj=>if (i+j).toNat=q then 1 else 0) 0 b) k l * f ((0+q:Nat):Int)) (a.length+b.length - 1)=ws (λi=>ws (λj=>f (i+j)) 0 b) k l:=by
  intro l
  induction l with
  | nil =>
   intro k _
   rw [uf _ λj _=>by rw [ws,Int.zero_mul]]
   rfl
  | cons w l ih =>
   intro k hk
   rw [List.length_cons] at hk
   have e:(λq=>ws (λi=>ws (λj=>if (i+j).toNat=q then 1 else 0) 0 b) k (w::l) * f ((0+q:Nat):Int))=λq=>w * (ws (λj=>if ((k:Int)+j).toNat=q then 1 else 0) 0 b * f ((0+q:Nat):Int))+ws (λi=>ws (λj=>if (i+j).toNat=q then 1 else 0) 0 b) (k+1) l * f ((0+q:Nat):Int):=funext λq=>by rw [ws,Int.add_mul,Int.mul_assoc]
   rw [e,uh,ug,ZaN (ix:=λj=>((k:Int)+j).toNat) (λq=>f ((0+q:Nat):Int)) b 0 (λq hq=>by show ((k:Int)+((0+q:Nat):Int)).toNat < _; omega),ih (k+1) (by omega),ws]
   congr 2
   refine d9 λx hx=>?_
   show f ((0+((k:Int)+x).toNat:Nat):Int)=f ((k:Int)+x)
   congr 1
   omega
 exact key a 0 (by omega)
noncomputable def ca (fs:List (List Int)):List Int:=fs.foldl cq [1]
noncomputable def sv:List (List Int)->(Int->Int)->Int
 | [],f=>f 0
 | d::fs,f=>ws (λi=>sv fs λj=>f (i+j)) 0 d
theorem t8:∀ {fs:List (List Int)} {f g:Int->Int},(∀ x,0<=x->f x=g x)->sv fs f=sv fs g
 | [],f,g,h=>h 0 (by decide)
 | d::fs,f,g,h=>d9 λi hi=>t8 λj hj=>h _ (by omega)
theorem Zae (f:Int->Int):∀ (fs:List (List Int)) (a:List Int),(∀ l∈fs,0 < l.length)->ws f 0 (fs.foldl cq a)=ws (λi=>sv fs λj=>f (i+j)) 0 a
 | [],a,_=>d9 λi _=>by show f i=f (i+0); rw [Int.add_zero]
 | d::fs,a,h=>by
  rw [List.foldl_cons,Zae f fs (cq a d) λl hl=>h l (List.mem_cons_of_mem _ hl),ZfG _ _ _ (h d (by simp))]
  refine d9 λi _=>d9 λj _=>t8 λq _=>?_
  rw [Int.add_assoc]
theorem tK (f:Int->Int) {fs:List (List Int)} (h:∀ l∈fs,0 < l.length):ws f 0 (ca fs)=sv fs f:=by
 unfold ca
 rw [Zae f fs [1] h]
 show 1 * (sv fs λj=>f (((0:Nat):Int)+j))+0=_
 rw [Int.one_mul,Int.add_zero]
 refine t8 λx _=>?_
 show f (0+x)=f x
 rw [Int.zero_add]
theorem sc1 (W:Sl):∀ (fs:List (List Int)) (b:Nat) (D:Int) (J:Sl),nb b D->(∀ l∈fs,DayB l)->b+46 * fs.length<=8000->∃ K:Sl,bK (ai 2) rZ (fs.map tI) [W,.d (.int D),J]=.ret (.next [W,.d (.int (D * prd fs)),K])
 | [],b,D,J,_,_,_=>⟨J,by rw [prd,Int.mul_one]; rfl⟩
 | d::fs,b,D,J,h,hf,hl=>by
  rw [List.length_cons,Nat.mul_succ] at hl
  have hd:=hf d (by simp)
  have sn:=ub hd
  obtain ⟨K,e⟩:=sc1 W fs (b+46) (D * d.sum) (.d (tI d)) (b7 h sn) (λq hq=>hf q (List.mem_cons_of_mem _ hq)) (by omega)
  refine ⟨K,?_⟩
  have f1:=aQ h (by omega)
  have f2:=aQ sn (by decide)
  have es:bh cg [tI d]=.ret (.int d.sum):=fJ d
  have et:rZ [W,.d (.int D),.d (tI d)]=.ret (.next [W,.d (.int (D * d.sum)),.d (tI d)]):=by
   simp_arith [rZ,es,f1,f2]
  have eg:ai 2 (tI d) [W,.d (.int D),J]=some [W,.d (.int D),.d (tI d)]:=rfl
  have ep:D * d.sum * prd fs=D * prd (d::fs):=by rw [prd,Int.mul_assoc,Int.mul_comm d.sum]
  rw [List.map_cons,dB,eg,Tr.of_some,Tr.ret_bind,cP,et,Tr.ret_bind,cy,e,ep]
theorem pT {fs:List (List Int)} (hf:∀ l∈fs,DayB l) (hl:fs.length<=10):g9 [.d (fD fs)]=.ret (.d (.int (prd fs))):=by
 obtain ⟨K,e⟩:=sc1 (.d (fD fs)) fs 1 1 .un (by show (1:Int).natAbs < 2 ^ 1; decide) hf (by omega)
 rw [Int.one_mul] at e
 unfold fD at e
 simp_arith [g9,fD,e]
theorem wt1 (D W Y:Sl) {n i:Nat} {a:Int} {A:Nat} (ha:nb A a) (hA:A<=8000):∀ (l:List Int) (k:Nat) (r:Nat->Int) (J6 J7:Sl),i+k+l.length<=n->(∀ w∈l,nb 30 w)->∃ K6 K7:Sl,bK (bq (aw (ai 6) (aw (ai 7) bi))) rX (enu k l) [D,W,Y,.own (bu n r),.d (.int i),.d (.int a),J6,J7]=.ret (.next [D,W,Y,.own (bu n λj=>r j+a * ws (λf=>if ((i:Int)+f).toNat=j then 1 else 0) k l),.d (.int i),.d (.int a),K6,K7])
 | [],k,r,J6,J7,_,_=>⟨J6,J7,by
  have e:bu n (λj=>r j+a * ws (λf=>if ((i:Int)+f).toNat=j then 1 else 0) k [])=bu n r:=qM λj _=>by rw [ws,Int.mul_zero,Int.add_zero]
  rw [e]
  rfl⟩
 | w::l,k,r,J6,J7,hn,hw=>by
  rw [List.length_cons] at hn
  have hj:((i:Int)+(k:Int)).toNat < n:=by omega
  obtain ⟨K6,K7,e⟩:=wt1 D W Y (n:=n) (i:=i) ha hA l (k+1) (λj=>if j=((i:Int)+(k:Int)).toNat then r ((i:Int)+(k:Int)).toNat+a * w else r j) (.d (.int k)) (.d (.int w)) (by omega) λq hq=>hw q (List.mem_cons_of_mem _ hq)
  refine ⟨K6,K7,?_⟩
  have f1:=aQ ha hA
  have f2:=aQ (hw w (by simp)) (by decide)
  have h0:_=_:=Zke (g:=λi j=>i+j) (k:=3) (i:=ad bv (aa 5) (aa 7)) (ρ:=[D,W,Y,.own (bu n r),.d (.int i),.d (.int a),.d (.int k),.d (.int w)]) (xs:=bu n r) (y:=(i:Int)+k) (a:=r ((i:Int)+(k:Int)).toNat) (by omega) (qN hj)
  have et:rX [D,W,Y,.own (bu n r),.d (.int i),.d (.int a),.d (.int k),.d (.int w)]=.ret (.next [D,W,Y,.own (bu n λj=>if j=((i:Int)+(k:Int)).toNat then r ((i:Int)+(k:Int)).toNat+a * w else r j),.d (.int i),.d (.int a),.d (.int k),.d (.int w)]):=by
   unfold rX
   rw [Zkb (xs:=bu n r) rfl]
   have en:(ad aS (aa 4) (aa 6)) [D,W,Y,.own (bu n r),.d (.int i),.d (.int a),.d (.int k),.d (.int w)]=.ret (.int ((i:Int)+k)):=by
    simp_arith [List.isEmpty_cons]
   rw [en,Tr.ret_bind,h0,Zkd]
   have ew:(ad bv (aa 5) (aa 7)) [D,W,Y,.own (bu n r),.d (.int i),.d (.int a),.d (.int k),.d (.int w)]=.ret (.int (a * w)):=by
    simp_arith [f1,f2]
   rw [ew,Tr.ret_bind,Zkc,Zg4 hj]
   rfl
  have eg:(bq (aw (ai 6) (aw (ai 7) bi))) (.tuple [.int (k:Int),.int w]) [D,W,Y,.own (bu n r),.d (.int i),.d (.int a),J6,J7]=some [D,W,Y,.own (bu n r),.d (.int i),.d (.int a),.d (.int k),.d (.int w)]:=rfl
  have er:(bu n λj=>(if j=((i:Int)+(k:Int)).toNat then r ((i:Int)+(k:Int)).toNat+a * w else r j)+a * ws (λf=>if ((i:Int)+f).toNat=j then 1 else 0) (k+1) l)=bu n λj=>r j+a * ws (λf=>if ((i:Int)+f).toNat=j then 1 else 0) k (w::l):=qM λj hj=>by
   rw [ws]
   by_cases q:j=((i:Int)+(k:Int)).toNat
   ·rw [if_pos q,if_pos q.symm,<- q,Int.mul_one,Int.mul_add]
    omega
   ·rw [if_neg q,if_neg (λe=>q e.symm),Int.mul_zero,Int.zero_add]
  rw [enu,dB,eg,Tr.of_some,Tr.ret_bind,cP,et,Tr.ret_bind,cy,e,er]
theorem wt2 (D W:Sl) {b:List Int} (hb:DayB b) {n A:Nat} (hA:A<=8000):∀ (l:List Int) (k:Nat) (r:Nat->Int) (J4 J5 J6 J7:Sl),k+l.length+b.length<=n+1->(∀ w∈l,nb A w)->∃ K4 K5 K6 K7:Sl,bK (bq (aw (ai 4) (aw (ai 5) bi))) rW (enu k l) [D,W,.d (tI b),.own (bu n r),J4,J5,J6,J7]=.ret (.next [D,W,.d (tI b),.own (bu n λj=>r j+ws (λi=>ws (λf=>if (i+f).toNat=j then 1 else 0) 0 b) k l),K4,K5,K6,K7])
 | [],k,r,J4,J5,J6,J7,_,_=>⟨J4,J5,J6,J7,by
  have e:bu n (λj=>r j+ws (λi=>ws (λf=>if (i+f).toNat=j then 1 else 0) 0 b) k [])=bu n r:=qM λj _=>by rw [ws,Int.add_zero]
  rw [e]
  rfl⟩
 | w::l,k,r,J4,J5,J6,J7,hn,hw=>by
  rw [List.length_cons] at hn
  obtain ⟨L6,L7,e0⟩:=wt1 D W (.d (tI b)) (n:=n) (i:=k) (hw w (by simp)) hA b 0 r J6 J7 (by omega) hb.nb
  obtain ⟨K4,K5,K6,K7,e⟩:=wt2 D W hb (n:=n) hA l (k+1) (λj=>r j+w * ws (λf=>if ((k:Int)+f).toNat=j then 1 else 0) 0 b) (.d (.int k)) (.d (.int w)) L6 L7 (by omega) λq hq=>hw q (List.mem_cons_of_mem _ hq)
  refine ⟨K4,K5,K6,K7,?_⟩
  have ee:cz (b.map PyData.int)=enu 0 b:=ia b
  have et:rW [D,W,.d (tI b),.own (bu n r),.d (.int k),.d (.int w),J6,J7]=.ret (.next [D,W,.d (tI b),.own (bu n λj=>r j+w * ws (λf=>if ((k:Int)+f).toNat=j then 1 else 0) 0 b),.d (.int k),.d (.int w),L6,L7]):=by
   unfold tI at e0
   simp_arith [rW,tI,ee,e0]
  have eg:(bq (aw (ai 4) (aw (ai 5) bi))) (.tuple [.int (k:Int),.int w]) [D,W,.d (tI b),.own (bu n r),J4,J5,J6,J7]=some [D,W,.d (tI b),.own (bu n r),.d (.int k),.d (.int w),J6,J7]:=rfl
  have er:(bu n λj=>r j+w * ws (λf=>if ((k:Int)+f).toNat=j then 1 else 0) 0 b+ws (λi=>ws (λf=>if (i+f).toNat=j then 1 else 0) 0 b) (k+1) l)=bu n λj=>r j+ws (λi=>ws (λf=>if (i+f).toNat=j then 1 else 0) 0 b) k (w::l):=qM λj hj=>by
   rw [ws,Int.add_assoc]
  rw [enu,dB,eg,Tr.of_some,Tr.ret_bind,cP,et,Tr.ret_bind,cy,e,er]
theorem Zeu {a b:List Int} {A:Nat} (ha:∀ w∈a,nb A w) (hb:DayB b):∀ w∈cq a b,nb (A+a.length+63) w:=λw hw=>by
 obtain ⟨k,-,rfl⟩:=List.mem_map.mp hw
 have hl:=hb.len
 refine bf (tO (b:=30+1+b.length) (λx _=>tO (b:=1) (λy _=>?_) hb.nb) ha) (by omega)
 by_cases e:(x+y).toNat=k
 ·rw [if_pos e]; show (1:Int).natAbs < 2 ^ 1; decide
 ·rw [if_neg e]; show (0:Int).natAbs < 2 ^ 1; decide
theorem Zg7 {n:Nat} (h:n<=1000):m8 gP (.list [.int 0]) (.int (n:Int))=.ret (bu n λ_=>0):=by
 rw [ZbI (by simp; omega),Int.toNat_natCast]
 unfold bu
 congr 1
 clear h
 induction n with
 | zero=>rfl
 | succ m ih=>rw [List.replicate_succ',List.flatten_append,ih,List.range_succ,List.map_append,List.map_append]; rfl
theorem wt3 (D:Sl):∀ (fs:List (List Int)) (a:List Int) (A:Nat) (J2 J3 J4 J5 J6 J7:Sl),0 < a.length->(∀ l∈fs,DayB l/\0 < l.length)->(∀ w∈a,nb A w)->A+600 * fs.length<=8000->a.length+16 * fs.length<=500->∃ K2 K3 K4 K5 K6 K7:Sl,bK (ai 2) rV (fs.map tI) [D,.d (lI a),J2,J3,J4,J5,J6,J7]=.ret (.next [D,.d (lI (fs.foldl cq a)),K2,K3,K4,K5,K6,K7])
 | [],a,A,J2,J3,J4,J5,J6,J7,_,_,_,_,_=>⟨J2,J3,J4,J5,J6,J7,rfl⟩
 | b::fs,a,A,J2,J3,J4,J5,J6,J7,a0,hf,ha,hA,hl=>by
  rw [List.length_cons,Nat.mul_succ] at hA hl
  obtain ⟨hb,b0⟩:=hf b (by simp)
  have hbl:=hb.len
  have hc:(cq a b).length=a.length+b.length - 1:=Zev a b
  obtain ⟨L4,L5,L6,L7,e0⟩:=wt2 D (.d (lI a)) hb (n:=a.length+b.length - 1) (A:=A) (by omega) a 0 (λ_=>0) J4 J5 J6 J7 (by omega) ha
  obtain ⟨K2,K3,K4,K5,K6,K7,e⟩:=wt3 D fs (cq a b) (A+a.length+63) (.d (tI b)) (.d (lI (cq a b))) L4 L5 L6 L7 (by omega) (λl hl=>hf l (List.mem_cons_of_mem _ hl)) (Zeu ha hb) (by omega) (by omega)
  refine ⟨K2,K3,K4,K5,K6,K7,?_⟩
  have ea:cz (a.map PyData.int)=enu 0 a:=ia a
  have er:bu (a.length+b.length - 1) (λj=>(0:Int)+ws (λi=>ws (λf=>if (i+f).toNat=j then 1 else 0) 0 b) 0 a)=(cq a b).map PyData.int:=by
   unfold bu cq
   congr 1
   exact List.map_congr_left λj _=>by rw [Int.zero_add]; rfl
  rw [er] at e0
  have hrep:=Zg7 (n:=a.length+b.length - 1) (by omega)
  rw [show ((a.length+b.length - 1:Nat):Int)=(a.length:Int)+b.length - 1 by omega] at hrep
  have l1:(a.map PyData.int).length=a.length:=List.length_map _
  have l2:(b.map PyData.int).length=b.length:=List.length_map _
  have et:rV [D,.d (lI a),.d (tI b),J3,J4,J5,J6,J7]=.ret (.next [D,.d (lI (cq a b)),.d (tI b),.d (lI (cq a b)),L4,L5,L6,L7]):=by
   unfold tI lI at e0
   simp_arith [rV,tI,lI,Zka,Zj8,ea,l1,l2,hrep,e0]
  have eg:ai 2 (tI b) [D,.d (lI a),J2,J3,J4,J5,J6,J7]=some [D,.d (lI a),.d (tI b),J3,J4,J5,J6,J7]:=rfl
  rw [List.map_cons,dB,eg,Tr.of_some,Tr.ret_bind,cP,et,Tr.ret_bind,cy,e]
  rfl
theorem wa {fs:List (List Int)} (hf:∀ l∈fs,DayB l/\0 < l.length) (hl:fs.length<=10):nU [.d (fD fs)]=.ret (.d (lI (ca fs))):=by
 obtain ⟨K2,K3,K4,K5,K6,K7,e⟩:=wt3 (.d (fD fs)) fs [1] 1 .un .un .un .un .un .un (by decide) hf (by intro w hw; rw [List.mem_singleton] at hw; subst hw; show (1:Int).natAbs < 2 ^ 1; decide) (by omega) (by show 1+_<=_; omega)
 unfold fD lI at e
 simp_arith [nU,fD,lI,ca]
 exact e ▸ rfl
end My
set_option Elab.async false
set_option linter.all false
set_option maxRecDepth 100000
set_option exponentiation.threshold 9000
namespace My
open PySem PySem.Spec PyProof.Rows L2 Tw Bar
theorem iK (lo:Int) (n:Nat):ao lo (n+1)=lo::ao (lo+1) n:=by
 rw [Nat.add_comm n 1,uL]
 show [lo+((0:Nat):Int)]++_=_
 rw [show lo+((0:Nat):Int)=lo by omega]
 rfl
noncomputable def cV (lo:Int) (n:Nat) (f:Int->Int):PyData:=dD ((ao lo n).map λx=>(x,.int (f x)))
theorem Zek (f:Int->Int):∀ (n:Nat) (lo:Int) (kvs:List (Int×PyData)),(∀ p∈kvs,p.1 < lo)->fM kvs ((ao lo n).map λx=>.tuple [.int x,.int (f x)])=some (dD (kvs++(ao lo n).map λx=>(x,.int (f x))))
 | 0,lo,kvs,_=>by
  show some (dD kvs)=some (dD (kvs++[]))
  rw [List.append_nil]
 | n+1,lo,kvs,h=>by
  rw [iK,List.map_cons,List.map_cons,fM]
  have e:gS kvs lo (.int (f lo))=kvs++[(lo,.int (f lo))]:=by
   unfold gS
   rw [if_neg]
   intro z
   obtain ⟨p,hp,e⟩:=List.any_eq_true.mp z
   have:=h p hp
   have:=of_decide_eq_true e
   omega
  rw [e,Zek f n (lo+1) _ λp hp=>by
   rcases List.mem_append.mp hp with hp | hp
   ·have:=h p hp; omega
   ·rw [List.mem_singleton] at hp; subst hp; show lo < lo+1; omega]
  rw [List.append_assoc]
  rfl
theorem Zer (f:Int->Int) (lo:Int) (n:Nat):fM [] ((ao lo n).map λx=>.tuple [.int x,.int (f x)])=some (cV lo n f):=Zek f n lo [] (by simp)
theorem wj {f:Int->Int}:∀ {n:Nat} {lo x:Int},lo<=x->x < lo+n->fk (cV lo n f) (.int x)=some (.int (f x))
 | 0,lo,x,h1,h2=>absurd h2 (by omega)
 | n+1,lo,x,h1,h2=>by
  unfold cV dD
  rw [iK,List.map_cons,List.map_cons,fk]
  by_cases e:lo=x
  ·subst e
   rw [List.find?_cons_of_pos (by simp)]
   rfl
  ·rw [List.find?_cons_of_neg (by simp [e])]
   have ih:=wj (f:=f) (n:=n) (lo:=lo+1) (x:=x) (by omega) (by omega)
   unfold cV dD at ih
   rw [fk] at ih
   exact ih
theorem vB {h:PyData->Tr PyData} {f:Int->Int}:∀ (l:List Int) (k:Nat),(∀ (w:Int) (x:Int),w∈l->(k:Int)<=x->x < k+l.length->h (.tuple [.int x,.int w])=.ret (.int (w * f x)))->∃ ys:List Int,bz h (enu k l)=.ret (ys.map PyData.int)/\ys.sum=ws f k l/\ys.length=l.length
 | [],k,_=>⟨[],rfl,rfl,rfl⟩
 | w::l,k,hh=>by
  obtain ⟨ys,e1,e2,e3⟩:=vB (h:=h) (f:=f) l (k+1) λv x hv x1 x2=>hh v x (List.mem_cons_of_mem _ hv) (by omega) (by rw [List.length_cons]; omega)
  refine ⟨w * f k::ys,?_,by rw [List.sum_cons,e2,ws],by rw [List.length_cons,List.length_cons,e3]⟩
  rw [enu,bz,hh w k (by simp) (by omega) (by rw [List.length_cons]; omega),Tr.ret_bind,e1]
  rfl
theorem ZcT {h:PyData->Tr (Option PyData)} {f:Int->Int}:∀ (l:List Int) (k:Nat),(∀ w∈l,0<=w)->(∀ (w:Int) (x:Int),w∈l->(0 < w->x∈bT k l)->(k:Int)<=x->h (.tuple [.int x,.int w])=.ret (if w > 0 then some (.int (w * f x)) else none))->∃ ys:List Int,cN h (enu k l)=.ret (ys.map PyData.int)/\ys.sum=ws f k l
 | [],k,_,_=>⟨[],rfl,rfl⟩
 | w::l,k,h0,hh=>by
  obtain ⟨ys,e1,e2⟩:=ZcT (h:=h) (f:=f) l (k+1) (λv hv=>h0 v (List.mem_cons_of_mem _ hv)) λv x hv x1 x2=>hh v x (List.mem_cons_of_mem _ hv) (λv0=>by
   rw [bT]
   by_cases hw:w > 0
   ·rw [if_pos hw]; exact List.mem_cons_of_mem _ (x1 v0)
   ·rw [if_neg hw]; exact x1 v0) (by omega)
  have w0:=h0 w (by simp)
  have e0:=hh w k (by simp) (λv0=>by rw [bT,if_pos v0]; simp) (by omega)
  by_cases hw:w > 0
  ·rw [if_pos hw] at e0
   refine ⟨w * f k::ys,?_,by rw [List.sum_cons,e2,ws]⟩
   rw [enu,cN,e0,Tr.ret_bind,e1]
   rfl
  ·rw [if_neg hw] at e0
   have:w=0:=by omega
   subst this
   refine ⟨ys,?_,by rw [e2,ws,Int.zero_mul,Int.zero_add]⟩
   rw [enu,cN,e0,Tr.ret_bind,e1]
   rfl
theorem ZdZ {s:Shp} (h:s.Ok) {wt:List Int} {A:Nat} (hw:∀ w∈wt,nb A w) (hA:A<=8000) (hl:wt.length<=200) {y:Int} (hy:nb 20 y):nV [.d s.d,.d (lI wt),.d (.int y)]=.ret (.d (.int (ws (λf=>s.day y f) 0 wt))):=by
 have hs:small (enu 0 wt).length=true:=bF (by rw [n9]; omega)
 obtain ⟨ys,e1,e2,-⟩:=vB (h:=df (bq (aw (ai 0) (aw (ai 1) bi))) uR [.un,.un,.d s.d,.d (.int y)]) (f:=λf=>s.day y f) wt 0 λw x hx x1 x2=>by
  have hf:nb 40 x:=b6 (by show -((2 ^ 40:Nat):Int) < x; have:((2 ^ 40:Nat):Int)=1099511627776:=rfl; omega) (by show x < ((2 ^ 40:Nat):Int); have:((2 ^ 40:Nat):Int)=1099511627776:=rfl; omega)
  have e:=ZkA h hy hf
  have f1:=aQ (hw w hx) hA
  have f2:=aQ (sK h hy hf) (by decide)
  simp_arith [uR,e,f1,f2]
 have es:bh cg [.list (ys.map PyData.int)]=.ret (.int (ws (λf=>s.day y f) 0 wt)):=by rw [fj,e2]
 have ee:cz (wt.map PyData.int)=enu 0 wt:=ia wt
 simp_arith [nV,lI,ee,hs,e1,es]
theorem ZdL {s:Shp} (h:s.Ok) {x:Int} (hx:nb 20 x):nb 65 (s.fin x):=by
 unfold Shp.fin
 exact pb (k:=65) (b7 (ge h.back) hx) (b7 h.late (ge hx))
theorem Zkj {s:Shp} (h:s.Ok) {wt:List Int} {A:Nat} (hw:∀ w∈wt,nb A w) (hA:A<=8000) (hl:wt.length<=200) {y:Int} (hy:nb 10 y):rq [.d s.d,.d (lI wt),.d (.int y)]=.ret (.d (.int (ws (λf=>s.fin (y - f)) 0 wt))):=by
 have hs:small (enu 0 wt).length=true:=bF (by rw [n9]; omega)
 obtain ⟨ys,e1,e2,-⟩:=vB (h:=df (bq (aw (ai 0) (aw (ai 1) bi))) uQ [.un,.un,.d s.d,.d (.int y)]) (f:=λf=>s.fin (y - f)) wt 0 λw x hx x1 x2=>by
  have hf:nb 19 x:=b6 (by show -((2 ^ 19:Nat):Int) < x; have:((2 ^ 19:Nat):Int)=524288:=rfl; omega) (by show x < ((2 ^ 19:Nat):Int); have:((2 ^ 19:Nat):Int)=524288:=rfl; omega)
  have hyx:nb 20 (y - x):=bf (fH hy hf) (by decide)
  have e:=Zky h hyx
  have f1:=aQ (hw w hx) hA
  have f2:=aQ (ZdL h hyx) (by decide)
  simp_arith [uQ,e,f1,f2]
 have es:bh cg [.list (ys.map PyData.int)]=.ret (.int (ws (λf=>s.fin (y - f)) 0 wt)):=by rw [fj,e2]
 have ee:cz (wt.map PyData.int)=enu 0 wt:=ia wt
 simp_arith [rq,lI,ee,hs,e1,es]
theorem Zkl {day:List Int} (hd:DayB day) {lo:Int} {n:Nat} {f:Int->Int} {b:Nat} (hf:∀ x,lo<=x->x < lo+n->nb b (f x)) (hb:b<=8000) {y:Int} (y1:∀ x∈bT 0 day,lo<=y - x) (y2:y < lo+n):ph [.d (tI day),.d (cV lo n f),.d (.int y)]=.ret (.d (.int (ws (λx=>f (y - x)) 0 day))):=by
 have hs:small (enu 0 day).length=true:=bF (by rw [n9]; have:=hd.len; omega)
 obtain ⟨ys,e1,e2⟩:=ZcT (h:=gh (bq (aw (ai 0) (aw (ai 1) bi))) re qP [.un,.un,.d (cV lo n f),.d (.int y)]) (f:=λx=>f (y - x)) day 0 hd.w0 λw x hx x1 x2=>by
  by_cases hw:w > 0
  ·have l1:=y1 x (x1 hw)
   have eg:aI fk (cV lo n f) (.int (y - x))=.ret (.int (f (y - x))):=by
    unfold aI
    rw [wj l1 (by omega)]
    rfl
   have f1:=aQ (hd.nb w hx) (by decide)
   have f2:=aQ (hf (y - x) l1 (by omega)) hb
   simp_arith [re,qP,decide_eq_true hw,if_pos hw,eg,f1,f2]
  ·simp_arith [re,qP,decide_eq_false hw,if_neg hw]
 have es:bh cg [.list (ys.map PyData.int)]=.ret (.int (ws (λx=>f (y - x)) 0 day)):=by rw [fj,e2]
 have ee:cz (day.map PyData.int)=enu 0 day:=ia day
 simp_arith [ph,vS,ee,hs,e1,es]
end My
set_option Elab.async false
set_option linter.all false
set_option maxRecDepth 100000
set_option exponentiation.threshold 9000
namespace My
open PySem PySem.Spec PyProof.Rows L2 Tw Bar
theorem Zlt (xs:List PyData) (t:Nat) (h:t<=xs.length):dc (.tuple xs) none (some (t:Int))=.ret (.tuple (xs.take t)):=by
 show Tr.ret (PyData.tuple (L2.dN xs none (some (t:Int))))=_
 unfold L2.dN
 rw [HT.uF,HT.uE,Nat.min_eq_left h,List.drop_zero,Nat.sub_zero]
theorem wn (xs:List PyData) (t:Nat):dc (.tuple xs) (some (t:Int)) none=.ret (.tuple (xs.drop t)):=by
 show Tr.ret (PyData.tuple (L2.dN xs (some (t:Int)) none))=_
 unfold L2.dN
 rw [HT.uF,HT.uE]
 rcases Nat.le_total t xs.length with hle | hle
 ·rw [Nat.min_eq_left hle,List.take_of_length_le (by rw [List.length_drop]; exact Nat.le_refl _)]
 ·rw [Nat.min_eq_right hle,List.drop_eq_nil_of_le (Nat.le_refl _),List.drop_eq_nil_of_le hle]
  simp
theorem og (fs:List (List Int)) (t:Nat):dc (fD fs) (some (t:Int)) none=.ret (fD (fs.drop t)):=by
 unfold fD
 rw [wn,List.map_drop]
theorem sL (fs:List (List Int)) {t:Nat} (h:t<=fs.length):dc (fD fs) none (some (t:Int))=.ret (fD (fs.take t)):=by
 unfold fD
 rw [Zlt _ _ (by rw [List.length_map]; exact h),List.map_take]
structure FOk (fs:List (List Int)):Prop where
 b:∀ l∈fs,DayB l/\∃ n∈l,n > 0
 len:fs.length<=6
theorem FOk.B {fs:List (List Int)} (h:FOk fs):∀ l∈fs,DayB l:=λl hl=>(h.b l hl).1
theorem FOk.drop {fs:List (List Int)} (h:FOk fs) (t:Nat):FOk (fs.drop t):=⟨λl hl=>h.b l (List.mem_of_mem_drop hl),by rw [List.length_drop]; have:=h.len; omega⟩
theorem FOk.take {fs:List (List Int)} (h:FOk fs) (t:Nat):FOk (fs.take t):=⟨λl hl=>h.b l (List.mem_of_mem_take hl),by rw [List.length_take]; have:=h.len; omega⟩
theorem FOk.P {fs:List (List Int)} (h:FOk fs):∀ l∈fs,DayB l/\0 < l.length:=λl hl=>⟨(h.b l hl).1,by obtain ⟨n,hn,-⟩:=(h.b l hl).2; exact List.length_pos_of_mem hn⟩
theorem ZcS {h:PyData->Tr PyData} {f:List Int->Int}:∀ {fs:List (List Int)},(∀ l∈fs,h (tI l)=.ret (.int (f l)))->bz h (fs.map tI)=.ret ((fs.map f).map PyData.int)
 | [],_=>rfl
 | l::fs,hl=>by
  have ih:=ZcS (h:=h) (f:=f) (fs:=fs) λq hq=>hl q (List.mem_cons_of_mem _ hq)
  rw [List.map_cons,bz,hl l (by simp),Tr.ret_bind,ih]
  rfl
theorem Zda (q:List Sl->Tr PyData) (x:PyData):df (ai 0) q [.un] x=q [.d x]:=rfl
theorem ZcU {q:List Sl->Tr PyData} (hq:∀ l:List Int,(∃ n∈l,n > 0)->l.length<=100->df (ai 0) q [.un] (tI l)=.ret (.int (great l))) {fs:List (List Int)} (hf:FOk fs):bz (df (ai 0) q [.un]) (fs.map tI)=.ret ((fs.map great).map PyData.int) :=
 ZcS λl hl=>hq l (hf.b l hl).2 (by have:=(hf.b l hl).1.len; omega)
theorem ZcR {ls:List Int} (h:∃ n∈ls,n > 0):bh g8 [.list ((bT 0 ls).map PyData.int)]=.ret (.int (great ls)):=ZiN _ (qC (k:=0) h)
theorem Za2:∀ (ns:List Int) (k:Nat),cN (gh (bq (aw (ai 0) (aw (ai 1) bi))) o7 oV [.un,.un]) (enu k ns)=.ret ((bT k ns).map PyData.int)
 | [],k=>rfl
 | n::ns,k=>by
  have ih:=Za2 ns (k+1)
  have e0:gh (bq (aw (ai 0) (aw (ai 1) bi))) o7 oV [.un,.un] (.tuple [.int k,.int n])=.ret (if n > 0 then some (.int k) else none):=by
   by_cases h:n > 0
   ·simp_arith [o7,oV,decide_eq_true h,if_pos h]
   ·simp_arith [o7,oV,decide_eq_false h,if_neg h]
  rw [enu,cN,e0,Tr.ret_bind,ih,Tr.ret_bind,bT]
  unfold nT
  by_cases h:n > 0
  ·rw [if_pos h,if_pos h]; rfl
  ·rw [if_neg h,if_neg h]
theorem Zd5 {ls:List Int} (h:∃ n∈ls,n > 0) (hl:ls.length<=100):pz [.d (tI ls)]=.ret (.d (.int (great ls))):=by
 have hs:small (enu 0 ls).length=true:=bF (by rw [n9]; omega)
 simp_arith [pz,vS,ia,hs,Za2,ZcR h]
theorem Zkw {s:Shp} {fs:List (List Int)} (hf:FOk fs) (t:Nat):rL [.d s.d,.d (fD fs),.d (.int t)]=.ret (.d (.int (reach (fs.drop t) - s.depth))):=by
 have hm:=ZcU (q:=uU) (λl h1 h2=>by
  have e:=Zd5 h1 h2
  rw [Zda]
  simp_arith [uU,e]) (hf.drop t)
 have hs:small ((fs.drop t).map tI).length=true:=bF (by rw [List.length_map]; have:=(hf.drop t).len; omega)
 have er:(List.map great (fs.drop t)).sum=reach (fs.drop t):=rfl
 simp_arith [rL,og,sy,hs,hm,er]
theorem Zd6 {s:Shp} {fs:List (List Int)} (hf:FOk fs) {x:Int} (hx:reach fs - s.depth<=x):pC [.d s.d,.d (fD fs),.d (.int x)]=.ret (.d .none):=by
 have e:=Zkw (s:=s) hf 0
 rw [List.drop_zero,Int.natCast_zero] at e
 have hn:¬ x < reach fs - s.depth:=by omega
 simp_arith [pC,e,decide_eq_false hn]
theorem Zd4 {fs:List (List Int)} (hf:FOk fs) {t:Nat} (ht:t<=fs.length) (x:Int):pq [.d (fD fs),.d (.int t),.d (.int x)]=.ret (.d (.int (x - reach (fs.take t)))):=by
 have hm:=ZcU (q:=uS) (λl h1 h2=>by
  have e:=Zd5 h1 h2
  rw [Zda]
  simp_arith [uS,e]) (hf.take t)
 have hs:small ((fs.take t).map tI).length=true:=bF (by rw [List.length_map]; have:=(hf.take t).len; omega)
 have er:(List.map great (fs.take t)).sum=reach (fs.take t):=rfl
 simp_arith [pq,sL _ ht,sy,hs,hm,er]
theorem ZdS {is:List Sl->Tr (List PyData)} {n:Nat} {ix:List Nat} {g:PyData->List Sl->Option (List Sl)} {kx i:List Sl->Tr PyData} {ρ:List Sl} {xs ps:List PyData} {d:PyData} (h1:is ρ=.ret xs) (hs:small xs.length=true) (h2:bz (λx=>(Tr.of (g x (blk n ix ρ))).bind (ib kx i)) xs=.ret ps) (h3:fM [] ps=some d):gI is n ix g kx i ρ=.ret d:=by
 unfold gI
 rw [h1,Tr.ret_bind,if_pos hs,h2,Tr.ret_bind,h3]
 rfl
theorem Zaa:∀ (fs:List (List Int)) (a:List Int) (A:Nat),0 < a.length->(∀ l∈fs,DayB l/\0 < l.length)->(∀ w∈a,nb A w)->a.length+16 * fs.length<=200->(∀ w∈fs.foldl cq a,nb (A+270 * fs.length) w)/\(fs.foldl cq a).length<=a.length+16 * fs.length
 | [],a,A,_,_,ha,_=>⟨λw hw=>bf (ha w hw) (by omega),by show a.length<=_; omega⟩
 | b::fs,a,A,a0,hf,ha,hl=>by
  rw [List.length_cons,Nat.mul_succ] at hl
  obtain ⟨hb,b0⟩:=hf b (by simp)
  have hbl:=hb.len
  have hc:(cq a b).length=a.length+b.length - 1:=Zev a b
  obtain ⟨i1,i2⟩:=Zaa fs (cq a b) (A+a.length+63) (by omega) (λl hl=>hf l (List.mem_cons_of_mem _ hl)) (Zeu ha hb) (by omega)
  refine ⟨λw hw=>bf (i1 w hw) ?_,?_⟩
  ·rw [List.length_cons]; omega
  ·rw [List.foldl_cons,List.length_cons]; omega
theorem dI:∀ {fs:List (List Int)},(∀ l∈fs,DayB l)->nb (1+46 * fs.length) (prd fs)
 | [],_=>by show (1:Int).natAbs < 2 ^ 1; decide
 | d::fs,h=>by
  rw [prd,List.length_cons]
  exact bf (b7 (dI λl hl=>h l (List.mem_cons_of_mem _ hl)) (ub (h d (by simp)))) (by omega)
theorem tN {f:Int->Int} (hf:∀ x:Int,0<=f x):∀ {l:List Int} {k:Nat},(∀ w∈l,0<=w)->0<=ws f k l
 | [],k,_=>Int.le_refl 0
 | w::l,k,h=>by
  rw [ws]
  exact Int.add_nonneg (Int.mul_nonneg (h w (by simp)) (hf k)) (tN hf λv hv=>h v (List.mem_cons_of_mem _ hv))
theorem Zlq {a b:List Int} (ha:∀ w∈a,0<=w) (hb:∀ w∈b,0<=w):∀ w∈cq a b,0<=w:=λw hw=>by
 obtain ⟨k,-,rfl⟩:=List.mem_map.mp hw
 refine tN (λx=>tN (λy=>?_) hb) ha
 by_cases e:(x+y).toNat=k
 ·rw [if_pos e]; decide
 ·rw [if_neg e]; decide
theorem tL:∀ (fs:List (List Int)) (a:List Int),(∀ l∈fs,DayB l)->(∀ w∈a,0<=w)->∀ w∈fs.foldl cq a,0<=w
 | [],a,_,ha=>ha
 | b::fs,a,hf,ha=>tL fs (cq a b) (λl hl=>hf l (List.mem_cons_of_mem _ hl)) (Zlq ha (hf b (by simp)).w0)
theorem ZcP:∀ {l:List Int},(∀ w∈l,0<=w)->0<=l.sum/\∀ w∈l,w<=l.sum
 | [],_=>⟨Int.le_refl 0,λw hw=>by cases hw⟩
 | x::l,h=>by
  obtain ⟨i1,i2⟩:=ZcP (l:=l) λv hv=>h v (List.mem_cons_of_mem _ hv)
  have h0:=h x (by simp)
  rw [List.sum_cons]
  refine ⟨by omega,λw hw=>?_⟩
  rcases List.mem_cons.mp hw with rfl | hw
  ·omega
  ·have:=i2 w hw; omega
theorem ZaK:∀ fs:List (List Int),sv fs (λ_=>1)=prd fs
 | []=>rfl
 | d::fs=>by
  rw [sv,prd,<- ZaK fs]
  exact qx d 0
theorem oy {fs:List (List Int)} (hf:FOk fs):(∀ w∈ca fs,nb 280 w)/\(ca fs).length<=100:=by
 have hl:=hf.len
 obtain ⟨i1,i2⟩:=Zaa fs [1] 1 (by decide) hf.P (by intro w hw; rw [List.mem_singleton] at hw; subst hw; show (1:Int).natAbs < 2 ^ 1; decide) (by show 1+_<=_; omega)
 have i3:(ca fs).length<=1+16 * fs.length:=i2
 have h0:∀ w∈ca fs,0<=w:=tL fs [1] hf.B (by simp)
 have hs:(ca fs).sum=prd fs:=by
  have e:=tK (λ_=>1) (fs:=fs) λl hl=>(hf.P l hl).2
  rw [qx,Int.one_mul,ZaK] at e
  exact e
 have hp:=dI hf.B
 refine ⟨λw hw=>?_,by omega⟩
 have a1:=h0 w hw
 have a2:=(ZcP h0).2 w hw
 rw [hs] at a2
 refine bf (k:=1+46 * fs.length) ?_ (by omega)
 unfold nb at hp ⊢
 omega
noncomputable def eD (s:Shp) (fs:List (List Int)) (c:Int):Int:=ws (λf=>s.fin (c - f)) 0 (ca fs)
theorem Zkz {s:Shp} (h:s.Ok) {fs:List (List Int)} (hf:FOk fs) {o:Nat} (ho:o<=fs.length) {x:Int} (x1:-300<=x - reach (fs.take o)) (x2:x - reach (fs.take o)<=s.top+1):rM [.d s.d,.d (fD fs),.d (.int o),.d (.int x)]=.ret (.d (cV (x - reach (fs.take o)) (s.top+1 - (x - reach (fs.take o))).toNat (eD s (fs.drop o)))):=by
 have t0:=h.t0; have d0:=h.d0; have td:=h.td
 have ew:=wa (hf.drop o).P (by have:=(hf.drop o).len; omega)
 have el:=Zd4 hf ho x
 obtain ⟨w1,w2⟩:=oy (hf.drop o)
 generalize hlo:x - reach (fs.take o)=lo at *
 have r1:dL lo=true:=dg (by omega) (by omega)
 have r2:dL (s.top+1)=true:=dg (by omega) (by omega)
 have hs:small (bc lo (s.top+1)).length=true:=bF (by rw [dS]; omega)
 have ed:gI (ot (af (aa 5) (af (ad aS (ad ay (aa 0) (aC (.int 0))) (aC (.int 1))) al))) 1 [0,4] (ai 0) qU oW [.d s.d,.d (fD fs),.d (.int o),.d (.int x),.d (lI (ca (fs.drop o))),.d (.int lo)]=.ret (cV lo (s.top+1 - lo).toNat (eD s (fs.drop o))) :=
  ZdS (xs:=bc lo (s.top+1)) (by simp_arith [sG r1 r2]) hs (ZiO (f:=λc=>.tuple [.int c,.int (eD s (fs.drop o) c)]) λz z1 z2=>by
   have ee:=Zkj h w1 (by decide) (by omega) (y:=z) (b6 (by show -1024 < z; omega) (by show z < 1024; omega))
   show ib qU oW [.d (.int z),.d s.d,.d (lI (ca (fs.drop o)))]=_
   unfold ib
   have e1:qU [.d (.int z),.d s.d,.d (lI (ca (fs.drop o)))]=.ret (.int z):=rfl
   have e2:oW [.d (.int z),.d s.d,.d (lI (ca (fs.drop o)))]=.ret (.int (eD s (fs.drop o) z)):=by
    simp_arith [oW,ee]
    rfl
   rw [e1,Tr.ret_bind,Zes,e2,Tr.ret_bind]) (Zer _ _ _)
 simp_arith [rM,og,ew,el,ed]
noncomputable def csm (s:Shp) (d:Nat) (fs:List (List Int)) (F:Int->Int) (y:Int):Int:=prd fs * s.piece * y+prd (fs.drop (d+1)) * ws (λf=>s.day y f) 0 (ca (fs.take (d+1)))+ws (λx=>F (y - x)) 0 (fs.headD [])
theorem ZeC {S:PyData} {day:PyData} {fsD A W:PyData} {Dd L:Sl} {sc pc lt:Int} {P Q:Int->Int} (hS:aI ay S (.int 3)=.ret (.int pc)) (hD:aI ay fsD (.int 0)=.ret day) (f1:fit sc=true) (f2:fit pc=true) (f3:fit (sc * pc)=true) (f4:fit lt=true):∀ (n:Nat) (lo:Int) (acc:List PyData) (J9 J10:Sl),acc.length+n<=900->(∀ y,lo<=y->y < lo+n->nV [.d S,.d W,.d (.int y)]=.ret (.d (.int (P y)))/\ph [.d day,.d A,.d (.int y)]=.ret (.d (.int (Q y)))/\fit y=true/\fit (P y)=true)->∃ K9 K10:Sl,bK (ai 9) si ((ao lo n).map PyData.int) [.d S,.d fsD,Dd,.d A,L,.d (.int sc),.d (.int lt),.d W,.own acc,J9,J10]=.ret (.next [.d S,.d fsD,Dd,.d A,L,.d (.int sc),.d (.int lt),.d W,.own (acc++(ao lo n).map λy=>.int (sc * pc * y+lt * P y+Q y)),K9,K10])
 | 0,lo,acc,J9,J10,_,_=>⟨J9,J10,by
  show Tr.ret (Ou.next _)=.ret (.next [_,_,_,_,_,_,_,_,.own (acc++[]),_,_])
  rw [List.append_nil]⟩
 | n+1,lo,acc,J9,J10,hl,h=>by
  have hsm:small (acc.length+1)=true:=bF (by omega)
  obtain ⟨h1,h2,h3,h4⟩:=h lo (by omega) (by omega)
  obtain ⟨K9,K10,e⟩:=ZeC hS hD f1 f2 f3 f4 (Dd:=Dd) (L:=L) (W:=W) (A:=A) (P:=P) (Q:=Q) n (lo+1) (acc++[.int (sc * pc * lo+lt * P lo+Q lo)]) (.d (.int lo)) (.d (.int (sc * pc * lo+lt * P lo))) (by rw [List.length_append]; show acc.length+1+n<=900; omega) λy y1 y2=>h y (by omega) (by omega)
  refine ⟨K9,K10,?_⟩
  have et:si [.d S,.d fsD,Dd,.d A,L,.d (.int sc),.d (.int lt),.d W,.own acc,.d (.int lo),J10]=.ret (.next [.d S,.d fsD,Dd,.d A,L,.d (.int sc),.d (.int lt),.d W,.own (acc++[.int (sc * pc * lo+lt * P lo+Q lo)]),.d (.int lo),.d (.int (sc * pc * lo+lt * P lo))]):=by
   simp_arith [si,hS,hD,f1,f2,f3,f4,h1,h2,h3,h4,hsm]
  have eg:ai 9 (.int lo) [.d S,.d fsD,Dd,.d A,L,.d (.int sc),.d (.int lt),.d W,.own acc,J9,J10]=some [.d S,.d fsD,Dd,.d A,L,.d (.int sc),.d (.int lt),.d W,.own acc,.d (.int lo),J10]:=rfl
  rw [iK,List.map_cons,dB,eg,Tr.of_some,Tr.ret_bind,cP,et,Tr.ret_bind,cy,e,List.map_cons,List.append_assoc]
  rfl
theorem ZkB {s:Shp} (h:s.Ok) {day:List Int} {rest:List (List Int)} (hf:FOk (day::rest)) {d:Nat} (hd:d+1<=rest.length+1) {lo':Int} {n':Nat} {F:Int->Int} {b:Nat} (hF:∀ x,lo'<=x->x < lo'+n'->nb b (F x)) (hb:b<=8000) {low:Int} (l1:-300<=low) (l2:low<=s.top+1) (hlo:∀ x∈bT 0 day,lo'<=low - x) (hhi:s.top < lo'+n') :
  rO [.d s.d,.d (fD (day::rest)),.d (.int d),.d (cV lo' n' F),.d (.int low)]=.ret (.own ((ao low (s.top+1 - low).toNat).map λy=>.int (csm s d (day::rest) F y))):=by
 have t0:=h.t0; have d0:=h.d0; have td:=h.td
 have hlen:=hf.len
 rw [List.length_cons] at hlen
 have es:=pT hf.B (by rw [List.length_cons]; omega)
 have el:=pT (hf.drop (d+1)).B (by have:=(hf.drop (d+1)).len; omega)
 have ew:=wa (hf.take (d+1)).P (by have:=(hf.take (d+1)).len; omega)
 obtain ⟨w1,w2⟩:=oy (hf.take (d+1))
 have p1:=dI hf.B
 have p2:=dI (hf.drop (d+1)).B
 have q1:((day::rest).drop (d+1)).length<=6:=(hf.drop (d+1)).len
 have r1:dL low=true:=dg (by omega) (by omega)
 have r2:dL (s.top+1)=true:=dg (by omega) (by omega)
 have hdd:DayB day:=(hf.b day (by simp)).1
 have hD:aI ay (fD (day::rest)) (.int 0)=.ret (tI day):=by
  unfold fD
  rw [cH,List.map_cons]
  exact congrArg Tr.of eU
 have c1:dc (fD (day::rest)) (some ((d:Int)+1)) none=.ret (fD ((day::rest).drop (d+1))):=og (day::rest) (d+1)
 have c2:dc (fD (day::rest)) none (some ((d:Int)+1))=.ret (fD ((day::rest).take (d+1))):=sL (day::rest) (t:=d+1) (by rw [List.length_cons]; exact hd)
 obtain ⟨K9,K10,eL⟩:=ZeC (S:=s.d) (fsD:=fD (day::rest)) (A:=cV lo' n' F) (W:=lI (ca ((day::rest).take (d+1)))) (Dd:=.d (.int d)) (L:=.d (.int low)) (P:=λy=>ws (λf=>s.day y f) 0 (ca ((day::rest).take (d+1)))) (Q:=λy=>ws (λx=>F (y - x)) 0 day) (sc:=prd (day::rest)) (lt:=prd ((day::rest).drop (d+1))) (gL s) hD (aQ p1 (by rw [List.length_cons]; omega)) (aQ h.piece (by decide)) (aQ (b7 p1 h.piece) (by rw [List.length_cons]; omega)) (aQ p2 (by omega)) (s.top+1 - low).toNat low [] .un .un (by show 0+_<=_; omega) λy y1 y2=>by
  have hy:nb 20 y:=b6 (by show -1048576 < y; omega) (by show y < 1048576; omega)
  refine ⟨ZdZ h w1 (by decide) (by omega) hy,Zkl hdd hF hb (λx hx=>by have:=hlo x hx; omega) (by omega),aQ hy (by decide),?_⟩
  exact aQ (ir (a:=280) (b:=100) w1 λx x1 x2=>sK h hy (b6 (by show -1099511627776 < x; omega) (by show x < 1099511627776; omega))) (by omega)
 have er:bc low (s.top+1)=(ao low (s.top+1 - low).toNat).map PyData.int:=rfl
 simp_arith [rO,es,c1,el,c2,ew,sG r1 r2,er,eL]
 rfl
end My
set_option Elab.async false
set_option linter.all false
set_option maxRecDepth 100000
set_option exponentiation.threshold 9000
namespace My
open PySem PySem.Spec PyProof.Rows L2 Tw Bar
noncomputable def aF (s:Shp) (d:Nat):List (List Int)->Int->Int
 | []=>eD s []
 | day::rest=>if rest.length < d then eD s (day::rest) else cst (csm s d (day::rest) (aF s d rest)) s.top (prd (day::rest) * s.start) (prd (day::rest) * s.piece)
noncomputable def aL (s:Shp) (d:Nat):List (List Int)->Int->Int
 | []=>λ_=>0
 | day::rest=>lvl (csm s d (day::rest) (aF s d rest)) s.top (prd (day::rest) * s.start)
theorem sY {s:Shp} {d:Nat}:∀ {fs:List (List Int)},fs.length<=d->aF s d fs=eD s fs
 | [],_=>rfl
 | day::rest,h=>by
  rw [List.length_cons] at h
  rw [aF,if_pos (by omega)]
theorem wV {s:Shp} {d:Nat} {day:List Int} {rest:List (List Int)} (h:d<=rest.length):aF s d (day::rest)=cst (csm s d (day::rest) (aF s d rest)) s.top (prd (day::rest) * s.start) (prd (day::rest) * s.piece):=by
 rw [aF,if_neg (by omega)]
theorem ZdY {s:Shp} (h:s.Ok) {fs:List (List Int)} (hf:FOk fs) {c:Int} (c1:-500<=c) (c2:c<=s.top):nb 450 (eD s fs c):=by
 have t0:=h.t0; have d0:=h.d0; have td:=h.td
 obtain ⟨w1,w2⟩:=oy hf
 exact bf (ir (a:=280) (b:=65) w1 λx x1 x2=>ZdL h (b6 (by show -1048576 < _; omega) (by show _ < 1048576; omega))) (by omega)
theorem ZeB {s:Shp} (h:s.Ok) {d:Nat} {day:List Int} {rest:List (List Int)} (hf:FOk (day::rest)) {F:Int->Int} {k:Nat} (hF:∀ x,-500+16 * (rest.length:Int)<=x->x<=s.top->nb (712+160 * k) (F x)) {y:Int} (y1:-500+16 * ((rest.length:Int)+1)<=y) (y2:y<=s.top):nb (760+160 * k) (csm s d (day::rest) F y):=by
 have t0:=h.t0; have d0:=h.d0; have td:=h.td
 have hlen:=hf.len
 obtain ⟨w1,w2⟩:=oy (hf.take (d+1))
 have hy:nb 20 y:=b6 (by show -1048576 < y; omega) (by show y < 1048576; omega)
 have p1:=dI hf.B
 have p2:=dI (hf.drop (d+1)).B
 have q1:((day::rest).drop (d+1)).length<=6:=(hf.drop (d+1)).len
 have hdd:DayB day:=(hf.b day (by simp)).1
 have hdl:=hdd.len
 have a1:=b7 (b7 p1 h.piece) hy
 have a2:=b7 p2 (ir (k:=0) (f:=λf=>s.day y f) (a:=280) (b:=100) w1 λx x1 x2=>sK h hy (b6 (by show -1099511627776 < x; omega) (by show x < 1099511627776; omega)))
 have a3:=ir (k:=0) (f:=λx=>F (y - x)) (a:=30) (b:=712+160 * k) hdd.nb λx x1 x2=>hF (y - x) (by omega) (by omega)
 unfold csm
 exact bf (dW (dW a1 a2) a3) (by omega)
theorem wU {s:Shp} (h:s.Ok) {d:Nat}:∀ {fs:List (List Int)},FOk fs->∀ y,-500+16 * (fs.length:Int)<=y->y<=s.top->nb (712+160 * fs.length) (aF s d fs y)
 | [],hf,y,y1,y2=>bf (ZdY h hf (by rw [List.length_nil] at y1; omega) y2) (by omega)
 | day::rest,hf,y,y1,y2=>by
  rw [List.length_cons] at y1
  by_cases hd:rest.length < d
  ·rw [aF,if_pos hd]
   exact bf (ZdY h hf (by omega) y2) (by omega)
  ·rw [aF,if_neg hd]
   have t0:=h.t0; have d0:=h.d0; have td:=h.td
   have hr:FOk rest:=hf.drop 1
   have hlen:=hf.len
   rw [List.length_cons] at hlen ⊢
   have ih:=wU h (d:=d) hr
   have hc:∀ z,y<=z->z<=s.top->nb (760+160 * rest.length) (csm s d (day::rest) (aF s d rest) z):=λz z1 z2=>ZeB h hf ih (by omega) z2
   have p1:=dI hf.B
   rw [List.length_cons] at p1
   have hx:nb 20 y:=b6 (by show -1048576 < _; omega) (by show _ < 1048576; omega)
   unfold cst
   have k1:=ZhZ (b:=760+160 * rest.length) (K:=prd (day::rest) * s.start) y2 hc (bf (b7 p1 h.start) (by omega))
   exact bf (fH k1 (b7 (b7 p1 h.piece) hx)) (by omega)
theorem oR:∀ (fs:List (List Int)) (t:Nat),reach (fs.take t)+reach (fs.drop t)=reach fs
 | [],t=>by rw [List.take_nil,List.drop_nil]; rfl
 | d::fs,0=>by rw [List.take_zero,List.drop_zero]; show 0+_=_; omega
 | d::fs,t+1=>by
  rw [List.take_succ_cons,List.drop_succ_cons,e9,e9,<- oR fs t]
  omega
theorem ZbJ {fs:List (List Int)} {t:Nat} {day:List Int} {rest:List (List Int)} (h:fs.drop t=day::rest):reach (fs.take (t+1))=reach (fs.take t)+great day:=by
 have e1:=oR fs t
 have e2:=oR fs (t+1)
 have e3:fs.drop (t+1)=rest:=by rw [<- List.drop_drop,h]; rfl
 rw [h,e9] at e1
 rw [e3] at e2
 omega
noncomputable def lw (fs:List (List Int)) (x:Int) (t:Nat):Int:=x - reach (fs.take t)
noncomputable def nn (s:Shp) (fs:List (List Int)) (x:Int) (t:Nat):Nat:=(s.top+1 - lw fs x t).toNat
noncomputable def cG (s:Shp) (d:Nat) (fs:List (List Int)) (x:Int) (t:Nat):PyData:=.tuple ((ao (lw fs x t) (nn s fs x t)).map λy=>oa (aF s d (fs.drop t) y) (prd (fs.drop t)) (aL s d (fs.drop t) y))
noncomputable def eN (s:Shp) (d:Nat) (fs:List (List Int)) (x:Int) (o:Nat):Nat->List PyData
 | 0=>[]
 | p+1=>eN s d fs x o p++[cG s d fs x (o - (p+1))]
theorem Zby (s:Shp) (d:Nat) (fs:List (List Int)) (x:Int) (o:Nat):∀ p,(eN s d fs x o p).length=p
 | 0=>rfl
 | p+1=>by rw [eN,List.length_append,Zby s d fs x o p]; rfl
theorem rS {s:Shp} {fs:List (List Int)} (hf:FOk fs) {x:Int} (x1:reach fs - s.depth<=x) (t:Nat):-s.depth<=lw fs x t:=by
 have e:=oR fs t
 have:=iI (fs:=fs.drop t) λl hl=>(hf.b l (List.mem_of_mem_drop hl)).2
 unfold lw
 omega
theorem rR {fs:List (List Int)} (hf:FOk fs) (x:Int) (t:Nat):lw fs x t<=x:=by
 have:=iI (fs:=fs.take t) λl hl=>(hf.b l (List.mem_of_mem_take hl)).2
 unfold lw
 omega
theorem ZdW {g:Int->Int} {top K P B:Int} (hB:B≠0) (hn:nb 7000 B):∀ l:List Int,bz (df (bq (aw (ai 0) (aw (ai 1) bi))) qS [.un,.un,.d (.int B)]) (l.map (dw g top K P))=.ret (l.map λx=>oa (cst g top K P x) B (lvl g top K x))
 | []=>rfl
 | x::l=>by
  have ih:=ZdW (g:=g) (top:=top) (K:=K) (P:=P) hB hn l
  have e0:df (bq (aw (ai 0) (aw (ai 1) bi))) qS [.un,.un,.d (.int B)] (dw g top K P x)=.ret (oa (cst g top K P x) B (lvl g top K x)):=by
   have e2:=Zd0 (t:=cst g top K P x) hB hn
   simp_arith [qS,dw,e2]
   rfl
  rw [List.map_cons,bz,e0,Tr.ret_bind,ih]
  rfl
theorem Zej {g:Int->Int} {top K P lo:Int}:∀ (n k:Nat),bz (λx=>(Tr.of (bq (aw (ai 0) (aw (bq (aw (ai 1) (aw (ai 2) bi))) bi)) x [.un,.un,.un,.d (.int lo)])).bind (ib qR qQ)) ((List.range' k n).zipWith (λ(i:Nat) x=>PyData.tuple [.int i,x]) ((ao (lo+k) n).map (dw g top K P)))=.ret ((ao (lo+k) n).map λc=>.tuple [.int c,.int (cst g top K P c)])
 | 0,k=>rfl
 | n+1,k=>by
  have ih:=Zej (g:=g) (top:=top) (K:=K) (P:=P) (lo:=lo) n (k+1)
  rw [show lo+((k+1:Nat):Int)=lo+k+1 by omega] at ih
  rw [iK,List.map_cons,List.range'_succ,List.zipWith_cons_cons,bz]
  have e0:(Tr.of (bq (aw (ai 0) (aw (bq (aw (ai 1) (aw (ai 2) bi))) bi)) (.tuple [.int (k:Int),dw g top K P (lo+k)]) [.un,.un,.un,.d (.int lo)])).bind (ib qR qQ)=.ret (.tuple [.int (lo+k),.int (cst g top K P (lo+k))]):=rfl
  rw [e0,Tr.ret_bind,ih]
  rfl
theorem ZkF {fs:List (List Int)} {t:Nat} (h:t < fs.length):∃ day,fs.drop t=day::fs.drop (t+1):=⟨fs[t],List.drop_eq_getElem_cons h⟩
theorem fG:∀ {fs:List (List Int)},(∀ l∈fs,DayB l)->0 < prd fs
 | [],_=>by show (0:Int) < 1; decide
 | d::fs,h=>by
  rw [prd]
  exact Int.mul_pos (fG λl hl=>h l (List.mem_cons_of_mem _ hl)) (h d (by simp)).pos
theorem ZgE {s:Shp} (h:s.Ok) {fs:List (List Int)} (hf:FOk fs) {d:Nat} {x:Int} (x1:reach fs - s.depth<=x) (x2:x<=s.top) {t:Nat} (ht:t+d < fs.length) (O:Sl) (acc:List PyData) (ha:acc.length<=100) (J8 J9 J10:Sl) :
  ∃ K8 K9 K10:Sl,rY [.d s.d,.d (fD fs),.d (.int d),.d (.int x),O,.d (cV (lw fs x (t+1)) (nn s fs x (t+1)) (aF s d (fs.drop (t+1)))),.own acc,.d (.int t),J8,J9,J10]=.ret (.next [.d s.d,.d (fD fs),.d (.int d),.d (.int x),O,.d (cV (lw fs x t) (nn s fs x t) (aF s d (fs.drop t))),.own (acc++[cG s d fs x t]),.d (.int t),K8,K9,K10]):=by
 have t0:=h.t0; have d0:=h.d0; have td:=h.td
 obtain ⟨day,hD⟩:=ZkF (show t < fs.length by omega)
 have hF:=hf.drop t
 have hFl:=hF.len
 have hr:FOk (fs.drop (t+1)):=hf.drop (t+1)
 have l1:=rS hf x1 t
 have l2:=rR hf x t
 have l3:=rS hf x1 (t+1)
 have l4:=rR hf x (t+1)
 have hw:lw fs x (t+1)=lw fs x t - great day:=by have:=ZbJ hD; unfold lw; omega
 have c1:=Zd4 hf (t:=t) (by omega) x
 have c2:=pT hF.B (by omega)
 have hrl:(fs.drop (t+1)).length=fs.length - (t+1):=List.length_drop
 rw [hD] at hF c2
 have hlen:=hF.len
 rw [List.length_cons] at hlen
 have c3:=ZkB h hF (d:=d) (by omega) (lo':=lw fs x (t+1)) (n':=nn s fs x (t+1)) (F:=aF s d (fs.drop (t+1))) (b:=712+160 * (fs.drop (t+1)).length) (λz z1 z2=>wU h hr z (by omega) (by unfold nn at z2; omega)) (by omega) (low:=lw fs x t) (by omega) (by omega) (λz hz=>by have:=sC hz; omega) (by unfold nn; omega)
 have p0:=fG hF.B
 have p1:=dI hF.B
 rw [List.length_cons] at p1
 have c4:=ZkC h (low:=lw fs x t) (by omega) (by omega) (g:=csm s d (day::fs.drop (t+1)) (aF s d (fs.drop (t+1)))) (b:=760+160 * (fs.drop (t+1)).length) (λz z1 z2=>ZeB h hF (wU h hr) (by omega) z2) (sc:=prd (day::fs.drop (t+1))) (bf p1 (by omega)) (Int.mul_nonneg (Int.le_of_lt p0) h.start0) (by omega)
 have em:(ao (lw fs x t) (s.top+1 - lw fs x t).toNat).map (λy=>PyData.int (csm s d (day::fs.drop (t+1)) (aF s d (fs.drop (t+1))) y))=((ao (lw fs x t) (s.top+1 - lw fs x t).toNat).map (csm s d (day::fs.drop (t+1)) (aF s d (fs.drop (t+1))))).map PyData.int:=by rw [List.map_map]; rfl
 rw [em] at c3
 have c5:=ZdW (g:=csm s d (day::fs.drop (t+1)) (aF s d (fs.drop (t+1)))) (top:=s.top) (K:=prd (day::fs.drop (t+1)) * s.start) (P:=prd (day::fs.drop (t+1)) * s.piece) (Int.ne_of_gt p0) (bf p1 (by omega)) (ao (lw fs x t) (s.top+1 - lw fs x t).toNat)
 have e6:aF s d (fs.drop t)=cst (csm s d (day::fs.drop (t+1)) (aF s d (fs.drop (t+1)))) s.top (prd (day::fs.drop (t+1)) * s.start) (prd (day::fs.drop (t+1)) * s.piece):=by rw [hD]; exact wV (by omega)
 have erow:cG s d fs x t=.tuple ((ao (lw fs x t) (s.top+1 - lw fs x t).toNat).map λy=>oa (cst (csm s d (day::fs.drop (t+1)) (aF s d (fs.drop (t+1)))) s.top (prd (day::fs.drop (t+1)) * s.start) (prd (day::fs.drop (t+1)) * s.piece) y) (prd (day::fs.drop (t+1))) (lvl (csm s d (day::fs.drop (t+1)) (aF s d (fs.drop (t+1)))) s.top (prd (day::fs.drop (t+1)) * s.start) y)):=by
  unfold cG nn
  rw [e6,hD]
  rfl
 rw [erow,e6]
 unfold nn
 have cf:=og fs t
 rw [hD] at cf
 have hlow:x - reach (fs.take t)=lw fs x t:=rfl
 rw [hlow] at c1
 unfold nn at c3
 generalize csm s d (day::fs.drop (t+1)) (aF s d (fs.drop (t+1)))=g at *
 generalize hK:prd (day::fs.drop (t+1))=B at *
 have hsm:small ((ao (lw fs x t) (s.top+1 - lw fs x t).toNat).map (dw g s.top (B * s.start) (B * s.piece))).length=true:=bF (by rw [List.length_map,gR]; omega)
 have hsm2:small (acc.length+1)=true:=bF (by omega)
 have hsm3:small (cz ((ao (lw fs x t) (s.top+1 - lw fs x t).toNat).map (dw g s.top (B * s.start) (B * s.piece)))).length=true:=bF (by rw [Zkg,List.length_map,gR]; omega)
 have ed:=Zej (g:=g) (top:=s.top) (K:=B * s.start) (P:=B * s.piece) (lo:=lw fs x t) (s.top+1 - lw fs x t).toNat 0
 rw [Int.natCast_zero,Int.add_zero] at ed
 have ee:cz ((ao (lw fs x t) (s.top+1 - lw fs x t).toNat).map (dw g s.top (B * s.start) (B * s.piece)))=(List.range' 0 (s.top+1 - lw fs x t).toNat).zipWith (λ(i:Nat) x=>PyData.tuple [.int i,x]) ((ao (lw fs x t) (s.top+1 - lw fs x t).toNat).map (dw g s.top (B * s.start) (B * s.piece))):=by
  unfold cz
  rw [List.length_map,gR,List.range_eq_range']
 rw [<- ee] at ed
 have edc:∀ X5 X6:Sl,gI (eF (aa 10)) 3 [8] (bq (aw (ai 0) (aw (bq (aw (ai 1) (aw (ai 2) bi))) bi))) qR qQ [.d s.d,.d (fD fs),.d (.int d),.d (.int x),O,X5,X6,.d (.int t),.d (.int (lw fs x t)),.d (.int B),.d (.list ((ao (lw fs x t) (s.top+1 - lw fs x t).toNat).map (dw g s.top (B * s.start) (B * s.piece))))]=.ret (cV (lw fs x t) (s.top+1 - lw fs x t).toNat (cst g s.top (B * s.start) (B * s.piece))):=λX5 X6 =>
  ZdS (xs:=cz ((ao (lw fs x t) (s.top+1 - lw fs x t).toNat).map (dw g s.top (B * s.start) (B * s.piece)))) (by simp_arith [List.isEmpty_cons]) hsm3 ed (Zer _ _ _)
 unfold lI at c4
 refine ⟨.d (.int (lw fs x t)),.d (.int B),.d (.list ((ao (lw fs x t) (s.top+1 - lw fs x t).toNat).map (dw g s.top (B * s.start) (B * s.piece)))),?_⟩
 simp_arith [rY,c1,cf,c2,c3,c4,hsm,c5,hsm2,edc]
theorem Zd1 {s:Shp} (h:s.Ok) {fs:List (List Int)} (hf:FOk fs) {d:Nat} (d1:d<=fs.length) {x:Int} (x1:reach fs - s.depth<=x) (x2:x<=s.top) :
  pj [.d s.d,.d (fD fs),.d (.int d),.d (.int x)]=.ret (.d (.tuple [.list (eN s d fs x (fs.length - d) (fs.length - d)).reverse,.int (aF s d fs x)])):=by
 have t0:=h.t0; have d0:=h.d0; have td:=h.td
 have hl:=hf.len
 generalize ho:fs.length - d=o
 have ho':(fs.length:Int) - d=(o:Int):=by omega
 have l1:=rS hf x1 o
 have l2:=rR hf x o
 have ea:=Zkz h hf (o:=o) (by omega) (x:=x) (by unfold lw at l1; omega) (by unfold lw at l2; omega)
 have hend:eD s (fs.drop o)=aF s d (fs.drop o):=(sY (by rw [List.length_drop]; omega)).symm
 rw [hend] at ea
 have hln:bh bJ [fD fs]=.ret (.int fs.length):=by
  unfold fD
  rw [dM,List.length_map]
 have r1:dU [.int (o:Int)]=.ret (bc 0 (o:Int)):=gu (dg (by omega) (by omega))
 apply Zfl
 simp -implicitDefEqProofs only [pj,jt,jr,mZ,mz,my,mR,h8,gx,jH,mj,l7,kR,l8,l5,kQ,lA,fL,cH,eU,gD,gC,gB,gA,ij,ii,ig,ie,kP,kO,jG,jz,jF,jE,jD,jC,jA,jB,mP,kJ,kM,mM,mO,kG,kH,kL,mL,mJ,mK,lP,lN,lO,kN,mi,mh,mf,jx,jw,kZ,kY,k9,k7,bF,mr,ml,fK,dM,mS,kW,kT,lB,lC,jv,ju,fj,fJ,kU,lz,ly,jL,jK,jJ,hX,jI,kD,kC,kB,kX,hZ,mV,mW,mY,mX,ky,kw,mU,mT,mx,ku,kr,me,lZ,lY,jY,jV,jU,jX,jW,jM,lH,lF,lG,kq,kn,km,kl,kj,ki,kh,kg,ke,jT,jS,jR,jQ,i6,i5,mD,mC,mB,lQ,kF,kE,mI,mH,mG,kc,kb,lR,jn,jp,jm,jl,jq,mF,mE,kK,jf,jd,jh,jj,je,kA,kz,lv,lu,lq,j8,j7,l9,md,ma,lW,lV,gt,cP,cy,lT,lU,lS,lp,lm,ll,iT,iU,iX,iW,ld,lg,lc,la,lh,lj,li,lJ,lL,lM,lK,mq,mn,lX,jP,jO,jN,mQ,h9,ji,j6,ka,j9,j4,jZ,gw,Tw.iG,Tw.iF,Tw.iE,Tw.gL,Tw.iD,Tw.iC,Tw.iB,Tw.iz,Tw.iy,kS,lD,iJ,Tr.of_some,Tr.bind_assoc,Tr.draw_bind,List.cons_append,List.nil_append,List.replicate_succ,List.replicate_zero,List.length_cons,List.length_nil,Re.val_d,Re.val_own,blk,gz,List.map_cons,List.map_nil,List.getElem?_cons_zero,List.getElem?_cons_succ,Option.getD_some,Nat.reduceAdd,Nat.reduceLeDiff,List.isEmpty_cons,hln,ho',ea,r1,nG]
 refine fP (n:=0) (n':=0) (P:=λz=>∃ J7 J8 J9 J10:Sl,z=.next [.d s.d,.d (fD fs),.d (.int d),.d (.int x),.d (.int o),.d (cV (lw fs x 0) (nn s fs x 0) (aF s d fs)),.own (eN s d fs x o o),J7,J8,J9,J10]) ?_ (by decide) ?_
 ·refine pZ (n:=0) (λpre ρ=>pre.length<=o/\∃ J7 J8 J9 J10:Sl,ρ=[.d s.d,.d (fD fs),.d (.int d),.d (.int x),.d (.int o),.d (cV (lw fs x (o - pre.length)) (nn s fs x (o - pre.length)) (aF s d (fs.drop (o - pre.length)))),.own (eN s d fs x o pre.length),J7,J8,J9,J10]) ⟨Nat.zero_le _,.un,.un,.un,.un,rfl⟩ (by simp) ?_ ?_
  ·rintro pre v post ρ e ⟨hp,J7,J8,J9,J10,rfl⟩
   obtain ⟨rfl,hpl⟩:=ZbA e
   have ht:(o:Int) - 1 - pre.length=((o - (pre.length+1):Nat):Int):=by omega
   rw [ht]
   refine ⟨_,rfl,?_⟩
   have hq:o - pre.length=o - (pre.length+1)+1:=by omega
   obtain ⟨K8,K9,K10,et⟩:=ZgE h hf (d:=d) x1 x2 (t:=o - (pre.length+1)) (by omega) (.d (.int o)) (eN s d fs x o pre.length) (by rw [Zby]; omega) J8 J9 J10
   rw [<- hq] at et
   show Al (rY [.d s.d,.d (fD fs),.d (.int d),.d (.int x),.d (.int o),.d (cV (lw fs x (o - pre.length)) (nn s fs x (o - pre.length)) (aF s d (fs.drop (o - pre.length)))),.own (eN s d fs x o pre.length),.d (.int ((o - (pre.length+1):Nat):Int)),J8,J9,J10]) _ _
   rw [et]
   refine dC ⟨_,rfl,?_,.d (.int ((o - (pre.length+1):Nat):Int)),K8,K9,K10,?_⟩
   ·rw [List.length_append]; show pre.length+1<=o; omega
   ·rw [List.length_append]
    rfl
  ·rintro ρ ⟨hp,J7,J8,J9,J10,rfl⟩
   refine ⟨J7,J8,J9,J10,?_⟩
   rw [List.length_reverse,dS,show ((o:Int) - 0).toNat=o by omega,Nat.sub_self,List.drop_zero]
 ·rintro _ ⟨J7,J8,J9,J10,rfl⟩
  have eg:aI fk (cV (lw fs x 0) (nn s fs x 0) (aF s d fs)) (.int x)=.ret (.int (aF s d fs x)):=by
   have e0:lw fs x 0=x:=by unfold lw; rw [List.take_zero]; show x - 0=x; omega
   unfold aI nn
   rw [e0,wj (Int.le_refl x) (by omega)]
   rfl
  simp -implicitDefEqProofs only [jt,jr,mZ,mz,my,mR,h8,gx,jH,mj,l7,kR,l8,l5,kQ,lA,fL,cH,eU,gD,gC,gB,gA,ij,ii,ig,ie,kP,kO,jG,jz,jF,jE,jD,jC,jA,jB,mP,kJ,kM,mM,mO,kG,kH,kL,mL,mJ,mK,lP,lN,lO,kN,mi,mh,mf,jx,jw,kZ,kY,k9,k7,bF,mr,ml,fK,dM,mS,kW,kT,lB,lC,jv,ju,fj,fJ,kU,lz,ly,jL,jK,jJ,hX,jI,kD,kC,kB,kX,hZ,mV,mW,mY,mX,ky,kw,mU,mT,mx,ku,kr,me,lZ,lY,jY,jV,jU,jX,jW,jM,lH,lF,lG,kq,kn,km,kl,kj,ki,kh,kg,ke,jT,jS,jR,jQ,i6,i5,mD,mC,mB,lQ,kF,kE,mI,mH,mG,kc,kb,lR,jn,jp,jm,jl,jq,mF,mE,kK,jf,jd,jh,jj,je,kA,kz,lv,lu,lq,j8,j7,l9,md,ma,lW,lV,gt,cP,cy,lT,lU,lS,lp,lm,ll,iT,iU,iX,iW,ld,lg,lc,la,lh,lj,li,lJ,lL,lM,lK,mq,mn,lX,jP,jO,jN,mQ,h9,ji,j6,ka,j9,j4,jZ,gw,Tw.iG,Tw.iF,Tw.iE,Tw.gL,Tw.iD,Tw.iC,Tw.iB,Tw.iz,Tw.iy,kS,lD,iJ,Tr.of_some,Tr.bind_assoc,Tr.draw_bind,List.cons_append,List.nil_append,List.replicate_succ,List.replicate_zero,List.length_cons,List.length_nil,Re.val_d,Re.val_own,blk,gz,List.map_cons,List.map_nil,List.getElem?_cons_zero,List.getElem?_cons_succ,Option.getD_some,Nat.reduceAdd,Nat.reduceLeDiff,List.isEmpty_cons,eg]
  exact dC rfl
end My
set_option Elab.async false
set_option linter.all false
set_option maxRecDepth 100000
set_option exponentiation.threshold 9000
namespace My
open PySem PySem.Spec PyProof.Rows L2 Tw Bar
noncomputable def drB (ρ:List Sl) (_:PyData):Tr Ou:=.ret (.next ρ)
theorem ZdQ {i:List Sl->Tr PyData} {ρ:List Sl}:sZ i ρ=(i ρ).bind (drB ρ):=rfl
theorem ZdR {ρ:List Sl} {x:PyData}:drB ρ x=.ret (.next ρ):=rfl
noncomputable def dY (s:Shp) (fs:List (List Int)) (x:Int):Nat->Int
 | 0=>0
 | t+1=>dY s fs x t+prd (fs.drop (t+1)) * ws (λf=>s.day x f) 0 (ca (fs.take (t+1)))
noncomputable def eC (s:Shp) (d:Nat) (fs:List (List Int)) (x:Int):Int:=aF s d fs x+dY s fs x d
theorem Zc0 {s:Shp} (h:s.Ok) {fs:List (List Int)} (hf:FOk fs) {x:Int} (hx:nb 20 x) (Dd T:Sl) (c:Int):∀ (n k:Nat) (J:Sl),k+n<=fs.length->∃ K:Sl,bK (ai 6) r6 ((ao k n).map PyData.int) [.d s.d,.d (fD fs),Dd,.d (.int x),T,.d (.int (c+dY s fs x k)),J]=.ret (.next [.d s.d,.d (fD fs),Dd,.d (.int x),T,.d (.int (c+dY s fs x (k+n))),K])
 | 0,k,J,_=>⟨J,rfl⟩
 | n+1,k,J,hk=>by
  obtain ⟨K,e⟩:=Zc0 h hf hx Dd T c n (k+1) (.d (.int k)) (by omega)
  refine ⟨K,?_⟩
  have e1:=pT (hf.drop (k+1)).B (by have:=(hf.drop (k+1)).len; omega)
  have e2:=wa (hf.take (k+1)).P (by have:=(hf.take (k+1)).len; omega)
  obtain ⟨w1,w2⟩:=oy (hf.take (k+1))
  have e3:=ZdZ h w1 (by decide) (by omega) hx
  have c1:dc (fD fs) (some ((k:Int)+1)) none=.ret (fD (fs.drop (k+1))):=og fs (k+1)
  have c2:dc (fD fs) none (some ((k:Int)+1))=.ret (fD (fs.take (k+1))):=sL fs (t:=k+1) (by omega)
  have p2:=dI (hf.drop (k+1)).B
  have q1:(fs.drop (k+1)).length<=6:=(hf.drop (k+1)).len
  have f1:=aQ p2 (by omega)
  have f2:=aQ (ir (k:=0) (f:=λf=>s.day x f) (a:=280) (b:=100) w1 λz x1 x2=>sK h hx (b6 (by show -1099511627776 < z; omega) (by show z < 1099511627776; omega))) (by omega)
  have et:r6 [.d s.d,.d (fD fs),Dd,.d (.int x),T,.d (.int (c+dY s fs x k)),.d (.int k)]=.ret (.next [.d s.d,.d (fD fs),Dd,.d (.int x),T,.d (.int (c+dY s fs x (k+1))),.d (.int k)]):=by
   simp_arith [r6,c1,e1,c2,e2,e3,f1,f2,dY,Int.add_assoc]
  have eg:ai 6 (.int (k:Int)) [.d s.d,.d (fD fs),Dd,.d (.int x),T,.d (.int (c+dY s fs x k)),J]=some [.d s.d,.d (fD fs),Dd,.d (.int x),T,.d (.int (c+dY s fs x k)),.d (.int k)]:=rfl
  rw [show ((k+1:Nat):Int)=(k:Int)+1 by omega] at e
  rw [iK,List.map_cons,dB,eg,Tr.of_some,Tr.ret_bind,cP,et,Tr.ret_bind,cy,e,show k+1+n=k+(n+1) by omega]
theorem Zkt {s:Shp} (h:s.Ok) {fs:List (List Int)} (hf:FOk fs) {d:Nat} (d1:d<=fs.length) {x:Int} (x1:reach fs - s.depth<=x) (x2:x<=s.top) :
  rB [.d s.d,.d (fD fs),.d (.int d),.d (.int x)]=.ret (.d (nD (eC s d fs x) (prd fs))):=by
 have t0:=h.t0; have d0:=h.d0; have td:=h.td
 have hl:=hf.len
 have hr:=iI (fs:=fs) λl hl=>(hf.b l hl).2
 have hx:nb 20 x:=b6 (by show -1048576 < x; omega) (by show x < 1048576; omega)
 have e1:=Zd6 hf x1
 have e2:=Zd1 h hf d1 x1 x2
 obtain ⟨K,e3⟩:=Zc0 h hf hx (.d (.int d)) (.d (.list (eN s d fs x (fs.length - d) (fs.length - d)).reverse)) (aF s d fs x) d 0 .un (by omega)
 have e4:=pT hf.B (by omega)
 have r1:dU [.int (d:Int)]=.ret (bc 0 (d:Int)):=gu (dg (by omega) (by omega))
 have er:bc 0 (d:Int)=(ao ((0:Nat):Int) d).map PyData.int:=by
  unfold bc
  rw [show ((d:Int) - 0).toNat=d by omega]
  rfl
 have p1:=dI hf.B
 have e5:=Zd0 (t:=aF s d fs x+dY s fs x d) (b:=prd fs) (Int.ne_of_gt (fG hf.B)) (bf p1 (by omega))
 have ez:aF s d fs x+dY s fs x 0=aF s d fs x:=Int.add_zero _
 rw [ez,Nat.zero_add] at e3
 simp -implicitDefEqProofs only [rB,jt,jr,mZ,mz,my,mR,h8,gx,jH,mj,l7,kR,l8,l5,kQ,lA,fL,cH,eU,gD,gC,gB,gA,ij,ii,ig,ie,kP,kO,jG,jz,jF,jE,jD,jC,jA,jB,mP,kJ,kM,mM,mO,kG,kH,kL,mL,mJ,mK,lP,lN,lO,kN,mi,mh,mf,jx,jw,kZ,kY,k9,k7,bF,mr,ml,fK,dM,mS,kW,kT,lB,lC,jv,ju,fj,fJ,kU,lz,ly,jL,jK,jJ,hX,jI,kD,kC,kB,kX,hZ,mV,mW,mY,mX,ky,kw,mU,mT,mx,ku,kr,me,lZ,lY,jY,jV,jU,jX,jW,jM,lH,lF,lG,kq,kn,km,kl,kj,ki,kh,kg,ke,jT,jS,jR,jQ,i6,i5,mD,mC,mB,lQ,kF,kE,mI,mH,mG,kc,kb,lR,jn,jp,jm,jl,jq,mF,mE,kK,jf,jd,jh,jj,je,kA,kz,lv,lu,lq,j8,j7,l9,md,ma,lW,lV,gt,cP,cy,lT,lU,lS,lp,lm,ll,iT,iU,iX,iW,ld,lg,lc,la,lh,lj,li,lJ,lL,lM,lK,mq,mn,lX,jP,jO,jN,mQ,h9,ji,j6,ka,j9,j4,jZ,gw,Tw.iG,Tw.iF,Tw.iE,Tw.gL,Tw.iD,Tw.iC,Tw.iB,Tw.iz,Tw.iy,kS,lD,iJ,Tr.of_some,Tr.bind_assoc,Tr.draw_bind,List.cons_append,List.nil_append,List.replicate_succ,List.replicate_zero,List.length_cons,List.length_nil,Re.val_d,Re.val_own,blk,gz,List.map_cons,List.map_nil,List.getElem?_cons_zero,List.getElem?_cons_succ,Option.getD_some,Nat.reduceAdd,Nat.reduceLeDiff,List.isEmpty_cons,ZdQ,ZdR,e1,e2,r1,er,e3,e4,e5]
 rfl
theorem Zkm {s:Shp} (h:s.Ok) {fs:List (List Int)} (hf:FOk fs) {d:Nat} (d1:d<=fs.length) {x:Int} (x1:reach fs - s.depth<=x) (x2:x<=s.top) :
  rz [.d s.d,.d (fD fs),.d (.int d),.d (.int x)]=.ret (.d (.tuple (eN s d fs x (fs.length - d) (fs.length - d)).reverse)):=by
 have e1:=Zd6 hf x1
 have e2:=Zd1 h hf d1 x1 x2
 simp_arith [rz,ZdQ,ZdR,e1,e2]
end My
set_option Elab.async false
set_option linter.all false
set_option maxRecDepth 100000
set_option exponentiation.threshold 9000
namespace My
open PySem PySem.Spec PyProof.Rows L2 Tw Bar
theorem wk (s:Shp) (y f w:Int):s.day (y - f) w=s.day y (f+w):=by
 have e:y - f - w=y - (f+w):=by omega
 unfold Shp.day Shp.nx
 rw [e]
theorem tM {day:List Int} {T:List (List Int)} (h:∀ l∈day::T,0 < l.length) (f:Int->Int):ws f 0 (ca (day::T))=ws (λi=>ws (λj=>f (i+j)) 0 (ca T)) 0 day:=by
 rw [tK f h,sv]
 exact d9 λi _=>(tK _ λl hl=>h l (List.mem_cons_of_mem _ hl)).symm
end My
set_option Elab.async false
set_option linter.all false
set_option maxRecDepth 100000
set_option exponentiation.threshold 9000
namespace My
open PySem PySem.Spec PyProof.Rows L2 Tw
theorem ZkP (s:Shp) (y f:Int):s.keep * ci (s.nx y f) 0+s.lack * ci (0 - s.nx y f) 0+s.lost * (s.nx y f - y+f)=s.day y f:=by
 unfold Shp.day
 have e:s.nx y f - y+f=s.nx y f - (y - f):=by omega
 rw [e]
 generalize s.nx y f=z
 unfold ci
 by_cases hz:z > 0
 ·rw [if_neg (by omega),if_pos (by omega),if_pos hz,Int.mul_zero,Int.add_zero]
 ·rw [if_neg hz]
  by_cases h0:z=0
  ·subst h0; simp
  ·rw [if_pos (by omega),if_neg (by omega),Int.mul_zero,Int.zero_add]
   have e2:0 - z=-z:=by omega
   rw [e2]
theorem ZjY (s:Shp) (x:Int):s.late * ci (0 - x) 0 - s.back * ci x 0=s.fin x:=by
 unfold Shp.fin ci
 by_cases hx:x > 0
 ·rw [if_pos (by omega),if_neg (by omega),if_pos hx,Int.mul_zero,Int.neg_mul]
  omega
 ·rw [if_neg hx]
  by_cases h0:x=0
  ·subst h0; simp
  ·rw [if_neg (by omega),if_pos (by omega),Int.mul_zero,Int.sub_zero]
   have e2:0 - x=-x:=by omega
   rw [e2]
theorem Zil (s:Shp) (y f:Int):ci (y - f) (0 - s.depth)=s.nx y f:=by
 unfold Shp.nx
 have e:0 - s.depth=-s.depth:=by omega
 rw [e]
end My
set_option Elab.async false
set_option linter.all false
set_option maxRecDepth 100000
set_option exponentiation.threshold 9000
namespace My
open PySem PySem.Spec PyProof.Rows L2 Tw Bar
section
variable (s:Shp) (r:Int->Int)
noncomputable def eR:List (List Int)->Int->List Int->Int
 | day::rest,x,a::l=>ws (λf=>r (x+a - f) * b8 rest+eR rest (x+a - f) l) 0 day
 | _,_,_=>0
noncomputable def lE:List (List Int)->Nat->Int->Int
 | [],_,_=>0
 | day::rest,0,z=>ws (λf=>r (z - f) * b8 rest) 0 day
 | day::rest,k+1,z=>ws (λf=>lE rest k (z - f)) 0 day
end
theorem wc (r:Int->Int) (fs:List (List Int)) (x:Int):eR r fs x []=0:=by
 cases fs with
 | nil=>rfl
 | cons d fs=>rfl
theorem wb (r:Int->Int):∀ (fs:List (List Int)) (l:List Int) (x p:Int),eR r fs x (l++[p])=eR r fs x l+lE r fs l.length (x+l.sum+p)
 | [],l,x,p=>by cases l <;> rfl
 | day::rest,[],x,p=>by
  rw [wc,Int.zero_add,List.nil_append,eR]
  show _=lE r (day::rest) 0 (x+([]:List Int).sum+p)
  rw [lE]
  refine d9 λf _=>?_
  rw [wc,Int.add_zero,show x+([]:List Int).sum+p=x+p by simp]
 | day::rest,a::l,x,p=>by
  rw [List.cons_append,eR,eR,List.length_cons,lE,<- qy]
  refine d9 λf _=>?_
  rw [wb r rest l (x+a - f) p,List.sum_cons,show x+a - f+l.sum+p=x+(a+l.sum)+p - f by omega]
  omega
theorem fO:∀ fs:List (List Int),b8 fs=prd fs
 | []=>rfl
 | d::fs=>by rw [b8,prd,fO fs,Int.mul_comm]
theorem Zaf (f:Int->Int):ws f 0 (ca [])=f 0:=by
 show ws f 0 [1]=f 0
 rw [ws,ws]
 show 1 * f ((0:Nat):Int)+0=f 0
 have:((0:Nat):Int)=0:=rfl
 rw [this]
 omega
theorem Zde (r:Int->Int):∀ (fs:List (List Int)) (d:Nat) (z:Int),fs.length<=d->lE r fs d z=0
 | [],d,z,_=>by rw [lE]
 | day::rest,0,z,h=>by simp at h
 | day::rest,d+1,z,h=>by
  rw [lE]
  rw [List.length_cons] at h
  have:ws (λf=>lE r rest d (z - f)) 0 day=ws (λ_=>0) 0 day:=d9 λf _=>Zde r rest d _ (by omega)
  rw [this,qx,Int.zero_mul]
theorem sj (s:Shp):∀ (fs:List (List Int)) (d:Nat) (y:Int),(∀ l∈fs,0 < l.length)->d < fs.length->lE (λz=>s.day z 0) fs d y=prd (fs.drop (d+1)) * ws (λf=>s.day y f) 0 (ca (fs.take (d+1)))
 | [],d,y,_,h=>by simp at h
 | day::rest,0,y,hl,_=>by
  have h1:∀ l∈[day],0 < l.length:=λl h=>by
   have e:l=day:=by simpa using h
   rw [e]
   exact hl day (by simp)
  rw [lE,List.take_succ_cons,List.take_zero,List.drop_succ_cons,List.drop_zero,tM h1,<- tP,fO]
  refine d9 λf _=>?_
  rw [Zaf,wk,Int.mul_comm]
 | day::rest,d+1,y,hl,h=>by
  rw [List.length_cons] at h
  have hl':∀ l∈rest,0 < l.length:=λl q=>hl l (List.mem_cons_of_mem _ q)
  rw [lE,List.take_succ_cons,List.drop_succ_cons,tM (λl q=>hl l (by
   rcases List.mem_cons.mp q with rfl | q
   ·simp
   ·exact List.mem_cons_of_mem _ (List.mem_of_mem_take q))),<- tP]
  refine d9 λf _=>?_
  rw [sj s rest d (y - f) hl' (by omega)]
  have:(λw=>s.day (y - f) w)=λw=>s.day y (f+w):=funext λw=>wk s y f w
  rw [this]
theorem tQ {f g:Int->Int}:∀ {l:List Int} {k:Nat},(∀ (j:Nat) (n:Int),l[j]?=some n->n≠0->f ((k+j:Nat):Int)=g ((k+j:Nat):Int))->ws f k l=ws g k l
 | [],k,_=>rfl
 | n::l,k,h=>by
  have ih:=tQ (f:=f) (g:=g) (l:=l) (k:=k+1) λj m e hm=>by
   have:=h (j+1) m (by rw [List.getElem?_cons_succ]; exact e) hm
   rw [show k+(j+1)=k+1+j by omega] at this
   exact this
  rw [ws,ws,ih]
  by_cases e:n=0
  ·rw [e,Int.zero_mul,Int.zero_mul]
  ·have:=h 0 n rfl e
   rw [Nat.add_zero] at this
   rw [this]
theorem ZaR:∀ {ns:List Int} {k i:Nat} {v:Int},ns[i]?=some v->0 < v->((k+i:Nat):Int)∈bT k ns
 | [],k,i,v,h,_=>by simp at h
 | n::ns,k,0,v,h,hv=>by
  simp at h
  subst h
  rw [bT,if_pos hv]
  exact List.mem_cons_self ..
 | n::ns,k,i+1,v,h,hv=>by
  have ih:=ZaR (ns:=ns) (k:=k+1) (i:=i) (by simpa using h) hv
  have e:k+1+i=k+(i+1):=by omega
  rw [e] at ih
  rw [bT]
  split
  ·exact List.mem_cons_of_mem _ ih
  ·exact ih
theorem ZdC {one:List Int} {k:Nat} {v:Int} (h:one[k]?=some v) (hv:0 < v):(k:Int)<=great one:=by
 have hm:=ZaR (k:=0) h hv
 rw [Nat.zero_add] at hm
 exact (nS (List.ne_nil_of_mem hm)).2 _ hm
theorem ZgX {s:Shp} {z:Int} (h:-s.depth<=z):dH s z=s.day z 0:=by
 have e:s.nx z 0=z:=by
  rw [<- Zil,Int.sub_zero]
  unfold ci
  split <;> omega
 have:=ZkP s z 0
 rw [e] at this
 unfold dH
 rw [<- this,show z - z+0=0 by omega,Int.mul_zero,Int.add_zero]
theorem Zd7 (s:Shp) (fs:List (List Int)) (x:Int) (hl:∀ l∈fs,0 < l.length):∀ d:Nat,d<=fs.length->eR (λz=>s.day z 0) fs x (List.replicate d 0)=dY s fs x d
 | 0,_=>by rw [dY]; exact wc _ _ _
 | d+1,h=>by
  have es:(List.replicate d (0:Int)).sum=0:=by
   clear h
   induction d with
   | zero=>rfl
   | succ d ih=>rw [List.replicate_succ,List.sum_cons,ih]; rfl
  rw [List.replicate_succ',wb,Zd7 s fs x hl d (by omega),List.length_replicate,es,dY,sj s fs d _ hl (by omega),show x+0+0=x by omega]
noncomputable def OptP (s:Shp) (d:Nat):List (List Int)->List (Int×Int)->Int->Prop
 | [],P,_=>P=[]
 | day::rest,P,low=>if d<=rest.length then ∃ p P',P=p::P'/\(∀ c,low<=c->c<=s.top->0<=rse p c/\c+rse p c<=s.top/\oh (csm s d (day::rest) (aF s d rest)) (prd (day::rest) * s.start) c (c+rse p c)=(pck (csm s d (day::rest) (aF s d rest)) s.top (prd (day::rest) * s.start) c).1)/\OptP s d rest P' (low - great day) else P=[]
theorem OptP.nil {s:Shp} {d:Nat} {rest:List (List Int)} {low:Int} (h:rest.length < d):OptP s d rest [] low:=by
 cases rest with
 | nil=>rfl
 | cons a l =>
  rw [List.length_cons] at h
  rw [OptP,if_neg (by omega)]
theorem OptP.now {s:Shp} {d:Nat} {day:List Int} {rest:List (List Int)} {P:List (Int×Int)} {low:Int} (h:OptP s d (day::rest) P low) {c:Int} (c1:low<=c) (c2:c<=s.top):0<=bU P c/\c+bU P c<=s.top/\OptP s d rest (P.drop 1) (low - great day):=by
 rw [OptP] at h
 by_cases q:d<=rest.length
 ·rw [if_pos q] at h
  obtain ⟨p,P',rfl,h1,h2⟩:=h
  obtain ⟨a1,a2,_⟩:=h1 c c1 c2
  exact ⟨a1,a2,h2⟩
 ·rw [if_neg q] at h
  subst h
  exact ⟨Int.le_refl 0,by show c+0<=_; omega,OptP.nil (by omega)⟩
theorem OptP.cost {s:Shp} {d:Nat} (d1:1<=d) {day:List Int} {rest:List (List Int)} (hl:∀ l∈day::rest,0 < l.length) {P:List (Int×Int)} {low:Int} (h:OptP s d (day::rest) P low) {c:Int} (c1:low<=c) (c2:c<=s.top) :
  eu s (bU P c) * b8 (day::rest)+(lE (λz=>s.day z 0) (day::rest) d (c+bU P c)+ws (λf=>aF s d rest (c+bU P c - f)) 0 day)=aF s d (day::rest) c:=by
 rw [OptP] at h
 by_cases q:d<=rest.length
 ·rw [if_pos q] at h
  obtain ⟨p,P',rfl,h1,-⟩:=h
  obtain ⟨a1,a2,a3⟩:=h1 c c1 c2
  have e0:bU (p::P') c=rse p c:=rfl
  rw [e0]
  generalize rse p c=y at *
  rw [wV q,sj s _ _ _ hl (by rw [List.length_cons]; omega),fO]
  unfold cst
  rw [<- a3]
  have ec:csm s d (day::rest) (aF s d rest) (c+y)=prd (day::rest) * s.piece * (c+y)+prd ((day::rest).drop (d+1)) * ws (λf=>s.day (c+y) f) 0 (ca ((day::rest).take (d+1)))+ws (λf=>aF s d rest (c+y - f)) 0 day:=rfl
  unfold oh eu
  rw [ec]
  generalize prd (day::rest)=p
  generalize prd ((day::rest).drop (d+1)) * ws (λf=>s.day (c+y) f) 0 (ca ((day::rest).take (d+1)))=A
  generalize ws (λf=>aF s d rest (c+y - f)) 0 day=B
  by_cases q:c < c+y
  ·rw [if_pos q,if_pos (by omega)]; grind
  ·have:y=0:=by omega
   rw [if_neg q,if_neg (by omega),this]; grind
 ·rw [if_neg q] at h
  subst h
  have e0:bU [] c=0:=rfl
  have hd':(day::rest).length<=d:=by rw [List.length_cons]; omega
  rw [e0,Int.add_zero,sY hd',Zde _ _ _ _ hd']
  have e1:eu s 0=0:=by unfold eu; rw [if_neg (by omega)]
  rw [e1,Int.zero_mul,Int.zero_add,Int.zero_add]
  unfold eD
  rw [tM hl]
  refine d9 λf _=>?_
  rw [sY (by omega)]
  unfold eD
  have:(λj=>s.fin (c - f - j))=λj=>s.fin (c - (f+j)):=funext λj=>by rw [show c - f - j=c - (f+j) by omega]
  rw [this]
theorem Zau {s:Shp} {d:Nat} (d1:1<=d):∀ (fs:List (List Int)) (P:List (Int×Int)) (low x:Int) (way:List Int),(∀ l∈fs,DayB l/\∃ n∈l,n > 0)->OptP s d fs P low->way.length=d->(∀ a∈way,0<=a)->low<=x+way.sum->x+way.sum<=s.top->reach fs - s.depth<=x ->
  vP s fs P x way=eR (λz=>s.day z 0) fs x way+aF s d fs (x+way.sum)
 | [],P,low,x,way,_,_,_,_,_,_,_=>by
  have:eR (λz=>s.day z 0) [] x way=0:=by cases way <;> rfl
  rw [vP,this,aF,Int.zero_add]
  unfold eD pS
  rw [Zaf,ZjY,Int.sub_zero]
 | day::rest,P,low,x,[],_,_,hw,_,_,_,_=>by
  have:(0:Nat)=d:=hw
  omega
 | day::rest,P,low,x,a::l,hf,ho,hw,h0,c1,c2,hx=>by
  have hw':l.length+1=d:=hw
  have hf':∀ l∈rest,DayB l/\∃ n∈l,n > 0:=λl hl=>hf l (List.mem_cons_of_mem _ hl)
  have hl:∀ l∈day::rest,0 < l.length:=λl hl=>by obtain ⟨n,hn,-⟩:=(hf l hl).2; exact List.length_pos_of_mem hn
  have r0:=iI (fs:=rest) λl hl=>(hf' l hl).2
  have dd:=(hf day (by simp)).1
  rw [e9] at hx
  have a0:=h0 a (by simp)
  obtain ⟨p0,p1,ho'⟩:=ho.now c1 c2
  have hc:=ho.cost d1 hl c1 c2
  rw [vP,eR]
  generalize bU P (x+(a::l).sum)=p at *
  have es:(a::l).sum=a+l.sum:=List.sum_cons
  have key:ws (λf=>dH s (x+(a::l).headD 0 - f) * b8 rest+vP s rest (P.drop 1) (x+(a::l).headD 0 - f) ((a::l).drop 1++[p])) 0 day=ws (λf=>(λz=>s.day z 0) (x+a - f) * b8 rest+eR (λz=>s.day z 0) rest (x+a - f) l) 0 day+(lE (λz=>s.day z 0) (day::rest) d (x+(a::l).sum+p)+ws (λf=>aF s d rest (x+(a::l).sum+p - f)) 0 day):=by
   have el:lE (λz=>s.day z 0) (day::rest) d (x+(a::l).sum+p)=ws (λf=>lE (λz=>s.day z 0) rest l.length (x+(a::l).sum+p - f)) 0 day:=by rw [<- hw']; rfl
   rw [el,<- qy,<- qy]
   refine tQ λj n e hn=>?_
   have n0:=dd.w0 n (List.mem_of_getElem? e)
   have hg:=ZdC e (by omega)
   rw [Nat.zero_add]
   have s1:(l++[p]).sum=l.sum+p:=by rw [List.sum_append]; simp
   show dH s (x+a - (j:Int)) * b8 rest+vP s rest (P.drop 1) (x+a - (j:Int)) (l++[p])=_
   rw [ZgX (show -s.depth<=x+a - (j:Int) by omega),Zau d1 rest (P.drop 1) (low - great day) (x+a - (j:Int)) (l++[p]) hf' ho' (by rw [List.length_append]; exact hw') (λv hv=>by
    rcases List.mem_append.mp hv with q | q
    ·exact h0 v (List.mem_cons_of_mem _ q)
    ·have:v=p:=by simpa using q
     omega) (by rw [s1]; omega) (by rw [s1]; omega) (by omega),wb,s1]
   have e1:x+a - (j:Int)+l.sum+p=x+(a::l).sum+p - (j:Int):=by omega
   have e2:x+a - (j:Int)+(l.sum+p)=x+(a::l).sum+p - (j:Int):=by omega
   rw [e1,e2]
   dsimp only
   omega
  rw [key,<- hc]
  dsimp only
  omega
end My
set_option Elab.async false
set_option linter.all false
set_option maxRecDepth 100000
set_option exponentiation.threshold 9000
namespace My
open PySem PySem.Spec PyProof.Rows L2 Tw Bar
noncomputable abbrev FP (fs:List (List Int)):Prop:=∀ l∈fs,DayB l/\∃ n∈l,n > 0
theorem FP.tl {d:List Int} {fs:List (List Int)} (h:FP (d::fs)):FP fs:=λl hl=>h l (List.mem_cons_of_mem _ hl)
theorem FP.r0 {fs:List (List Int)} (h:FP fs):0<=reach fs:=iI λl hl=>(h l hl).2
theorem FP.B {fs:List (List Int)} (h:FP fs):∀ l∈fs,DayB l:=λl hl=>(h l hl).1
theorem Zjm {K K' a b:Int} {g:Int->Int} (h:KC K a b g) (e:K=K'):KC K' a b g:=e ▸ h
theorem Zdj {s:Shp} (c:s.Cv):∀ (fs:List (List Int)) (d:Nat),FP fs->KC 0 (reach fs - s.depth) s.top (lE (λz=>s.day z 0) fs d)
 | [],d,_=>λu v w h1 h2 h3 h4=>by
  show (w - u) * 0<=(w - v) * 0+(v - u) * (0+0)
  simp
 | day::rest,0,h=>by
  have dd:=(h day (by simp)).1
  have r0:=h.tl.r0
  have b0:0<=b8 rest:=by rw [fO]; exact Int.le_of_lt (fG h.tl.B)
  have k:=nY (K:=0) (a:=reach (day::rest) - s.depth) (b:=s.top) (F:=λy f=>(λz=>s.day z 0) (y - f) * b8 rest) (l:=day) (k:=0) dd.w0 λf hf=>by
   have f1:=sC hf
   have e:=(Zjl c (a:=reach (day::rest) - s.depth) (b:=s.top) (f:=f) (by rw [e9]; omega)).mul b0
   rw [Int.mul_zero] at e
   refine e.congr λy _ _=>?_
   show s.day (y - f) 0 * b8 rest=b8 rest * s.day y f
   rw [wk,Int.add_zero,Int.mul_comm]
  rw [Int.mul_zero] at k
  exact k
 | day::rest,d+1,h=>by
  have dd:=(h day (by simp)).1
  have ih:=Zdj c rest d h.tl
  have k:=nY (K:=0) (a:=reach (day::rest) - s.depth) (b:=s.top) (F:=λy f=>lE (λz=>s.day z 0) rest d (y - f)) (l:=day) (k:=0) dd.w0 λf hf=>by
   have f0:=(nA hf).1
   have f1:=sC hf
   exact ((ih.shift (c:=f)).sub (a':=reach (day::rest) - s.depth) (by rw [e9]; omega)).subR (b':=s.top) (by omega)
  rw [Int.mul_zero] at k
  exact k
theorem Zdk {s:Shp} (c:s.Cv) {fs:List (List Int)} (h:FP fs) (a b:Int):KC 0 a b (eD s fs):=by
 have h1:∀ w∈[(1:Int)],0<=w:=λw hw=>by
  have e:w=1:=by simpa using hw
  omega
 have k:=nY (K:=0) (a:=a) (b:=b) (F:=λy f=>s.fin (y - f)) (l:=ca fs) (k:=0) (tL fs [1] h.B h1) λf hf=>by
  have e:=(Zjk c (a - f) (b - f)).shift (c:=f)
  rw [show a - f+f=a by omega,show b - f+f=b by omega] at e
  exact e
 rw [Int.mul_zero] at k
 exact k
theorem vQ {s:Shp} (c:s.Cv) {d:Nat} {day:List Int} {rest:List (List Int)} (h:FP (day::rest)) (hd:d<=rest.length) {F:Int->Int} {K:Int} (hF:KC (prd rest * K) (reach rest - s.depth) s.top F):KC (prd (day::rest) * K) (reach (day::rest) - s.depth) s.top (csm s d (day::rest) F):=by
 have dd:=(h day (by simp)).1
 have hl:∀ l∈day::rest,0 < l.length:=λl hl=>by obtain ⟨n,hn,-⟩:=(h l hl).2; exact List.length_pos_of_mem hn
 have k1:=Zdi (prd (day::rest) * s.piece) (reach (day::rest) - s.depth) s.top
 have k2:=Zdj c (day::rest) d h
 have k3:=nY (K:=prd rest * K) (a:=reach (day::rest) - s.depth) (b:=s.top) (F:=λy f=>F (y - f)) (l:=day) (k:=0) dd.w0 λf hf=>by
  have f0:=(nA hf).1
  have f1:=sC hf
  exact ((hF.shift (c:=f)).sub (a':=reach (day::rest) - s.depth) (by rw [e9]; omega)).subR (b':=s.top) (by omega)
 refine (Zjm ((k1.add k2).add k3) (by rw [prd]; grind)).congr λy _ _=>?_
 show _=prd (day::rest) * s.piece * y+lE (λz=>s.day z 0) (day::rest) d y+ws (λf=>F (y - f)) 0 day
 rw [sj s _ _ _ hl (by rw [List.length_cons]; omega)]
 rfl
theorem vR {s:Shp} (c:s.Cv) (s0:0<=s.start) {d:Nat}:∀ {fs:List (List Int)},FP fs->KC (prd fs * s.start) (reach fs - s.depth) s.top (aF s d fs)
 | [],h=>(Zdk c h _ _).mono (Int.mul_nonneg (Int.le_of_lt (fG h.B)) s0)
 | day::rest,h=>by
  by_cases hd:d<=rest.length
  ·have h1:=vQ c h hd (vR c s0 (d:=d) h.tl)
   have hK:0<=prd (day::rest) * s.start:=Int.mul_nonneg (Int.le_of_lt (fG h.B)) s0
   have h2:=(Zjj hK h1).add (Zdi (-(prd (day::rest) * s.piece)) (reach (day::rest) - s.depth) s.top)
   rw [Int.add_zero] at h2
   rw [wV hd]
   refine h2.congr λx _ _=>?_
   unfold cst
   grind
  ·rw [sY (by rw [List.length_cons]; omega)]
   exact (Zdk c h _ _).mono (Int.mul_nonneg (Int.le_of_lt (fG h.B)) s0)
theorem ZiB {K a top:Int} {g:Int->Int} (hK:0<=K) (h:KC K a top g) {least L G:Int} (l0:a<=least) (l1:least<=top) (hm:Mk g top K least L G) :
  ∃ m:Nat,L=least+m/\(m:Int)<=top - least/\(∀ i:Nat,i < m->lvl g top K (least+i)=G/\least+i < G)/\(∀ i:Nat,m<=i->(i:Int)<=top - least->lvl g top K (least+i)=least+i)/\(m=0->G=least)/\G<=top:=by
 cases hm with
 | own h1=>exact ⟨0,by omega,by omega,λi hi=>by omega,λi _ hi=>h1 _ (by omega) (by omega),λ_=>rfl,l1⟩
 | two y G h1 h2 h3 h4 h5 h6 h7 =>
  obtain ⟨m,hm⟩:∃ m:Nat,y+1 - least=(m:Int):=⟨(y+1 - least).toNat,by omega⟩
  refine ⟨m,by omega,by omega,λi hi=>⟨?_,by omega⟩,λi hi hi2=>h5 _ (by omega) (by omega),λe=>by omega,h3⟩
  obtain ⟨z,hz⟩:∃ z,least+(i:Int)=z:=⟨_,rfl⟩
  rw [hz]
  by_cases ezy:z=y
  ·rw [ezy]; exact h4
  have yG:K+g G < g y:=by
   obtain ⟨_,_,q⟩:=f9 (g:=g) (top:=top) (K:=K) (x:=y) (by omega)
   unfold lvl at h4
   rcases q with ⟨q1,_⟩ | ⟨_,q2,q3⟩
   ·omega
   ·rw [h4] at q2; omega
  have zG:=sr h (z:=z) (by omega) (by omega) h2 h3 yG
  have c6:=h6 z (by omega) (by omega)
  obtain ⟨w1,w2,q⟩:=f9 (g:=g) (top:=top) (K:=K) (x:=z) (by omega)
  have pl:=λu=>u4 (g:=g) (top:=top) (K:=K) (x:=z) (y:=u) (by omega)
  unfold lvl
  rcases q with ⟨_,q2⟩ | ⟨q1,q2,q3⟩
  ·omega
  ·generalize (pck g top K z).2=w at *
   have eg:g w=g G:=by omega
   by_cases c1:w<=y
   ·by_cases e:w=y
    ·subst e; omega
    ·have:=sr h (z:=w) (by omega) (by omega) h2 h3 yG
     omega
   ·by_cases c2:w < G
    ·have:=u4 (g:=g) (top:=top) (K:=K) (x:=y) (y:=w) (by omega) (by omega) (by unfold lvl at h4; rw [h4]; exact c2)
     have c7:=h6 y (by omega) (Int.le_refl _)
     omega
    ·by_cases c3:G < w
     ·have:=pl G (by omega) c3
      omega
     ·omega
theorem ZiC {g:Int->Int} {top K least L G:Int} (h:Mk g top K least L G) {x:Int} (x1:least<=x):eQ (L,G) x=x+rse (L,G) x:=by
 unfold eQ rse
 cases h with
 | own=>dsimp only; rw [if_neg (by omega),if_neg (by omega)]; omega
 | two y G h1 h2 =>
  dsimp only
  by_cases c:x < y+1
  ·rw [if_pos c,if_pos c,if_pos (by omega)]; omega
  ·rw [if_neg c,if_neg c]; omega
inductive MkP (s:Shp) (d:Nat):List (List Int)->List (Int×Int)->Int->Prop where
 | done {fs:List (List Int)} {low:Int}:fs.length<=d->MkP s d fs [] low
 | day {day:List Int} {rest:List (List Int)} {P:List (Int×Int)} {low L G:Int}:d<=rest.length->Mk (csm s d (day::rest) (aF s d rest)) s.top (prd (day::rest) * s.start) low L G->MkP s d rest P (low - great day)->MkP s d (day::rest) ((L,G)::P) low
theorem ZdB {day:List Int} (h:∃ n∈day,n > 0):0<=great day:=by
 have:=iI (fs:=[day]) λl hl=>by
  have e:l=day:=by simpa using hl
  rw [e]
  exact h
 rw [e9] at this
 have e0:reach []=0:=rfl
 omega
theorem MkP.opt {s:Shp} {d:Nat} {fs:List (List Int)} {P:List (Int×Int)} {low:Int} (h:MkP s d fs P low):FP fs->low<=s.top->OptP s d fs P low:=by
 induction h with
 | @done fs low h =>
  intro _ _
  cases fs with
  | nil=>rfl
  | cons day rest =>
   rw [List.length_cons] at h
   rw [OptP,if_neg (by omega)]
 | @day day rest P low L G hd hm ht ih =>
  intro hf hl
  rw [OptP,if_pos hd]
  have gr:=ZdB (hf day (by simp)).2
  refine ⟨(L,G),P,rfl,λc c1 c2=>?_,ih hf.tl (by omega)⟩
  have e:=ZiC hm c1
  obtain ⟨a1,a2⟩:=ZiS hm hl c2
  have a3:=ZiD hm c1 c2
  rw [e] at a1 a2 a3
  exact ⟨by omega,a2,a3⟩
theorem ZcN {s:Shp} (c:s.Cv) (s0:0<=s.start) {d:Nat}:∀ {fs:List (List Int)} {low:Int},FP fs->reach fs - s.depth<=low->low<=s.top->∃ P,MkP s d fs P low
 | [],low,_,_,_=>⟨[],.done (Nat.zero_le _)⟩
 | day::rest,low,h,l1,l2=>by
  by_cases hd:d<=rest.length
  ·have hK:0<=prd (day::rest) * s.start:=Int.mul_nonneg (Int.le_of_lt (fG h.B)) s0
   obtain ⟨L,G,-,hm⟩:=ZiE hK (vQ c h hd (vR c s0 (d:=d) h.tl)) l1 l2
   have gr:=ZdB (h day (by simp)).2
   rw [e9] at l1
   obtain ⟨P,hP⟩:=ZcN c s0 (d:=d) h.tl (low:=low - great day) (by omega) (by omega)
   exact ⟨_,.day hd hm hP⟩
  ·exact ⟨[],.done (by rw [List.length_cons]; omega)⟩
end My
set_option Elab.async false
set_option linter.all false
set_option maxRecDepth 100000
set_option exponentiation.threshold 9000
namespace My
open PySem PySem.Spec PyProof.Rows L2 Tw Bar
theorem rl {z:Int} {k:Nat} (h:nb k z):nb k (ci z 0):=by
 unfold ci nb at *
 split <;> omega
theorem rj {z:Int} {k:Nat} (h:nb k z):nb k (ci (0 - z) 0):=by
 unfold ci nb at *
 split <;> omega
theorem Zbu {s:Shp} (h:s.Ok) {x:Int} (hx:nb 20 x):nb 100 (dH s x):=by
 unfold dH
 exact bf (dW (b7 h.keep (rl hx)) (b7 h.lack (rj hx))) (by decide)
theorem Zki {s:Shp} (h:s.Ok) {x:Int} (hx:nb 20 x):nb 100 (pS s x):=by
 unfold pS
 exact bf (fH (b7 h.late (rj hx)) (b7 h.back (rl hx))) (by decide)
theorem Zct {s:Shp} (h:s.Ok) {p:Int} (hp:nb 20 p):nb 100 (eu s p):=by
 unfold eu
 exact pb (bf (dW h.start (b7 h.piece hp)) (by decide)) (show (0:Int).natAbs < 2 ^ 100 by decide)
theorem Zkn {s:Shp} (h:s.Ok) {x:Int} (hx:nb 20 x):iY [.d s.d,.d (.int x),.d (.bool false)]=.ret (.d (.int (dH s x))):=by
 have g1:=aQ (rl hx) (by decide)
 have g2:=aQ (rj hx) (by decide)
 have f1:=aQ h.keep (by decide)
 have f2:=aQ h.lack (by decide)
 simp_arith [iY,f1,f2,g1,g2]
 rfl
theorem Zkx {s:Shp} (h:s.Ok) {x:Int} (hx:nb 20 x):iY [.d s.d,.d (.int x),.d (.bool true)]=.ret (.d (.int (pS s x))):=by
 have g1:=aQ (rl hx) (by decide)
 have g2:=aQ (rj hx) (by decide)
 have f1:=aQ h.late (by decide)
 have f2:=aQ h.back (by decide)
 simp_arith [iY,f1,f2,g1,g2]
 rfl
noncomputable def pD (P:List (Int×Int)):PyData:=.list (P.map λp=>.tuple [.int p.1,.int p.2])
theorem Zko (P:List (Int×Int)) (t:Nat) (c:Int):iZ [.d (pD P),.d (.int t),.d (.int c)]=.ret (.d (.int (bU (P.drop t) c))):=by
 have ln:bh bJ [pD P]=.ret (.int P.length):=by
  unfold pD
  rw [fK,List.length_map]
 by_cases h:t < P.length
 ·have hd:P.drop t=P[t]::P.drop (t+1):=List.drop_eq_getElem_cons h
  have hx:aI ay (pD P) (.int t)=.ret (.tuple [.int P[t].1,.int P[t].2]):=by
   unfold pD
   rw [fL,il (v:=.tuple [.int P[t].1,.int P[t].2]) (Int.natCast_nonneg _) (by rw [Int.toNat_natCast,List.getElem?_map,List.getElem?_eq_getElem h]; rfl)]
   rfl
  have c1:decide ((t:Int) < (P.length:Int))=true:=decide_eq_true (by omega)
  have e0:bU (P.drop t) c=rse P[t] c:=by rw [hd]; rfl
  rw [e0]
  unfold rse
  by_cases q:c < P[t].1
  ·rw [if_pos q]
   simp_arith [iZ,ln,hx,c1,decide_eq_true q]
  ·rw [if_neg q]
   simp_arith [iZ,ln,hx,c1,decide_eq_false q]
 ·have hd:P.drop t=[]:=List.drop_eq_nil_of_le (by omega)
  have c1:decide ((t:Int) < (P.length:Int))=false:=decide_eq_false (by omega)
  have e0:bU (P.drop t) c=0:=by rw [hd]; rfl
  rw [e0]
  simp_arith [iZ,ln,c1]
theorem vg {s:Shp} (h:s.Ok) {slf:List Sl->Tr Re} {A:PyData} {t:Int} {lies p:Int} {w:List Int} {hd:Int} (hw:w.length<=20) {bs:List PyData} {B:Int} (hB:nb 300 B) (hb:bw bs (t+1)=some (.int B)) (X3 X6 X8 X9:Sl) {v:Int->Int} (hx:nb 15 lies) :
  ∀ (l:List Int) (k:Nat) (c:Int) (J13 J14 J15 J16:Sl),k+l.length<=16->(∀ n∈l,0<=n/\nb 30 n)->(∀ (j:Nat) (n:Int),l[j]?=some n->n≠0->slf [.d A,.pen,.d (.int (t+1)),.d (.int (lies - (k+j:Nat))),.d (tI (w++[p]))]=.ret (.d (.int (v (lies - (k+j:Nat)))))/\nb 1000 (v (lies - (k+j:Nat)))) ->
  ∃ K13 K14 K15 K16:Sl,bK (bq (aw (ai 13) (aw (ai 14) bi))) (i9 slf) (enu k l) [.d A,.pen,.d (.int t),X3,.d (tI (hd::w)),.d s.d,X6,.d (.list bs),X8,X9,.d (.int lies),.d (.int p),.d (.int c),J13,J14,J15,J16]=.ret (.next [.d A,.pen,.d (.int t),X3,.d (tI (hd::w)),.d s.d,X6,.d (.list bs),X8,X9,.d (.int lies),.d (.int p),.d (.int (c+ws (λf=>dH s (lies - f) * B+v (lies - f)) k l)),K13,K14,K15,K16])
 | [],k,c,J13,J14,J15,J16,_,_,_=>⟨J13,J14,J15,J16,by rw [enu,gt,ws,Int.add_zero]⟩
 | n::l,k,c,J13,J14,J15,J16,hk,hn,hs=>by
  rw [List.length_cons] at hk
  have hs':∀ (j:Nat) (m:Int),l[j]?=some m->m≠0->slf [.d A,.pen,.d (.int (t+1)),.d (.int (lies - (k+1+j:Nat))),.d (tI (w++[p]))]=.ret (.d (.int (v (lies - (k+1+j:Nat)))))/\nb 1000 (v (lies - (k+1+j:Nat))):=λj m e hm=>by
   have:=hs (j+1) m (by rw [List.getElem?_cons_succ]; exact e) hm
   rw [show k+(j+1)=k+1+j by omega] at this
   exact this
  by_cases c0:n > 0
  ·have hy:nb 20 (lies - k):=bf (fH hx (show nb 15 (k:Int) from b6 (by show -32768 < _; omega) (by show _ < 32768; omega))) (by decide)
   obtain ⟨e1,n1⟩:=hs 0 n rfl (by omega)
   rw [Nat.add_zero] at e1 n1
   have er:=Zkn h hy
   have rn:=Zbu h hy
   have f1:=aQ rn (by decide)
   have f2:=aQ hB (by decide)
   have f3:=aQ (hn n (by simp)).2 (by decide)
   have f4:=aQ (dW (b7 rn hB) n1) (by decide)
   have ea:aI fo (tI w) (.tuple [.int p])=.ret (tI (w++[p])):=by
    unfold tI
    rw [Zmx (bF (by rw [List.length_map]; show _+1<=_; omega)),List.map_append]
    rfl
   have a1:dc (tI (hd::w)) (some 1) none=.ret (tI w):=by
    unfold tI
    exact wn _ 1
   obtain ⟨K13,K14,K15,K16,e⟩:=vg h hw hB hb X3 X6 X8 X9 hx l (k+1) (c+n * (dH s (lies - k) * B+v (lies - k))) (.d (.int k)) (.d (.int n)) (.d (.int (v (lies - k)))) (.d (.int (dH s (lies - k)))) (by omega) (λm hm=>hn m (List.mem_cons_of_mem _ hm)) hs'
   refine ⟨K13,K14,K15,K16,?_⟩
   have et:i9 slf [.d A,.pen,.d (.int t),X3,.d (tI (hd::w)),.d s.d,X6,.d (.list bs),X8,X9,.d (.int lies),.d (.int p),.d (.int c),.d (.int k),.d (.int n),J15,J16]=.ret (.next [.d A,.pen,.d (.int t),X3,.d (tI (hd::w)),.d s.d,X6,.d (.list bs),X8,X9,.d (.int lies),.d (.int p),.d (.int (c+n * (dH s (lies - k) * B+v (lies - k)))),.d (.int k),.d (.int n),.d (.int (v (lies - k))),.d (.int (dH s (lies - k)))]):=by
    simp_arith [i9,decide_eq_true c0,a1,ea,e1,er,hb,f1,f2,f3,f4]
   have eg:(bq (aw (ai 13) (aw (ai 14) bi))) (.tuple [.int (k:Int),.int n]) [.d A,.pen,.d (.int t),X3,.d (tI (hd::w)),.d s.d,X6,.d (.list bs),X8,X9,.d (.int lies),.d (.int p),.d (.int c),J13,J14,J15,J16]=some [.d A,.pen,.d (.int t),X3,.d (tI (hd::w)),.d s.d,X6,.d (.list bs),X8,X9,.d (.int lies),.d (.int p),.d (.int c),.d (.int k),.d (.int n),J15,J16]:=rfl
   rw [enu,dB,eg,Tr.of_some,Tr.ret_bind,cP,et,Tr.ret_bind,cy,e,ws,Int.add_assoc]
  ·have n0:n=0:=by have:=(hn n (by simp)).1; omega
   obtain ⟨K13,K14,K15,K16,e⟩:=vg h hw hB hb X3 X6 X8 X9 hx l (k+1) c (.d (.int k)) (.d (.int n)) J15 J16 (by omega) (λm hm=>hn m (List.mem_cons_of_mem _ hm)) hs'
   refine ⟨K13,K14,K15,K16,?_⟩
   have et:i9 slf [.d A,.pen,.d (.int t),X3,.d (tI (hd::w)),.d s.d,X6,.d (.list bs),X8,X9,.d (.int lies),.d (.int p),.d (.int c),.d (.int k),.d (.int n),J15,J16]=.ret (.next [.d A,.pen,.d (.int t),X3,.d (tI (hd::w)),.d s.d,X6,.d (.list bs),X8,X9,.d (.int lies),.d (.int p),.d (.int c),.d (.int k),.d (.int n),J15,J16]):=by
    simp_arith [i9,decide_eq_false c0]
   have eg:(bq (aw (ai 13) (aw (ai 14) bi))) (.tuple [.int (k:Int),.int n]) [.d A,.pen,.d (.int t),X3,.d (tI (hd::w)),.d s.d,X6,.d (.list bs),X8,X9,.d (.int lies),.d (.int p),.d (.int c),J13,J14,J15,J16]=some [.d A,.pen,.d (.int t),X3,.d (tI (hd::w)),.d s.d,X6,.d (.list bs),X8,X9,.d (.int lies),.d (.int p),.d (.int c),.d (.int k),.d (.int n),J15,J16]:=rfl
   rw [enu,dB,eg,Tr.of_some,Tr.ret_bind,cP,et,Tr.ret_bind,cy,e,ws,n0,Int.zero_mul,Int.zero_add]
end My
set_option Elab.async false
set_option linter.all false
set_option maxRecDepth 100000
set_option exponentiation.threshold 9000
namespace My
open PySem PySem.Spec PyProof.Rows L2 Tw Bar
theorem ZfF {f:Int->Int} {a b:Nat} {l:List Int} (hl:∀ w∈l,nb a w) (h:∀ (j:Nat) (n:Int),l[j]?=some n->n≠0->nb b (f j)):nb (a+b+l.length) (ws f 0 l):=by
 have e:ws f 0 l=ws (λx=>if l[x.toNat]?.getD 0=0 then 0 else f x) 0 l:=tQ λj n e hn=>by
  rw [Nat.zero_add,Int.toNat_natCast,e]
  show f j=if n=0 then 0 else f j
  rw [if_neg hn]
 rw [e]
 refine ir hl λx x1 x2=>?_
 obtain ⟨j,rfl⟩:∃ j:Nat,x=(j:Int):=⟨x.toNat,by omega⟩
 show nb b (if l[((j:Nat):Int).toNat]?.getD 0=0 then 0 else f j)
 rw [Int.toNat_natCast]
 by_cases q:l[j]?.getD 0=0
 ·rw [if_pos q]
  show (0:Int).natAbs < 2 ^ b
  exact Nat.pos_of_ne_zero (by simp)
 ·rw [if_neg q]
  cases e:l[j]? with
  | none=>rw [e] at q; exact absurd rfl q
  | some n=>rw [e] at q; exact h j n e q
structure St6 (s:Shp) (d:Nat) (fs:List (List Int)) (P:List (Int×Int)) (low x:Int) (way:List Int):Prop where
 ok:s.Ok
 t39:s.top+s.depth<=39
 fp:FP fs
 fl:fs.length<=6
 op:OptP s d fs P low
 wl:way.length=d
 w0:∀ a∈way,0<=a
 lo:low<=x+way.sum
 hi:x+way.sum<=s.top
 fr:reach fs - s.depth<=x
theorem ue:∀ {l:List Int},(∀ a∈l,0<=a)->0<=l.sum/\∀ a∈l,a<=l.sum
 | [],_=>⟨by simp,λa h=>by simp at h⟩
 | b::l,h=>by
  have ih:=ue (l:=l) λv hv=>h v (List.mem_cons_of_mem _ hv)
  have hb:=h b (by simp)
  refine ⟨by rw [List.sum_cons]; omega,λa ha=>?_⟩
  rw [List.sum_cons]
  rcases List.mem_cons.mp ha with rfl | q
  ·omega
  ·have:=ih.2 a q
   omega
theorem ZjG (l:List Int):l.headD 0+(l.drop 1).sum=l.sum:=by
 cases l with
 | nil=>rfl
 | cons a l=>rw [List.sum_cons]; rfl
theorem St6.bd {s:Shp} {d:Nat} {fs:List (List Int)} {P:List (Int×Int)} {low x:Int} {way:List Int} (h:St6 s d fs P low x way):-s.depth<=x/\x<=s.top/\0<=way.sum/\way.sum<=39/\∀ a∈way,0<=a/\a < 40:=by
 have r0:=h.fp.r0
 have:=h.fr
 have:=h.hi
 have:=h.t39
 obtain ⟨q1,q2⟩:=ue h.w0
 refine ⟨by omega,by omega,q1,by omega,λa ha=>⟨h.w0 a ha,?_⟩⟩
 have:=q2 a ha
 omega
theorem St6.step {s:Shp} {d:Nat} (d1:1<=d) {day:List Int} {fs:List (List Int)} {P:List (Int×Int)} {low x:Int} {way:List Int} (h:St6 s d (day::fs) P low x way) {j:Nat} {n:Int} (e:day[j]?=some n) (hn:n≠0):St6 s d fs (P.drop 1) (low - great day) (x+way.headD 0 - j) (way.drop 1++[bU P (x+way.sum)]):=by
 have dd:=(h.fp day (by simp)).1
 have n0:=dd.w0 n (List.mem_of_getElem? e)
 have hg:=ZdC e (by omega)
 have fr:=h.fr
 rw [e9] at fr
 have hh:0<=way.headD 0:=by
  cases hw:way with
  | nil=>exact Int.le_refl 0
  | cons a l=>exact h.w0 a (by rw [hw]; simp)
 have ht:=ZjG way
 obtain ⟨p0,p1,ho⟩:=h.op.now h.lo h.hi
 have lo:=h.lo
 have fl:=h.fl
 rw [List.length_cons] at fl
 have es:(way.drop 1++[bU P (x+way.sum)]).sum=(way.drop 1).sum+bU P (x+way.sum):=by rw [List.sum_append]; simp
 refine ⟨h.ok,h.t39,h.fp.tl,by omega,ho,?_,λa ha=>?_,by rw [es]; omega,by rw [es]; omega,by omega⟩
 ·rw [List.length_append,List.length_drop]
  have:=h.wl
  show way.length - 1+1=d
  omega
 ·rcases List.mem_append.mp ha with q | q
  ·exact h.w0 a (List.mem_of_mem_drop q)
  ·have:a=bU P (x+way.sum):=by simpa using q
   omega
theorem tY {s:Shp} {d:Nat} (d1:1<=d):∀ {fs:List (List Int)} {P:List (Int×Int)} {low x:Int} {way:List Int},St6 s d fs P low x way->nb (430+60 * fs.length) (vP s fs P x way)
 | [],P,low,x,way,h=>by
  obtain ⟨b1,b2,b3,b4,_⟩:=h.bd
  have:=h.t39; have:=h.ok.t0; have:=h.ok.d0
  have hx:nb 20 (x+way.sum):=b6 (by show -1048576 < _; omega) (by show _ < 1048576; omega)
  rw [vP]
  exact bf (Zki h.ok hx) (by omega)
 | day::fs,P,low,x,way,h=>by
  obtain ⟨b1,b2,b3,b4,b5⟩:=h.bd
  have t9:=h.t39; have t0:=h.ok.t0; have d0:=h.ok.d0
  have hf:=h.fl
  rw [List.length_cons] at hf
  have dd:=(h.fp day (by simp)).1
  obtain ⟨p0,p1,-⟩:=h.op.now h.lo h.hi
  rw [vP]
  have hp:nb 20 (bU P (x+way.sum)):=b6 (by show -1048576 < _; omega) (by show _ < 1048576; omega)
  have on:=Zct h.ok hp
  have B0:nb 290 (b8 (day::fs)):=by rw [fO]; exact bf (dI h.fp.B) (by rw [List.length_cons]; omega)
  have B1:nb 290 (b8 fs):=by rw [fO]; exact bf (dI h.fp.tl.B) (by omega)
  have hw:=ZfF (f:=λf=>dH s (x+way.headD 0 - f) * b8 fs+vP s fs (P.drop 1) (x+way.headD 0 - f) (way.drop 1++[bU P (x+way.sum)])) (a:=30) (b:=431+60 * fs.length) (l:=day) dd.nb λj n e hn=>by
   have st:=h.step d1 e hn
   have ih:=tY d1 st
   obtain ⟨c1,c2,_⟩:=st.bd
   have hz:nb 20 (x+way.headD 0 - (j:Int)):=b6 (by show -1048576 < _; omega) (by show _ < 1048576; omega)
   exact bf (dW (bf (b7 (Zbu h.ok hz) B1) (show 100+290<=430+60 * fs.length by omega)) ih) (by omega)
  have dl:=dd.len
  rw [List.length_cons]
  exact bf (dW (bf (b7 on B0) (show 100+290<=30+(431+60 * fs.length)+day.length by omega)) hw) (by omega)
theorem Zj7 {F:List Int->Option Int} {KS:List (List Int)} {jk ik:Nat} {body:List Sl->Tr Ou} {iv:List Sl->Tr PyData} {ρ ρ':List Sl} {xs:List PyData} {ns:List Int} {n:Int} (h1:ρ[jk]?=some .pen) (h2:ρ[ik]?=some (.d (.tuple xs))) (h3:fh xs=some ns) (hb:body ρ=.ret (.next ρ')) (h1':ρ'[jk]?=some .pen) (h2':ρ'[ik]?=some (.d (.tuple xs))) (h5:iv ρ'=.ret (.int n)) (h6:F ns=some n) (h7:ns∈KS):qf F KS jk ik body iv ρ=.ret (.ret (.d (.int n))):=by
 unfold qf
 rw [h1,h2]
 simp only [h3,hb]
 rw [h1',h2',h5]
 simp only [h3,h6,h7,and_self,if_true]
noncomputable def cX (fs:List (List Int)):List PyData:=(List.range (fs.length+1)).map λt:Nat=>PyData.int (b8 (fs.drop t))
noncomputable def aD (s:Shp) (fs:List (List Int)) (P:List (Int×Int)):PyData:=.list [s.d,fD fs,.list (cX fs),pD P]
theorem wy {fs:List (List Int)} {t:Nat} (h:t<=fs.length):bw (cX fs) (t:Int)=some (.int (b8 (fs.drop t))):=by
 refine il (Int.natCast_nonneg t) ?_
 rw [Int.toNat_natCast]
 unfold cX
 rw [List.getElem?_map,List.getElem?_range (by omega)]
 rfl
theorem ZdM:∀ fs:List (List Int),pR (fs.map tI)=some fs
 | []=>rfl
 | l::fs=>by
  rw [List.map_cons,pR,ZdM fs]
  have:fV (tI l)=some l:=sA l
  rw [this]
  rfl
theorem Zcj:∀ P:List (Int×Int),o4 (P.map λp=>.tuple [.int p.1,.int p.2])=some P
 | []=>rfl
 | p::P=>by
  rw [List.map_cons,o4,Zcj P]
  rfl
theorem ZjW (s:Shp) (fs:List (List Int)) (P:List (Int×Int)) (t:Nat) (x:Int) (way:List Int):gm (aD s fs P) ((t:Int)::x::way)=some (vP s (fs.drop t) (P.drop t) x way):=by
 have h1:fV s.d=some s.l:=by unfold Shp.d; exact sA s.l
 have h2:nC s.l=some s:=rfl
 unfold aD fD pD
 show (fV s.d).bind (λl=>(nC l).bind λs=>(pR (fs.map tI)).bind λfs=>(o4 (P.map λp=>.tuple [.int p.1,.int p.2])).map λP=>vP s (fs.drop ((t:Nat):Int).toNat) (P.drop ((t:Nat):Int).toNat) x way)=_
 simp only [h1,Option.bind_some,h2,ZdM,Zcj,Option.map_some,Int.toNat_natCast]
theorem Zag:∀ {way:List Int},(∀ a∈way,0<=a/\a < 40)->way∈eZ way.length
 | [],_=>by simp [eZ]
 | a::l,h=>by
  have ih:=Zag (way:=l) λv hv=>h v (List.mem_cons_of_mem _ hv)
  have ha:=h a (by simp)
  rw [List.length_cons,eZ,List.mem_flatMap]
  refine ⟨l,ih,List.mem_map.mpr ⟨a.toNat,List.mem_range.mpr (by omega),?_⟩⟩
  rw [show ((a.toNat:Nat):Int)=a by omega]
theorem Zdf (s:Shp) (fs:List (List Int)) (P:List (Int×Int)):eS (aD s fs P)=(List.range fs.length).flatMap λt:Nat=>(List.range 40).flatMap λx:Nat=>(eZ (fs.length - P.length)).map λw=>(t:Int)::((x:Int) - s.depth)::w:=by
 have h1:(fV s.d).bind nC=some s:=by
  have:fV s.d=some s.l:=by unfold Shp.d; exact sA s.l
  rw [this]
  rfl
 unfold aD fD pD
 show (match (fV s.d).bind nC with
  | some s=>(List.range (fs.map tI).length).flatMap λt:Nat=>(List.range 40).flatMap λx:Nat=>(eZ ((fs.map tI).length - (P.map λp:Int×Int=>PyData.tuple [.int p.1,.int p.2]).length)).map λw=>(t:Int)::((x:Int) - s.depth)::w
  | none=>[])=_
 rw [h1,List.length_map,List.length_map]
theorem Zi8 {s:Shp} {fs:List (List Int)} {P:List (Int×Int)} {t:Nat} {x:Int} {way:List Int} (ht:t < fs.length) (hx:-s.depth<=x/\x < 40 - s.depth) (hl:way.length=fs.length - P.length) (hw:∀ a∈way,0<=a/\a < 40):((t:Int)::x::way)∈eS (aD s fs P):=by
 rw [Zdf,List.mem_flatMap]
 refine ⟨t,List.mem_range.mpr ht,?_⟩
 rw [List.mem_flatMap]
 refine ⟨(x+s.depth).toNat,List.mem_range.mpr (by omega),List.mem_map.mpr ⟨way,?_,?_⟩⟩
 ·rw [<- hl]
  exact Zag hw
 ·rw [show (((x+s.depth).toNat:Nat):Int) - s.depth=x by omega]
theorem Zah:∀ n:Nat,(eZ n).length=40 ^ n
 | 0=>rfl
 | n+1=>by
  rw [eZ,List.length_flatMap]
  have:(eZ n).map (λw=>((List.range 40).map λa:Nat=>(a:Int)::w).length)=(eZ n).map λ_=>40:=List.map_congr_left λw _=>by rw [List.length_map,List.length_range]
  rw [this,List.map_const',List.sum_replicate_nat,Zah n,Nat.pow_succ]
theorem vE {α β:Type} {f:α->List β} {n:Nat}:∀ l:List α,(∀ x∈l,(f x).length=n)->(l.flatMap f).length=l.length * n
 | [],_=>by simp
 | x::l,h=>by rw [List.flatMap_cons,List.length_append,h x (by simp),vE l λy hy=>h y (List.mem_cons_of_mem _ hy),List.length_cons,Nat.add_mul,Nat.one_mul,Nat.add_comm]
theorem Zi9 (s:Shp) (fs:List (List Int)) (P:List (Int×Int)):(eS (aD s fs P)).length=fs.length * (40 * 40 ^ (fs.length - P.length)):=by
 rw [Zdf,vE (n:=40 * 40 ^ (fs.length - P.length)) _ λt _=>?_,List.length_range]
 rw [vE (n:=40 ^ (fs.length - P.length)) _ λx _=>by rw [List.length_map,Zah],List.length_range]
theorem Zd3 {s:Shp} {fs:List (List Int)} {PP:List (Int×Int)} {d:Nat} (d1:1<=d) (d3:d<=20) (hd:d=fs.length - PP.length):∀ (rest pre:List (List Int)) (n:Nat) (low x:Int) (way:List Int),fs=pre++rest->rest.length < n->St6 s d rest (PP.drop pre.length) low x way ->
  eP (gm (aD s fs PP)) (eS (aD s fs PP)) n [.d (aD s fs PP),.pen,.d (.int pre.length),.d (.int x),.d (tI way)]=.ret (.d (.int (vP s rest (PP.drop pre.length) x way)))
 | rest,pre,0,low,x,way,_,hn,_=>by omega
 | [],pre,n+1,low,x,way,hf,hn,st=>by
  have ln:bh bJ [fD fs]=.ret (.int fs.length):=by
   unfold fD
   rw [dM,List.length_map]
  have hl:fs.length=pre.length:=by rw [hf,List.length_append]; rfl
  obtain ⟨b1,b2,b3,b4,_⟩:=st.bd
  have:=st.t39; have:=st.ok.t0; have:=st.ok.d0
  have hx:nb 20 (x+way.sum):=b6 (by show -1048576 < _; omega) (by show _ < 1048576; omega)
  have ee:=Zkx st.ok hx
  have c:((pre.length:Int) == (pre.length:Int))=true:=by simp
  rw [hl] at ln
  rw [eP,vP]
  generalize gm (aD s fs PP)=F
  generalize eS (aD s fs PP)=KS
  unfold aD
  simp_arith [wA,ln,c,ua,ee]
 | day::rest,pre,n+1,low,x,[],hf,hn,st=>by
  have:(0:Nat)=d:=st.wl
  omega
 | day::rest,pre,n+1,low,x,a::l,hf,hn,st=>by
  rw [List.length_cons] at hn
  have hw:l.length+1=d:=st.wl
  have ln:bh bJ [fD fs]=.ret (.int fs.length):=by
   unfold fD
   rw [dM,List.length_map]
  have hl:fs.length=pre.length+(rest.length+1):=by rw [hf,List.length_append,List.length_cons]
  have hdr:fs.drop pre.length=day::rest:=by rw [hf,List.drop_left]
  have hdr1:fs.drop (pre.length+1)=rest:=by rw [hf,<- List.drop_drop,List.drop_left]; rfl
  have hP1:PP.drop (pre.length+1)=(PP.drop pre.length).drop 1:=by rw [List.drop_drop]
  obtain ⟨b1,b2,b3,b4,b5⟩:=st.bd
  have t9:=st.t39; have t0:=st.ok.t0; have d0:=st.ok.d0
  have es:(a::l).sum=a+l.sum:=List.sum_cons
  have fl:=st.fl
  rw [List.length_cons] at fl
  have ha:=b5 a (by simp)
  obtain ⟨l1,_⟩:=ue (l:=l) λv hv=>(b5 v (List.mem_cons_of_mem _ hv)).1
  have dd:=(st.fp day (by simp)).1
  obtain ⟨p0,p1,-⟩:=st.op.now st.lo st.hi
  have c:((pre.length:Int) == (fs.length:Int))=false:=beq_eq_false_iff_ne.mpr (by omega)
  have ea:aI aS (.tuple [.int (pre.length:Int),.int x]) (tI (a::l))=.ret (.tuple ((((pre.length:Int)::x::a::l)).map PyData.int)):=by
   unfold tI
   exact h8 rfl (bF (by simp only [List.length_map,List.length_cons,List.length_nil]; omega))
  have a0:aI ay (tI (a::l)) (.int 0)=.ret (.int a):=by
   unfold tI
   rw [List.map_cons,cH,eU]
   rfl
  have a1:dc (tI (a::l)) (some 1) none=.ret (tI l):=by
   unfold tI
   exact wn _ 1
  have hF:=ZjW s fs PP pre.length x (a::l)
  rw [hdr] at hF
  have hK:=Zi8 (s:=s) (fs:=fs) (P:=PP) (t:=pre.length) (x:=x) (way:=a::l) (by omega) (by omega) (by rw [List.length_cons]; omega) b5
  have er:=Zko PP pre.length (x+a+l.sum)
  have e0:x+(a::l).sum=x+a+l.sum:=by omega
  have B0:nb 290 (b8 (day::rest)):=by rw [fO]; exact bf (dI st.fp.B) (by rw [List.length_cons]; omega)
  have B1:nb 300 (b8 rest):=by rw [fO]; exact bf (dI st.fp.tl.B) (by omega)
  have ab0:=wy (fs:=fs) (t:=pre.length) (by omega)
  have ab1:=wy (fs:=fs) (t:=pre.length+1) (by omega)
  rw [hdr] at ab0
  rw [hdr1] at ab1
  have dy:aI ay (fD fs) (.int pre.length)=.ret (tI day):=by
   unfold fD
   rw [cH,il (v:=tI day) (Int.natCast_nonneg _) (by rw [Int.toNat_natCast,List.getElem?_map,hf,List.getElem?_append_right (Nat.le_refl _),Nat.sub_self]; rfl)]
   rfl
  have hp:nb 20 (bU (PP.drop pre.length) (x+a+l.sum)):=by rw [<- e0]; exact b6 (by show -1048576 < _; omega) (by show _ < 1048576; omega)
  have f1:=aQ st.ok.piece (by decide)
  have f2:=aQ hp (by decide)
  have f3:=aQ (dW st.ok.start (b7 st.ok.piece hp)) (by decide)
  have f4:=aQ B0 (by decide)
  have on:=aQ (Zct st.ok hp) (by decide)
  have g1:fit (1:Int)=true:=aQ (show nb 20 (1:Int) from b6 (by decide) (by decide)) (by decide)
  have g0:fit (0:Int)=true:=aQ (show nb 20 (0:Int) from b6 (by decide) (by decide)) (by decide)
  have lx:nb 15 (x+a):=b6 (by show -32768 < _; omega) (by show _ < 32768; omega)
  have hlp:=vg st.ok (slf:=eP (gm (aD s fs PP)) (eS (aD s fs PP)) n) (A:=aD s fs PP) (t:=(pre.length:Int)) (lies:=x+a) (p:=bU (PP.drop pre.length) (x+a+l.sum)) (w:=l) (hd:=a) (by omega) B1 ab1 (.d (.int x)) (.d (fD fs)) (.d (pD PP)) (.d (.tuple ((((pre.length:Int)::x::a::l)).map PyData.int))) (v:=λz=>vP s rest ((PP.drop pre.length).drop 1) z (l++[bU (PP.drop pre.length) (x+a+l.sum)])) lx day 0 (eu s (bU (PP.drop pre.length) (x+a+l.sum)) * b8 (day::rest)) .un .un .un .un (by have:=dd.len; omega) (λm hm=>⟨dd.w0 m hm,dd.nb m hm⟩) λj m e hm=>by
   have st':=st.step d1 e hm
   rw [e0] at st'
   have e1:x+(a::l).headD 0 - (j:Int)=x+a - ((0+j:Nat):Int):=by rw [Nat.zero_add]; rfl
   rw [e1] at st'
   have e2:(a::l).drop 1=l:=rfl
   rw [e2] at st'
   refine ⟨?_,bf (tY d1 st') (by omega)⟩
   have:=Zd3 d1 d3 hd rest (pre++[day]) n (low - great day) (x+a - ((0+j:Nat):Int)) (l++[bU (PP.drop pre.length) (x+a+l.sum)]) (by rw [hf,List.append_assoc]; rfl) (by omega) (by rw [List.length_append]; show St6 s d rest (PP.drop (pre.length+1)) _ _ _; rw [hP1]; exact st')
   rw [List.length_append] at this
   rw [<- hP1]
   exact this
  obtain ⟨K13,K14,K15,K16,hlp⟩:=hlp
  have ev:eu s (bU (PP.drop pre.length) (x+a+l.sum)) * b8 (day::rest)+ws (λf=>dH s (x+a - f) * b8 rest+vP s rest ((PP.drop pre.length).drop 1) (x+a - f) (l++[bU (PP.drop pre.length) (x+a+l.sum)])) 0 day=vP s (day::rest) (PP.drop pre.length) x (a::l):=by
   rw [vP,e0]
   rfl
  rw [ev] at hlp
  rw [eP]
  generalize vP s (day::rest) (PP.drop pre.length) x (a::l)=v at *
  generalize gm (aD s fs PP)=F at *
  generalize eS (aD s fs PP)=KS at *
  generalize eP F KS n=slf at *
  have ee:cz (day.map PyData.int)=enu 0 day:=ia day
  have it:gk (tI day)=.ret (day.map PyData.int):=rfl
  have key:(ap (aR 10 (ad aS (aa 3) (ad ay (aa 4) (aC (.int 0))))) (ap (aR 11 (aJ (aH iZ (ah (aa 8) (ah (aa 2) (ah (ad aS (aa 10) (aW cg (af (cA (aa 4) (cw (aC (.int 1))) cC) al))) aA)))))) (ap (aR 12 (ad bv (ad bv (ad aS (ad ay (aa 5) (aC (.int 2))) (ad bv (ad ay (aa 5) (aC (.int 3))) (aa 11))) (aW nZ (af (ad (cW λi j=>decide (i > j)) (aa 11) (aC (.int 0))) al))) (ad ay (aa 7) (aa 2)))) (cJ (eF (ad ay (aa 6) (aa 2))) (bq (aw (ai 13) (aw (ai 14) bi))) (i9 slf))))) [.d (aD s fs PP),.pen,.d (.int pre.length),.d (.int x),.d (tI (a::l)),.d s.d,.d (fD fs),.d (.list (cX fs)),.d (pD PP),.d (.tuple ((((pre.length:Int)::x::a::l)).map PyData.int)),.un,.un,.un,.un,.un,.un,.un]=.ret (.next [.d (aD s fs PP),.pen,.d (.int pre.length),.d (.int x),.d (tI (a::l)),.d s.d,.d (fD fs),.d (.list (cX fs)),.d (pD PP),.d (.tuple ((((pre.length:Int)::x::a::l)).map PyData.int)),.d (.int (x+a)),.d (.int (bU (PP.drop pre.length) (x+a+l.sum))),.d (.int v),K13,K14,K15,K16]):=by
   rw [e0] at p0 p1
   generalize bU (PP.drop pre.length) (x+a+l.sum)=p at *
   by_cases q:0 < p
   ·have eq:(s.start+s.piece * p)=eu s p:=by unfold eu; rw [if_pos q]
    rw [eq] at f3
    simp_arith [a0,a1,ua,er,f1,f2,f3,f4,eq,decide_eq_true (show p > 0 from q),if_true,g1,g0,on,ab0,dy,it,ee,Int.mul_one]
    exact hlp
   ·have eq:eu s p=0:=by unfold eu; rw [if_neg q]
    rw [eq,Int.zero_mul] at hlp
    simp_arith [a0,a1,ua,er,f1,f2,f3,f4,decide_eq_false (show ¬ p > 0 from q),Bool.false_eq_true,if_false,g1,g0,ab0,dy,it,ee,Int.mul_zero,Int.zero_mul]
    exact hlp
  have em:=Zj7 (F:=F) (KS:=KS) (jk:=1) (ik:=9) (iv:=aa 12) rfl rfl (sA _) key rfl rfl rfl hF hK
  unfold aD at em ⊢
  simp only [List.map_cons] at em
  simp_arith [wA,ln,c,ea,em]
end My
set_option Elab.async false
set_option linter.all false
set_option maxRecDepth 100000
set_option exponentiation.threshold 9000
namespace My
open PySem PySem.Spec PyProof.Rows L2 Tw Bar
theorem vV:∀ (ns:List Int),PyData.canLayAll0 (ns.map PyData.int)=true/\PyData.depthAll (ns.map PyData.int)<=1/\PyData.eqvAll (ns.map PyData.int) (ns.map PyData.int)=true
 | []=>⟨rfl,by decide,rfl⟩
 | n::ns=>by
  obtain ⟨h1,h2,h3⟩:=vV ns
  refine ⟨?_,?_,?_⟩
  ·simp [PyData.canLayAll0,PyData.canLay0,h1]
  ·simp [PyData.depthAll,PyData.depth]
   omega
  ·simp [PyData.eqvAll,PyData.eqv,h3]
theorem ZaZ (ns:List Int):SeqAt.shaped (.list (ns.map PyData.int))=true:=by
 obtain ⟨h1,h2,_⟩:=vV ns
 unfold SeqAt.shaped
 rw [Bool.and_eq_true]
 refine ⟨by rw [PyData.canLay0]; exact h1,decide_eq_true ?_⟩
 rw [PyData.depth]
 omega
theorem Zis (ns:List Int):aI eA (.list (ns.map PyData.int)) (.list (ns.map PyData.int))=.ret (.bool false):=by
 rw [Zj6 (ZaZ ns) (ZaZ ns),(vV ns).2.2]
 rfl
theorem Zls (xs:List PyData) (t:Nat) (h:t<=xs.length):dc (.list xs) none (some (t:Int))=.ret (.list (xs.take t)):=by
 rw [hX]
 unfold L2.dN
 rw [HT.uF,HT.uE,Nat.min_eq_left h,List.drop_zero,Nat.sub_zero]
theorem ZbH (x:PyData):∀ m:Nat,(List.replicate m [x]).flatten=List.replicate m x
 | 0=>rfl
 | m+1=>by rw [List.replicate_succ,List.flatten_cons,ZbH x m,List.replicate_succ]; rfl
theorem Zj9 {f:PyData->PyData->Option (List PyData)} {i j:List Sl->Tr PyData} {ρ:List Sl}:ou f i j ρ=(i ρ).bind λa=>(j ρ).bind λb=>m8 f a b:=rfl
theorem ZjZ (m k:Nat):((ao 0 (m+k)).filter λz=>decide (z < (m:Int))).length=m:=by
 rw [uL,List.filter_append]
 have h1:(ao 0 m).filter (λz=>decide (z < (m:Int)))=ao 0 m:=List.filter_eq_self.mpr λz hz=>decide_eq_true (by have:=nM hz; omega)
 have h2:(ao (0+(m:Int)) k).filter (λz=>decide (z < (m:Int)))=[]:=List.filter_eq_nil_iff.mpr λz hz=>by
  have:=nM hz
  simp
  omega
 rw [h1,h2,List.append_nil]
 unfold ao
 rw [List.length_map,List.length_range]
theorem Zmy (xs ys:List PyData):aI fo (.list xs) (.list ys)=aI aS (.list xs) (.list ys):=rfl
theorem Zbz {f:Int->PyData} {v:Int->Int} (hf:∀ y,∃ a,f y=.tuple [a,.int (v y)]):∀ l:List Int,bz (df (ai 0) uT [.un]) (l.map f)=.ret ((l.map v).map PyData.int)
 | []=>rfl
 | y::l=>by
  have ih:=Zbz hf l
  obtain ⟨a,e⟩:=hf y
  have e0:df (ai 0) uT [.un] (f y)=.ret (.int (v y)):=by rw [e]; rfl
  rw [List.map_cons,bz,e0,Tr.ret_bind,ih]
  rfl
theorem ZiR {v:Int->Int} {low G:Int} {m k:Nat} (h1:∀ i:Nat,i < m->v (low+i)=G) (h2:∀ i:Nat,m<=i->i < m+k->v (low+i)=low+i):(ao low (m+k)).map v=List.replicate m G++ao (low+m) k:=by
 rw [uL,List.map_append]
 congr 1
 ·unfold ao
  rw [List.map_map]
  refine List.eq_replicate_iff.mpr ⟨by rw [List.length_map,List.length_range],λb hb=>?_⟩
  obtain ⟨i,hi,rfl⟩:=List.mem_map.mp hb
  exact h1 i (List.mem_range.mp hi)
 ·unfold ao
  rw [List.map_map]
  refine List.map_congr_left λi hi=>?_
  have hi:=List.mem_range.mp hi
  have:=h2 (m+i) (by omega) (by omega)
  show v (low+(m:Int)+(i:Int))=low+(m:Int)+(i:Int)
  rw [show low+(m:Int)+(i:Int)=low+((m+i:Nat):Int) by omega]
  exact this
theorem Zkq {f:Int->PyData} {v:Int->Int} (hf:∀ y,∃ a,f y=.tuple [a,.int (v y)]) {low G:Int} {m k:Nat} (k1:1<=k) (mk:m+k<=100) (lb:-1000<=low/\low<=1000) (h1:∀ i:Nat,i < m->v (low+i)=G/\low+i < G) (h2:∀ i:Nat,m<=i->i < m+k->v (low+i)=low+i) (h3:m=0->G=low) :
  rE [.d (.tuple ((ao low (m+k)).map f)),.d (.int low)]=.ret (.d (.tuple [.int (low+m),.int G])):=by
 have hl:=ZiR (λi hi=>(h1 i hi).1) h2
 have ev:=Zbz hf (ao low (m+k))
 have lr:(ao low (m+k)).length=m+k:=by unfold ao; rw [List.length_map,List.length_range]
 have it:gk (.tuple ((ao low (m+k)).map f))=.ret ((ao low (m+k)).map f):=rfl
 have hs:small ((ao low (m+k)).map f).length=true:=bF (by rw [List.length_map,lr]; omega)
 have ln:bh bJ [.list (((ao low (m+k)).map v).map PyData.int)]=.ret (.int ((m+k:Nat):Int)):=by rw [fK,List.length_map,List.length_map,lr]
 have r1:dU [.int ((m+k:Nat):Int)]=.ret (bc 0 ((m+k:Nat):Int)):=gu (dg (by omega) (by omega))
 have hs2:small (bc 0 ((m+k:Nat):Int)).length=true:=bF (by rw [dS]; omega)
 have em:=ZiQ (h:=gh (ai 0) rf qT [.un,.d (.list (((ao low (m+k)).map v).map PyData.int)),.d (.int low)]) (p:=λz=>decide (z < (m:Int))) (f:=λz=>z) (lo:=0) (hi:=((m+k:Nat):Int)) λz z0 z1=>by
  obtain ⟨i,rfl⟩:∃ i:Nat,z=(i:Int):=⟨z.toNat,by omega⟩
  have hi:i < m+k:=by omega
  have ex:aI ay (.list (((ao low (m+k)).map v).map PyData.int)) (.int (i:Int))=.ret (.int (v (low+i))):=by
   rw [fL,il (v:=.int (v (low+i))) (Int.natCast_nonneg _) (by
    rw [Int.toNat_natCast,List.getElem?_map,List.getElem?_map]
    unfold ao
    rw [List.getElem?_map,List.getElem?_range hi]
    rfl)]
   rfl
  by_cases c:i < m
  ·have q:=h1 i c
   have e:(v (low+(i:Int)) == low+(i:Int))=false:=by rw [q.1]; exact beq_eq_false_iff_ne.mpr (by omega)
   simp -implicitDefEqProofs only [rf,qT,jt,jr,mZ,mz,my,mR,h8,gx,jH,mj,l7,kR,l8,l5,kQ,lA,fL,cH,eU,gD,gC,gB,gA,ij,ii,ig,ie,kP,kO,jG,jz,jF,jE,jD,jC,jA,jB,mP,kJ,kM,mM,mO,kG,kH,kL,mL,mJ,mK,lP,lN,lO,kN,mi,mh,mf,jx,jw,kZ,kY,k9,k7,bF,mr,ml,fK,dM,mS,kW,kT,lB,lC,jv,ju,fj,fJ,kU,lz,ly,jL,jK,jJ,hX,jI,kD,kC,kB,kX,hZ,mV,mW,mY,mX,ky,kw,mU,mT,mx,ku,kr,me,lZ,lY,jY,jV,jU,jX,jW,jM,lH,lF,lG,kq,kn,km,kl,kj,ki,kh,kg,ke,jT,jS,jR,jQ,i6,i5,mD,mC,mB,lQ,kF,kE,mI,mH,mG,kc,kb,lR,jn,jp,jm,jl,jq,mF,mE,kK,jf,jd,jh,jj,je,kA,kz,lv,lu,lq,j8,j7,l9,md,ma,lW,lV,gt,cP,cy,lT,lU,lS,lp,lm,ll,iT,iU,iX,iW,ld,lg,lc,la,lh,lj,li,lJ,lL,lM,lK,mq,mn,lX,jP,jO,jN,mQ,h9,ji,j6,ka,j9,j4,jZ,gw,Tw.iG,Tw.iF,Tw.iE,Tw.gL,Tw.iD,Tw.iC,Tw.iB,Tw.iz,Tw.iy,kS,lD,iJ,Tr.of_some,Tr.bind_assoc,Tr.draw_bind,List.cons_append,List.nil_append,List.replicate_succ,List.replicate_zero,List.length_cons,List.length_nil,Re.val_d,Re.val_own,blk,gz,List.map_cons,List.map_nil,List.getElem?_cons_zero,List.getElem?_cons_succ,Option.getD_some,Nat.reduceAdd,Nat.reduceLeDiff,List.isEmpty_cons,ex,e,Bool.not_false,decide_eq_true (show (i:Int) < (m:Int) by omega),if_true]
  ·have q:=h2 i (by omega) hi
   have e:(v (low+(i:Int)) == low+(i:Int))=true:=by rw [q]; simp
   simp -implicitDefEqProofs only [rf,qT,jt,jr,mZ,mz,my,mR,h8,gx,jH,mj,l7,kR,l8,l5,kQ,lA,fL,cH,eU,gD,gC,gB,gA,ij,ii,ig,ie,kP,kO,jG,jz,jF,jE,jD,jC,jA,jB,mP,kJ,kM,mM,mO,kG,kH,kL,mL,mJ,mK,lP,lN,lO,kN,mi,mh,mf,jx,jw,kZ,kY,k9,k7,bF,mr,ml,fK,dM,mS,kW,kT,lB,lC,jv,ju,fj,fJ,kU,lz,ly,jL,jK,jJ,hX,jI,kD,kC,kB,kX,hZ,mV,mW,mY,mX,ky,kw,mU,mT,mx,ku,kr,me,lZ,lY,jY,jV,jU,jX,jW,jM,lH,lF,lG,kq,kn,km,kl,kj,ki,kh,kg,ke,jT,jS,jR,jQ,i6,i5,mD,mC,mB,lQ,kF,kE,mI,mH,mG,kc,kb,lR,jn,jp,jm,jl,jq,mF,mE,kK,jf,jd,jh,jj,je,kA,kz,lv,lu,lq,j8,j7,l9,md,ma,lW,lV,gt,cP,cy,lT,lU,lS,lp,lm,ll,iT,iU,iX,iW,ld,lg,lc,la,lh,lj,li,lJ,lL,lM,lK,mq,mn,lX,jP,jO,jN,mQ,h9,ji,j6,ka,j9,j4,jZ,gw,Tw.iG,Tw.iF,Tw.iE,Tw.gL,Tw.iD,Tw.iC,Tw.iB,Tw.iz,Tw.iy,kS,lD,iJ,Tr.of_some,Tr.bind_assoc,Tr.draw_bind,List.cons_append,List.nil_append,List.replicate_succ,List.replicate_zero,List.length_cons,List.length_nil,Re.val_d,Re.val_own,blk,gz,List.map_cons,List.map_nil,List.getElem?_cons_zero,List.getElem?_cons_succ,Option.getD_some,Nat.reduceAdd,Nat.reduceLeDiff,List.isEmpty_cons,ex,e,Bool.not_true,decide_eq_false (show ¬ (i:Int) < (m:Int) by omega)]
   rfl
 have lf:=ZjZ m k
 rw [show (((m+k:Nat):Int) - 0).toNat=m+k by omega] at em
 have ln2:bh bJ [.list ((((ao 0 (m+k)).filter λz=>decide (z < (m:Int))).map λz=>z).map PyData.int)]=.ret (.int (m:Int)):=by rw [fK,List.length_map,List.length_map,lf]
 have r2:rT [.int (low+(m:Int)),.int (low+((m+k:Nat):Int))]=.ret (bc (low+(m:Int)) (low+((m+k:Nat):Int))):=hZ (by unfold qO; rw [dg (by omega) (by omega),dg (by omega) (by omega),decide_eq_true (by omega)]; rfl)
 have er:bc (low+(m:Int)) (low+((m+k:Nat):Int))=(ao (low+(m:Int)) k).map PyData.int:=by
  unfold bc
  rw [show (low+((m+k:Nat):Int) - (low+(m:Int))).toNat=k by omega]
 rw [hl] at ev ln em
 have hd:List.replicate m G++ao (low+(m:Int)) k=G::(List.replicate m G++ao (low+(m:Int)) k).drop 1:=by
  cases m with
  | zero =>
   obtain ⟨j,rfl⟩:∃ j,k=j+1:=⟨k - 1,by omega⟩
   rw [h3 rfl,List.replicate_zero,List.nil_append,iK]
   show _=low::_
   rw [show low+((0:Nat):Int)=low by omega]
   rfl
  | succ m=>rfl
 have ct:dc (.list ((List.replicate m G++ao (low+(m:Int)) k).map PyData.int)) none (some 1)=.ret (.list [.int G]):=by
  rw [hd]
  exact Zls _ 1 (by simp)
 have rp:m8 gP (.list [PyData.int G]) (.int (m:Int))=.ret (List.replicate m (PyData.int G)):=by
  rw [ZbI (by simp; omega),Int.toNat_natCast,ZbH]
 have ae:aI fo (.list (List.replicate m (PyData.int G))) (.list ((ao (low+(m:Int)) k).map PyData.int))=.ret (.list ((List.replicate m G++ao (low+(m:Int)) k).map PyData.int)):=by
  have lk:(ao (low+(m:Int)) k).length=k:=by unfold ao; rw [List.length_map,List.length_range]
  rw [List.map_append,List.map_replicate]
  rw [Zmy]
  exact gx (bF (by rw [List.length_replicate,List.length_map,lk]; omega))
 have ne:=Zis (List.replicate m G++ao (low+(m:Int)) k)
 have i0:aI ay (.list ((List.replicate m G++ao (low+(m:Int)) k).map PyData.int)) (.int 0)=.ret (.int G):=by
  rw [hd,List.map_cons,fL,eU]
  rfl
 generalize List.replicate m G++ao (low+(m:Int)) k=vs at *
 simp -implicitDefEqProofs only [rE,jt,jr,mZ,mz,my,mR,h8,gx,jH,mj,l7,kR,l8,l5,kQ,lA,fL,cH,eU,gD,gC,gB,gA,ij,ii,ig,ie,kP,kO,jG,jz,jF,jE,jD,jC,jA,jB,mP,kJ,kM,mM,mO,kG,kH,kL,mL,mJ,mK,lP,lN,lO,kN,mi,mh,mf,jx,jw,kZ,kY,k9,k7,bF,mr,ml,fK,dM,mS,kW,kT,lB,lC,jv,ju,fj,fJ,kU,lz,ly,jL,jK,jJ,hX,jI,kD,kC,kB,kX,hZ,mV,mW,mY,mX,ky,kw,mU,mT,mx,ku,kr,me,lZ,lY,jY,jV,jU,jX,jW,jM,lH,lF,lG,kq,kn,km,kl,kj,ki,kh,kg,ke,jT,jS,jR,jQ,i6,i5,mD,mC,mB,lQ,kF,kE,mI,mH,mG,kc,kb,lR,jn,jp,jm,jl,jq,mF,mE,kK,jf,jd,jh,jj,je,kA,kz,lv,lu,lq,j8,j7,l9,md,ma,lW,lV,gt,cP,cy,lT,lU,lS,lp,lm,ll,iT,iU,iX,iW,ld,lg,lc,la,lh,lj,li,lJ,lL,lM,lK,mq,mn,lX,jP,jO,jN,mQ,h9,ji,j6,ka,j9,j4,jZ,gw,Tw.iG,Tw.iF,Tw.iE,Tw.gL,Tw.iD,Tw.iC,Tw.iB,Tw.iz,Tw.iy,kS,lD,iJ,Tr.of_some,Tr.bind_assoc,Tr.draw_bind,List.cons_append,List.nil_append,List.replicate_succ,List.replicate_zero,List.length_cons,List.length_nil,Re.val_d,Re.val_own,blk,gz,List.map_cons,List.map_nil,List.getElem?_cons_zero,List.getElem?_cons_succ,Option.getD_some,Nat.reduceAdd,Nat.reduceLeDiff,List.isEmpty_cons,it,hs,ev,ln,r1,hs2,em,ln2,ct,Zj9,rp,r2,er,ae,ne,i0]
end My
set_option Elab.async false
set_option linter.all false
set_option maxRecDepth 100000
namespace My
open PySem PySem.Spec PyProof.Rows L2 Tw
theorem br (n:Int):cx [.pen,.d (.int n)]=.draw n λr=>.ret (.d (.int r)):=rfl
theorem Za1:∀ (ns:List Int) (k:Nat),cN (gh (bq (aw (ai 0) (aw (ai 1) bi))) o6 oT [.un,.un]) (enu k ns)=.ret ((bT k ns).map PyData.int)
 | [],k=>rfl
 | n::ns,k=>by
  have ih:=Za1 ns (k+1)
  have e0:gh (bq (aw (ai 0) (aw (ai 1) bi))) o6 oT [.un,.un] (.tuple [.int k,.int n])=.ret (if n > 0 then some (.int k) else none):=by
   by_cases h:n > 0
   ·simp_arith [o6,oT,decide_eq_true h,if_pos h]
   ·simp_arith [o6,oT,decide_eq_false h,if_neg h]
  rw [enu,cN,e0,Tr.ret_bind,ih,Tr.ret_bind,bT]
  unfold nT
  by_cases h:n > 0
  ·rw [if_pos h,if_pos h]; rfl
  ·rw [if_neg h,if_neg h]
theorem Zhe {ls:List Int} (h:∃ n∈ls,n > 0) (hl:ls.length<=100):oS [.d (tI ls)]=.ret (.int (great ls)):=by
 have hs:small (enu 0 ls).length=true:=bF (by rw [n9]; omega)
 simp_arith [oS,vS,ia,hs,Za1,ZcR h]
theorem ZbK:∀ {fs:List (List Int)},(∀ l∈fs,DayOk 8 l)->bz (df (ai 0) oS [.un]) (fs.map tI)=.ret ((fs.map great).map PyData.int)
 | [],_=>rfl
 | ls::fs,h=>by
  have ih:=ZbK (fs:=fs) λl hl=>h l (List.mem_cons_of_mem _ hl)
  have hd:=h ls (by simp)
  have e0:df (ai 0) oS [.un] (tI ls)=.ret (.int (great ls)):=Zhe hd.pos (Nat.le_trans hd.len (by decide))
  rw [List.map_cons,bz,e0,Tr.ret_bind,ih]
  rfl
theorem Zd2 {fs:List (List Int)} (h:∀ l∈fs,DayOk 8 l) (hl:fs.length<=100):pw [.d (fD fs)]=.ret (.d (.int (reach fs))):=by
 have hs:small (fs.map tI).length=true:=bF (by rw [List.length_map]; omega)
 have e:=ZbK h
 have es:bh cg [.list ((fs.map great).map PyData.int)]=.ret (.int (reach fs)):=fj _
 simp_arith [pw,sy,hs,e,es]
noncomputable def vh (ps:List Int):Prop:=ps.length=7/\∀ p∈ps,0<=p/\p<=1000000
theorem Zez (a b c d e f g:PyData):L2.dN [a,b,c,d,e,f,g] none (some 5)=[a,b,c,d,e]:=rfl
theorem Zey (a b c d e f g:PyData):L2.dN [a,b,c,d,e,f,g] (some 5) none=[f,g]:=rfl
theorem pr1 {w:Int} (w0:0<=w) (w1:w < 4) {ns:List Int} (hl:ns.length<=100) (A B:Sl):Al (vI [.pen,.d (.int w),.own (ns.map PyData.int),A,B]) 4 λo=>∃ (y:Int) (B':Sl),o=.next [.pen,.d (.int w),.own ((ns++[y]).map PyData.int),A,B']/\0<=y/\y<=1000000:=by
 have hs:small ((ns.map PyData.int).length+1)=true:=bF (by rw [List.length_map]; omega)
 simp_arith [vI,br]
 refine cU (n:=3) (by decide) (by decide) (by decide) λa a0 a1=>?_
 try simp_arith [br]
 refine cU (n:=2) (by decide) (by decide) (by decide) λb b0 b1=>?_
 try simp_arith [br]
 refine cU (n:=1) (by decide) (by decide) (by decide) λc c0 c1=>?_
 try simp_arith [br]
 refine cU (n:=0) (by decide) (by decide) (by decide) λd d0 d1=>?_
 obtain ⟨z,hz,z0,z1⟩:=qY (xs:=[PyData.int 0,.int 1,.int 7,.int 1000000]) (lo:=0) (hi:=1000000) (by simp [pK]) d0 d1
 obtain ⟨y,hy,y0,y1⟩:=qY (xs:=[PyData.int a,.int b,.int c,.int z]) (lo:=0) (hi:=1000000) (by simp [pK]; omega) w0 w1
 simp_arith [br,hz,hy,hs]
 have em:ns.map PyData.int++[PyData.int y]=(ns++[y]).map PyData.int:=by rw [List.map_append]; rfl
 rw [em]
 exact dC ⟨y,_,rfl,y0,y1⟩
theorem ZgS:Al (rC [.pen]) 40 λr=>∃ ps,r=.d (tI ps)/\vh ps:=by
 have r1:dU [.int 7]=.ret (bc 0 7):=gu rfl
 simp_arith [rC,br]
 refine cU (n:=39) (by decide) (by decide) (by decide) λw w0 w1=>?_
 try simp_arith [br,r1]
 refine fP (n:=28) (n':=10) (P:=λo=>∃ (ns:List Int) (A B:Sl),o=.next [.pen,.d (.int w),.own (ns.map PyData.int),A,B]/\vh ns) ?_ (by decide) ?_
 ·refine pZ (n:=4) (λpre ρ=>∃ (ns:List Int) (A B:Sl),ρ=[.pen,.d (.int w),.own (ns.map PyData.int),A,B]/\ns.length=pre.length/\∀ p∈ns,0<=p/\p<=1000000) ⟨[],_,_,rfl,rfl,λ_ q=>by cases q⟩ (by rw [dS]; decide) ?_ ?_
  ·rintro pre x post ρ e ⟨ns,A,B,rfl,hl,hn⟩
   obtain ⟨rfl,hpre⟩:=uI e
   refine ⟨_,rfl,wH (pr1 w0 w1 (by omega) _ _) (Nat.le_refl _) ?_⟩
   rintro _ ⟨y,B',rfl,y0,y1⟩
   refine ⟨_,rfl,ns++[y],_,_,rfl,by simp [hl],λq hq=>?_⟩
   rcases List.mem_append.mp hq with hq | hq
   ·exact hn q hq
   ·simp at hq
    subst hq
    exact ⟨y0,y1⟩
  ·rintro ρ ⟨ns,A,B,rfl,hl,hn⟩
   rw [dS] at hl
   exact ⟨ns,A,B,rfl,hl,hn⟩
 ·rintro _ ⟨ns,A,B,rfl,hn⟩
  try simp_arith [br]
  refine cU (n:=9) (by decide) (by decide) (by decide) λr r0 r1=>?_
  try simp_arith [br]
  refine fP (n:=0) (n':=9) (P:=λo=>∃ ns:List Int,o=.next [.pen,.d (.int w),.own (ns.map PyData.int),A,B]/\vh ns) ?_ (by decide) ?_
  ·cases hb:(r == 0)
   ·simp_arith [br]
    exact dC ⟨ns,rfl,hn⟩
   ·obtain ⟨hl,hb⟩:=hn
    obtain ⟨a,b,c,d,e,f,g,rfl⟩:=vD hl
    simp_arith [br,ZdN (xs:=[PyData.int a,.int b,.int c,.int d,.int e,.int f,.int g]) (y:=0) (t:=0) rfl]
    refine dC ⟨[0,b,c,d,e,f,g],rfl,rfl,λp hp=>?_⟩
    rcases List.mem_cons.mp hp with rfl | hp
    ·decide
    ·exact hb p (List.mem_cons_of_mem _ hp)
  ·rintro _ ⟨ns,rfl,hl,hb⟩
   obtain ⟨a,b,c,d,e,f,g,rfl⟩:=vD hl
   simp_arith [br]
   refine cU (n:=8) (by decide) (by decide) (by decide) λr r0 r1=>?_
   try simp_arith [br]
   by_cases hr:r > 0
   ·have hp:=qB [f,g]
    have hsl:(dq [f,g]).length=2:=by rw [hp.length_eq]; rfl
    obtain ⟨x,y,exy⟩:∃ x y,dq [f,g]=[x,y]:=by
     match h:dq [f,g],hsl with
     | [x,y],_=>exact ⟨x,y,rfl⟩
    have es:=Zj4 [f,g] (by show 2 < 64; decide)
    rw [exy] at es hp
    simp only [List.map_cons,List.map_nil] at es
    have hs:small 7=true:=bF (by decide)
    simp_arith [decide_eq_true hr,br,Zez,Zey,es,gx (xs:=[PyData.int a,.int b,.int c,.int d,.int e]) (ys:=[PyData.int x,.int y]) hs]
    refine dC ⟨[a,b,c,d,e,x,y],rfl,rfl,λp hp'=>?_⟩
    rcases List.mem_append.mp (show p∈[a,b,c,d,e]++[x,y] from hp') with q | q
    ·exact hb p (List.mem_append_left [f,g] q)
    ·exact hb p (List.mem_append_right [a,b,c,d,e] (hp.mem_iff.mp q))
   ·simp_arith [decide_eq_false hr,br]
    exact dC ⟨[a,b,c,d,e,f,g],rfl,rfl,hb⟩
end My
set_option Elab.async false
set_option linter.all false
set_option maxRecDepth 100000
namespace My
open PySem PySem.Spec PyProof.Rows L2 Tw
theorem fa1 {w:Int} (w0:0<=w) (w1:w < 4) {ns:List Int} (hl:ns.length<=100) (A B C D E:Sl):Al (vM [.pen,A,B,C,D,.d (.int w),.own (ns.map PyData.int),E]) 3 λo=>∃ y:Int,o=.next [.pen,A,B,C,D,.d (.int w),.own ((ns++[y]).map PyData.int),E]/\0<=y/\y<=1001:=by
 have hs:small ((ns.map PyData.int).length+1)=true:=bF (by rw [List.length_map]; omega)
 simp_arith [vM,br]
 refine cU (n:=2) (by decide) (by decide) (by decide) λa a0 a1=>?_
 try simp_arith [br]
 refine cU (n:=1) (by decide) (by decide) (by decide) λb b0 b1=>?_
 try simp_arith [br]
 refine cU (n:=0) (by decide) (by decide) (by decide) λc c0 c1=>?_
 obtain ⟨y,hy,y0,y1⟩:=qY (xs:=[PyData.int 1,.int a,.int b,.int c]) (lo:=0) (hi:=1001) (by simp [pK]; omega) w0 w1
 simp_arith [br,hy,hs]
 have em:ns.map PyData.int++[PyData.int y]=(ns++[y]).map PyData.int:=by rw [List.map_append]; rfl
 rw [em]
 exact dC ⟨y,rfl,y0,y1⟩
theorem fa2 {most:Int} (m0:1<=most) (m1:most<=8) {fs:List (List Int)} (hf:∀ ls∈fs,DayOk most.toNat ls) (hfl:fs.length<=50) (A C D E F:Sl) :
  Al (vL [.pen,A,.d (.int most),.own (fs.map tI),C,D,E,F]) 30 λo=>∃ (ls:List Int) (D' E' F':Sl),o=.next [.pen,A,.d (.int most),.own ((fs++[ls]).map tI),C,D',E',F']/\DayOk most.toNat ls:=by
 have hs2:small ((fs.map tI).length+1)=true:=bF (by rw [List.length_map]; omega)
 simp_arith [vL,br]
 refine cU (n:=29) (by decide) (by decide) (by decide) λw w0 w1=>?_
 try simp_arith [br]
 refine cU (n:=28) (by omega) (by omega) (by decide) λq q0 q1=>?_
 have r1:dU [.int (1+q)]=.ret (bc 0 (1+q)):=gu (dg (by omega) (by omega))
 simp_arith [br,r1]
 refine fP (n:=24) (n':=2) (P:=λo=>∃ (ns:List Int) (E:Sl),o=.next [.pen,A,.d (.int most),.own (fs.map tI),C,.d (.int w),.own (ns.map PyData.int),E]/\(ns.length:Int)=1+q/\∀ n∈ns,0<=n/\n<=1001) ?_ (by decide) ?_
 ·refine pZ (n:=3) (λpre2 ρ=>∃ (ns:List Int) (E:Sl),ρ=[.pen,A,.d (.int most),.own (fs.map tI),C,.d (.int w),.own (ns.map PyData.int),E]/\ns.length=pre2.length/\∀ n∈ns,0<=n/\n<=1001) ⟨[],_,rfl,rfl,λ_ q=>by cases q⟩ (by rw [dS]; omega) ?_ ?_
  ·rintro pre2 x2 post2 ρ2 e2 ⟨ns,E,rfl,hl2,hn⟩
   obtain ⟨rfl,hpre2⟩:=uI e2
   refine ⟨_,rfl,wH (fa1 w0 w1 (by omega) _ _ _ _ _) (Nat.le_refl _) ?_⟩
   rintro _ ⟨y,rfl,y0,y1⟩
   refine ⟨_,rfl,ns++[y],_,rfl,by simp [hl2],λn hn'=>?_⟩
   rcases List.mem_append.mp hn' with hq | hq
   ·exact hn n hq
   ·simp at hq
    subst hq
    exact ⟨y0,y1⟩
  ·rintro ρ ⟨ns,E,rfl,hl2,hn⟩
   rw [dS] at hl2
   exact ⟨ns,E,rfl,by omega,hn⟩
 ·rintro _ ⟨ns,E,rfl,hl2,hn⟩
  by_cases h0:ns.sum=0
  ·have e0:(ns.sum == 0)=true:=by rw [h0]; rfl
   simp_arith [br,e0]
   refine cU (n:=1) (by decide) (by decide) (by decide) λv v0 v1=>?_
   simp_arith [br,List.length_map]
   refine cU (n:=0) (by omega) (by omega) (by decide) λr r0 r1=>?_
   have hi:dJ (ns.map PyData.int).length r=some r.toNat:=by
    rw [List.length_map]
    unfold dJ
    rw [if_pos r0,if_pos r1]
   have es:(ns.map PyData.int).set r.toNat (.int (1+v))=(ns.set r.toNat (1+v)).map PyData.int:=List.map_set.symm
   simp_arith [br,ZdN hi,es,hs2]
   have em:fs.map tI++[PyData.tuple ((ns.set r.toNat (1+v)).map PyData.int)]=(fs++[ns.set r.toNat (1+v)]).map tI:=by rw [List.map_append]; rfl
   rw [em]
   refine dC ⟨ns.set r.toNat (1+v),_,_,_,rfl,⟨by rw [List.length_set]; omega,⟨1+v,List.mem_set (by omega) _,by omega⟩,λn hm'=>?_⟩⟩
   rcases List.mem_or_eq_of_mem_set hm' with q | q
   ·exact hn n q
   ·subst q; omega
  ·have e0:(ns.sum == 0)=false:=beq_eq_false_iff_ne.mpr h0
   simp_arith [br,e0,hs2]
   have em:fs.map tI++[PyData.tuple (ns.map PyData.int)]=(fs++[ns]).map tI:=by rw [List.map_append]; rfl
   rw [em]
   exact dC ⟨ns,_,_,_,rfl,by omega,ZaL (λn h=>(hn n h).1) h0,hn⟩
theorem ZgT {days most:Int} (d0:1<=days) (d1:days<=6) (m0:1<=most) (m1:most<=8):Al (rG [.pen,.d (.int days),.d (.int most)]) 180 λr=>∃ fs,r=.d (fD fs)/\(fs.length:Int)=days/\∀ ls∈fs,DayOk most.toNat ls:=by
 have r1:dU [.int days]=.ret (bc 0 days):=gu (dg (by omega) (by omega))
 simp_arith [rG,br,r1]
 refine fP (n:=180) (n':=0) (P:=λo=>∃ (fs:List (List Int)) (A B C D:Sl),o=.next [.pen,.d (.int days),.d (.int most),.own (fs.map tI),A,B,C,D]/\(fs.length:Int)=days/\∀ ls∈fs,DayOk most.toNat ls) ?_ (by decide) ?_
 ·refine pZ (n:=30) (λpre ρ=>∃ (fs:List (List Int)) (A B C D:Sl),ρ=[.pen,.d (.int days),.d (.int most),.own (fs.map tI),A,B,C,D]/\fs.length=pre.length/\∀ ls∈fs,DayOk most.toNat ls) ⟨[],_,_,_,_,rfl,rfl,λ_ q=>by cases q⟩ (by rw [dS]; omega) ?_ ?_
  ·rintro pre x post ρ e ⟨fs,A,B,C,D,rfl,hl,hf⟩
   obtain ⟨rfl,hpre⟩:=uI e
   refine ⟨_,rfl,wH (fa2 m0 m1 hf (by omega) _ _ _ _ _) (Nat.le_refl _) ?_⟩
   rintro o ⟨ls,D',E',F',rfl,hd⟩
   refine ⟨_,rfl,fs++[ls],_,_,_,_,rfl,by simp [hl],λz hz=>?_⟩
   rcases List.mem_append.mp hz with hz | hz
   ·exact hf z hz
   ·simp at hz
    subst hz
    exact hd
  ·rintro ρ ⟨fs,A,B,C,D,rfl,hl,hf⟩
   rw [dS] at hl
   exact ⟨fs,_,_,_,_,rfl,by omega,hf⟩
 ·rintro _ ⟨fs,A,B,C,D,rfl,hl,hf⟩
  try simp_arith [br]
  exact dC ⟨fs,rfl,hl,hf⟩
end My
set_option Elab.async false
set_option linter.all false
set_option maxRecDepth 100000
set_option exponentiation.threshold 9000
namespace My
open PySem PySem.Spec PyProof.Rows L2 Tw Bar
theorem Zbx (s:Shp) (d:Nat) (fs:List (List Int)) (x:Int) (o:Nat):∀ p:Nat,p<=o->(eN s d fs x o p).reverse=(List.range' (o - p) p).map (cG s d fs x)
 | 0,_=>rfl
 | p+1,h=>by
  rw [eN,List.reverse_append,Zbx s d fs x o p (by omega),List.range'_succ,show o - (p+1)+1=o - p by omega]
  rfl
theorem MkP.len {s:Shp} {d:Nat} {fs:List (List Int)} {P:List (Int×Int)} {low:Int} (h:MkP s d fs P low):P.length=fs.length - d:=by
 induction h with
 | done h=>show 0=_; omega
 | day hd _ _ ih=>rw [List.length_cons,List.length_cons,ih]; omega
noncomputable def cm (p:Int×Int):PyData:=.tuple [.int p.1,.int p.2]
theorem Zhu (P:List (Int×Int)):aI (pL false) .none (.list (P.map cm))=.ret (.bool false):=by
 have h1:(P.map cm).all SeqAt.shaped=true:=by
  rw [List.all_eq_true]
  intro y hy
  obtain ⟨p,_,rfl⟩:=List.mem_map.mp hy
  rfl
 have h2:((P.map cm).any λz=>PyData.eqv z .none)=false:=by
  rw [List.any_eq_false]
  intro y hy
  obtain ⟨p,_,rfl⟩:=List.mem_map.mp hy
  simp [cm,PyData.eqv]
 have:pL false .none (.list (P.map cm))=some (.bool false):=by
  show (if (SeqAt.shaped .none && (P.map cm).all SeqAt.shaped)=true then some (PyData.bool (if false=true then !((P.map cm).any λz=>PyData.eqv z .none) else (P.map cm).any λz=>PyData.eqv z .none)) else none)=_
  rw [h1,h2]
  rfl
 unfold aI
 rw [this]
 rfl
theorem pl {s:Shp} (hs:s.Ok) (t39:s.top+s.depth<=39) (cv:s.Cv) {fs:List (List Int)} (f8:∀ l∈fs,DayOk 8 l) (hf:FP fs) (l6:fs.length<=6) {d:Nat} {x:Int} (x1:reach fs - s.depth<=x) (x2:x<=s.top) (dl:d<=fs.length) {rest:List (List Int)} {Q:List (Int×Int)} {low:Int} (h:MkP s d rest Q low) :
  ∀ (pre:List (List Int)) (acc:List PyData) (J6 J7:Sl),fs=pre++rest->low=lw fs x pre.length->acc.length=pre.length->∃ K6 K7:Sl,bK (ai 6) pG ((ao pre.length Q.length).map PyData.int) [.d s.d,.d (fD fs),.d (.int d),.d (.int x),.d (.tuple ((List.range' 0 (fs.length - d)).map (cG s d fs x))),.own acc,J6,J7]=.ret (.next [.d s.d,.d (fD fs),.d (.int d),.d (.int x),.d (.tuple ((List.range' 0 (fs.length - d)).map (cG s d fs x))),.own (acc++Q.map cm),K6,K7]):=by
 induction h with
 | done h =>
  intro pre acc J6 J7 _ _ _
  exact ⟨J6,J7,by rw [List.map_nil,List.append_nil]; rfl⟩
 | @day day rest P low L G hd hm ht ih =>
  intro pre acc J6 J7 he hlow ha
  have hl:fs.length=pre.length+(rest.length+1):=by rw [he,List.length_append,List.length_cons]
  have hdr:fs.drop pre.length=day::rest:=by rw [he,List.drop_left]
  have hF:FOk fs:=⟨hf,l6⟩
  have b1:=rS hF x1 pre.length
  have b2:=rR hF x pre.length
  have t0:=hs.t0; have d0:=hs.d0
  have hR:FP (day::rest):=by rw [<- hdr]; exact λl hl=>hf l (List.mem_of_mem_drop hl)
  have e1:lw fs x (pre.length+1)=low - great day:=by have:=ZbJ hdr; rw [hlow]; unfold lw; omega
  obtain ⟨K6,K7,e⟩:=ih (pre++[day]) (acc++[cm (L,G)]) (.d (.int pre.length)) (.d (.int low)) (by rw [he,List.append_assoc]; rfl) (by rw [List.length_append]; exact e1.symm) (by rw [List.length_append,List.length_append,ha]; rfl)
  refine ⟨K6,K7,?_⟩
  have hK:0<=prd (day::rest) * s.start:=Int.mul_nonneg (Int.le_of_lt (fG hR.B)) hs.start0
  have rc:=oR fs pre.length
  rw [hdr] at rc
  obtain ⟨m,m1,m2,m3,m4,m5,m6⟩:=ZiB hK (vQ cv hR hd (vR cv hs.start0 (d:=d) hR.tl)) (show reach (day::rest) - s.depth<=low by rw [hlow]; unfold lw; omega) (by omega) hm
  obtain ⟨k,hk⟩:∃ k:Nat,s.top - low - m+1=(k:Int):=⟨(s.top - low - m+1).toNat,by omega⟩
  have hn:nn s fs x pre.length=m+k:=by unfold nn; omega
  have ep:=Zkq (f:=λy=>oa (aF s d (fs.drop pre.length) y) (prd (fs.drop pre.length)) (aL s d (fs.drop pre.length) y)) (v:=aL s d (fs.drop pre.length)) (λy=>⟨_,rfl⟩) (low:=low) (G:=G) (m:=m) (k:=k) (by omega) (by omega) (by omega) (λi hi=>by
   have:=m3 i hi
   rw [hdr]
   exact this) (λi h1 h2=>by
   have:=m4 i h1 (by omega)
   rw [hdr]
   exact this) m5
  have er:cG s d fs x pre.length=.tuple ((ao low (m+k)).map λy=>oa (aF s d (fs.drop pre.length) y) (prd (fs.drop pre.length)) (aL s d (fs.drop pre.length) y)):=by
   unfold cG
   rw [hn,hlow]
  rw [<- er,<- m1] at ep
  have el:bh bJ [cG s d fs x pre.length]=.ret (.int ((m+k:Nat):Int)):=by
   rw [er,dM,List.length_map]
   unfold ao
   rw [List.length_map,List.length_range]
  have et:aI ay (.tuple ((List.range' 0 (fs.length - d)).map (cG s d fs x))) (.int pre.length)=.ret (cG s d fs x pre.length):=by
   rw [cH,il (v:=cG s d fs x pre.length) (Int.natCast_nonneg _) (by
    rw [Int.toNat_natCast,List.getElem?_map,List.getElem?_range' (by omega)]
    show some (cG s d fs x (0+1 * pre.length))=_
    rw [Nat.one_mul,Nat.zero_add])]
   rfl
  have lt:bh bJ [.tuple ((List.range' 0 (fs.length - d)).map (cG s d fs x))]=.ret (.int ((fs.length - d:Nat):Int)):=by rw [dM,List.length_map,List.length_range']
  have lf:bh bJ [fD fs]=.ret (.int fs.length):=by
   unfold fD
   rw [dM,List.length_map]
  have c1:(((fs.length - d:Nat):Int) == (fs.length:Int) - (d:Int))=true:=by rw [beq_iff_eq]; omega
  have c2:(((m+k:Nat):Int) == s.top - low+1)=true:=by rw [beq_iff_eq]; omega
  have ct:dc (fD fs) none (some (pre.length:Int))=.ret (fD (fs.take pre.length)):=sL fs (by omega)
  have eR:=Zd2 (fs:=fs.take pre.length) (λl hl=>f8 l (List.mem_of_mem_take hl)) (by rw [List.length_take]; omega)
  have ew:x - reach (fs.take pre.length)=low:=by rw [hlow]; rfl
  have hsm:small (acc.length+1)=true:=bF (by omega)
  have etn:pG [.d s.d,.d (fD fs),.d (.int d),.d (.int x),.d (.tuple ((List.range' 0 (fs.length - d)).map (cG s d fs x))),.own acc,.d (.int pre.length),J7]=.ret (.next [.d s.d,.d (fD fs),.d (.int d),.d (.int x),.d (.tuple ((List.range' 0 (fs.length - d)).map (cG s d fs x))),.own (acc++[cm (L,G)]),.d (.int pre.length),.d (.int low)]):=by
   simp_arith [pG,ct,eR,ew,lt,lf,c1,et,el,c2,Bool.not_true,ep,hsm]
   rfl
  have eg:ai 6 (.int (pre.length:Int)) [.d s.d,.d (fD fs),.d (.int d),.d (.int x),.d (.tuple ((List.range' 0 (fs.length - d)).map (cG s d fs x))),.own acc,J6,J7]=some [.d s.d,.d (fD fs),.d (.int d),.d (.int x),.d (.tuple ((List.range' 0 (fs.length - d)).map (cG s d fs x))),.own acc,.d (.int pre.length),J7]:=rfl
  rw [List.length_append] at e
  have e:bK (ai 6) pG ((ao ((pre.length:Int)+1) P.length).map PyData.int) [.d s.d,.d (fD fs),.d (.int d),.d (.int x),.d (.tuple ((List.range' 0 (fs.length - d)).map (cG s d fs x))),.own (acc++[cm (L,G)]),.d (.int pre.length),.d (.int low)]=_:=e
  rw [List.length_cons,iK,List.map_cons,dB,eg,Tr.of_some,Tr.ret_bind,cP,etn,Tr.ret_bind,cy,e,List.append_assoc]
  rfl
theorem Zkp {s:Shp} (hs:s.Ok) (t39:s.top+s.depth<=39) (cv:s.Cv) {fs:List (List Int)} (f8:∀ l∈fs,DayOk 8 l) (hf:FP fs) (l6:fs.length<=6) {d:Nat} {x:Int} (x1:reach fs - s.depth<=x) (x2:x<=s.top) (dl:d<=fs.length) {P:List (Int×Int)} (h:MkP s d fs P x) :
  rD [.d s.d,.d (fD fs),.d (.int d),.d (.int x)]=.ret (.d (.list (P.map cm))):=by
 have hl:=h.len
 have e0:x=lw fs x 0:=by unfold lw; rw [List.take_zero]; show x=x - 0; omega
 obtain ⟨K6,K7,e⟩:=pl hs t39 cv f8 hf l6 x1 x2 dl h [] [] .un .un rfl e0 rfl
 have es:=Zkm hs ⟨hf,l6⟩ dl x1 x2
 rw [Zbx s d fs x _ _ (Nat.le_refl _),Nat.sub_self] at es
 have lf:bh bJ [fD fs]=.ret (.int fs.length):=by
  unfold fD
  rw [dM,List.length_map]
 have r1:dU [.int ((fs.length:Int) - (d:Int))]=.ret (bc 0 ((fs.length:Int) - (d:Int))):=gu (dg (by omega) (by omega))
 have er:bc 0 ((fs.length:Int) - (d:Int))=(ao ((0:Nat):Int) P.length).map PyData.int:=by
  unfold bc
  rw [show ((fs.length:Int) - (d:Int) - 0).toNat=P.length by omega]
  rfl
 have ei:=Zhu P
 rw [List.nil_append,List.length_nil] at e
 generalize (P.map cm)=ys at *
 simp_arith [rD,es,lf,r1,er,e,ei]
end My
set_option Elab.async false
set_option linter.all false
set_option maxRecDepth 100000
set_option exponentiation.threshold 9000
namespace My
open PySem PySem.Spec PyProof.Rows L2 Tw Bar
theorem Zju {xs:List PyData}:jb "tuple" (fU (.tuple xs))=true:=rfl
theorem Zjv {n:Int}:jb "int" (fU (.int n))=true:=rfl
theorem Zjw {n:Int}:jb "bool" (fU (.int n))=false:=rfl
theorem Zku {t b:Int} (hb:0 < b) (nt:nb 4000 t) (nB:nb 4000 b):rF [.d (nD t b),.d (.int t),.d (.int b)]=.ret (.d (.bool true)):=by
 obtain ⟨p1,p2,p3,p4⟩:=Gc.ZcX (t:=t) (b:=b) (by omega)
 obtain ⟨n1,n2⟩:=ZiU nt nB (by omega)
 unfold nD
 generalize Gc.hI t b=x at *
 generalize Gc.gg t b=y at *
 obtain ⟨z,rfl⟩:∃ z:Nat,y=(z:Int):=⟨y.toNat,by omega⟩
 have key:=euclid (p:=tS) (s:=vJ) (E:=λa b'=>[.d (.tuple [.int x,.int z]),.d (.int t),.d (.int b),.d (.int a),.d (.int b')]) (λa b=>by
  simp_arith [tS]
  by_cases h:b=0
  ·subst h; rfl
  ·rw [decide_eq_true h]
   congr 1
   simp
   omega) (λa b h=>by
  have h':(b:Int)≠0:=by omega
  simp_arith [vJ,ZdO h',ZdK]) 8000 83999 x.natAbs z (Nat.lt_of_lt_of_le (show z < 2 ^ 4000 from by unfold nb at n2; rwa [Int.natAbs_natCast] at n2) (Nat.pow_le_pow_right (by decide) (by decide)))
 have e:2 * 8000+1+83999=100000:=rfl
 rw [e] at key
 rw [Int.natAbs_natCast] at p4
 rw [p4] at key
 have c1:¬ (z:Int) < 1:=by omega
 have g1:=aQ n1 (by decide)
 have g2:=aQ nB (by decide)
 have g3:=aQ nt (by decide)
 have g4:=aQ n2 (by decide)
 have eq:(x * b == t * (z:Int))=true:=by
  rw [beq_iff_eq]
  rw [p1,p2]
  grind
 have hl1:∀ (v:Int) (J K:Sl),r8 [.d (.tuple [.int x,.int z]),.d (.int t),.d (.int b),.d (.int v),K]=.ret (.next [.d (.tuple [.int x,.int z]),.d (.int t),.d (.int b),.d (.int v),K]):=λv J K=>by
  simp_arith [r8,Zjv,Zjw,Bool.not_true]
 have ef:∀ J K:Sl,bK (ai 3) r8 [.int x,.int z] [.d (.tuple [.int x,.int z]),.d (.int t),.d (.int b),J,K]=.ret (.next [.d (.tuple [.int x,.int z]),.d (.int t),.d (.int b),.d (.int z),K]):=λJ K=>by
  rw [dB]
  simp_arith [hl1 _ J,dB]
 have e2:(((2:Nat):Int) == 2)=true:=rfl
 have e3:(((1:Nat):Int) == 1)=true:=rfl
 simp_arith [rF,Zju,Bool.not_true,ef,decide_eq_false c1,Zfq,key,eq,e2,e3,g1,g2,g3,g4]
structure Ask6 (s:Shp) (fs:List (List Int)) (x:Int):Prop where
 dr:s.Dr
 bl:s.back<=s.late
 f8:∀ l∈fs,DayOk 8 l
 l2:2<=fs.length
 l6:fs.length<=6
 x1:reach fs - s.depth<=x
 x2:x<=s.top
theorem Ziz {u:Int} (u0:0<=u) (u1:u < 5):∃ m:Int,bw [PyData.int 8,.int 6,.int 4,.int 4,.int 4] (2+u - 2)=some (.int m)/\1<=m/\m<=8/\(2+u) * (m - 1)<=21:=by
 have:u=0\/u=1\/u=2\/u=3\/u=4:=by omega
 rcases this with rfl | rfl | rfl | rfl | rfl
 ·exact ⟨8,eU,by decide,by decide,by decide⟩
 ·exact ⟨6,gD,by decide,by decide,by decide⟩
 ·exact ⟨4,gC,by decide,by decide,by decide⟩
 ·exact ⟨4,gB,by decide,by decide,by decide⟩
 ·exact ⟨4,gA,by decide,by decide,by decide⟩
theorem ZgU:Al (rJ [.pen]) 300 λr=>∃ (s:Shp) (fs:List (List Int)) (x:Int),r=.own [s.d,fD fs,.int x]/\Ask6 s fs x:=by
 simp_arith [rJ,br]
 refine cU (n:=299) (by decide) (by decide) (by decide) λu u0 u1=>?_
 obtain ⟨m,hm,m0,m1,hum⟩:=Ziz u0 u1
 simp_arith [br,hm]
 refine fP (n:=180) (n':=100) (ZgT (days:=2+u) (by omega) (by omega) m0 m1) (by decide) ?_
 rintro _ ⟨fs,rfl,hl,hf⟩
 have f8:∀ l∈fs,DayOk 8 l:=λls h=>(hf ls h).mono (by omega)
 have er:=Zd2 f8 (by omega)
 obtain ⟨r0,r1⟩:=ZbL (most:=m.toNat) (by omega) hf
 have hr:reach fs<=21:=by
  have e1:((m.toNat:Nat):Int)=m:=by omega
  rw [hl,e1] at r1
  omega
 simp_arith [br,er]
 refine cU (n:=99) (by decide) (by decide) (by decide) λv v0 v1=>?_
 obtain ⟨z,hz,z0,z1⟩:=qY (xs:=[PyData.int 3,.int 12,.int 12]) (lo:=3) (hi:=12) (by simp [pK]) v0 v1
 have hmin:3<=de (39 - reach fs) z/\de (39 - reach fs) z<=12/\de (39 - reach fs) z<=39 - reach fs:=by unfold de; split <;> omega
 simp_arith [br,hz]
 refine cU (n:=98) (by omega) (by omega) (by decide) λt t0 t1=>?_
 try simp_arith [br]
 refine cU (n:=97) (by decide) (by decide) (by decide) λw w0 w1=>?_
 have hm2:0<=de (39 - reach fs - t) w/\de (39 - reach fs - t) w<=39 - reach fs - t/\de (39 - reach fs - t) w<=3:=by unfold de; split <;> omega
 try simp_arith [br]
 generalize de (39 - reach fs - t) w=mo at *
 refine cU (n:=96) (by omega) (by omega) (by decide) λq q0 q1=>?_
 try simp_arith [br]
 refine fP (n:=40) (n':=0) ZgS (by decide) ?_
 rintro _ ⟨ps,rfl,hpl,hp⟩
 obtain ⟨a1,a2,a3,a4,a5,f,g,rfl⟩:=vD hpl
 have hpm:=qB [f,g]
 have hple:=uk [f,g]
 have hsl:(dq [f,g]).length=2:=by rw [hpm.length_eq]; rfl
 obtain ⟨y1,y2,exy⟩:∃ y1 y2,dq [f,g]=[y1,y2]:=by
  match h:dq [f,g],hsl with
  | [y1,y2],_=>exact ⟨y1,y2,rfl⟩
 have es:=Zj3 [f,g] (by show 2 < 64; decide)
 rw [exy] at es hpm hple
 simp only [List.map_cons,List.map_nil] at es
 have hs2:small 2=true:=bF (by decide)
 simp_arith [tI,br,Zez,Zey,es]
 have hpy:∀ y∈[y1,y2],0<=y/\y<=1000000:=λy hy=>hp y (List.mem_append_right [a1,a2,a3,a4,a5] (hpm.mem_iff.mp hy))
 refine dC ⟨⟨t,39 - (39 - reach fs)+mo,a1,a2,a3,a4,a5,y1,y2⟩,fs,q - mo,?_,⟨by show 0<=t; omega,by show 0<=39 - (39 - reach fs)+mo; omega,by show t+(39 - (39 - reach fs)+mo)<=39; omega,λn hn=>?_⟩,?_,f8,by omega,by omega,by show reach fs - (39 - (39 - reach fs)+mo)<=q - mo; omega,by show q - mo<=t; omega⟩
 ·rw [<- ZgC]
 ·rcases List.mem_append.mp (show n∈[a1,a2,a3,a4,a5]++[y1,y2] from hn) with h | h
  ·exact hp n (List.mem_append_left [f,g] h)
  ·exact hpy n h
 ·show y1<=y2
  rw [List.pairwise_cons] at hple
  exact hple.1 y2 (by simp)
theorem lb1 (W:Sl):∀ (fs:List (List Int)) (b:Nat) (D:Int) (J:Sl),nb b D->(∀ l∈fs,DayB l)->b+46 * fs.length<=8000->∃ K:Sl,bK (ai 2) sf (fs.map tI) [W,.d (.int D),J]=.ret (.next [W,.d (.int (D * prd fs)),K])
 | [],b,D,J,_,_,_=>⟨J,by rw [prd,Int.mul_one]; rfl⟩
 | d::fs,b,D,J,h,hf,hl=>by
  rw [List.length_cons,Nat.mul_succ] at hl
  have hd:=hf d (by simp)
  have sn:=ub hd
  obtain ⟨K,e⟩:=lb1 W fs (b+46) (D * d.sum) (.d (tI d)) (b7 h sn) (λq hq=>hf q (List.mem_cons_of_mem _ hq)) (by omega)
  refine ⟨K,?_⟩
  have f1:=aQ h (by omega)
  have f2:=aQ sn (by decide)
  have es:bh cg [tI d]=.ret (.int d.sum):=fJ d
  have et:sf [W,.d (.int D),.d (tI d)]=.ret (.next [W,.d (.int (D * d.sum)),.d (tI d)]):=by
   simp_arith [sf,es,f1,f2]
  have eg:ai 2 (tI d) [W,.d (.int D),J]=some [W,.d (.int D),.d (tI d)]:=rfl
  have ep:D * d.sum * prd fs=D * prd (d::fs):=by rw [prd,Int.mul_assoc,Int.mul_comm d.sum]
  rw [List.map_cons,dB,eg,Tr.of_some,Tr.ret_bind,cP,et,Tr.ret_bind,cy,e,ep]
theorem Zks {fs:List (List Int)} (hf:FOk fs):rH [.d (fD fs)]=.ret (.d (.int (prd fs))):=by
 obtain ⟨K,e⟩:=lb1 (.d (fD fs)) fs 1 1 .un (by show (1:Int).natAbs < 2 ^ 1; decide) hf.B (by have:=hf.len; omega)
 rw [Int.one_mul] at e
 simp_arith [rH,sy,e]
theorem gO:∀ d:Nat,(List.replicate d (0:Int)).sum=0
 | 0=>rfl
 | d+1=>by rw [List.replicate_succ,List.sum_cons,gO d]; rfl
theorem Ask6.fp {s:Shp} {fs:List (List Int)} {x:Int} (h:Ask6 s fs x):FP fs:=λl hl=>⟨(h.f8 l hl).B (by decide),(h.f8 l hl).pos⟩
theorem Ask6.cv {s:Shp} {fs:List (List Int)} {x:Int} (h:Ask6 s fs x):s.Cv:=by
 have hp:=h.dr.p
 simp only [List.mem_cons,List.not_mem_nil,or_false,forall_eq_or_imp,forall_eq] at hp
 exact ⟨hp.2.2.1.1,hp.2.2.2.1.1,h.bl⟩
theorem Zcy {s:Shp} {fs:List (List Int)} {x:Int} (h:Ask6 s fs x) {d:Nat} (d1:1<=d) (d2:d<=fs.length) {P:List (Int×Int)} (hm:MkP s d fs P x):vP s fs P x (List.replicate d 0)=eC s d fs x:=by
 have hl:∀ l∈fs,0 < l.length:=λl hl=>by obtain ⟨n,hn,-⟩:=(h.fp l hl).2; exact List.length_pos_of_mem hn
 rw [Zau d1 fs P x x _ h.fp (hm.opt h.fp h.x2) (List.length_replicate ..) (λa ha=>by rw [(List.mem_replicate.mp ha).2]; exact Int.le_refl 0) (by rw [gO]; omega) (by rw [gO]; have:=h.x2; omega) h.x1,Zd7 s fs x hl d d2,gO,Int.add_zero]
 unfold eC
 omega
theorem Zkk {s:Shp} {fs:List (List Int)} {x:Int} (h:Ask6 s fs x) {d:Nat} (d1:1<=d) (d3:d<=3) (dl:d < fs.length) {P:List (Int×Int)} (hm:MkP s d fs P x) {iA:List Sl->Tr PyData} {js:List Sl->Tr (List PyData)} {ρ:List Sl} (hA:iA ρ=.ret (aD s fs P)) (hj:js ρ=.ret [.int 0,.int x,tI (List.replicate d 0)]) :
  tf gm eS (λF KS=>eP F KS 7) iA js ρ=.ret (.d (.int (eC s d fs x))):=by
 have l6:=h.l6
 have pl:=hm.len
 have hL:(eS (aD s fs P)).length < sizeLine:=by
  rw [Zi9,sizeLine_eq,show fs.length - P.length=d by omega]
  have hp:40 ^ d<=40 ^ 3:=Nat.pow_le_pow_right (by decide) d3
  have h1:40 * 40 ^ d<=40 * 40 ^ 3:=Nat.mul_le_mul_left _ hp
  have h2:fs.length * (40 * 40 ^ d)<=6 * (40 * 40 ^ 3):=Nat.mul_le_mul l6 h1
  exact Nat.lt_of_le_of_lt h2 (by decide)
 have st:St6 s d fs (P.drop ([]:List (List Int)).length) x x (List.replicate d 0):=⟨h.dr.ok,h.dr.td,h.fp,l6,hm.opt h.fp h.x2,List.length_replicate ..,λa ha=>by rw [(List.mem_replicate.mp ha).2]; exact Int.le_refl 0,by rw [gO]; omega,by rw [gO]; have:=h.x2; omega,h.x1⟩
 have e:=Zd3 (s:=s) (fs:=fs) (PP:=P) d1 (by omega) (by omega) fs [] 7 x x (List.replicate d 0) rfl (by omega) st
 have e0:(([]:List (List Int)).length:Int)=0:=rfl
 have e00:P.drop ([]:List (List Int)).length=P:=rfl
 rw [e0,e00,Zcy h d1 (by omega) hm] at e
 generalize eC s d fs x=v at *
 generalize hm':(λ(F:List Int->Option Int) (KS:List (List Int))=>eP F KS 7)=f
 have e':f (gm (aD s fs P)) (eS (aD s fs P)) [.d (aD s fs P),.pen,.d (.int 0),.d (.int x),.d (tI (List.replicate d 0))]=.ret (.d (.int v)):=by rw [<- hm']; exact e
 clear e hm' st
 unfold tf
 rw [hA,Tr.ret_bind,hj,Tr.ret_bind,if_pos hL]
 simp only [List.map_cons,List.map_nil,e']
theorem Zi6 {s:Shp} {fs:List (List Int)} {x:Int} (h:Ask6 s fs x) {d:Nat} (d1:1<=d) (d2:d<=fs.length) {P:List (Int×Int)} (hm:MkP s d fs P x):nb 4000 (eC s d fs x):=by
 have st:St6 s d fs P x x (List.replicate d 0):=⟨h.dr.ok,h.dr.td,h.fp,h.l6,hm.opt h.fp h.x2,List.length_replicate ..,λa ha=>by rw [(List.mem_replicate.mp ha).2]; exact Int.le_refl 0,by rw [gO]; omega,by rw [gO]; have:=h.x2; omega,h.x1⟩
 rw [<- Zcy h d1 d2 hm]
 exact bf (tY d1 st) (by have:=h.l6; omega)
theorem t2 {s:Shp} {fs:List (List Int)} {x:Int} (h:Ask6 s fs x) {d:Nat} (d1:1<=d) (d3:d<=3) (dl:d < fs.length) (J0 J1 J5 J8 J9 J10:Sl) :
  ∃ K8 K9 K10:Sl,vN [J0,J1,.d s.d,.d (fD fs),.d (.int x),J5,.d (.list (cX fs)),.d (.int d),J8,J9,J10]=.ret (.next [J0,J1,.d s.d,.d (fD fs),.d (.int x),J5,.d (.list (cX fs)),.d (.int d),K8,K9,K10]):=by
 obtain ⟨P,hm⟩:=ZcN h.cv h.dr.ok.start0 (d:=d) h.fp h.x1 h.x2
 have ep:=Zkp h.dr.ok h.dr.td h.cv h.f8 h.fp h.l6 h.x1 h.x2 (by omega) hm
 have el:=Zkt h.dr.ok ⟨h.fp,h.l6⟩ (d:=d) (by omega) h.x1 h.x2
 have p0:=fG h.fp.B
 have p1:nb 4000 (prd fs):=bf (dI h.fp.B) (by have:=h.l6; omega)
 have es:=Zku p0 (Zi6 h d1 (by omega) hm) p1
 have b0:=wy (fs:=fs) (t:=0) (by omega)
 rw [List.drop_zero,fO] at b0
 have b0:bw (cX fs) 0=some (.int (prd fs)):=b0
 have iN:aI pJ (.list (P.map cm)) .none=.ret (.bool false):=rfl
 have er:aI oQ (.tuple [.int 0]) (.int (d:Int))=.ret (tI (List.replicate d 0)):=by
  have:d=1\/d=2\/d=3:=by omega
  rcases this with rfl | rfl | rfl <;> rfl
 have ew:=Zkk h d1 d3 dl hm (iA:=bO (cD (af (aa 2) (af (aa 3) (af (aa 6) (af (aa 8) al)))))) (js:=af (aC (.int 0)) (af (aa 4) (af (ad oQ (dO (af (aC (.int 0)) al)) (aa 7)) al))) (ρ:=[J0,J1,.d s.d,.d (fD fs),.d (.int x),J5,.d (.list (cX fs)),.d (.int d),.d (.list (P.map cm)),J9,J10]) (by
  simp_arith [List.isEmpty_cons]
  rfl) (by simp_arith [er])
 have r2:dU [.int 2]=.ret (bc 0 2):=gu rfl
 have et:∀ J:Sl,sg [J0,J1,.d s.d,.d (fD fs),.d (.int x),J5,.d (.list (cX fs)),.d (.int d),.d (.list (P.map cm)),.d (.int (eC s d fs x)),J]=.ret (.next [J0,J1,.d s.d,.d (fD fs),.d (.int x),J5,.d (.list (cX fs)),.d (.int d),.d (.list (P.map cm)),.d (.int (eC s d fs x)),J]):=λJ=>by
  simp_arith [sg,el,b0,es,Bool.not_true]
 have rr:bc 0 2=[.int 0,.int 1]:=rfl
 have eg:∀ (v:PyData) (J:Sl),ai 10 v [J0,J1,.d s.d,.d (fD fs),.d (.int x),J5,.d (.list (cX fs)),.d (.int d),.d (.list (P.map cm)),.d (.int (eC s d fs x)),J]=some [J0,J1,.d s.d,.d (fD fs),.d (.int x),J5,.d (.list (cX fs)),.d (.int d),.d (.list (P.map cm)),.d (.int (eC s d fs x)),.d v]:=λv J=>rfl
 have ef:∀ J:Sl,bK (ai 10) sg [.int 0,.int 1] [J0,J1,.d s.d,.d (fD fs),.d (.int x),J5,.d (.list (cX fs)),.d (.int d),.d (.list (P.map cm)),.d (.int (eC s d fs x)),J]=.ret (.next [J0,J1,.d s.d,.d (fD fs),.d (.int x),J5,.d (.list (cX fs)),.d (.int d),.d (.list (P.map cm)),.d (.int (eC s d fs x)),.d (.int 1)]):=λJ=>by
  rw [dB,eg,Tr.of_some,Tr.ret_bind,cP,et,Tr.ret_bind,cy,dB,eg,Tr.of_some,Tr.ret_bind,cP,et,Tr.ret_bind,cy,gt]
 refine ⟨.d (.list (P.map cm)),.d (.int (eC s d fs x)),.d (.int 1),?_⟩
 simp_arith [vN,ep,iN,ew,r2,rr,ef]
theorem law_true:Al (rK vH) 2000 λo=>o=.ret (.d (.bool true)):=by
 simp_arith [rK,vH,br]
 refine fP (n:=300) (n':=10) ZgU (by decide) ?_
 rintro _ ⟨s,fs,x,rfl,h⟩
 have l2:=h.l2
 have l6:=h.l6
 have hF:FOk fs:=⟨h.fp,l6⟩
 have rp:nK (.list [s.d,fD fs])=true:=ZgZ (Zg0 (xs:=[s.d,fD fs]) (k:=2) (n:=500000) λv hv=>by
  simp only [List.mem_cons,List.not_mem_nil,or_false] at hv
  rcases hv with rfl | rfl
  ·exact oO (ZgY h.dr.ok) (by decide) (by decide)
  ·exact Zg2 h.fp.B (by omega)) (by decide) (by show 2 * 500000+2 * 2+10<=10000000; decide)
 have er:=Zj5 rp
 have ln:bh bJ [fD fs]=.ret (.int fs.length):=by
  unfold fD
  rw [dM,List.length_map]
 have e1:(fs.length:Int)+1=((fs.length+1:Nat):Int):=by omega
 have r1:dU [.int ((fs.length+1:Nat):Int)]=.ret ((List.range (fs.length+1)).map λk:Nat=>PyData.int k):=by
  rw [gu (dg (by omega) (by omega))]
  unfold bc ao
  rw [List.map_map,show (((fs.length+1:Nat):Int) - 0).toNat=fs.length+1 by omega]
  congr 1
  refine List.map_congr_left λk _=>?_
  show PyData.int (0+(k:Int))=_
  rw [Int.zero_add]
 have hs:small ((List.range (fs.length+1)).map λk:Nat=>PyData.int k).length=true:=bF (by rw [List.length_map,List.length_range]; omega)
 have eb:bz (df (ai 0) oU [.un,.d (fD fs)]) ((List.range (fs.length+1)).map λk:Nat=>PyData.int k)=.ret (cX fs):=by
  have key:∀ l:List Nat,bz (df (ai 0) oU [.un,.d (fD fs)]) (l.map λk:Nat=>PyData.int k)=.ret (l.map λt:Nat=>PyData.int (b8 (fs.drop t))):=by
   intro l
   induction l with
   | nil=>rfl
   | cons i l ih =>
    have e0:df (ai 0) oU [.un,.d (fD fs)] (.int (i:Int))=.ret (.int (b8 (fs.drop i))):=by
     have:=Zks (hF.drop i)
     rw [fO]
     simp_arith [oU,og,this]
    rw [List.map_cons,bz,e0,Tr.ret_bind,ih]
    rfl
  exact key _
 have m1:1<=de 3 ((fs.length:Int) - 1)/\de 3 ((fs.length:Int) - 1)<=3/\de 3 ((fs.length:Int) - 1)<=(fs.length:Int) - 1:=by unfold de; split <;> omega
 have r2:nJ [.int 1,.int (de 3 ((fs.length:Int) - 1)+1)]=.ret (bc 1 (de 3 ((fs.length:Int) - 1)+1)):=sG (dg (by omega) (by omega)) (dg (by omega) (by omega))
 simp_arith [br,er,ln,e1,r1,hs,eb,r2]
 refine fP (n:=0) (n':=0) (P:=λo=>∃ K7 K8 K9 K10:Sl,o=.next [.un,.pen,.d s.d,.d (fD fs),.d (.int x),.d (.str (PyData.list [s.d,fD fs]).shown),.d (.list (cX fs)),K7,K8,K9,K10]) ?_ (by decide) ?_
 ·refine Zmn (n:=0) (λρ=>∃ K7 K8 K9 K10:Sl,ρ=[.un,.pen,.d s.d,.d (fD fs),.d (.int x),.d (.str (PyData.list [s.d,fD fs]).shown),.d (.list (cX fs)),K7,K8,K9,K10]) ⟨_,_,_,_,rfl⟩ (by omega) ?_ (λρ hz=>by obtain ⟨K7,K8,K9,K10,rfl⟩:=hz; exact ⟨_,_,_,_,rfl⟩)
  rintro v ρ hv ⟨K7,K8,K9,K10,rfl⟩
  unfold bc at hv
  obtain ⟨d,hd,rfl⟩:=List.mem_map.mp hv
  have hd':=nM hd
  obtain ⟨k,rfl⟩:∃ k:Nat,d=(k:Int):=⟨d.toNat,by omega⟩
  obtain ⟨L8,L9,L10,e⟩:=t2 h (d:=k) (by omega) (by omega) (by omega) .un .pen (.d (.str (PyData.list [s.d,fD fs]).shown)) K8 K9 K10
  exact ⟨_,rfl,Zmm e ⟨_,rfl,_,_,_,_,rfl⟩⟩
 ·rintro _ ⟨K7,K8,K9,K10,rfl⟩
  simp_arith [br,er,Zgs]
  exact dC rfl
end My
set_option Elab.async false
set_option linter.all false
set_option maxRecDepth 100000
open PySem PySem.W PyProof.Rows L2
theorem My.g_mk {K:PySem.W.Frag} {mg:Str->Option Value} {h:Heap} (X:K.In h) (G:h.Ns mainGlobals mg) {n:Str} {v:Int} {t:Tok} (z:PySem.W.nsIn K mainGlobals n=some (some (.int v t))):∃ t,mg n=some (.int v t):=⟨_,PySem.W.mg_of X G z⟩
set_option maxRecDepth 100000 in
set_option maxHeartbeats 0 in
theorem PySem.Challenge.cw_twomarks_k60_whole_goods_under_way_by_tw_holds : PySem.Challenge.rw_twomarks_k60_whole_goods_under_way_by_tw.Holds := by
 refine My.hd ?_
 k_fill
 refine L2.ZfH (l:=PySem.Challenge.rw_twomarks_k60_whole_goods_under_way_by_tw) (n:=63) (k:=18) (x:="_law_script") (CX:=gJ) (sp:=L2.ZaO) rfl (by decide) rfl ⟨rfl,by decide,by decide,rfl⟩ (λw h Y=>PySem.W.kIn_of Y) ?F ?S ?C
 case F =>
  intro w mg fa h KX G hmg
  have T:My.Txt (L2.KOf KX) mg:=by
   dsimp only [L2.KOf]
   constructor
   all_goals first
    | (refine PySem.W.mg_none_of KX G ?_; k_is)
    | (refine' My.g_mk KX G ?z; (case z=>k_is))
    | (refine' L2.ZkO KX G ?a ?l ?c ?k ?b; (case a=>k_is); (case l=>k_is); (case c=>k_is); (case k=>k_is); (case b=>intro _ _ _ _ _ _ us hl; first | (obtain ⟨_,rfl⟩:=L2.Zc7 hl; rfl) | (obtain ⟨_,_,rfl⟩:=L2.Zc6 hl; rfl) | (obtain ⟨_,_,_,rfl⟩:=L2.Zc5 hl; rfl) | (obtain ⟨_,_,_,_,rfl⟩:=L2.Zc4 hl; rfl) | (obtain ⟨_,_,_,_,_,rfl⟩:=L2.Zi1 hl; rfl)))
  obtain ⟨f,fd,F,hm,_⟩:=T.Zk3.ex
  have e0:=hmg.symm.trans hm
  cases e0
  refine ⟨fd,?_,λbase _ _=>My.Zig T F (L2.Tr.ok_mono (L2.Tr.all_ok My.law_true.out (by decide)) λ_ _ h=>h.2)⟩
  obtain ⟨oc,od,kV,doc,pm,an,cdv,ct,osl,rfl,lk,hcd⟩:=F.ex
  exact λs u=>.of_eq rfl
 case S=>exact λK H a ns hl _ hS=>⟨a,ns,rfl,hS,hl,λ_=>rfl⟩
 case C=>exact λ_ _ _ _ z=>z
