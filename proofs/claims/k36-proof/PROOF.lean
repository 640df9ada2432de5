import PyProof.Rows.All
import Wide.All
import OpenK.AllK
import Wide.FinOn
import Lean
import PyProof.EqAt
import PyProof.EqKinds
import PyProof.TupleCall
import PySem.Challenge.RW_twomarks_k36_lasting_papers_told
set_option Elab.async false
set_option linter.all false
set_option maxRecDepth 100000
set_option maxHeartbeats 0
noncomputable abbrev My.vw : PySem.Program := PySem.W.view
 PySem.Challenge.rw_twomarks_k36_lasting_papers_told.row.prog [1, 2, 3, 5, 6, 7, 8, 9, 10, 11, 12, 13, 14, 15, 16, 18, 19, 21, 23, 24, 25, 27, 28, 29, 30, 31, 32, 34, 35, 36, 37, 38, 39, 40, 41, 42, 43, 44, 45, 46, 47, 48]
local macro_rules
 | `(tactic| o_head $H:term) => `(tactic| (
  refine PySem.W.holds_open (q := My.vw) (loose := [])
   (Xt := λs => PySem.W.xlAt My.vw [] s && PySem.W.recOk
    (PySem.W.RowW.records PySem.Challenge.rw_twomarks_k36_lasting_papers_told.row.toRowW) s)
   (XP := PySem.W.XL My.vw []) (Yf := ($H).obs)
   (Ya := ($H).val) (YP := ($H).says) (N := 20000) ?hl
   ($H).of ($H).keeps (λs e => PySem.W.xl_of s
    (Bool.and_eq_true_iff.mp e).1) PySem.W.XL.keeps
   (by rfl) (by rfl) (by rfl)
   (λs e => PySem.W.recFacts_of
    (Bool.and_eq_true_iff.mp e).2)
   (by rfl) (by assumption) (by decide +kernel)
   ⟨rfl, rfl, rfl, rfl, rfl, by decide +kernel⟩ ?hw ?hc
  (case hl => intro w; kernel_rfl)))
open_top My.hd for PySem.Challenge.rw_twomarks_k36_lasting_papers_told
set_option maxHeartbeats 200000
set_option Elab.async false
set_option linter.all false
set_option maxRecDepth 100000
namespace L2
open PySem PySem.Spec PyProof.Rows
noncomputable abbrev Key:=Sum Int Str
noncomputable def Zi4:Key->Value->Bool
 | .inl k,v=>Value.isInt k v
 | .inr x,v=>Value.isStrOf x v
noncomputable def keyH (w:World):Key->Int
 | .inl k=>hashInt k
 | .inr x=>hashStr w x
theorem Zbd:∀ {k:Key} {v:Value},Zi4 k v=true->(∃ i t,k=Sum.inl i/\v=Value.int i t)\/(∃ x t,k=Sum.inr x/\v=Value.str x t)
 | .inl i,v,h=>by
  obtain ⟨t,e⟩:=Value.isInt_shape (k:=i) (v:=v) h
  exact .inl ⟨i,t,rfl,e⟩
 | .inr x,v,h=>by
  obtain ⟨t,e⟩:=Value.isStrOf_shape (x:=x) (v:=v) h
  exact .inr ⟨x,t,rfl,e⟩
theorem Zkr (i:Int) (t:Tok):Zi4 (.inl i) (.int i t)=true:=by simp [Zi4,Value.isInt]
theorem Zkq (x:Str) (t:Tok):Zi4 (.inr x) (.str x t)=true:=by simp [Zi4,Value.isStrOf]
theorem Zqi (a b:Int):decide ((Sum.inl a:Key)=Sum.inl b)=(a == b):=by
 by_cases e:a=b
 ·subst e; simp
 ·have h:¬ (Sum.inl a:Key)=Sum.inl b:=λq=>e (Sum.inl.inj q)
  rw [decide_eq_false h]
  exact (beq_eq_false_iff_ne.mpr e).symm
theorem Zqf (a b:Str):decide ((Sum.inr a:Key)=Sum.inr b)=decide (a=b):=by
 by_cases e:a=b
 ·subst e; simp
 ·have h:¬ (Sum.inr a:Key)=Sum.inr b:=λq=>e (Sum.inr.inj q)
  rw [decide_eq_false h,decide_eq_false e]
theorem Zqh (a:Int) (b:Str):decide ((Sum.inl a:Key)=Sum.inr b)=false:=decide_eq_false (λq=>nomatch q)
theorem Zqg (a:Str) (b:Int):decide ((Sum.inr a:Key)=Sum.inl b)=false:=decide_eq_false (λq=>nomatch q)

noncomputable def Zbt (prog:Program) (w:World):PySem.KeyKind prog w Key where
 is:=Zi4
 hash:=keyH w
 inj:=λv a b ha hb=>by
  rcases Zbd ha with ⟨i,t,rfl,rfl⟩ | ⟨x,t,rfl,rfl⟩
  ·rcases Zbd hb with ⟨j,u,rfl,e⟩ | ⟨y,u,rfl,e⟩
   ·injection e with e1 _; rw [e1]
   ·exact nomatch e
  ·rcases Zbd hb with ⟨j,u,rfl,e⟩ | ⟨y,u,rfl,e⟩
   ·exact nomatch e
   ·injection e with e1 _; rw [e1]
 byValue:=λk v h=>by
  rcases Zbd h with ⟨i,t,rfl,rfl⟩ | ⟨x,t,rfl,rfl⟩ <;> rfl
 pyHash:=λhv h=>by
  rcases Zbd hv with ⟨i,t,rfl,rfl⟩ | ⟨x,t,rfl,rfl⟩
  ·exact wpAny_pyHash_int h
  ·exact wpAny_pyHash_str h
 eqBool:=λhu hv h=>by
  rcases Zbd hu with ⟨i,t,rfl,rfl⟩ | ⟨x,t,rfl,rfl⟩
  ·rcases Zbd hv with ⟨j,u,rfl,rfl⟩ | ⟨y,u,rfl,rfl⟩
   ·rw [Zqi] at h; exact wpAny_eqBool_int h
   ·rw [Zqh] at h; exact SeqAt.EqAt.int_str i t y u _ _ _ _ h
  ·rcases Zbd hv with ⟨j,u,rfl,rfl⟩ | ⟨y,u,rfl,rfl⟩
   ·rw [Zqg] at h; exact SeqAt.EqAt.str_int x t j u _ _ _ _ h
   ·rw [Zqf] at h; exact wpAny_eqBool_str h
 «strs»:=λk x t v h=>by
  rcases Zbd h with ⟨i,u,rfl,e⟩ | ⟨y,u,rfl,e⟩
  ·exact nomatch e
  ·injection e with e1 _
   subst e1
   cases v <;> rfl

theorem ZhF (prog:Program) (w:World) (i:Int) (t:Tok):(Zbt prog w).is (.inl i) (.int i t)=true:=Zkr i t
theorem ZhE (prog:Program) (w:World) (x:Str) (t:Tok):(Zbt prog w).is (.inr x) (.str x t)=true:=Zkq x t
end L2
namespace L2
open PySem PySem.Spec PyProof.Rows
inductive V where
 | non | bl (b:Bool) | int (i:Int) | str (x:Str) | byt (b:Array UInt8) | flt (b:UInt64) | ref (a:Addr) | ty (n:String)
 deriving DecidableEq

noncomputable def RelV:V->Value->Prop
 | .non,u=>u=Value.none
 | .bl b,u=>u=Value.bool b
 | .int i,u=>∃ t,u=Value.int i t
 | .str x,u=>∃ t,u=Value.str x t
 | .byt b,u=>∃ t,u=Value.bytes b t
 | .flt b,u=>∃ t,u=Value.float b t
 | .ref a,u=>u=Value.ref a
 | .ty n,u=>u=Value.type n

noncomputable abbrev Vals:List V->List Value->Prop:=Paired RelV
theorem Vals.length {xs:List V} {us:List Value} (r:Vals xs us):xs.length=us.length:=Paired.length r
theorem Vals.get {xs:List V} {us:List Value} {i:Nat} {x:V} (h:Vals xs us) (e:xs[i]?=some x):∃ u,us[i]?=some u/\RelV x u:=by
 induction h generalizing i with
 | nil=>cases e
 | cons r t ih=>cases i with | zero=>cases e; exact ⟨_,rfl,r⟩ | succ i=>exact ih (i:=i) e
theorem Vals.set {x:V} {u:Value} (r:RelV x u) {xs:List V} {us:List Value} (i:Nat) (h:Vals xs us):Vals (xs.set i x) (us.set i u):=by
 induction h generalizing i with
 | nil=>exact .nil
 | cons q t ih=>cases i with | zero=>exact .cons r t | succ i=>exact .cons q (ih i)
theorem Vals.append {xs ys:List V} {us ws:List Value} (h:Vals xs us) (s:Vals ys ws):Vals (xs++ys) (us++ws):=by
 induction h with
 | nil=>exact s
 | cons r t ih=>exact .cons r ih
theorem Vals.take {xs:List V} {us:List Value} (n:Nat) (h:Vals xs us):Vals (xs.take n) (us.take n):=by
 induction h generalizing n with
 | nil=>rw [List.take_nil,List.take_nil]; exact .nil
 | cons r t ih=>cases n with | zero=>exact .nil | succ n=>exact .cons r (ih n)
theorem Vals.drop {xs:List V} {us:List Value} (n:Nat) (h:Vals xs us):Vals (xs.drop n) (us.drop n):=by
 induction h generalizing n with
 | nil=>rw [List.drop_nil,List.drop_nil]; exact .nil
 | cons r t ih=>cases n with | zero=>exact .cons r t | succ n=>exact ih n
theorem Vals.none_of:∀ {xs:List V} {us:List Value} {i:Nat},Vals xs us->xs[i]?=none->us[i]?=none:=λ{xs us i} r e=>by
 have h1:=r.length
 have h2:xs.length<=i:=List.getElem?_eq_none_iff.mp e
 exact List.getElem?_eq_none_iff.mpr (by omega)

noncomputable def RelO:Option V->Option Value->Prop
 | some v,some u=>RelV v u
 | none,none=>True
 | _,_=>False
noncomputable def KV {κ:Type}:List (κ×V)->List (κ×Value)->Prop:=Paired λ(p:κ×V) (q:κ×Value)=>p.1=q.1/\RelV p.2 q.2

noncomputable def kV:Key->V
 | .inl i=>.int i
 | .inr x=>.str x

inductive HO where
 /-- a list -/
 | lst (xs:List V)
 /-- a tuple (never changes) -/
 | tup (xs:List V)
 /-- a dict whose keys are ints and texts; one whose keys are tuples of ints and texts (the empty one is both) -/
 | dK (kvs:List (Key×V)) | dT (kvs:List (List Key×V))
 /-- a set of ints: its members,its size -/
 | set (S:Int->Bool) (n:Nat)
 /-- an instance of the class at C,its dict at dx,its attributes -/
 | ins (C dx:Addr) (fs:List (Str×V))
 /-- the dict of the instance at x -/
 | own (x:Addr)
 /-- the dict of an exception -/
 | xd (fs:List (Str×V))
 /-- a bound method,f of x -/
 | met (f x:Addr)
 /-- a range object lo,lo+1,.. below hi -/
 | rng (lo hi:Int)
 /-- a thing that is known to the object (the script; a dict while a loop walks it): read,never written while it is so -/
 | frz (o:Obj) (u:HO)
 /-- a code object's table -/
 | tbl (ps:Array Value)
 /-- any other thing,by what is true of its one object (a def of one's own: SetO a S n:=HO.ext λh=>..) -/
 | ext (φ:Heap->Prop)

noncomputable abbrev Hp:=Addr->Option HO
noncomputable def upd (H:Hp) (a:Addr) (o:HO):Hp:=λb=>if b=a then some o else H b
theorem ZaF {H:Hp} {a:Addr} {o:HO}:upd H a o a=some o:=by unfold upd; rw [if_pos rfl]
theorem Zau {H:Hp} {a b:Addr} {o:HO} (h:b≠a):upd H a o b=H b:=by unfold upd; rw [if_neg h]
theorem Zkc {H:Hp} {a b:Addr} {o u:HO} (h:H a=some o) (h':H b=some u) (d:o≠u):a≠b:=by
 intro e; subst e; rw [h] at h'; exact d (Option.some.inj h')
theorem ZaC {H:Hp} {a b:Addr} {o:HO} (h:H a=some o) (h':H b=none):a≠b:=by
 intro e; subst e; rw [h] at h'; cases h'

section
variable (P:Program) (w:World)
noncomputable def ObjOk (H:Hp) (h:Heap) (a:Addr):HO->Prop
 | .lst xs=>xs.length<=sizeLine/\∃ (its:List Value) (n:Nat),Vals xs its/\h.get? a=some { cls:=.type "list",data:=.seq its.toArray n }
 | .tup xs=>xs.length<=sizeLine/\∃ its:List Value,Vals xs its/\IsTup h a its.toArray
 | .dK kvs=>kvs.length<=sizeLine/\(a == sysModules)=false/\∃ vs,KV kvs vs/\h.DictOf (Zbt P w) a vs
 | .dT kvs=>kvs.length<=sizeLine/\(a == sysModules)=false/\∃ xs:List (List Key×Addr×Value),
   Paired (λ(p:List Key×V) (q:List Key×Addr×Value)=>p.1=q.1/\H q.2.1=some (.tup (p.1.map kV))/\RelV p.2 q.2.2) kvs xs /\
   ∃ o es ep,h.get? a=some o/\o.ExactDict/\o.data=.dict es ep/\es.toList=xs.map (entryOfKey (tupleKind (Zbt P w)))/\(xs.map (·.1)).Nodup
 | .set S n=>h.SetOf (intKind P w) a S n
 | .ins C dx fs=>H dx=some (.own a)/\fs.length<=1000/\dx≠a/\h.get? a=some (PySem.W.instObj C dx) /\
   ∃ mA,h.Ns1 dx mA/\(∀ f,RelO (fs.lookup f) (mA f))/\PySem.Within mA (fs.map (·.1))
 | .own _=>∃ o,h.get? a=some o
 | .xd fs=>∃ mA,h.Ns1 a mA/\∀ f,RelO (fs.lookup f) (mA f)
 | .rng lo hi=>∃ t u v,h.get? a=some { cls:=.type "range",data:=.fields #[.int lo t,.int hi u,.int 1 v] }
 | .frz o u=>h.get? a=some o/\ObjOk H h a u
 | .tbl ps=>h.get? a=some { cls:=.none,data:=.fields ps }
 | .met f x=>h.get? a=some (PySem.W.methodObj (.ref f) (.ref x))
 | .ext φ=>φ h/\(∃ o,h.get? a=some o)/\∀ h1 h2:Heap,φ h1->(∀ o,h1.get? a=some o->h2.get? a=some o)->φ h2
noncomputable def HOk (H:Hp) (h:Heap):Prop:=∀ a o,H a=some o->ObjOk P w H h a o
end
section
variable {P:Program} {w:World} {H H':Hp} {h h':Heap} {a:Addr} {o:HO}
theorem ObjOk.lt (x:ObjOk P w H h a o):a < h.objs.size:=by
 cases o with
 | lst xs=>obtain ⟨_,_,_,_,e⟩:=x; exact Heap.lt_size e
 | tup xs=>obtain ⟨_,_,_,p⟩:=x; exact p.lt
 | dK kvs=>obtain ⟨_,_,_,_,o,_,_,e,_⟩:=x; exact Heap.lt_size e
 | dT kvs=>obtain ⟨_,_,_,_,o,_,_,e,_⟩:=x; exact Heap.lt_size e
 | set S n=>obtain ⟨o,_,_,_,e,_⟩:=x; exact Heap.lt_size e
 | ins C dx fs=>obtain ⟨_,_,_,e,_⟩:=x; exact Heap.lt_size e
 | own y=>obtain ⟨_,e⟩:=x; exact Heap.lt_size e
 | xd fs=>obtain ⟨_,⟨_,_,_,e,_⟩,_⟩:=x; exact Heap.lt_size e
 | rng lo hi=>obtain ⟨_,_,_,e⟩:=x; exact Heap.lt_size e
 | frz ob u=>obtain ⟨e,_⟩:=x; exact Heap.lt_size e
 | tbl ps=>exact Heap.lt_size (show h.get? a=some _ from x)
 | met f y=>exact Heap.lt_size (show h.get? a=some _ from x)
 | ext φ=>obtain ⟨_,⟨_,e⟩,_⟩:=x; exact Heap.lt_size e
theorem Paired.mapP {α β:Type} {F G:α->β->Prop} {l₁:List α} {l₂:List β} (h:Paired F l₁ l₂) (f:∀ a b,F a b->G a b):Paired G l₁ l₂:=by
 induction h with
 | nil=>exact .nil
 | cons r t ih=>exact .cons (f _ _ r) ih
theorem ObjOk.stay (x:ObjOk P w H h a o) (k:∀ b u,(b=a\/H b=some (.own a))->h.get? b=some u->h'.get? b=some u)
  (ho:∀ b,H b=some (.own a)->H' b=some (.own a)) (ht:∀ b xs,H b=some (.tup xs)->H' b=some (.tup xs)):ObjOk P w H' h' a o:=by
 induction o with
 | lst xs=>obtain ⟨z,its,n,r,e⟩:=x; exact ⟨z,its,n,r,k _ _ (.inl rfl) e⟩
 | tup xs=>obtain ⟨z,its,r,ob,e,c⟩:=x; exact ⟨z,its,r,ob,k _ _ (.inl rfl) e,c⟩
 | dK kvs=>obtain ⟨z,y,vs,r,ob,es,ep,e,c⟩:=x; exact ⟨z,y,vs,r,ob,es,ep,k _ _ (.inl rfl) e,c⟩
 | dT kvs =>
  obtain ⟨z,y,xs,r,ob,es,ep,e,c⟩:=x
  exact ⟨z,y,xs,Paired.mapP r λp q z=>⟨z.1,ht _ _ z.2.1,z.2.2⟩,ob,es,ep,k _ _ (.inl rfl) e,c⟩
 | set S n=>obtain ⟨ob,es,ep,t,e,c⟩:=x; exact ⟨ob,es,ep,t,k _ _ (.inl rfl) e,c⟩
 | ins C dx fs =>
  obtain ⟨d,z,ne,e,mA,⟨od,es,ep,e2,c⟩,r⟩:=x
  exact ⟨ho _ d,z,ne,k _ _ (.inl rfl) e,mA,⟨od,es,ep,k _ _ (.inr d) e2,c⟩,r⟩
 | own y=>obtain ⟨ob,e⟩:=x; exact ⟨ob,k _ _ (.inl rfl) e⟩
 | xd fs=>obtain ⟨mA,⟨od,es,ep,e,c⟩,r⟩:=x; exact ⟨mA,⟨od,es,ep,k _ _ (.inl rfl) e,c⟩,r⟩
 | rng lo hi=>obtain ⟨t,u,v,e⟩:=x; exact ⟨t,u,v,k _ _ (.inl rfl) e⟩
 | frz ob u ih=>obtain ⟨e,q⟩:=x; exact ⟨k _ _ (.inl rfl) e,ih q⟩
 | tbl ps =>
  have e:h.get? a=some { cls:=.none,data:=.fields ps }:=x
  show h'.get? a=some { cls:=.none,data:=.fields ps }
  exact k a _ (.inl rfl) e
 | met f y =>
  have e:h.get? a=some (PySem.W.methodObj (.ref f) (.ref y)):=x
  show h'.get? a=some (PySem.W.methodObj (.ref f) (.ref y))
  exact k a _ (.inl rfl) e
 | ext φ=>obtain ⟨p,⟨o,e⟩,st⟩:=x; exact ⟨st _ _ p λo q=>k _ _ (.inl rfl) q,⟨o,k _ _ (.inl rfl) e⟩,st⟩
theorem HOk.lt (x:HOk P w H h) (e:H a=some o):a < h.objs.size:=(x a o e).lt
theorem HOk.fresh (x:HOk P w H h) (e:h.objs.size<=a):H a=none:=by
 cases q:H a with
 | none=>rfl
 | some u=>exact absurd (Nat.lt_of_lt_of_le (x.lt q) e) (Nat.lt_irrefl _)
theorem HOk.kept (x:HOk P w H h) (k:∀ b u,h.get? b=some u->h'.get? b=some u):HOk P w H h':=λa o e =>
 (x a o e).stay (λb u _ q=>k b u q) (λ_ q=>q) λ_ _ q=>q
theorem HOk.laid (x:HOk P w H h) (k:∀ b u,h.get? b=some u->h'.get? b=some u) (hp:h.objs.size<=a) (new:ObjOk P w (upd H a o) h' a o):HOk P w (upd H a o) h':=λb u e=>by
 have hn:=x.fresh hp
 by_cases hb:b=a
 ·subst hb; rw [ZaF] at e; cases e; exact new
 ·rw [Zau hb] at e
  exact (x b u e).stay (λc v _ q=>k c v q) (λc q=>by rw [Zau (ZaC q hn)]; exact q) λc xs q=>by rw [Zau (ZaC q hn)]; exact q
end
noncomputable def Rd (H:Hp) (a:Addr) (u:HO):Prop:=H a=some u\/∃ o,H a=some (.frz o u)
theorem Rd.ok {P:Program} {w:World} {H:Hp} {h:Heap} {a:Addr} {u:HO} (r:Rd H a u) (x:HOk P w H h):ObjOk P w H h a u:=by
 rcases r with r | ⟨o,r⟩
 ·exact x a u r
 ·obtain ⟨_,q⟩:=x a _ r
  exact q
noncomputable def Mut:Option HO->Prop
 | some (.lst _)=>True
 | some (.dK _)=>True
 | some (.dT _)=>True
 | some (.set _ _)=>True
 | some (.ins _ _ _)=>True
 | some (.ext _)=>True
 | _=>False
section
variable {P:Program} {w:World} {H:Hp} {h h':Heap} {x e:Addr} {o':HO}
theorem HOk.write (ok:HOk P w H h) (mu:Mut (H x)) (he:e=x\/H e=some (.own x)) (k:∀ b u,b≠e->h.get? b=some u->h'.get? b=some u) (heo:∃ u,h'.get? e=some u)
  (new:ObjOk P w (upd H x o') h' x o'):HOk P w (upd H x o') h':=λb u q=>by
 have nown:∀ c y,H c=some (.own y)->c≠x:=λc y r z=>by subst z; rw [r] at mu; exact mu
 have ntup:∀ c xs,H c=some (.tup xs)->c≠x:=λc xs r z=>by subst z; rw [r] at mu; exact mu
 by_cases hb:b=x
 ·subst hb; rw [ZaF] at q; cases q; exact new
 ·rw [Zau hb] at q
  by_cases hbe:b=e
  ·have q':H b=some (.own x):=by
    rcases he with z | z
    ·exact absurd (hbe.trans z) hb
    ·rw [hbe]; exact z
   rw [q] at q'; cases q'
   obtain ⟨v,hv⟩:=heo
   exact ⟨v,by rw [hbe]; exact hv⟩
  ·refine (ok b u q).stay (λc v hc r=>k c v ?_ r) (λc r=>by rw [Zau (nown c b r)]; exact r) λc xs r=>by rw [Zau (ntup c xs r)]; exact r
   rcases hc with rfl | hc
   ·exact hbe
   ·rintro rfl
    rcases he with z | z
    ·exact nown c b hc z
    ·rw [hc] at z; cases z; exact hb rfl
end
structure Un (fs ex:List Addr) (H H':Hp) (h h':Heap):Prop where
 keep:∀ b o,h.get? b=some o->H b=none->b ∉ fs->b ∉ ex->h'.get? b=some o
 slot:∀ b o,h.get? b=some o->H b=none->b∈fs->b ∉ ex->∃ sl,h'.get? b=some { o with slots:=sl }
 free:∀ b o,h.get? b=some o->H b=none->b ∉ ex->H' b=none
 there:∀ b o,h.get? b=some o->b ∉ ex->∃ o',h'.get? b=some o'
 tups:∀ b xs,H b=some (.tup xs)->H' b=some (.tup xs)
 frzs:∀ b o u,H b=some (.frz o u)->H' b=some (.frz o u)
 tbls:∀ b ps,H b=some (.tbl ps)->∃ more,H' b=some (.tbl (ps++more))
section
variable {fs fs' ex ex':List Addr} {H H1 H2:Hp} {h h1 h2 h':Heap} {a x e:Addr} {o:HO}
theorem Un.any (u:Un fs ex H H1 h h1) {b:Addr} {ob:Obj} (q:h.get? b=some ob) (n:H b=none) (hx:b ∉ ex):∃ sl,h1.get? b=some { ob with slots:=sl }:=by
 by_cases hb:b∈fs
 ·exact u.slot b ob q n hb hx
 ·exact ⟨ob.slots,u.keep b ob q n hb hx⟩
theorem Un.kept (k:∀ b u,h.get? b=some u->h'.get? b=some u):Un fs ex H H h h' :=
 ⟨λb ob q _ _ _=>k b ob q,λb ob q _ _ _=>⟨ob.slots,k b ob q⟩,λ_ _ _ n _=>n,λb ob q _=>⟨ob,k b ob q⟩,λ_ _ q=>q,λ_ _ _ q=>q,λ_ ps q=>⟨#[],by rw [q]; simp⟩⟩
theorem Un.refl:Un fs ex H H h h:=Un.kept λ_ _ q=>q
theorem Un.laid (k:∀ b u,h.get? b=some u->h'.get? b=some u) (hp:h.objs.size<=a) (hn:H a=none):Un fs ex H (upd H a o) h h' where
 keep:=λb u q _ _ _=>k b u q
 slot:=λb u q _ _ _=>⟨u.slots,k b u q⟩
 free:=λb u q n _=>by rw [Zau (Nat.ne_of_lt (Nat.lt_of_lt_of_le (Heap.lt_size q) hp))]; exact n
 there:=λb u q _=>⟨u,k b u q⟩
 tups:=λb xs q=>by rw [Zau (ZaC q hn)]; exact q
 frzs:=λb u xs q=>by rw [Zau (ZaC q hn)]; exact q
 tbls:=λb ps q=>⟨#[],by rw [Zau (ZaC q hn),q]; simp⟩
theorem Un.write (mu:Mut (H x)) (he:e=x\/H e=some (.own x)) (k:∀ b u,b≠e->h.get? b=some u->h'.get? b=some u) (heo:∃ u,h'.get? e=some u):Un fs ex H (upd H x o) h h':=by
 have hx:∀ b,H b=none->b≠x:=λb n z=>by subst z; rw [n] at mu; exact mu
 have hb:∀ b,H b=none->b≠e:=λb n z=>by
  subst z
  rcases he with r | r
  ·exact hx b n r
  ·rw [n] at r; cases r
 have hm:∀ b u,H b=some u->¬ Mut (some u)->b≠x:=λb u q nm z=>by subst z; rw [q] at mu; exact nm mu
 refine ⟨λb u q n _ _=>k b u (hb b n) q,λb u q n _ _=>⟨u.slots,k b u (hb b n) q⟩,λb u q n _=>by rw [Zau (hx b n)]; exact n,λb u q _=>?_,
  λb xs q=>by rw [Zau (hm b _ q λz=>z)]; exact q,λb u xs q=>by rw [Zau (hm b _ q λz=>z)]; exact q,λb ps q=>⟨#[],by rw [Zau (hm b _ q λz=>z),q]; simp⟩⟩
 by_cases hbe:b=e
 ·subst hbe; exact heo
 ·exact ⟨u,k b u hbe q⟩
end
noncomputable def trk (h:Heap) (H:Hp):List Addr:=(List.range h.objs.size).filter λa=>(H a).isSome
noncomputable def Zl5 (h:Heap) (H:Hp):Heap:=PySem.W.hideAll h (trk h H)
theorem Zkw (h:Heap) (H:Hp):(Zl5 h H).objs.size=h.objs.size:=PySem.W.hideAll_size _ _
theorem Zl4 {h:Heap} {H:Hp} {b:Addr} {o:Obj} (e:h.get? b=some o) (n:H b=none):(Zl5 h H).get? b=some o :=
 PySem.W.hideAll_get _ e λhm=>by
  have q:(H b).isSome=true:=(List.mem_filter.mp hm).2
  rw [n] at q; simp at q
theorem ZnP {h:Heap} {H:Hp} {b:Addr} {o:Obj} (e:(Zl5 h H).get? b=some o):h.get? b=some o/\H b=none:=by
 have e':h.get? b=some o:=PySem.W.of_hideAll (trk h H) e
 refine ⟨e',?_⟩
 cases q:H b with
 | none=>rfl
 | some x =>
  have hm:b∈trk h H:=List.mem_filter.mpr ⟨List.mem_range.mpr (Heap.lt_size e'),by simp [q]⟩
  have z:(Zl5 h H).get? b=none:=PySem.W.hideAll_none (trk h H) hm
  rw [z] at e; cases e

noncomputable def Zoz (g h:Heap) (L:Addr):List (Addr×Obj):=(List.range h.objs.size).filterMap λa=>if a=L\/(g.get? a).isSome=true then none else (h.get? a).map λo=>(a,o)
noncomputable def rest (g h:Heap) (L d:Addr):List (Addr×Obj):=(Zoz g h L).filter λp=>decide (p.1≠d)
end L2
namespace L2
open PySem PySem.Spec PyProof.Rows
structure Mod (K:PySem.W.Frag) (mg:Str->Option Value) (base:Heap):Prop where
 kin:K.In base
 glob:base.Ns mainGlobals mg
 blt:∃ mb,base.Ns builtinsNs mb/\∀ x:Str,x≠"__name__"->mb x=bootBuiltins x
 nolimit:base.NoLimit
 nodig:base.NoDigits

structure Cx where
 prog:Program
 w:World
 K:PySem.W.Frag
 mg:Str->Option Value
 base:Heap
 A:Around
 N:List Str
 s₀:Shared
 H₀:Hp
 env:Env
 outer:List Env
 stack:List Env
 ex:List Addr
 fn:Str->Bool
 calm:Bool
 pn:List (Addr×Obj)
 xe:Value->Shared->Prop
noncomputable def frs (l:List Env):List Addr:=l.filterMap (·.frame)
noncomputable abbrev Cx.fs (X:Cx):List Addr:=frs X.outer

noncomputable def Vis (sc:Scope) (x:Str):Prop:=sc.names.lookup x=some .local\/sc.names.lookup x=some .cell\/sc.names.lookup x=some .free
noncomputable def Loc (sc:Scope) (x:Str):Prop:=sc.names.lookup x=some .local\/sc.names.lookup x=some .cell
noncomputable def Look (env:Env) (h:Heap) (m:Str->Option Value) (x:Str) (u:Value):Prop :=
 (env.kindOf x=some .local/\m x=some u)\/((env.kindOf x=some .cell\/env.kindOf x=some .free)/\∃ c,env.cells.lookup x=some c/\h.IsCell c (some u))

structure Cx.Ok (X:Cx):Prop where
 mod:Mod X.K X.mg X.base
 kind:X.env.scope.kind=.function
 glob:X.env.globals=mainGlobals
 blt:X.env.builtins=builtinsNs
 above:X.s₀.heap.objs.size<=X.env.locals
 inj:∀ x y c,X.env.cells.lookup x=some c->X.env.cells.lookup y=some c->x=y
 has:∀ x,(X.env.kindOf x=some .cell\/X.env.kindOf x=some .free)->∃ c,X.env.cells.lookup x=some c
 cab:∀ x c,X.fn x=true->X.env.cells.lookup x=some c->X.s₀.heap.objs.size<=c
 hd:X.calm=true->X.A.handled=none
 frames:X.A.frames=some X.stack
 stk:X.stack=X.outer\/(X.stack=X.env::X.outer/\X.env.frame=some X.env.locals)
 exf:∀ b∈X.ex,b≠X.env.locals/\∀ x c,X.env.cells.lookup x=some c->c≠b
 bs:∀ b o,X.base.get? b=some o->X.s₀.heap.get? b=some o/\X.H₀ b=none
 bsz:X.base.objs.size<=X.s₀.heap.objs.size
 noex:∀ b o,X.base.get? b=some o->b ∉ X.ex
 exfs:∀ b∈X.ex,b ∉ X.fs
 funs:X.s₀.heap.FunFrames X.base X.outer
 frf:∀ b∈X.fs,X.H₀ b=none

structure Inv (X:Cx) (pins:List (Addr×Obj)) (σ:List (Option V)) (H:Hp) (s:Shared):Prop where
 ok:X.Ok
 os:s.os=X.s₀.os
 bare:AllBare s.gens
 base:Un X.fs X.ex X.H₀ H X.s₀.heap s.heap
 loc:∃ m,s.heap.Ns X.env.locals m/\∀ (i:Nat) (x:Str) (v:V),X.N[i]?=some x->σ[i]?=some (some v)->Vis X.env.scope x->∃ u,RelV v u/\Look X.env s.heap m x u
 cell:∀ x c,X.env.cells.lookup x=some c->∃ v,s.heap.IsCell c v
 free:H X.env.locals=none
 freeC:∀ x c,X.env.cells.lookup x=some c->H c=none
 pin:∀ p∈X.pn++pins,s.heap.get? p.1=some p.2/\H p.1=none/\p.1≠X.env.locals/\p.1 ∉ X.fs/\∀ v,p.2.data≠.cell v
 hok:HOk X.prog X.w H s.heap
 len:σ.length=X.N.length

section
variable {X:Cx} {pins:List (Addr×Obj)} {σ:List (Option V)} {H H':Hp} {s:Shared} {h':Heap}
theorem Cx.Ok.nofr (ok:X.Ok) {b:Addr} {o:Obj} (e:X.base.get? b=some o):b ∉ X.fs:=λhb=>by
 have:=(ok.funs.mem hb).1
 rw [e] at this; cases this
theorem Inv.bs (I:Inv X pins σ H s):∀ b o,X.base.get? b=some o->s.heap.get? b=some o/\H b=none:=λb o e =>
 ⟨I.base.keep b o (I.ok.bs b o e).1 (I.ok.bs b o e).2 (I.ok.nofr e) (I.ok.noex b o e),I.base.free b o (I.ok.bs b o e).1 (I.ok.bs b o e).2 (I.ok.noex b o e)⟩
theorem Inv.bk (I:Inv X pins σ H s):∀ b o,X.base.get? b=some o->s.heap.get? b=some o:=λb o e=>(I.bs b o e).1
theorem Inv.mod (I:Inv X pins σ H s):Mod X.K X.mg X.base:=I.ok.mod
theorem Inv.kIn (I:Inv X pins σ H s):X.K.In s.heap:=I.ok.mod.kin.keeps I.bk
theorem Inv.lt (I:Inv X pins σ H s):X.env.locals < s.heap.objs.size:=let ⟨_,hn,_⟩:=I.loc; hn.lt
theorem Inv.sz (I:Inv X pins σ H s):X.s₀.heap.objs.size<=s.heap.objs.size:=Nat.le_trans I.ok.above (Nat.le_of_lt I.lt)
theorem Inv.nofs (I:Inv X pins σ H s) {a:Addr} (h:s.heap.objs.size<=a):a ∉ X.fs:=λhb=>by
 obtain ⟨_,o,ho,_⟩:=I.ok.funs.mem hb
 exact absurd (Nat.lt_of_lt_of_le (Heap.lt_size ho) (Nat.le_trans I.sz h)) (Nat.lt_irrefl _)
theorem Inv.cne (I:Inv X pins σ H s):∀ x c,X.env.cells.lookup x=some c->c≠X.env.locals:=λx c e z=>by
 obtain ⟨v,o,ho,hd⟩:=I.cell x c e
 obtain ⟨m,⟨o',es,ep,ho',hd',_⟩,_⟩:=I.loc
 rw [z,ho'] at ho; cases ho; rw [hd'] at hd; cases hd
theorem Inv.funs (I:Inv X pins σ H s):s.heap.FunFrames X.base X.outer:=by
 have all:∀ (l:List Env),(∀ b∈frs l,b∈X.fs)->X.s₀.heap.FunFrames X.base l->s.heap.FunFrames X.base l:=by
  intro l
  induction l with
  | nil=>intro _ _; trivial
  | cons env r ih =>
   intro hs hl
   obtain ⟨hk,⟨L,o,hf,hn,ho,hd⟩,hr⟩:=hl
   have hL:L∈X.fs:=hs L (by unfold frs; rw [List.filterMap_cons,hf]; exact List.mem_cons_self)
   obtain ⟨sl,e⟩:=I.base.slot L o ho (I.ok.frf L hL) hL λz=>I.ok.exfs L z hL
   exact ⟨hk,⟨L,_,hf,hn,e,hd⟩,ih (λb hb=>hs b (by unfold frs; rw [List.filterMap_cons,hf]; exact List.mem_cons_of_mem _ hb)) hr⟩
 exact all X.outer (λ_ hb=>hb) I.ok.funs

theorem Inv.stack (I:Inv X pins σ H s):s.heap.FunFrames X.base X.stack:=by
 rcases I.ok.stk with e | ⟨e,hf⟩
 ·rw [e]; exact I.funs
 ·rw [e]
  obtain ⟨m,hn,_⟩:=I.loc
  refine .cons (by rw [I.ok.kind]; decide) hf hn ?_ I.funs
  exact Heap.get?_none_of_le (Nat.le_trans I.ok.bsz I.ok.above)
theorem Inv.stkSub (I:Inv X pins σ H s):∀ b∈frs X.stack,b∈X.env.locals::X.fs:=λb hb=>by
 rcases I.ok.stk with e | ⟨e,hf⟩
 ·rw [e] at hb; exact List.mem_cons_of_mem _ hb
 ·rw [e] at hb
  unfold frs at hb
  rw [List.filterMap_cons,hf] at hb
  exact hb
theorem Inv.stkFree (I:Inv X pins σ H s):∀ b∈frs X.stack,H b=none:=λb hb=>by
 rcases List.mem_cons.mp (I.stkSub b hb) with e | hb
 ·rw [e]; exact I.free
 ·obtain ⟨_,o,ho,_⟩:=I.ok.funs.mem hb
  exact I.base.free b o ho (I.ok.frf b hb) λz=>I.ok.exfs b z hb

theorem Inv.step {g':Array GenState} {t':Nat} {d':Drawn} {ch:List Addr} (I:Inv X pins σ H s)
  (hch:∀ b∈ch,(b∈X.ex\/X.s₀.heap.objs.size<=b)/\b≠X.env.locals/\(∀ x c,X.env.cells.lookup x=some c->c≠b)/\∀ p∈X.pn++pins,p.1≠b)
  (keep:∀ b o,b≠X.env.locals->b ∉ X.fs->b ∉ ch->s.heap.get? b=some o->H b=none->h'.get? b=some o)
  (slot:∀ b o,b≠X.env.locals->b∈X.fs->b ∉ ch->s.heap.get? b=some o->H b=none->∃ sl,h'.get? b=some { o with slots:=sl }) (free:∀ b o,b ∉ ch->s.heap.get? b=some o->H b=none->H' b=none)
  (there:∀ b o,b ∉ ch->s.heap.get? b=some o->∃ o',h'.get? b=some o')
  (tups:∀ b xs,H b=some (.tup xs)->H' b=some (.tup xs)) (frzs:∀ b o u,H b=some (.frz o u)->H' b=some (.frz o u)) (tbls:∀ b ps,H b=some (.tbl ps)->∃ more,H' b=some (.tbl (ps++more)))
  (ns:∀ m,s.heap.Ns X.env.locals m->h'.Ns X.env.locals m) (hok:HOk X.prog X.w H' h') (hg:AllBare g') :
  Inv X pins σ H' { s with heap:=h',gens:=g',drawn:=d',toks:=t' }:=by
 have neL:∀ b o,X.s₀.heap.get? b=some o->b≠X.env.locals:=λb o e=>Nat.ne_of_lt (Nat.lt_of_lt_of_le (Heap.lt_size e) I.ok.above)
 have neC:∀ b o,X.s₀.heap.get? b=some o->b ∉ X.ex->b ∉ ch:=λb o e hx hb=>by
  rcases (hch b hb).1 with z | z
  ·exact hx z
  ·exact absurd (Nat.lt_of_lt_of_le (Heap.lt_size e) z) (Nat.lt_irrefl _)
 have cellK:∀ x c,X.env.cells.lookup x=some c->∀ v,s.heap.IsCell c v->h'.IsCell c v:=λx c e v hz0=>by
  obtain ⟨o,ho,hd⟩:=hz0
  have nch:c ∉ ch:=λz=>(hch c z).2.2.1 x c e rfl
  by_cases hc:c∈X.fs
  ·obtain ⟨sl,q⟩:=slot c o (I.cne x c e) hc nch ho (I.freeC x c e)
   exact ⟨_,q,hd⟩
  ·exact ⟨o,keep c o (I.cne x c e) hc nch ho (I.freeC x c e),hd⟩
 refine ⟨I.ok,I.os,hg,⟨λb o e n hb hx=>?_,λb o e n hb hx=>?_,λb o e n hx=>?_,λb o e hx=>?_,λb xs e=>tups b xs (I.base.tups b xs e),λb o xs e=>frzs b o xs (I.base.frzs b o xs e),λb ps e=>?_⟩,?_,λx c e=>?_,?_,λx c e=>?_,λp hp=>?_,hok,I.len⟩
 ·exact keep b o (neL b o e) hb (neC b o e hx) (I.base.keep b o e n hb hx) (I.base.free b o e n hx)
 ·obtain ⟨sl,e1⟩:=I.base.slot b o e n hb hx
  obtain ⟨sl',e2⟩:=slot b _ (neL b o e) hb (neC b o e hx) e1 (I.base.free b o e n hx)
  exact ⟨sl',e2⟩
 ·obtain ⟨o',e1⟩:=I.base.there b o e hx
  exact free b o' (neC b o e hx) e1 (I.base.free b o e n hx)
 ·obtain ⟨o',e1⟩:=I.base.there b o e hx
  exact there b o' (neC b o e hx) e1
 ·obtain ⟨m1,e1⟩:=I.base.tbls b ps e
  obtain ⟨m2,e2⟩:=tbls b _ e1
  exact ⟨m1++m2,by rw [e2,Array.append_assoc]⟩
 ·obtain ⟨m,hn,hl⟩:=I.loc
  refine ⟨m,ns m hn,λi x v e1 e2 e3=>?_⟩
  obtain ⟨u,r,l⟩:=hl i x v e1 e2 e3
  refine ⟨u,r,?_⟩
  rcases l with l | ⟨k,c,e,z⟩
  ·exact .inl l
  ·exact .inr ⟨k,c,e,cellK x c e _ z⟩
 ·obtain ⟨v,z⟩:=I.cell x c e
  exact ⟨v,cellK x c e v z⟩
 ·obtain ⟨m,⟨o,_,_,ho,_⟩,_⟩:=I.loc
  exact free _ o (λz=>(hch _ z).2.1 rfl) ho I.free
 ·obtain ⟨v,o,ho,hd⟩:=I.cell x c e
  exact free c o (λz=>(hch c z).2.2.1 x c e rfl) ho (I.freeC x c e)
 ·obtain ⟨e,n,ne,nf,d⟩:=I.pin p hp
  have nch:p.1 ∉ ch:=λz=>(hch p.1 z).2.2.2 p hp rfl
  exact ⟨keep p.1 p.2 ne nf nch e n,free p.1 p.2 nch e n,ne,nf,d⟩
theorem Inv.un {t':Nat} (I:Inv X pins σ H s) (u:Un X.fs [] H H' s.heap h') (hok:HOk X.prog X.w H' h'):Inv X pins σ H' { s with heap:=h',toks:=t' }:=by
 obtain ⟨m,⟨o,es,ep,ho,r⟩,_⟩:=id I.loc
 obtain ⟨sl,hL⟩:=u.any ho I.free (by simp)
 exact I.step (g':=s.gens) (d':=s.drawn) (ch:=[]) (λ_ z=>nomatch z) (λb o _ hb _ e n=>u.keep b o e n hb (by simp)) (λb o _ hb _ e n=>u.slot b o e n hb (by simp)) (λb o _ e n=>u.free b o e n (by simp)) (λb o _ e=>u.there b o e (by simp)) u.tups u.frzs u.tbls (λm' hm=>by
  obtain ⟨o',es',ep',ho',r'⟩:=hm
  rw [ho] at ho'; cases ho'
  exact ⟨_,es',ep',hL,r'⟩) hok I.bare
theorem Inv.call {g':Array GenState} {t':Nat} {d':Drawn} {ch:List Addr} (I:Inv X pins σ H s) (u:Un (frs X.stack) ch H H' s.heap h') (hok:HOk X.prog X.w H' h') (hg:AllBare g')
  (hch:∀ b∈ch,(b∈X.ex\/X.s₀.heap.objs.size<=b)/\b≠X.env.locals/\(∀ x c,X.env.cells.lookup x=some c->c≠b)/\∀ p∈X.pn++pins,p.1≠b) :
  Inv X pins σ H' { s with heap:=h',gens:=g',drawn:=d',toks:=t' }:=by
 obtain ⟨m,⟨o,es,ep,ho,r⟩,_⟩:=id I.loc
 obtain ⟨sl,hL⟩:=u.any ho I.free λz=>(hch _ z).2.1 rfl
 exact I.step (ch:=ch) hch (λb o hL hb hc e n=>u.keep b o e n (λz=>(List.mem_cons.mp (I.stkSub b z)).elim hL hb) hc) (λb o _ _ hc e n=>u.any e n hc) (λb o hc e n=>u.free b o e n hc) (λb o hc e=>u.there b o e hc) u.tups u.frzs u.tbls (λm' hm=>by
  obtain ⟨o',es',ep',ho',r'⟩:=hm
  rw [ho] at ho'; cases ho'
  exact ⟨_,es',ep',hL,r'⟩) hok hg
theorem Inv.turned {t':Nat} {it:Addr} (I:Inv X pins σ H s) (k:∀ b o,b≠it->s.heap.get? b=some o->h'.get? b=some o) (hn:H it=none) (hL:it≠X.env.locals)
  (h1:it∈X.ex\/X.s₀.heap.objs.size<=it) (h2:∀ x c,X.env.cells.lookup x=some c->c≠it) (h3:∀ p∈X.pn++pins,p.1≠it):Inv X pins σ H { s with heap:=h',toks:=t' }:=by
 have nit:∀ b u,H b=some u->b≠it:=λb u e z=>by rw [z,hn] at e; cases e
 refine I.step (g':=s.gens) (d':=s.drawn) (ch:=[it]) (λb hb=>?_) (λb o _ _ hc e _=>k b o (λz=>hc (by simp [z])) e) (λb o _ _ hc e _=>⟨o.slots,k b o (λz=>hc (by simp [z])) e⟩) (λ_ _ _ _ n=>n)
  (λb o hc e=>⟨o,k b o (λz=>hc (by simp [z])) e⟩) (λ_ _ e=>e) (λ_ _ _ e=>e) (λb ps e=>⟨#[],by rw [e]; simp⟩) (λm hm=>?_) (λb u e=>?_) I.bare
 ·have e:b=it:=by simpa using hb
  subst e
  exact ⟨h1,hL,h2,h3⟩
 ·obtain ⟨o,es,ep,ho,r⟩:=hm
  exact ⟨o,es,ep,k _ o (Ne.symm hL) ho,r⟩
 ·refine (I.hok b u e).stay (λc v hc q=>k c v ?_ q) (λ_ q=>q) λ_ _ q=>q
  rcases hc with z | z
  ·rw [z]; exact nit b u e
  ·exact nit c _ z
theorem Inv.tok (I:Inv X pins σ H s) (t:Nat):Inv X pins σ H { s with toks:=t }:=I.un (h':=s.heap) (t':=t) Un.refl I.hok
theorem Inv.kept {t':Nat} (I:Inv X pins σ H s) (k:∀ b u,s.heap.get? b=some u->h'.get? b=some u):Inv X pins σ H { s with heap:=h',toks:=t' }:=I.un (Un.kept k) (I.hok.kept k)
theorem Inv.laid {a:Addr} {o:HO} {t':Nat} (I:Inv X pins σ H s) (k:∀ b u,s.heap.get? b=some u->h'.get? b=some u) (hp:s.heap.objs.size<=a) (new:ObjOk X.prog X.w (upd H a o) h' a o) :
  Inv X pins σ (upd H a o) { s with heap:=h',toks:=t' }:=I.un (Un.laid k hp (I.hok.fresh hp)) (I.hok.laid k hp new)
theorem Inv.write {x e:Addr} {o:HO} {t':Nat} (I:Inv X pins σ H s) (mu:Mut (H x)) (he:e=x\/H e=some (.own x)) (k:∀ b u,b≠e->s.heap.get? b=some u->h'.get? b=some u) (heo:∃ u,h'.get? e=some u)
  (new:ObjOk X.prog X.w (upd H x o) h' x o):Inv X pins σ (upd H x o) { s with heap:=h',toks:=t' }:=I.un (Un.write mu he k heo) (I.hok.write mu he k heo new)
theorem Inv.pins_of {pins':List (Addr×Obj)} (I:Inv X pins σ H s) (h:∀ p∈pins',s.heap.get? p.1=some p.2/\H p.1=none/\p.1≠X.env.locals/\p.1 ∉ X.fs/\∀ v,p.2.data≠.cell v):Inv X pins' σ H s :=
 ⟨I.ok,I.os,I.bare,I.base,I.loc,I.cell,I.free,I.freeC,λp hp=>(List.mem_append.mp hp).elim (λz=>I.pin p (List.mem_append_left _ z)) (h p),I.hok,I.len⟩

theorem Zio {N:List Str} (hN:N.Nodup) {i j:Nat} {x:Str} (a:N[i]?=some x) (b:N[j]?=some x):i=j:=by
 obtain ⟨h1,e1⟩:=List.getElem?_eq_some_iff.mp a
 obtain ⟨h2,e2⟩:=List.getElem?_eq_some_iff.mp b
 exact (List.getElem_inj hN).mp (e1.trans e2.symm)

theorem Zgy {M:Model} {A:Around} {E:Value->Shared->Prop} {i:Nat} {x:Str} {v:V} {u:Value} {Q:Unit->Shared->Prop} (I:Inv X pins σ H s) (hN:X.N.Nodup) (hi:X.N[i]?=some x) (hx:Loc X.env.scope x) (r:RelV v u)
  (h:∀ s',Inv X pins (σ.set i (some v)) H s'->(∃ a,Heap.SameBut a s.heap s'.heap/\(a=X.env.locals\/X.env.cells.lookup x=some a))->Q () s') (hf:X.fn x=true\/X.env.scope.names.lookup x=some .local:=by first | exact .inl rfl | exact .inr rfl | assumption):wpAny M A (storeName X.env x u) Q E s:=by
 obtain ⟨m,hn,hl⟩:=id I.loc
 have hcls:(X.env.scope.kind == .class || (X.env.scope.kind == .module && X.env.locals != X.env.globals))=false:=by rw [I.ok.kind]; rfl
 have hiσ:i < σ.length:=by rw [I.len]; exact (List.getElem?_eq_some_iff.mp hi).1
 have cne:=I.cne
 have tracked:∀ {a:Addr} {h':Heap},(∃ o,s.heap.get? a=some o/\H a=none)->Heap.SameBut a s.heap h'->HOk X.prog X.w H h':=λ{a h'} ha hs b ob e=>by
  obtain ⟨_,_,hfree⟩:=ha
  refine (I.hok b ob e).stay (λc w' hc q=>(hs.2 c ?_).trans q) (λ_ q=>q) λ_ _ q=>q
  rintro rfl
  rcases hc with rfl | hc
  ·rw [hfree] at e; cases e
  ·rw [hfree] at hc; cases hc
 rcases hx with hk | hk
 ·refine wpAny_storeName_local hk hn (λh' hn' hs=>?_) hcls
  obtain ⟨oL,_,_,hoL,_⟩:=id hn
  refine h _ ⟨I.ok,I.os,I.bare,⟨λb o e n hb hx=>?_,λb o e n hb hx=>?_,I.base.free,λb o e hx=>?_,I.base.tups,I.base.frzs,I.base.tbls⟩,⟨_,hn',λj y v' e1 e2 e3=>?_⟩,λy c e=>?_,I.free,I.freeC,λp hp=>?_,tracked ⟨oL,hoL,I.free⟩ hs,by simpa using I.len⟩ ⟨_,hs,.inl rfl⟩
  ·exact (hs.2 b (Nat.ne_of_lt (Nat.lt_of_lt_of_le (Heap.lt_size e) I.ok.above))).trans (I.base.keep b o e n hb hx)
  ·obtain ⟨sl,e1⟩:=I.base.slot b o e n hb hx
   exact ⟨sl,(hs.2 b (Nat.ne_of_lt (Nat.lt_of_lt_of_le (Heap.lt_size e) I.ok.above))).trans e1⟩
  ·obtain ⟨o',e1⟩:=I.base.there b o e hx
   exact ⟨o',(hs.2 b (Nat.ne_of_lt (Nat.lt_of_lt_of_le (Heap.lt_size e) I.ok.above))).trans e1⟩
  ·by_cases hj:j=i
   ·subst hj
    rw [hi] at e1; cases e1
    rw [List.getElem?_set_self hiσ] at e2
    cases e2
    exact ⟨u,r,.inl ⟨hk,by simp⟩⟩
   ·rw [List.getElem?_set_ne (Ne.symm hj)] at e2
    obtain ⟨u',r',q⟩:=hl j y v' e1 e2 e3
    refine ⟨u',r',?_⟩
    rcases q with ⟨k,e⟩ | ⟨k,c,e,z⟩
    ·refine .inl ⟨k,?_⟩
     have:y≠x:=λe=>hj (Zio hN e1 (e ▸ hi))
     simp [this,e]
    ·exact .inr ⟨k,c,e,z.sameBut hs (cne y c e)⟩
  ·obtain ⟨w',z⟩:=I.cell y c e
   exact ⟨w',z.sameBut hs (cne y c e)⟩
  ·obtain ⟨e,n,ne,nf,d⟩:=I.pin p hp
   exact ⟨(hs.2 p.1 ne).trans e,n,ne,nf,d⟩
 ·have hfn:X.fn x=true:=by
   rcases hf with z | z
   ·exact z
   ·rw [z] at hk; cases hk
  obtain ⟨c,hc⟩:=I.ok.has x (.inl hk)
  obtain ⟨w',z⟩:=I.cell x c hc
  refine wpAny_storeName_cell I.ok.kind hk hc z (λh' hc' hs=>?_)
  obtain ⟨oc,hoc,hocd⟩:=id z
  refine h { s with heap:=h' } ⟨I.ok,I.os,I.bare,⟨λb o e n hb hx=>?_,λb o e n hb hx=>?_,I.base.free,λb o e hx=>?_,I.base.tups,I.base.frzs,I.base.tbls⟩,⟨m,hn.sameBut hs (Ne.symm (cne x c hc)),λj y v' e1 e2 e3=>?_⟩,λy c' e=>?_,I.free,I.freeC,λp hp=>?_,tracked ⟨oc,hoc,I.freeC x c hc⟩ hs,by simpa using I.len⟩ ⟨c,hs,.inr hc⟩
  ·exact (hs.2 b (Nat.ne_of_lt (Nat.lt_of_lt_of_le (Heap.lt_size e) (I.ok.cab x c hfn hc)))).trans (I.base.keep b o e n hb hx)
  ·obtain ⟨sl,e1⟩:=I.base.slot b o e n hb hx
   exact ⟨sl,(hs.2 b (Nat.ne_of_lt (Nat.lt_of_lt_of_le (Heap.lt_size e) (I.ok.cab x c hfn hc)))).trans e1⟩
  ·obtain ⟨o',e1⟩:=I.base.there b o e hx
   exact ⟨o',(hs.2 b (Nat.ne_of_lt (Nat.lt_of_lt_of_le (Heap.lt_size e) (I.ok.cab x c hfn hc)))).trans e1⟩
  ·by_cases hj:j=i
   ·subst hj
    rw [hi] at e1; cases e1
    rw [List.getElem?_set_self hiσ] at e2
    cases e2
    exact ⟨u,r,.inr ⟨.inl hk,c,hc,hc'⟩⟩
   ·rw [List.getElem?_set_ne (Ne.symm hj)] at e2
    obtain ⟨u',r',q⟩:=hl j y v' e1 e2 e3
    refine ⟨u',r',?_⟩
    rcases q with q | ⟨k,c',e,z'⟩
    ·exact .inl q
    ·refine .inr ⟨k,c',e,z'.sameBut hs ?_⟩
     rintro rfl
     exact hj (Zio hN e1 (I.ok.inj _ _ _ e hc ▸ hi))
  ·by_cases hcc:c'=c
   ·subst hcc; exact ⟨_,hc'⟩
   ·obtain ⟨w2,z2⟩:=I.cell y c' e
    exact ⟨w2,z2.sameBut hs hcc⟩
  ·obtain ⟨e,n,ne,nf,d⟩:=I.pin p hp
   refine ⟨(hs.2 p.1 ?_).trans e,n,ne,nf,d⟩
   intro q
   rw [q,hoc] at e
   have q':oc=p.2:=Option.some.inj e
   exact d w' (by rw [<- q']; exact hocd)
theorem ZdE {M:Model} {A:Around} {E:Value->Shared->Prop} {i:Nat} {x:Str} {v:V} {u:Value} {Q:Unit->Shared->Prop} (I:Inv X pins σ H s) (hN:X.N.Nodup) (hi:X.N[i]?=some x) (hx:Loc X.env.scope x) (r:RelV v u)
  (h:∀ s',Inv X pins (σ.set i (some v)) H s'->Q () s') (hf:X.fn x=true\/X.env.scope.names.lookup x=some .local:=by first | exact .inl rfl | exact .inr rfl | assumption):wpAny M A (storeName X.env x u) Q E s :=
 Zgy I hN hi hx r (λs' I' _=>h s' I') hf
theorem Inv.call' {s':Shared} {ch:List Addr} (I:Inv X pins σ H s) (ho:s'.os=s.os) (u:Un (frs X.stack) ch H H' s.heap s'.heap) (hok:HOk X.prog X.w H' s'.heap) (hg:AllBare s'.gens)
  (hch:∀ b∈ch,(b∈X.ex\/X.s₀.heap.objs.size<=b)/\b≠X.env.locals/\(∀ x c,X.env.cells.lookup x=some c->c≠b)/\∀ p∈X.pn++pins,p.1≠b):Inv X pins σ H' s':=by
 obtain ⟨h',g',d',t',o'⟩:=s'
 have e:o'=s.os:=ho
 subst e
 exact I.call (g':=g') (t':=t') (d':=d') u hok hg hch
end
noncomputable abbrev XK:=Value->Option Addr->Hp->Prop
noncomputable abbrev St:=List (Option V)
noncomputable abbrev VK:=V->Hp->Prop
noncomputable abbrev TE:=St->Hp->VK->Prop
noncomputable abbrev TT:=St->Hp->(Bool->Hp->Prop)->Prop
noncomputable abbrev TA:=St->Hp->(List V->Hp->Prop)->Prop
structure Ends where
 nx:St->Hp->Prop
 rt:VK
 bk:St->Hp->Prop:=λ_ _=>False
 ct:St->Hp->Prop:=λ_ _=>False
noncomputable abbrev TS:=Ends->St->Hp->Prop

noncomputable def EP (X:Cx) (pins:List (Addr×Obj)) (σ:St) (Q:VK) (u:Value) (s':Shared):Prop:=∃ v H',Inv X pins σ H' s'/\RelV v u/\Q v H'
noncomputable def TP (X:Cx) (pins:List (Addr×Obj)) (σ:St) (Q:Bool->Hp->Prop) (b:Bool) (s':Shared):Prop:=∃ H',Inv X pins σ H' s'/\Q b H'
noncomputable def AP (X:Cx) (pins:List (Addr×Obj)) (σ:St) (Q:List V->Hp->Prop) (us:List Value) (s':Shared):Prop:=∃ vs H',Inv X pins σ H' s'/\Vals vs us/\Q vs H'
noncomputable def SP (X:Cx) (pins:List (Addr×Obj)) (D:Ends) (f:Flow) (s':Shared):Prop :=
 match f with
 | .next=>∃ σ' H',Inv X pins σ' H' s'/\D.nx σ' H'
 | .brk=>∃ σ' H',Inv X pins σ' H' s'/\D.bk σ' H'
 | .cont=>∃ σ' H',Inv X pins σ' H' s'/\D.ct σ' H'
 | .ret u=>∃ v σ' H',Inv X pins σ' H' s'/\RelV v u/\D.rt v H'

noncomputable def PE (X:Cx) (e:Expr) (t:TE):Prop :=
 ∀ (pins:List (Addr×Obj)) (s:Shared) (σ:St) (H:Hp) (Q:VK),Inv X pins σ H s->t σ H Q->wpAny (model X.prog X.w) X.A (eval e X.env) (EP X pins σ Q) X.xe s
noncomputable def PT (X:Cx) (e:Expr) (t:TT):Prop :=
 ∀ (pins:List (Addr×Obj)) (s:Shared) (σ:St) (H:Hp) (Q:Bool->Hp->Prop),Inv X pins σ H s->t σ H Q->wpAny (model X.prog X.w) X.A (isTrue e X.env (eval e X.env)) (TP X pins σ Q) X.xe s
noncomputable def PW (X:Cx) (e:Expr) (t:TT):Prop :=
 ∀ (whole:Sem Value) (pins:List (Addr×Obj)) (s:Shared) (σ:St) (H:Hp) (Q:Bool->Hp->Prop),Inv X pins σ H s->t σ H Q->wpAny (model X.prog X.w) X.A (isTrue e X.env whole) (TP X pins σ Q) X.xe s
theorem PW.pt {X:Cx} {e:Expr} {t:TT} (h:PW X e t):PT X e t:=h _
noncomputable def PA (X:Cx) (es:List Expr) (t:TA):Prop :=
 ∀ (pos:Pos) (pins:List (Addr×Obj)) (s:Shared) (σ:St) (H:Hp) (Q:List V->Hp->Prop),Inv X pins σ H s->t σ H Q->wpAny (model X.prog X.w) X.A (spliced (backTo pos (starEach es X.env))) (AP X pins σ Q) X.xe s
noncomputable def PS (X:Cx) (st:Stmt) (t:TS):Prop :=
 ∀ (pins:List (Addr×Obj)) (s:Shared) (σ:St) (H:Hp) (D:Ends),Inv X pins σ H s->t D σ H->wpAny (model X.prog X.w) X.A (exec st X.env) (SP X pins D) X.xe s
noncomputable def PSs (X:Cx) (st:List Stmt) (t:TS):Prop :=
 ∀ (pins:List (Addr×Obj)) (s:Shared) (σ:St) (H:Hp) (D:Ends),Inv X pins σ H s->t D σ H->wpAny (model X.prog X.w) X.A (execs st X.env) (SP X pins D) X.xe s
theorem thn {α:Type} {t:Sem α} {Q Q':α->Shared->Prop} {M:Model} {A:Around} {E:Value->Shared->Prop} {s:Shared} (h:wpAny M A t Q E s) (hQ:∀ a s,Q a s->Q' a s):wpAny M A t Q' E s:=wpAny_mono h hQ λ_ _ x=>x
end L2
namespace L2
open PySem PySem.Spec PyProof.Rows
section
variable {X:Cx}
noncomputable def Zjp (i:Nat):TE:=λσ H Q=>∃ v,σ[i]?=some (some v)/\Q v H
noncomputable def tC (v:V):TE:=λ_ H Q=>Q v H
theorem ZpP {i:Nat} {x:Str} {pos:Pos} (hN:X.N[i]?=some x) (hv:Vis X.env.scope x) (hd:(x == ("__debug__":Str))=false:=by decide) (hcd:(x == ("__classdict__":Str))=false:=by decide):PE X (.Name x pos) (Zjp i):=by
 intro pins s σ H Q I h
 obtain ⟨v,e,h⟩:=h
 obtain ⟨m,hn,hl⟩:=I.loc
 obtain ⟨u,r,l⟩:=hl i x v hN e hv
 have fin:EP X pins σ Q u s:=⟨v,H,I,r,h⟩
 rcases l with ⟨hk,hm⟩ | ⟨hk,c,hc,hcell⟩
 ·exact wpAny_Name (wpAny_loadName_local I.ok.kind hk hn hm fin) hd
 ·rcases hk with hk | hk
  ·exact wpAny_Name (wpAny_loadName_cell I.ok.kind hk hc hcell fin) hd
  ·exact wpAny_Name (wpAny_loadName_free I.ok.kind hk hc hcell fin hcd) hd
theorem Zba {i j pos}:PE X (.Constant (.int i) j pos) (tC (.int i)):=λ_ _ _ H _ I h=>wpAny_Constant_int ⟨.int i,H,I.tok _,⟨_,rfl⟩,h⟩
theorem pe_bl {b j pos}:PE X (.Constant (.bool b) j pos) (tC (.bl b)):=λ_ _ _ H _ I h=>Constant_bool ⟨.bl b,H,I,rfl,h⟩
theorem Zcd {x j pos}:PE X (.Constant (.str x) j pos) (tC (.str x)):=λ_ _ _ H _ I h=>Calls.Constant_str ⟨.str x,H,I.tok _,⟨_,rfl⟩,h⟩

noncomputable def Gl (X:Cx) (x:Str):Prop:=X.env.kindOf x=some .globalImplicit
theorem Zkl {E:Value->Shared->Prop} {pins:List (Addr×Obj)} {s:Shared} {σ:St} {H:Hp} {x:Str} {u:Value} {pos:Pos} {Q:Value->Shared->Prop} (I:Inv X pins σ H s) (hg:Gl X x) (hm:X.mg x=some u) (h:Q u s)
  (hd:(x == ("__debug__":Str))=false:=by decide):wpAny (model X.prog X.w) X.A (eval (.Name x pos) X.env) Q E s :=
 Calls.Name_function_global I.ok.kind hg (Calls.loadGlobal_global (by rw [I.ok.glob]; exact I.mod.glob.keeps I.bk) hm h) hd
theorem Zef {E:Value->Shared->Prop} {pins:List (Addr×Obj)} {s:Shared} {σ:St} {H:Hp} {x:Str} {u:Value} {pos:Pos} {Q:Value->Shared->Prop} (I:Inv X pins σ H s) (hg:Gl X x) (hm:X.mg x=none) (hv:bootBuiltins x=some u) (h:Q u s)
  (hn:x≠"__name__":=by decide) (hd:(x == ("__debug__":Str))=false:=by decide):wpAny (model X.prog X.w) X.A (eval (.Name x pos) X.env) Q E s:=by
 obtain ⟨mb,h1,h2⟩:=I.mod.blt
 exact Calls.Name_function_global I.ok.kind hg (Calls.loadGlobal_builtin (by rw [I.ok.glob]; exact I.mod.glob.keeps I.bk) hm (by rw [I.ok.blt]; exact h1.keeps I.bk) ((h2 x hn).trans hv) h) hd
theorem ZnG {x:Str} {v:V} {u:Value} {pos:Pos} (hg:Gl X x) (hm:X.mg x=some u) (r:RelV v u) (hd:(x == ("__debug__":Str))=false:=by decide):PE X (.Name x pos) (tC v) :=
 λ_ _ _ H _ I h=>Zkl I hg hm ⟨v,H,I,r,h⟩ hd
theorem ZeK {x:Str} {v:V} {u:Value} {pos:Pos} (hg:Gl X x) (hm:X.mg x=none) (hv:bootBuiltins x=some u) (r:RelV v u) (hn:x≠"__name__":=by decide) (hd:(x == ("__debug__":Str))=false:=by decide):PE X (.Name x pos) (tC v) :=
 λ_ _ _ H _ I h=>Zef I hg hm hv ⟨v,H,I,r,h⟩ hn hd

variable {a b:Expr} {ta tb:TE} {pos:Pos}
noncomputable def tB (t:TE):TT:=λσ H Q=>t σ H λx H1=>∃ c,x=.bl c/\Q c H1
theorem ZpG {e:Expr} {t:TE} (h:PE X e t) (he:∀ whole,isTrue e X.env whole=(do let v <- whole; standAt e.pos; holding [v] (truthy v)):=by intro _; rfl):PT X e (tB t):=by
 intro pins s σ H Q I hw
 refine isTrue_plain (thn (h pins s σ H _ I hw) λv s1 hz0=>?_) (he _)
 obtain ⟨x,H1,I1,r1,q1⟩:=hz0
 obtain ⟨d,rfl,q⟩:=q1
 cases r1
 exact wpAny_truthy_bool ⟨H1,I1,q⟩

variable {tA tB':TT} {rest:List Expr}
noncomputable def tAnd (t u:TT):TT:=λσ H Q=>t σ H λc H1=>if c=true then u σ H1 Q else Q false H1
noncomputable def tOr (t u:TT):TT:=λσ H Q=>t σ H λc H1=>if c=true then Q true H1 else u σ H1 Q
noncomputable def tNot (t:TT):TT:=λσ H Q=>t σ H λc H1=>Q (!c) H1
theorem ZnC (ha:PT X a tA):PW X (.BoolOp .And [a] pos) tA:=by
 intro wh pins s σ H Q I h
 refine isTrue_and (thn (ha pins s σ H Q I h) λc s1 e=>?_)
 cases c with
 | true=>exact isTrue_and_nil e
 | false=>exact e
theorem ZpE (ha:PT X a tA):PW X (.BoolOp .Or [a] pos) tA:=by
 intro wh pins s σ H Q I h
 refine isTrue_or (thn (ha pins s σ H Q I h) λc s1 e=>?_)
 cases c with
 | false=>exact isTrue_or_nil e
 | true=>exact e
theorem ZpF (ha:PT X a tA) (hb:PW X (.BoolOp .And (b::rest) pos) tB'):PW X (.BoolOp .And (a::b::rest) pos) (tAnd tA tB'):=by
 intro wh pins s σ H Q I h
 refine isTrue_and (thn (ha pins s σ H _ I h) λc s1 hz0=>?_)
 obtain ⟨H1,I1,q1⟩:=hz0
 cases c with
 | true=>exact hb wh pins s1 σ H1 Q I1 q1
 | false=>exact ⟨H1,I1,q1⟩
theorem pw_or (ha:PT X a tA) (hb:PW X (.BoolOp .Or (b::rest) pos) tB'):PW X (.BoolOp .Or (a::b::rest) pos) (tOr tA tB'):=by
 intro wh pins s σ H Q I h
 refine isTrue_or (thn (ha pins s σ H _ I h) λc s1 hz0=>?_)
 obtain ⟨H1,I1,q1⟩:=hz0
 cases c with
 | true=>exact ⟨H1,I1,q1⟩
 | false=>exact hb wh pins s1 σ H1 Q I1 q1
theorem ZpH (ha:PT X a tA):PT X (.UnaryOp .Not a pos) (tNot tA):=by
 intro pins s σ H Q I h
 exact isTrue_not (ha pins s σ H (λc H1=>Q (!c) H1) I h)
noncomputable def tAndV (ta tb:TE):TE:=λσ H Q=>ta σ H λx H1=>∃ c,x=.bl c/\if c=true then tb σ H1 Q else Q (.bl false) H1
noncomputable def tNotV (ta:TE):TE:=λσ H Q=>ta σ H λx H1=>∃ c,x=.bl c/\Q (.bl (!c)) H1
theorem ZpQ {op} {t:TE} (h:PE X a t):PE X (.BoolOp op [a] pos) t:=λpins s σ H Q I hw=>BoolOp_one (h pins s σ H Q I hw)
theorem ZpU (ha:PE X a ta) (hb:PE X (.BoolOp .And (b::rest) pos) tb):PE X (.BoolOp .And (a::b::rest) pos) (tAndV ta tb):=by
 intro pins s σ H Q I h
 refine BoolOp_and (thn (ha pins s σ H _ I h) λv s1 hz0=>?_)
 obtain ⟨x,H1,I1,r1,q1⟩:=hz0
 obtain ⟨c,rfl,q1⟩:=q1
 cases r1
 refine wpAny_truthy_bool ?_
 cases c with
 | true=>exact hb pins s1 σ H1 Q I1 q1
 | false=>exact ⟨.bl false,H1,I1,rfl,q1⟩
theorem ZpR (ha:PE X a ta):PE X (.UnaryOp .Not a pos) (tNotV ta):=by
 intro pins s σ H Q I h
 refine UnaryOp_ (thn (ha pins s σ H _ I h) λv s1 hz0=>?_)
 obtain ⟨x,H1,I1,r1,q1⟩:=hz0
 obtain ⟨c,rfl,q1⟩:=q1
 cases r1
 exact not_of (wpAny_truthy_bool ⟨.bl (!c),H1,I1,rfl,q1⟩)
noncomputable def tIf (t:TT) (ta tb:TE):TE:=λσ H Q=>t σ H λc H1=>if c=true then ta σ H1 Q else tb σ H1 Q
theorem ZlN {c:Expr} (hc:PT X c tA) (ha:PE X a ta) (hb:PE X b tb):PE X (.IfExp c a b pos) (tIf tA ta tb):=by
 intro pins s σ H Q I h
 refine wpAny_IfExp (thn (hc pins s σ H _ I h) λd s1 hz0=>?_)
 obtain ⟨H1,I1,q1⟩:=hz0
 cases d with
 | true=>exact ha pins s1 σ H1 Q I1 q1
 | false=>exact hb pins s1 σ H1 Q I1 q1
end
end L2
namespace L2
open PySem PySem.Spec PyProof.Rows
noncomputable def SqL (K:PySem.W.Frag) (H:Hp) (a:Addr) (xs:List V):Prop :=
 Rd H a (.lst xs) \/
  ∃ (o:Obj) (its:Array Value) (n:Nat),K.lookup a=some o/\o.cls=.type "list"/\o.dict=none/\o.data=.seq its n/\its.size<=sizeLine/\Vals xs its.toList
noncomputable def SqT (K:PySem.W.Frag) (H:Hp) (a:Addr) (xs:List V):Prop :=
 Rd H a (.tup xs) \/
  ∃ (o:Obj) (its:Array Value) (n:Nat),K.lookup a=some o/\o.cls=.type "tuple"/\o.data=.seq its n/\its.size<=sizeLine/\Vals xs its.toList
noncomputable def absV:Value->Option V
 | .none=>some .non
 | .bool b=>some (.bl b)
 | .int i _=>some (.int i)
 | .str x _=>some (.str x)
 | .bytes b _=>some (.byt b)
 | .float b _=>some (.flt b)
 | .ref a=>some (.ref a)
 | .type n=>some (.ty n)
 | _=>none
theorem RelV.abs {x:V} {u:Value} (r:RelV x u):absV u=some x:=by
 cases x with
 | non=>cases r; rfl
 | bl _=>cases r; rfl
 | int _=>obtain ⟨t,rfl⟩:=r; rfl
 | str _=>obtain ⟨t,rfl⟩:=r; rfl
 | byt _=>obtain ⟨t,rfl⟩:=r; rfl
 | flt _=>obtain ⟨t,rfl⟩:=r; rfl
 | ref _=>cases r; rfl
 | ty _=>cases r; rfl
theorem RelV.inj {x y:V} {u:Value} (r:RelV x u) (q:RelV y u):x=y:=Option.some.inj (r.abs.symm.trans q.abs)
theorem Vals.inj {xs ys:List V} {us:List Value} (h:Vals xs us) (h':Vals ys us):xs=ys:=by
 induction h generalizing ys with
 | nil=>cases h'; rfl
 | cons r t ih=>cases h' with | cons r' t'=>rw [r.inj r',ih t']
section
variable {X:Cx} {pins:List (Addr×Obj)} {σ:St} {H:Hp} {s:Shared} {a:Addr} {xs ys:List V}
theorem SqL.of {K:PySem.W.Frag} (h:H a=some (.lst xs)):SqL K H a xs:=.inl (.inl h)
theorem SqT.of {K:PySem.W.Frag} (h:H a=some (.tup xs)):SqT K H a xs:=.inl (.inl h)
theorem Inv.list (I:Inv X pins σ H s) (h:SqL X.K H a xs):∃ its:List Value,Vals xs its/\PlainL s.heap a its.toArray/\xs.length<=sizeLine:=by
 rcases h with h | ⟨o,its,n,hk,hc,hd,hs,hz,r⟩
 ·obtain ⟨z,its,n,r,e⟩:=h.ok I.hok
  exact ⟨its,r,⟨_,n,e,rfl,rfl,rfl⟩,z⟩
 ·refine ⟨its.toList,r,⟨o,n,I.kIn a o hk,hc,hd,by simpa using hs⟩,?_⟩
  have e:=r.length
  simp only [Array.length_toList] at e
  omega
theorem Inv.tuple (I:Inv X pins σ H s) (h:SqT X.K H a xs):∃ its:List Value,Vals xs its/\IsTup s.heap a its.toArray/\xs.length<=sizeLine:=by
 rcases h with h | ⟨o,its,n,hk,hc,hs,hz,r⟩
 ·obtain ⟨z,its,r,p⟩:=h.ok I.hok
  exact ⟨its,r,p,z⟩
 ·refine ⟨its.toList,r,⟨o,I.kIn a o hk,hc,n,by simpa using hs⟩,?_⟩
  have e:=r.length
  simp only [Array.length_toList] at e
  omega
theorem Inv.list_inj (I:Inv X pins σ H s) (h:SqL X.K H a xs) (h':SqL X.K H a ys):xs=ys:=by
 obtain ⟨its,r,⟨o,n,e,_,_,d⟩,_⟩:=I.list h
 obtain ⟨its',r',⟨o',n',e',_,_,d'⟩,_⟩:=I.list h'
 rw [e] at e'; cases e'
 rw [d] at d'
 injection d' with d1 _
 have:its=its':=by simpa using congrArg Array.toList d1
 subst this
 exact r.inj r'
theorem Inv.tuple_inj (I:Inv X pins σ H s) (h:SqT X.K H a xs) (h':SqT X.K H a ys):xs=ys:=by
 obtain ⟨its,r,⟨o,e,_,n,d⟩,_⟩:=I.tuple h
 obtain ⟨its',r',⟨o',e',_,n',d'⟩,_⟩:=I.tuple h'
 rw [e] at e'; cases e'
 rw [d] at d'
 injection d' with d1 _
 have:its=its':=by simpa using congrArg Array.toList d1
 subst this
 exact r.inj r'
end
noncomputable abbrev Cx.wish (X:Cx) (E:Value->Shared->Prop):Cx:={ X with xe:=E }
noncomputable abbrev Cx.nox (X:Cx):Cx:=X.wish λ_ _=>False
theorem Cx.Ok.wish {X:Cx} (ok:X.Ok) (E:Value->Shared->Prop):(X.wish E).Ok :=
 ⟨ok.mod,ok.kind,ok.glob,ok.blt,ok.above,ok.inj,ok.has,ok.cab,ok.hd,ok.frames,ok.stk,ok.exf,ok.bs,ok.bsz,ok.noex,ok.exfs,ok.funs,ok.frf⟩
theorem Cx.Ok.unwish {X:Cx} {E:Value->Shared->Prop} (ok:(X.wish E).Ok):X.Ok :=
 ⟨ok.mod,ok.kind,ok.glob,ok.blt,ok.above,ok.inj,ok.has,ok.cab,ok.hd,ok.frames,ok.stk,ok.exf,ok.bs,ok.bsz,ok.noex,ok.exfs,ok.funs,ok.frf⟩
section
variable {X:Cx} {pins:List (Addr×Obj)} {σ:St} {H:Hp} {s:Shared} {E:Value->Shared->Prop}
theorem Inv.wish (I:Inv X pins σ H s) (E:Value->Shared->Prop):Inv (X.wish E) pins σ H s:=⟨I.ok.wish E,I.os,I.bare,I.base,I.loc,I.cell,I.free,I.freeC,I.pin,I.hok,I.len⟩
theorem Inv.unwish (I:Inv (X.wish E) pins σ H s):Inv X pins σ H s:=⟨I.ok.unwish,I.os,I.bare,I.base,I.loc,I.cell,I.free,I.freeC,I.pin,I.hok,I.len⟩
theorem SP.unwish {D:Ends} {f:Flow} {s':Shared} (h:SP (X.wish E) pins D f s'):SP X pins D f s':=by
 cases f with
 | next=>obtain ⟨σ',H',I,q⟩:=h; exact ⟨σ',H',I.unwish,q⟩
 | brk=>obtain ⟨σ',H',I,q⟩:=h; exact ⟨σ',H',I.unwish,q⟩
 | cont=>obtain ⟨σ',H',I,q⟩:=h; exact ⟨σ',H',I.unwish,q⟩
 | ret u=>obtain ⟨v,σ',H',I,r,q⟩:=h; exact ⟨v,σ',H',I.unwish,r,q⟩
theorem PSs.nox {st:List Stmt} {t:TS} (h:PSs X.nox st t):PSs X st t:=λpins s σ H D I hw =>
 wpAny_mono (h pins s σ H D (I.wish _) hw) (λ_ _ q=>q.unwish) λ_ _ z=>False.elim z
end
section
variable {X:Cx} {st:Stmt} {rest:List Stmt} {t u:TS} {e:Expr} {te:TE} {pos:Pos}
noncomputable def tNext:TS:=λD σ H=>D.nx σ H
noncomputable def tSeq (t u:TS):TS:=λD σ H=>t { D with nx:=u D } σ H
theorem pss_nil:PSs X [] tNext:=λ_ _ σ H _ I h=>wpAny_execs_nil ⟨σ,H,I,h⟩
theorem Zbi (h1:PS X st t) (h2:PSs X rest u):PSs X (st::rest) (tSeq t u):=by
 intro pins s σ H D I h
 refine wpAny_execs_cons (thn (h1 pins s σ H { D with nx:=u D } I h) λf s1 q=>?_)
 cases f with
 | next =>
  obtain ⟨σ',H',I',q⟩:=q
  exact h2 pins s1 σ' H' D I' q
 | ret v=>exact q
 | brk=>exact q
 | cont=>exact q
theorem Zds (h1:PS X st t):PSs X [st] t:=by
 intro pins s σ H D I h
 refine wpAny_execs_cons (thn (h1 pins s σ H D I h) λf s1 q=>?_)
 cases f with
 | next=>exact wpAny_execs_nil q
 | ret v=>exact q
 | brk=>exact q
 | cont=>exact q
theorem Inv.quiet {pins:List (Addr×Obj)} {σ:St} {H:Hp} {s:Shared} (I:Inv X pins σ H s):interactive X.env=false:=by simp [interactive,I.ok.kind]
noncomputable def Znq (te:TE):TS:=λD σ H=>te σ H λ_ H1=>D.nx σ H1
theorem ZeJ (he:PE X e te) (hs:swapsWith e none pos.line X.env=pure false:=by rfl):PS X (.Expr e pos) (Znq te):=by
 intro pins s σ H D I h
 exact wpAny_Expr_any (thn (he pins s σ H _ I h) λv s1 ⟨x,H1,I1,r1,q1⟩=>⟨σ,H1,I1,q1⟩) I.quiet hs
noncomputable def tRet (te:TE):TS:=λD σ H=>te σ H D.rt
theorem ZdI (he:PE X e te):PS X (.Return (some e) pos) (tRet te):=by
 intro pins s σ H D I h
 exact wpAny_Return_some (thn (he pins s σ H _ I h) λv s1 ⟨x,H1,I1,r1,q1⟩=>⟨x,σ,H1,I1,r1,q1⟩)
noncomputable def tIfS (c:TT) (t u:TS):TS:=λD σ H=>c σ H λb H1=>if b=true then t D σ H1 else u D σ H1
theorem ZlI {c:Expr} {a b:List Stmt} {tc:TT} (hc:PT X c tc) (ha:PSs X a t) (hb:PSs X b u):PS X (.If c a b pos) (tIfS tc t u):=by
 intro pins s σ H D I h
 refine wpAny_If (thn (hc pins s σ H _ I h) λd s1 hz0=>?_)
 obtain ⟨H1,I1,q1⟩:=hz0
 cases d with
 | true=>exact ha pins s1 σ H1 D I1 q1
 | false=>exact hb pins s1 σ H1 D I1 q1
end
noncomputable abbrev TG:=V->St->Hp->(St->Hp->Prop)->Prop
noncomputable abbrev TGs:=List V->St->Hp->(St->Hp->Prop)->Prop
noncomputable def PG (X:Cx) (target:Expr) (t:TG):Prop :=
 ∀ (pins:List (Addr×Obj)) (s:Shared) (σ:St) (H:Hp) (v:V) (u:Value) (Q:St->Hp->Prop),Inv X pins σ H s->RelV v u->t v σ H Q ->
  wpAny (model X.prog X.w) X.A (assign target X.env u) (λ_ s'=>∃ σ' H',Inv X pins σ' H' s'/\Q σ' H') X.xe s
noncomputable def PGs (X:Cx) (ts:List Expr) (t:TGs):Prop :=
 ∀ (pins:List (Addr×Obj)) (s:Shared) (σ:St) (H:Hp) (vs:List V) (us:List Value) (Q:St->Hp->Prop),Inv X pins σ H s->Vals vs us->t vs σ H Q ->
  wpAny (model X.prog X.w) X.A (assignInOrder ((assignEach ts X.env).map (·.2)) us) (λ_ s'=>∃ σ' H',Inv X pins σ' H' s'/\Q σ' H') X.xe s
noncomputable abbrev ZqU:=V->V->V->Hp->(Hp->Prop)->Prop
noncomputable def PSet (X:Cx) (t:ZqU):Prop :=
 ∀ (pins:List (Addr×Obj)) (s:Shared) (σ:St) (H:Hp) (o i v:V) (ov iv u:Value) (Q:Hp->Prop),Inv X pins σ H s->RelV o ov->RelV i iv->RelV v u->t o i v H Q ->
  wpAny (model X.prog X.w) X.A (setItem ov iv u) (λ_ s'=>∃ H',Inv X pins σ H' s'/\Q H') X.xe s
noncomputable abbrev TIp:=V->V->Hp->VK->Prop
noncomputable def PIp (X:Cx) (op:Operator) (t:TIp):Prop :=
 ∀ (pins:List (Addr×Obj)) (s:Shared) (σ:St) (H:Hp) (x y:V) (v u:Value) (Q:VK),Inv X pins σ H s->RelV x v->RelV y u->t x y H Q ->
  wpAny (model X.prog X.w) X.A (inplaceOp op v u) (EP X pins σ Q) X.xe s
section
variable {X:Cx} {pos:Pos}
noncomputable def ZgQ (i:Nat):TG:=λv σ H Q=>Q (σ.set i (some v)) H
theorem Zaw {i:Nat} {x:Str} (hN:X.N.Nodup) (hi:X.N[i]?=some x) (hx:Loc X.env.scope x) (hf:X.fn x=true\/X.env.scope.names.lookup x=some .local:=by first | exact .inl rfl | exact .inr rfl | assumption):PG X (.Name x pos) (ZgQ i):=by
 intro pins s σ H v u Q I r h
 exact wpAny_assign_Name (ZdE I hN hi hx r (λs' I'=>⟨_,H,I',h⟩) hf)
noncomputable def gNil:TGs:=λvs σ H Q=>vs=[]/\Q σ H
noncomputable def gCons (t:TG) (u:TGs):TGs:=λvs σ H Q=>∃ v r,vs=v::r/\t v σ H λσ' H'=>u r σ' H' Q
theorem pgs_nil:PGs X [] gNil:=by
 intro pins s σ H vs us Q I r h
 obtain ⟨e,h⟩:=h
 subst e
 cases r
 exact assignInOrder_nil ⟨σ,H,I,h⟩
theorem ZlL {e:Expr} {es:List Expr} {t:TG} {u:TGs} (h1:PG X e t) (h2:PGs X es u)
  (hs:(assignEach (e::es) X.env).map (·.2)=assign e X.env::(assignEach es X.env).map (·.2):=by rfl):PGs X (e::es) (gCons t u):=by
 intro pins s σ H vs us Q I r h
 obtain ⟨v,vr,e1,h⟩:=h
 subst e1
 cases r with
 | cons r rr =>
  rw [hs]
  refine assignInOrder_cons (thn (h1 pins s σ H _ _ _ I r h) λ_ s1 hz0=>?_)
  obtain ⟨σ1,H1,I1,q1⟩:=hz0
  exact h2 pins s1 σ1 H1 _ _ Q I1 rr q1
noncomputable def gTup (K:PySem.W.Frag) (n:Nat) (t:TGs):TG:=λv σ H Q=>∃ a xs,v=.ref a/\SqT K H a xs/\xs.length=n/\t xs σ H Q
theorem ZpO {es:List Expr} {k:Nat} {t:TGs} {n:Nat} (hc:X.calm=true) (h:PGs X es t)
  (hn:(assignEach es X.env).length=n:=by rfl) (hst:(assignEach es X.env).findIdx? (·.1)=none:=by rfl):PG X (.Tuple es k pos) (gTup X.K n t):=by
 intro pins s σ H v u Q I r hw
 obtain ⟨a,xs,e1,hq,hl,hw⟩:=hw
 subst e1
 cases r
 obtain ⟨its,rv,ht,hz⟩:=I.tuple hq
 refine assign_Tuple_tuple (I.ok.hd hc) ht (by simp [hn,<- hl,rv.length]) hst λh' hx=>?_
 have I1:Inv X pins σ H { s with heap:=h' }:=I.kept (t':=s.toks) λb o e=>hx b o (Nat.ne_of_lt (Heap.lt_size e)) e
 exact h pins _ σ H xs _ Q I1 (by simpa using rv) hw
noncomputable def gSub (to ti:TE) (t:ZqU):TG:=λv σ H Q=>to σ H λo H1=>ti σ H1 λi H2=>t o i v H2 λH3=>Q σ H3
theorem Zj2 {o i:Expr} {to ti:TE} {t:ZqU} (ho:PE X o to) (hi:PE X i ti) (hs:PSet X t)
  (ha:∀ v,assign (.Subscript o i pos) X.env v=(do
   let ov <- holding [v] (eval o X.env)
   let iv <- holding [v,ov] (eval i X.env)
   standAt pos
   holding [v,ov,iv] (setItem ov iv v)
   release [v,ov,iv] []):=by intro _; rfl):PG X (.Subscript o i pos) (gSub to ti t):=by
 intro pins s σ H v u Q I r h
 rw [ha]
 refine wpAny_bind (wpAny_holding (thn (ho pins s σ H _ I h) λov s1 hz0=>?_))
 obtain ⟨x,H1,I1,r1,q1⟩:=hz0
 refine wpAny_bind (wpAny_holding (thn (hi pins s1 σ H1 _ I1 q1) λiv s2 hz0=>?_))
 obtain ⟨y,H2,I2,r2,q2⟩:=hz0
 refine wpAny_bind (wpAny_standAt (wpAny_bind (wpAny_holding (thn (hs pins s2 σ H2 x y v ov iv u _ I2 r1 r2 r q2) λ_ s3 hz0=>?_))))
 obtain ⟨H3,I3,q3⟩:=hz0
 exact wpAny_release ⟨σ,H3,I3,q3⟩
noncomputable def Zlj (te:TE) (g:TG):TS:=λD σ H=>te σ H λx H1=>g x σ H1 D.nx
theorem Zec {tg e:Expr} {te:TE} {g:TG} (he:PE X e te) (hg:PG X tg g) (hs:swapsWithSole [tg] e pos.line X.env=pure false:=by rfl) (hw:swappedStores [tg] e X.env=pure none:=by rfl)
  (h1:(assignEach [tg] X.env).map (·.2)=[assign tg X.env]:=by rfl):PS X (.Assign [tg] e pos) (Zlj te g):=by
 intro pins s σ H D I h
 refine wpAny_Assign_stores (thn (he pins s σ H _ I h) λv s1 hz0=>?_) hs hw
 obtain ⟨x,H1,I1,r1,q1⟩:=hz0
 rw [h1]
 exact thn (hg pins s1 σ H1 x v _ I1 r1 q1) λ_ s2 q=>q
theorem Zav {i:Nat} {x:Str} {e:Expr} {te:TE} {pos':Pos} (hN:X.N.Nodup) (hi:X.N[i]?=some x) (hx:Loc X.env.scope x) (he:PE X e te) (hs:swapsWith e (some (.Name x pos')) pos.line X.env=pure false:=by rfl) (hf:X.fn x=true\/X.env.scope.names.lookup x=some .local:=by first | exact .inl rfl | exact .inr rfl | assumption) :
  PS X (.Assign [.Name x pos'] e pos) (Zlj te (ZgQ i)):=by
 intro pins s σ H D I h
 refine wpAny_Assign_Name (thn (he pins s σ H _ I h) λv s1 hz0=>?_) hs
 obtain ⟨y,H1,I1,r1,q1⟩:=hz0
 exact ZdE I1 hN hi hx r1 (λs2 I2=>⟨_,H1,I2,q1⟩) hf
noncomputable def tPar (i j:Nat) (ta:TA):TS:=λD σ H=>ta σ H λvs H1=>∃ v w,vs=[v,w]/\D.nx ((σ.set i (some v)).set j (some w)) H1
theorem Zfx {i j:Nat} {x y:Str} {a b:Expr} {ta:TA} {px py pt:Pos} {kt k2 pt2} (hc:X.calm=true) (hN:X.N.Nodup) (hi:X.N[i]?=some x) (hj:X.N[j]?=some y) (hij:i≠j)
  (hx:X.env.scope.names.lookup x=some .local) (hy:X.env.scope.names.lookup y=some .local) (ha:PA X [a,b] ta)
  (hw:swappedStores [.Tuple [.Name x px,.Name y py] kt pt] (.Tuple [a,b] k2 pt2) X.env=pure (some [x,y]))
  (hs:swapsWithSole [.Tuple [.Name x px,.Name y py] kt pt] (.Tuple [a,b] k2 pt2) pos.line X.env=pure false:=by rfl) :
  PS X (.Assign [.Tuple [.Name x px,.Name y py] kt pt] (.Tuple [a,b] k2 pt2) pos) (tPar i j ta):=by
 intro pins s σ H D I h
 rw [exec_Assign_arm]
 refine wpAny_bind (wpAny_standAt ?_)
 rw [hs]
 refine wpAny_bind (wpAny_pure ?_)
 rw [if_neg (by decide)]
 refine wpAny_bind (Tuple_ (thn (ha _ pins s σ H _ I h) λus s1 hz0=>?_))
 obtain ⟨vs,H1,I1,r1,q1⟩:=hz0
 obtain ⟨v,w,e1,q1⟩:=q1
 subst e1
 obtain ⟨u1,u2,rfl,rv,rw'⟩:∃ u1 u2,us=[u1,u2]/\RelV v u1/\RelV w u2:=by
  cases r1 with
  | cons p q =>
   cases q with
   | cons p' q' =>
    cases q'
    exact ⟨_,_,rfl,p,p'⟩
 refine wpAny_newObj_type ?_ (by show 2<=sizeLine; decide)
 have I2:Inv X pins σ H1 { s1 with heap:=s1.heap.push { cls:=.type "tuple",data:=.seq [u1,u2].toArray } }:=I1.kept (t':=s1.toks) λb o e=>Heap.get?_push_of_some _ e
 rw [hw]
 refine wpAny_bind (wpAny_pure ?_)
 show wpAny (model X.prog X.w) X.A (do rule "assign.swapped-stores"; let items <- unpackItems (.ref s1.heap.objs.size) 2 none; assignInOrder [λv=>bindName X.env y v,λv=>bindName X.env x v] items.reverse; pure Flow.next) _ _ _
 refine wpAny_bind (wpAny_rule (wpAny_bind (unpackItems_tuple (items:=#[u1,u2]) (I.ok.hd hc) (IsTup.new s1.heap _) λh' hx'=>?_)))
 have I3:=I2.kept (h':=h') (t':=s1.toks) λb o e=>hx' b o (Nat.ne_of_lt (Heap.lt_size e)) e
 show wpAny _ _ (assignInOrder [λv=>bindName X.env y v,λv=>bindName X.env x v] [u2,u1] >>= λ_=>pure Flow.next) _ _ _
 refine wpAny_bind (assignInOrder_cons (wpAny_bindName (ZdE I3 hN hj (.inl hy) rw' (λs2 I4=>?_) (.inr hy))))
 refine assignInOrder_cons (wpAny_bindName (ZdE I4 hN hi (.inl hx) rv (λs3 I5=>assignInOrder_nil (wpAny_pure ?_)) (.inr hx)))
 rw [List.set_comm _ _ (Ne.symm hij)] at I5
 exact ⟨_,H1,I5,q1⟩
noncomputable def tAug (i:Nat) (te:TE) (ti:TIp):TS:=λD σ H=>∃ x,σ[i]?=some (some x)/\te σ H λy H1=>ti x y H1 λz H2=>D.nx (σ.set i (some z)) H2
theorem ZpK {i:Nat} {x:Str} {e:Expr} {te:TE} {op:Operator} {ti:TIp} {pos':Pos} (hN:X.N.Nodup) (hi:X.N[i]?=some x) (hx:Loc X.env.scope x) (he:PE X e te) (ho:PIp X op ti) (hf:X.fn x=true\/X.env.scope.names.lookup x=some .local:=by first | exact .inl rfl | exact .inr rfl | assumption) :
  PS X (.AugAssign (.Name x pos') op e pos) (tAug i te ti):=by
 intro pins s σ H D I h
 obtain ⟨v,e1,h⟩:=h
 obtain ⟨m,hn,hl⟩:=I.loc
 have vis:Vis X.env.scope x:=by rcases hx with k | k; exact .inl k; exact .inr (.inl k)
 obtain ⟨u,r,l⟩:=hl i x v hi e1 vis
 refine wpAny_AugAssign_Name ?_
 have go:wpAny (model X.prog X.w) X.A (eval e X.env) (λw s₂=>wpAny (model X.prog X.w) X.A (inplaceOp op u w) (λr s₃=>wpAny (model X.prog X.w) X.A (storeName X.env x r) (λ_=>SP X pins D .next) X.xe s₃) X.xe s₂) X.xe s:=by
  refine thn (he pins s σ H _ I h) λw s1 hz0=>?_
  obtain ⟨y,H1,I1,r1,q1⟩:=hz0
  refine thn (ho pins s1 σ H1 v y u w _ I1 r r1 q1) λz s2 hz0=>?_
  obtain ⟨zv,H2,I2,r2,q2⟩:=hz0
  exact ZdE I2 hN hi hx r2 (λs3 I3=>⟨_,H2,I3,q2⟩) hf
 rcases l with ⟨hk,hm⟩ | ⟨hk,c,hc,hcell⟩
 ·exact wpAny_loadName_local I.ok.kind hk hn hm go
 ·rcases hk with hk | hk
  ·exact wpAny_loadName_cell I.ok.kind hk hc hcell go
  ·rcases hx with k | k
   ·have:X.env.scope.names.lookup x=some .free:=hk
    rw [k] at this; cases this
   ·have:X.env.scope.names.lookup x=some .free:=hk
    rw [k] at this; cases this
noncomputable def Zpe (to ti te:TE) (tget:V->V->Hp->VK->Prop) (tip:TIp) (tset:ZqU):TS:=λD σ H=>to σ H λo H1=>ti σ H1 λi H2=>tget o i H2 λx H3=>te σ H3 λy H4=>tip x y H4 λz H5=>tset o i z H5 λH6=>D.nx σ H6
noncomputable def PGet (X:Cx) (t:V->V->Hp->VK->Prop):Prop :=
 ∀ (pins:List (Addr×Obj)) (s:Shared) (σ:St) (H:Hp) (o i:V) (ov iv:Value) (Q:VK),Inv X pins σ H s->RelV o ov->RelV i iv->t o i H Q ->
  wpAny (model X.prog X.w) X.A (getItem ov iv) (EP X pins σ Q) X.xe s
theorem ZjX {o i e:Expr} {to ti te:TE} {tget:V->V->Hp->VK->Prop} {tip:TIp} {tset:ZqU} {op:Operator} {tpos:Pos} (ho:PE X o to) (hi:PE X i ti) (hg:PGet X tget) (he:PE X e te) (hp:PIp X op tip) (hs:PSet X tset)
  (ha:∀ ov iv new,augStore i ov iv new=(do holding [new,ov,iv] (setItem ov iv new); release [new,ov,iv] []; pure .next):=by intros; rfl):PS X (.AugAssign (.Subscript o i tpos) op e pos) (Zpe to ti te tget tip tset):=by
 intro pins s σ H D I h
 refine wpAny_AugAssign_SubscriptAny (thn (ho pins s σ H _ I h) λov s1 hz0=>?_) ha
 obtain ⟨x1,H1,I1,r1,q1⟩:=hz0
 refine thn (hi pins s1 σ H1 _ I1 q1) λiv s2 hz0=>?_
 obtain ⟨x2,H2,I2,r2,q2⟩:=hz0
 refine thn (hg pins s2 σ H2 x1 x2 ov iv _ I2 r1 r2 q2) λold s3 hz0=>?_
 obtain ⟨x3,H3,I3,r3,q3⟩:=hz0
 refine thn (he pins s3 σ H3 _ I3 q3) λv s4 hz0=>?_
 obtain ⟨x4,H4,I4,r4,q4⟩:=hz0
 refine thn (hp pins s4 σ H4 x3 x4 old v _ I4 r3 r4 q4) λnew s5 hz0=>?_
 obtain ⟨x5,H5,I5,r5,q5⟩:=hz0
 exact thn (hs pins s5 σ H5 x1 x2 x5 ov iv new _ I5 r1 r2 r5 q5) λ_ s6 hz0=>by
  obtain ⟨H6,I6,q6⟩:=hz0
  exact ⟨σ,H6,I6,q6⟩
noncomputable def ipI (f:Int->Int->Int):TIp:=λx y H Q=>∃ i j,x=.int i/\y=.int j/\Q (.int (f i j)) H
theorem Zqn:PIp X .Add (ipI λi j=>i+j):=by
 intro pins s σ H x y v u Q I r1 r2 h
 obtain ⟨i,j,e1,e2,q⟩:=h
 subst e1; subst e2
 obtain ⟨t,rfl⟩:=r1
 obtain ⟨t',rfl⟩:=r2
 exact iadd_int ⟨.int _,H,I.tok _,⟨_,rfl⟩,q⟩
theorem Zqm:PIp X .Sub (ipI λi j=>i - j):=by
 intro pins s σ H x y v u Q I r1 r2 h
 obtain ⟨i,j,e1,e2,q⟩:=h
 subst e1; subst e2
 obtain ⟨t,rfl⟩:=r1
 obtain ⟨t',rfl⟩:=r2
 exact isub_int ⟨.int _,H,I.tok _,⟨_,rfl⟩,q⟩
end
section
variable {X:Cx} {pos:Pos}
noncomputable def Zpa (c:TT) (tb:TS):TS:=λD σ H=>∃ W:Nat->St->Hp->Prop,(∃ m,W m σ H)/\∀ m σ H,W m σ H ->
 c σ H λb H1=>if b=true then ∃ N:St->Hp->Prop,(∀ σ' H',N σ' H'->∃ m',m' < m/\W m' σ' H')/\tb { D with nx:=N,ct:=N,bk:=D.nx } σ H1 else D.nx σ H1
theorem ZlH {c:Expr} {body:List Stmt} {tc:TT} {tb:TS} (hp:PassesOwn (model X.prog X.w) X.A X.env X.xe) (hc:PT X c tc) (hb:PSs X body tb):PS X (.While c body [] pos) (Zpa tc tb):=by
 intro pins s σ H D I h
 obtain ⟨W,⟨m0,w0⟩,turn⟩:=h
 refine wpAny_While (codeAny_whileLoop (λn s'=>∃ σ' H',Inv X pins σ' H' s'/\W n σ' H') ?_ m0 ⟨σ,H,I,w0⟩)
 rintro n s1 ⟨σ1,H1,I1,w1⟩
 refine wpAny_passesOwn hp (thn (hc pins s1 σ1 H1 _ I1 (turn n σ1 H1 w1)) λb s2 hz0=>?_)
 obtain ⟨H2,I2,q2⟩:=hz0
 cases b with
 | true =>
  obtain ⟨N,hN,q2⟩:=q2
  rw [if_pos rfl]
  refine wpAny_passesOwn hp (thn (hb pins s2 σ1 H2 _ I2 q2) λf s3 q3=>?_)
  cases f with
  | next =>
   obtain ⟨σ3,H3,I3,n3⟩:=q3
   obtain ⟨m',hm,w3⟩:=hN σ3 H3 n3
   exact ⟨m',hm,σ3,H3,I3,w3⟩
  | cont =>
   obtain ⟨σ3,H3,I3,n3⟩:=q3
   obtain ⟨m',hm,w3⟩:=hN σ3 H3 n3
   exact ⟨m',hm,σ3,H3,I3,w3⟩
  | brk=>exact q3
  | ret v=>exact q3
 | false =>
  rw [if_neg Bool.false_ne_true]
  exact wpAny_execs_nil ⟨σ1,H2,I2,q2⟩
end
structure It where
 go:Nat->Hp->Prop
 yld:Nat->Hp->V->Hp->Prop
 stop:Nat->Hp->Prop
noncomputable def Zlh (X:Cx) (pins:List (Addr×Obj)) (H:Hp) (b:Addr):Prop :=
 H b=none/\b≠X.env.locals/\b ∉ X.fs/\(b∈X.ex\/X.s₀.heap.objs.size<=b)/\(∀ x c,X.env.cells.lookup x=some c->c≠b)/\∀ p∈X.pn++pins,p.1≠b
theorem Inv.fpOk {X:Cx} {pins:List (Addr×Obj)} {σ:St} {H H':Hp} {s:Shared} {b:Addr} (I:Inv X pins σ H s) (hb:s.heap.objs.size<=b) (hn:H' b=none):Zlh X pins H' b:=by
 refine ⟨hn,Nat.ne_of_gt (Nat.lt_of_lt_of_le I.lt hb),I.nofs hb,.inr (Nat.le_trans I.sz hb),λx c e z=>?_,λp hp z=>?_⟩
 ·obtain ⟨v,q⟩:=I.cell x c e
  exact absurd (Nat.lt_of_lt_of_le q.lt (by rw [z]; exact hb)) (Nat.lt_irrefl _)
 ·exact absurd (Nat.lt_of_lt_of_le (Heap.lt_size (I.pin p hp).1) (by rw [z]; exact hb)) (Nat.lt_irrefl _)
structure Turn (P:Program) (w:World) (K:PySem.W.Frag) (tg:Expr) (J:It) (fp:List Addr) (it:Addr) (tn:Nat->Heap->Prop):Prop where
 mem:it∈fp
 obj:∀ i h,tn i h->∀ b∈fp,∃ o,h.get? b=some o/\∀ v,o.data≠.cell v
 keep:∀ i h h',tn i h->(∀ b∈fp,∀ o,h.get? b=some o->h'.get? b=some o)->tn i h'
 item:∀ (X:Cx),X.prog=P->X.w=w->X.K=K->X.calm=true->∀ (i:Nat) (pins:List (Addr×Obj)) (s:Shared) (σ:St) (H:Hp) (E:Value->Shared->Prop),Inv X pins σ H s->(∀ b∈fp,Zlh X pins H b)->tn i s.heap->J.go i H ->
  wpAny (model P w) X.A (pyNext (.ref it)) (λr s1=>∃ u,r=some u /\
   wpAny (model P w) X.A (letOwnedTupleGo tg (.ref it) u) (λ_ s2=>∃ x H',Inv X pins σ H' s2/\RelV x u/\J.yld i H x H'/\tn (i+1) s2.heap/\∀ b∈fp,H' b=none) E s1) E s
 done:∀ (X:Cx),X.prog=P->X.w=w->X.K=K->X.calm=true->∀ (i:Nat) (pins:List (Addr×Obj)) (s:Shared) (σ:St) (H:Hp) (E:Value->Shared->Prop),Inv X pins σ H s->(∀ b∈fp,Zlh X pins H b)->tn i s.heap->J.stop i H ->
  wpAny (model P w) X.A (pyNext (.ref it)) (λr s1=>r=none/\Inv X pins σ H s1) E s
 self:∀ (A:Around) (i:Nat) (s:Shared) (Q:Value->Shared->Prop) (E:Value->Shared->Prop),tn i s.heap->Q (.ref it) s->wpAny (model P w) A (pyIter (.ref it)) Q E s
noncomputable abbrev TI:=St->Hp->(It->Hp->Prop)->Prop
noncomputable def PIE (X:Cx) (pins:List (Addr×Obj)) (σ:St) (tg:Expr) (R:It->Hp->Prop) (itv:Value) (s2:Shared):Prop :=
 ∃ (it:Addr) (fp:List Addr) (tn:Nat->Heap->Prop) (J:It) (H':Hp),itv=.ref it/\Inv X pins σ H' s2/\Turn X.prog X.w X.K tg J fp it tn/\tn 0 s2.heap/\(∀ b∈fp,Zlh X pins H' b)/\R J H'
noncomputable def PI (X:Cx) (tg iter:Expr) (wi:TI):Prop :=
 ∀ (pins:List (Addr×Obj)) (s:Shared) (σ:St) (H:Hp) (R:It->Hp->Prop),Inv X pins σ H s->wi σ H R ->
  wpAny (model X.prog X.w) X.A (eval iter X.env) (λv s1=>wpAny (model X.prog X.w) X.A (pyIter v) (PIE X pins σ tg R) X.xe s1) X.xe s

theorem Zkx {M:Model} {A:Around} {E:Value->Shared->Prop} {s:Shared} {tg:Expr} {it:Addr} {u:Value} {o:Obj} {n:String} {vs:Array Value} {Q:Unit->Shared->Prop} (ho:s.heap.get? it=some o) (hc:o.cls=.type n) (hd:o.data=.fields vs)
  (hn:["enumerate","zip","dict_itemiterator","dict_reverseitemiterator","odict_iterator","itertools.zip_longest","itertools.pairwise"].contains n=false) (hQ:Q () s):wpAny M A (letOwnedTupleGo tg (.ref it) u) Q E s:=by
 unfold letOwnedTupleGo
 cases tg <;> first
  | exact wpAny_pure hQ
  | (cases u <;> first
    | exact wpAny_pure hQ
    | (refine wpAny_bind (wpAny_load ho ?_)
       rw [hc,hd]
       show wpAny M A (if (["enumerate","zip","dict_itemiterator","dict_reverseitemiterator","odict_iterator","itertools.zip_longest","itertools.pairwise"].contains n && vs[0]? == some (rawInt _))=true then _ else _) Q E s
       rw [if_neg (by intro h; rw [hn,Bool.false_and] at h; cases h)]
       exact wpAny_pure hQ))

noncomputable def Itl (K:PySem.W.Frag) (a:Addr):It :=
 ⟨λi H=>∃ xs x,SqL K H a xs/\xs[i]?=some x,λi H x H'=>H'=H/\∀ xs,SqL K H a xs->xs[i]?=some x,λi H=>∃ xs,SqL K H a xs/\xs.length<=i⟩
noncomputable def Itt (K:PySem.W.Frag) (a:Addr):It :=
 ⟨λi H=>∃ xs x,SqT K H a xs/\xs[i]?=some x,λi H x H'=>H'=H/\∀ xs,SqT K H a xs->xs[i]?=some x,λi H=>∃ xs,SqT K H a xs/\xs.length<=i⟩
noncomputable def Itr (lo:Int) (n:Nat):It:=⟨λi _=>i < n,λi H x H'=>H'=H/\x=.int (lo+i),λi _=>n<=i⟩
theorem Zjx {P:Program} {w:World} {K:PySem.W.Frag} {tg:Expr} (a it:Addr):Turn P w K tg (Itl K a) [it] it (λi h=>h.IsListIter it a i) where
 mem:=by simp
 obj:=λi h st b hb=>by
  have e:b=it:=by simpa using hb
  subst e
  obtain ⟨o,e,c,d⟩:=st
  exact ⟨o,e,λv z=>by rw [d] at z; cases z⟩
 keep:=λi h h' st k=>st.at λo e=>k it (by simp) o e
 item:=by
  intro X hP hw hK hc i pins s σ H E I hf st hg
  subst hP hw hK
  obtain ⟨xs,x,hq,hx⟩:=hg
  obtain ⟨its,rv,p,hz⟩:=I.list hq
  obtain ⟨u,hu,ru⟩:=rv.get hx
  obtain ⟨f0,f1,f2,f3,f4,f5⟩:=hf it (by simp)
  refine wpAny_pyNext_list_item st p.isList (x:=u) (by simpa using hu) λh' st' sb=>?_
  have I1:Inv X pins σ H { s with heap:=h' }:=I.turned (t':=s.toks) (λb o hb e=>(sb.2 b hb).trans e) f0 f1 f3 f4 f5
  obtain ⟨o,e,c,d⟩:=id st'
  exact ⟨u,rfl,Zkx (s:={ s with heap:=h' }) e c d (by decide) ⟨x,H,I1,ru,⟨rfl,λys hy=>by rw [I.list_inj hy hq]; exact hx⟩,st',λb hb=>(hf b hb).1⟩⟩
 done:=by
  intro X hP hw hK hc i pins s σ H E I hf st hg
  subst hP hw hK
  obtain ⟨xs,hq,hx⟩:=hg
  obtain ⟨its,rv,p,hz⟩:=I.list hq
  obtain ⟨f0,f1,f2,f3,f4,f5⟩:=hf it (by simp)
  have hl:=rv.length
  exact wpAny_pyNext_list_end (I.ok.hd hc) st p.isList (by simp; omega) λh' eb=>⟨rfl,I.turned (t':=s.toks) (λb o hb e=>eb b o hb e) f0 f1 f3 f4 f5⟩
 self:=λ_ _ _ _ _ st h=>wpAny_pyIter_listiter st h
theorem ZiN {P:Program} {w:World} {K:PySem.W.Frag} {tg:Expr} (a it:Addr):Turn P w K tg (Itt K a) [it] it (λi h=>h.IsTupleIter it a i) where
 mem:=by simp
 obj:=λi h st b hb=>by
  have e:b=it:=by simpa using hb
  subst e
  obtain ⟨o,e,c,d⟩:=st
  exact ⟨o,e,λv z=>by rw [d] at z; cases z⟩
 keep:=λi h h' st k=>st.at λo e=>k it (by simp) o e
 item:=by
  intro X hP hw hK hc i pins s σ H E I hf st hg
  subst hP hw hK
  obtain ⟨xs,x,hq,hx⟩:=hg
  obtain ⟨its,rv,p,hz⟩:=I.tuple hq
  obtain ⟨u,hu,ru⟩:=rv.get hx
  obtain ⟨f0,f1,f2,f3,f4,f5⟩:=hf it (by simp)
  refine wpAny_pyNext_tuple_item st (show s.heap.IsTuple a its.toArray from p) (x:=u) (by simpa using hu) λh' st' sb=>?_
  have I1:Inv X pins σ H { s with heap:=h' }:=I.turned (t':=s.toks) (λb o hb e=>(sb.2 b hb).trans e) f0 f1 f3 f4 f5
  obtain ⟨o,e,c,d⟩:=id st'
  exact ⟨u,rfl,Zkx (s:={ s with heap:=h' }) e c d (by decide) ⟨x,H,I1,ru,⟨rfl,λys hy=>by rw [I.tuple_inj hy hq]; exact hx⟩,st',λb hb=>(hf b hb).1⟩⟩
 done:=by
  intro X hP hw hK hc i pins s σ H E I hf st hg
  subst hP hw hK
  obtain ⟨xs,hq,hx⟩:=hg
  obtain ⟨its,rv,p,hz⟩:=I.tuple hq
  obtain ⟨f0,f1,f2,f3,f4,f5⟩:=hf it (by simp)
  have hl:=rv.length
  exact wpAny_pyNext_tuple_end (I.ok.hd hc) st (show s.heap.IsTuple a its.toArray from p) (by simp; omega) λh' eb=>⟨rfl,I.turned (t':=s.toks) (λb o hb e=>eb b o hb e) f0 f1 f3 f4 f5⟩
 self:=λ_ _ _ _ _ st h=>wpAny_pyIter_tupleiter st h
theorem ZiO {P:Program} {w:World} {K:PySem.W.Frag} {tg:Expr} (it:Addr) (lo:Int) (n:Nat):Turn P w K tg (Itr lo n) [it] it (λi h=>IsRangeIter h it (lo+(i:Nat) * 1) ((n:Int) - (i:Nat)) 1) where
 mem:=by simp
 obj:=λi h st b hb=>by
  have e:b=it:=by simpa using hb
  subst e
  exact ⟨_,st,λv z=>by
   have z':Data.fields _=Data.cell v:=z
   cases z'⟩
 keep:=λi h h' st k=>k it (by simp) _ st
 item:=by
  intro X hP hw hK hc i pins s σ H E I hf st hg
  subst hP hw hK
  obtain ⟨f0,f1,f2,f3,f4,f5⟩:=hf it (by simp)
  have W:=Walks.range (prog:=X.prog) (w:=X.w) (I.ok.hd hc) it lo 1 n
  refine W.item i s _ _ hg st λv h' tk hv st' kk=>?_
  obtain ⟨t,rfl⟩:=hv
  have I1:Inv X pins σ H { s with heap:=h',toks:=tk }:=I.turned (λb o hb e=>kk b o (by simpa using hb) e) f0 f1 f3 f4 f5
  refine ⟨_,rfl,Zkx (s:={ s with heap:=h',toks:=tk }) (n:="range_iterator") st' rfl rfl (by decide) ⟨.int (lo+i),H,I1,⟨t,?_⟩,⟨rfl,rfl⟩,st',λb hb=>(hf b hb).1⟩⟩
  rw [Int.mul_one]
 done:=by
  intro X hP hw hK hc i pins s σ H E I hf st hg
  subst hP hw hK
  obtain ⟨f0,f1,f2,f3,f4,f5⟩:=hf it (by simp)
  exact wpAny_pyNext_range_end (I.ok.hd hc) st (by have:n<=i:=hg; omega) λh' eb=>⟨rfl,I.turned (t':=s.toks) (λb o hb e=>eb b o hb e) f0 f1 f3 f4 f5⟩
 self:=λ_ _ _ _ _ st h=>wpAny_pyIter_rangeiter st h
end L2
namespace L2
open PySem PySem.Spec PyProof.Rows
section
variable {X:Cx} {tg:Expr}
theorem Zig {pins:List (Addr×Obj)} {σ:St} {H:Hp} {s:Shared} {R:It->Hp->Prop} {E:Value->Shared->Prop} {lo hi:Int} {t u v:Tok} {tk:Nat} (I:Inv X pins σ H s) (h1:-(2 ^ 62)<=lo) (h2:lo < 2 ^ 62) (h3:-(2 ^ 62)<=hi) (h4:hi < 2 ^ 62)
  (q:R (Itr lo (hi - lo).toNat) H):wpAny (model X.prog X.w) X.A (pyIter (.ref s.heap.objs.size)) (PIE X pins σ tg R) E { s with heap:=s.heap.push { cls:=.type "range",data:=.fields #[.int lo t,.int hi u,.int 1 v] },toks:=tk }:=by
 refine wpAny_pyIter_range (IsRange.new ..) (small_one h1 h2 h3 h4) ?_
 have I1:Inv X pins σ H { s with heap:=s.heap.push { cls:=.type "range",data:=.fields #[.int lo t,.int hi u,.int 1 v] },toks:=tk }:=I.kept λb o e=>Heap.get?_push_of_some _ e
 refine ⟨(s.heap.push { cls:=.type "range",data:=.fields #[.int lo t,.int hi u,.int 1 v] }).objs.size,[(s.heap.push { cls:=.type "range",data:=.fields #[.int lo t,.int hi u,.int 1 v] }).objs.size],_,_,H,rfl,
  I1.kept (t':=tk) λb o e=>Heap.get?_push_of_some _ e,ZiO _ lo (hi - lo).toNat,?_,λb hb=>?_,q⟩
 ·have e1:lo+((0:Nat):Int) * 1=lo:=by simp
  have e2:(((hi - lo).toNat:Nat):Int) - ((0:Nat):Int)=Builtin.Range.rangeSize lo hi 1:=by rw [rangeSize_one]; split <;> omega
  show IsRangeIter _ _ (lo+((0:Nat):Int) * 1) ((((hi - lo).toNat:Nat):Int) - ((0:Nat):Int)) 1
  rw [e1,e2]
  exact Heap.get?_push_size _ rfl
 ·have e:b=(s.heap.push { cls:=.type "range",data:=.fields #[.int lo t,.int hi u,.int 1 v] }).objs.size:=by simpa using hb
  subst e
  exact I1.fpOk (Nat.le_refl _) (I1.hok.fresh (Nat.le_refl _))
noncomputable def Zqq (ta:TA):TI:=λσ H R=>ta σ H λvs H1=>∃ j:Int,vs=[.int j]/\-(2 ^ 62)<=j/\j < 2 ^ 62/\R (Itr 0 j.toNat) H1
noncomputable def Zqp (ta:TA):TI:=λσ H R=>ta σ H λvs H1=>∃ i j:Int,vs=[.int i,.int j]/\(-(2 ^ 62)<=i/\i < 2 ^ 62/\-(2 ^ 62)<=j/\j < 2 ^ 62)/\R (Itr i (j - i).toNat) H1
theorem Zb6 {a:Expr} {ta:TA} {p pos:Pos} (hg:Gl X "range") (hm:X.mg "range"=none) (ha:PA X [a] ta) (hs:starEach [a] X.env=[(false,eval a X.env)]:=by rfl):PI X tg (.Call (.Name "range" p) [a] [] pos) (Zqq ta):=by
 intro pins s σ H R I h
 refine Call_ (Zef I hg hm boot_range (PyProof.Rows.callWith_type1 (thn (ha pos pins s σ H _ I h) λus s1 hz0=>?_) hs rfl))
 obtain ⟨vs,H1,I1,r1,q1⟩:=hz0
 obtain ⟨j,e,q1,q2,q⟩:=q1
 subst e
 cases r1 with
 | cons r rr =>
  cases rr
  obtain ⟨t,rfl⟩:=r
  exact call_range_1 (Zig I1 (by omega) (by omega) q1 q2 (by simpa using q))
theorem Zj1 {a b:Expr} {ta:TA} {p pos:Pos} (hg:Gl X "range") (hm:X.mg "range"=none) (ha:PA X [a,b] ta) (hs:starEach [a,b] X.env=[(false,eval a X.env),(false,eval b X.env)]:=by rfl) (hs2:starEach [b] X.env=[(false,eval b X.env)]:=by rfl) :
  PI X tg (.Call (.Name "range" p) [a,b] [] pos) (Zqp ta):=by
 intro pins s σ H R I h
 refine Call_ (Zef I hg hm boot_range (PyProof.Rows.callWith_type1 (thn (ha pos pins s σ H _ I h) λus s1 hz0=>?_) (by rw [hs,hs2]) (by rw [hs2]; rfl)))
 obtain ⟨vs,H1,I1,r1,q1⟩:=hz0
 obtain ⟨i,j,e,⟨q1,q2,q3,q4⟩,q⟩:=q1
 subst e
 cases r1 with
 | cons r rr =>
  cases rr with
  | cons r' rr =>
   cases rr
   obtain ⟨t,rfl⟩:=r
   obtain ⟨t',rfl⟩:=r'
   exact call_range_2 (Zig I1 q1 q2 q3 q4 q)

noncomputable def tFor (wi:TI) (g:TG) (tb:TS):TS:=λD σ H=>wi σ H λJ H1=>∃ W:Nat->Nat->St->Hp->Prop,(∃ m,W 0 m σ H1)/\∀ i m σ H,W i m σ H ->
 (J.stop i H/\D.nx σ H)\/(J.go i H/\∃ N:St->Hp->Prop,(∀ σ' H',N σ' H'->∃ m',m' < m/\W (i+1) m' σ' H')/\∀ x H',J.yld i H x H'->g x σ H' λσ2 H2=>tb { D with nx:=N,ct:=N,bk:=D.nx } σ2 H2)
noncomputable def Zij (fp:List Addr) (h:Heap):List (Addr×Obj):=fp.filterMap λb=>(h.get? b).map λo=>(b,o)
theorem Zbz {fp:List Addr} {h:Heap} {b:Addr} {o:Obj} (hb:b∈fp) (e:h.get? b=some o):(b,o)∈Zij fp h:=List.mem_filterMap.mpr ⟨b,hb,by rw [e]; rfl⟩
theorem Zka {fp:List Addr} {h:Heap} {p:Addr×Obj} (hp:p∈Zij fp h):p.1∈fp/\h.get? p.1=some p.2:=by
 obtain ⟨b,hb,e⟩:=List.mem_filterMap.mp hp
 cases q:h.get? b with
 | none=>rw [q] at e; cases e
 | some o =>
  rw [q] at e
  have e':(b,o)=p:=Option.some.inj e
  subst e'
  exact ⟨hb,q⟩
theorem Inv.pinned {pins:List (Addr×Obj)} {σ:St} {H:Hp} {s:Shared} {fp:List Addr} (I:Inv X pins σ H s) (hf:∀ b∈fp,Zlh X pins H b) (ho:∀ b∈fp,∃ o,s.heap.get? b=some o/\∀ v,o.data≠.cell v):Inv X (pins++Zij fp s.heap) σ H s :=
 I.pins_of λp hp=>(List.mem_append.mp hp).elim (λz=>I.pin p (List.mem_append_right _ z)) λz=>by
  obtain ⟨hb,e⟩:=Zka z
  obtain ⟨f0,f1,f2,_⟩:=hf p.1 hb
  obtain ⟨o,e',d⟩:=ho p.1 hb
  rw [e] at e'; cases e'
  exact ⟨e,f0,f1,f2,d⟩
theorem Inv.unpinned {pins pl:List (Addr×Obj)} {σ:St} {H:Hp} {s:Shared} (I:Inv X (pins++pl) σ H s):Inv X pins σ H s:=I.pins_of λp hp=>I.pin p (List.mem_append_right _ (List.mem_append_left _ hp))
theorem ZpJ {iter:Expr} {body:List Stmt} {wi:TI} {g:TG} {tb:TS} {pos:Pos} (hp:PassesOwn (model X.prog X.w) X.A X.env X.xe) (hc:X.calm=true) (hi:PI X tg iter wi) (hg:PG X tg g) (hb:PSs X body tb)
  (hs:∀ x,foldedSetIterable iter X.env x=pure x:=by intro _; rfl):PS X (.For tg iter body [] pos) (tFor wi g tb):=by
 intro pins s σ H D I h
 refine wpAny_For (thn (hi pins s σ H _ I h) λv s1 h1=>thn h1 λitv s2 h2=>?_) hs
 obtain ⟨it,fp,tn,J,H2,e,I2,T,st2,f2,W,⟨m0,w0⟩,turn⟩:=h2
 subst e
 -- what stays true of the iterator's objects through the loop
 have stat:∀ {H':Hp},(∀ b∈fp,H' b=none)->∀ b∈fp,Zlh X pins H' b:=λhn b hb=>⟨hn b hb,(f2 b hb).2⟩
 refine codeAny_forLoop_any (λn s'=>∃ i σ' H',Inv X pins σ' H' s'/\tn i s'.heap/\(∀ b∈fp,H' b=none)/\W i n σ' H') ?_ m0 ⟨0,σ,H2,I2,st2,λb hb=>(f2 b hb).1,w0⟩
 rintro n s3 ⟨i,σ3,H3,I3,st3,fr3,w3⟩
 rcases turn i n σ3 H3 w3 with ⟨stop,qn⟩ | ⟨go,N,hN,step⟩
 ·refine wpAny_passesOwn hp (thn (T.done X rfl rfl rfl hc i pins s3 σ3 H3 X.xe I3 (stat fr3) st3 stop) λr s4 hz0=>?_)
  obtain ⟨hr,I4⟩:=hz0
  subst hr
  exact wpAny_execs_nil ⟨σ3,H3,I4,qn⟩
 ·refine wpAny_passesOwn hp (thn (T.item X rfl rfl rfl hc i pins s3 σ3 H3 X.xe I3 (stat fr3) st3 go) λr s4 hz0=>?_)
  obtain ⟨u,hr,h4⟩:=hz0
  subst hr
  refine wpAny_passesOwn hp (thn h4 λ_ s5 hz0=>?_)
  obtain ⟨x,H5,I5,r5,y5,st5,fr5⟩:=hz0
  have I5':=I5.pinned (stat fr5) (T.obj _ _ st5)
  refine wpAny_passesOwn hp (thn (hg _ s5 σ3 H5 x u _ I5' r5 (step x H5 y5)) λ_ s6 hz0=>?_)
  obtain ⟨σ6,H6,I6,q6⟩:=hz0
  refine wpAny_passesOwn hp (thn (hb _ s6 σ6 H6 _ I6 q6) λf s7 q7=>?_)
  have again:∀ {σ7:St} {H7:Hp},Inv X (pins++Zij fp s5.heap) σ7 H7 s7->N σ7 H7->∃ m,m < n/\∃ i σ' H',Inv X pins σ' H' s7/\tn i s7.heap/\(∀ b∈fp,H' b=none)/\W i m σ' H':=λ{σ7 H7} I7 n7=>by
   obtain ⟨m',hm,w7⟩:=hN σ7 H7 n7
   refine ⟨m',hm,i+1,σ7,H7,I7.unpinned,T.keep _ _ _ st5 λb hb o e=>(I7.pin (b,o) (List.mem_append_right _ (List.mem_append_right _ (Zbz hb e)))).1,λb hb=>?_,w7⟩
   obtain ⟨o,e,d⟩:=T.obj _ _ st5 b hb
   exact (I7.pin (b,o) (List.mem_append_right _ (List.mem_append_right _ (Zbz hb e)))).2.1
  cases f with
  | next=>obtain ⟨σ7,H7,I7,n7⟩:=q7; exact again I7 n7
  | cont=>obtain ⟨σ7,H7,I7,n7⟩:=q7; exact again I7 n7
  | brk=>obtain ⟨σ7,H7,I7,q7⟩:=q7; exact ⟨σ7,H7,I7.unpinned,q7⟩
  | ret v=>obtain ⟨x7,σ7,H7,I7,r7,q7⟩:=q7; exact ⟨x7,σ7,H7,I7.unpinned,r7,q7⟩
end
end L2
namespace L2
open PySem PySem.Spec PyProof.Rows
noncomputable abbrev R2:=V->V->Hp->VK->Prop
noncomputable def OpR (X:Cx) (f:Value->Value->Sem Value) (r:R2):Prop :=
 ∀ (pins:List (Addr×Obj)) (s:Shared) (σ:St) (H:Hp) (x y:V) (v u:Value) (Q:VK),Inv X pins σ H s->RelV x v->RelV y u->r x y H Q ->
  wpAny (model X.prog X.w) X.A (f v u) (EP X pins σ Q) X.xe s
noncomputable def UnR (X:Cx) (f:Value->Sem Value) (r:V->Hp->VK->Prop):Prop :=
 ∀ (pins:List (Addr×Obj)) (s:Shared) (σ:St) (H:Hp) (x:V) (v:Value) (Q:VK),Inv X pins σ H s->RelV x v->r x H Q ->
  wpAny (model X.prog X.w) X.A (f v) (EP X pins σ Q) X.xe s
noncomputable def Zdk (X:Cx) (f:Value) (r:List V->Hp->VK->Prop):Prop :=
 ∀ (pins:List (Addr×Obj)) (s:Shared) (σ:St) (H:Hp) (xs:List V) (us:List Value) (Q:VK),Inv X pins σ H s->Vals xs us->r xs H Q ->
  wpAny (model X.prog X.w) X.A (call f us) (EP X pins σ Q) X.xe s
noncomputable def TruR (X:Cx) (r:V->Hp->(Bool->Hp->Prop)->Prop):Prop :=
 ∀ (pins:List (Addr×Obj)) (s:Shared) (σ:St) (H:Hp) (x:V) (v:Value) (Q:Bool->Hp->Prop),Inv X pins σ H s->RelV x v->r x H Q ->
  wpAny (model X.prog X.w) X.A (truthy v) (TP X pins σ Q) X.xe s

noncomputable def tOp (r:R2) (ta tb:TE):TE:=λσ H Q=>ta σ H λx H1=>tb σ H1 λy H2=>r x y H2 Q
noncomputable def tUn (r:V->Hp->VK->Prop) (ta:TE):TE:=λσ H Q=>ta σ H λx H1=>r x H1 Q
noncomputable def rI (C:Int->Int->Prop) (g:Int->Int->V):R2:=λx y H Q=>∃ i j,x=.int i/\y=.int j/\C i j/\Q (g i j) H
noncomputable def rI0 (g:Int->Int->V):R2:=λx y H Q=>∃ i j,x=.int i/\y=.int j/\Q (g i j) H
noncomputable def rU (g:Int->V):V->Hp->VK->Prop:=λx H Q=>∃ i,x=.int i/\Q (g i) H

section
variable {X:Cx} {a b c:Expr} {ta tb tc:TE} {pos:Pos}
theorem binT (ha:PE X a ta) (hb:PE X b tb) {pins:List (Addr×Obj)} {s:Shared} {σ:St} {H:Hp} {R:V->V->Hp->Prop} (I:Inv X pins σ H s)
  (h:ta σ H λx H1=>tb σ H1 λy H2=>R x y H2) {Q:Value->Shared->Prop} {f:Value->Value->Sem Value}
  (hf:∀ v u s2 x y H2,Inv X pins σ H2 s2->RelV x v->RelV y u->R x y H2->wpAny (model X.prog X.w) X.A (f v u) Q X.xe s2) :
  wpAny (model X.prog X.w) X.A (eval a X.env) (λv s₁=>wpAny (model X.prog X.w) X.A (eval b X.env) (λu s₂=>wpAny (model X.prog X.w) X.A (f v u) Q X.xe s₂) X.xe s₁) X.xe s:=by
 refine thn (ha pins s σ H _ I h) λv s1 hz0=>?_
 obtain ⟨x,H1,I1,r1,q1⟩:=hz0
 refine thn (hb pins s1 σ H1 _ I1 q1) λu s2 hz0=>?_
 obtain ⟨y,H2,I2,r2,q2⟩:=hz0
 exact hf v u s2 x y H2 I2 r1 r2 q2

theorem ZbJ {op:Operator} {r:R2} (ho:OpR X (binaryOp op) r) (ha:PE X a ta) (hb:PE X b tb):PE X (.BinOp a op b pos) (tOp r ta tb):=by
 intro pins s σ H Q I h
 exact wpAny_BinOp (binT ha hb I h λv u s2 x y H2 I2 rx ry q=>ho pins s2 σ H2 x y v u Q I2 rx ry q)
theorem pe_un {op:UnaryOp} {r:V->Hp->VK->Prop} (ho:UnR X (unaryOp op) r) (ha:PE X a ta):PE X (.UnaryOp op a pos) (tUn r ta):=by
 intro pins s σ H Q I h
 exact UnaryOp_ (thn (ha pins s σ H _ I h) λv s1 ⟨x,H1,I1,r1,q1⟩=>ho pins s1 σ H1 x v Q I1 r1 q1)
theorem opI {f:Value->Value->Sem Value} {C:Int->Int->Prop} {g:Int->Int->Int}
  (rule:∀ (i j:Int) (t u:Tok) (s:Shared) (Q:Value->Shared->Prop) (E:Value->Shared->Prop),C i j->Q (.int (g i j) s.toks) { s with toks:=s.toks+1 }->wpAny (model X.prog X.w) X.A (f (.int i t) (.int j u)) Q E s) :
  OpR X f (rI C λi j=>.int (g i j)):=by
 intro pins s σ H x y v u Q I rx ry h
 obtain ⟨i,j,rfl,rfl,hc,q⟩:=h
 obtain ⟨t,rfl⟩:=rx
 obtain ⟨t',rfl⟩:=ry
 exact rule i j t t' s _ _ hc ⟨.int (g i j),H,I.tok _,⟨_,rfl⟩,q⟩
theorem opI0 {f:Value->Value->Sem Value} {g:Int->Int->Int}
  (rule:∀ (i j:Int) (t u:Tok) (s:Shared) (Q:Value->Shared->Prop) (E:Value->Shared->Prop),Q (.int (g i j) s.toks) { s with toks:=s.toks+1 }->wpAny (model X.prog X.w) X.A (f (.int i t) (.int j u)) Q E s) :
  OpR X f (rI0 λi j=>.int (g i j)):=by
 intro pins s σ H x y v u Q I rx ry h
 obtain ⟨i,j,rfl,rfl,q⟩:=h
 obtain ⟨t,rfl⟩:=rx
 obtain ⟨t',rfl⟩:=ry
 exact rule i j t t' s _ _ ⟨.int (g i j),H,I.tok _,⟨_,rfl⟩,q⟩
theorem opB0 {f:Value->Value->Sem Value} {g:Int->Int->Bool}
  (rule:∀ (i j:Int) (t u:Tok) (s:Shared) (Q:Value->Shared->Prop) (E:Value->Shared->Prop),Q (.bool (g i j)) s->wpAny (model X.prog X.w) X.A (f (.int i t) (.int j u)) Q E s) :
  OpR X f (rI0 λi j=>.bl (g i j)):=by
 intro pins s σ H x y v u Q I rx ry h
 obtain ⟨i,j,rfl,rfl,q⟩:=h
 obtain ⟨t,rfl⟩:=rx
 obtain ⟨t',rfl⟩:=ry
 exact rule i j t t' s _ _ ⟨.bl (g i j),H,I,rfl,q⟩

noncomputable def CDiv (i j:Int):Prop:=0 < j/\j < 1073741824
noncomputable def CPow (i j:Int):Prop:=0<=j/\j<=1000000/\i.natAbs < 2 ^ 64
noncomputable def CMul (i j:Int):Prop:=(-(2 ^ 64) < i/\i < 2 ^ 64)\/(-(2 ^ 64) < j/\j < 2 ^ 64)
theorem CMul.ok {i j:Int} (h:CMul i j):IntMulOk i j:=by
 rcases h with ⟨h1,h2⟩ | ⟨h1,h2⟩
 ·exact .of_left (intBits_le_64 h1 h2)
 ·exact .of_right (intBits_le_64 h1 h2)
theorem op_add:OpR X (binaryOp .Add) (rI0 λi j=>.int (i+j)):=opI0 λ_ _ _ _ _ _ _ q=>add_int q
theorem Zbj:OpR X (binaryOp .Sub) (rI0 λi j=>.int (i - j)):=opI0 λ_ _ _ _ _ _ _ q=>sub_int q
theorem Zin:OpR X (binaryOp .Mult) (rI CMul λi j=>.int (i * j)):=opI λ_ _ _ _ _ _ _ hc q=>mul_int q hc.ok
theorem ZhC:OpR X (binaryOp .FloorDiv) (rI CDiv λi j=>.int (i / j)):=opI λi j _ _ _ _ _ hc q=>by
 have h1:(0:Int) < j:=hc.1
 have h2:j < 1073741824:=hc.2
 exact floordiv_int (by omega) (by rw [Int.fdiv_eq_ediv_of_nonneg i (by omega)]; exact q) (.inl (PyProof.noPylong_small (by omega)))
theorem Zdn:OpR X (binaryOp .Mod) (rI (λ_ j=>0 < j) λi j=>.int (i % j)):=opI λi j _ _ _ _ _ hc q=>by
 have h1:(0:Int) < j:=hc
 exact mod_int' (by omega) (by rw [Int.fmod_eq_emod_of_nonneg i (by omega)]; exact q)
theorem ZhB:OpR X (binaryOp .Mod) (rI (λ_ j=>j≠0) λi j=>.int (i.fmod j)):=opI λ_ _ _ _ _ _ _ hc q=>mod_int' hc q
theorem Zim:OpR X (binaryOp .Pow) (rI CPow λi j=>.int (i ^ j.toNat)):=opI λ_ _ _ _ _ _ _ hc q=>pow_int_small hc.1 hc.2.1 hc.2.2 q
theorem Zoa:OpR X (inplaceOp .Add) (rI0 λi j=>.int (i+j)):=opI0 λ_ _ _ _ _ _ _ q=>iadd_int q
theorem unI {f:Value->Sem Value} {g:Int->Int}
  (rule:∀ (i:Int) (t:Tok) (s:Shared) (Q:Value->Shared->Prop) (E:Value->Shared->Prop),Q (.int (g i) s.toks) { s with toks:=s.toks+1 }->wpAny (model X.prog X.w) X.A (f (.int i t)) Q E s) :
  UnR X f (rU λi=>.int (g i)):=by
 intro pins s σ H x v Q I rx h
 obtain ⟨i,rfl,q⟩:=h
 obtain ⟨t,rfl⟩:=rx
 exact rule i t s _ _ ⟨.int (g i),H,I.tok _,⟨_,rfl⟩,q⟩
theorem Zo5:UnR X (unaryOp .USub) (rU λi=>.int (-i)):=unI λ_ _ _ _ _ q=>neg_int q
end
noncomputable def scal:V->V->Bool
 | .non,.non=>true | .non,.int _=>true | .int _,.non=>true | .non,.bl _=>true | .bl _,.non=>true | .non,.str _=>true | .str _,.non=>true
 | .int _,.int _=>true | .bl _,.bl _=>true | .str _,.str _=>true | .byt _,.byt _=>true
 | .int _,.str _=>true | .str _,.int _=>true | .bl _,.str _=>true | .str _,.bl _=>true
 | _,_=>false
noncomputable def rEq:R2:=λx y H Q=>scal x y=true/\Q (.bl (decide (x=y))) H
noncomputable def rNe:R2:=λx y H Q=>scal x y=true/\Q (.bl (!decide (x=y))) H

theorem ZkN {i j:Int}:decide (V.int i=V.int j)=(i == j):=by
 rw [Bool.eq_iff_iff]
 simp
theorem Zm7 {i j:Bool}:decide (V.bl i=V.bl j)=(i == j):=by
 rw [Bool.eq_iff_iff]
 simp
theorem Zgh {i j:Str}:decide (V.str i=V.str j)=(i == j):=by
 rw [Bool.eq_iff_iff]
 simp
theorem ZkO {i j:Array UInt8}:decide (V.byt i=V.byt j)=(i.toList == j.toList):=by
 rw [Bool.eq_iff_iff]
 cases i
 cases j
 simp

section
variable {X:Cx} {a b c:Expr} {ta tb tc:TE} {pos:Pos}
theorem ZaW {pins:List (Addr×Obj)} {σ:St} {H:Hp} {s:Shared} {Q:VK} {k k':Bool} (I:Inv X pins σ H s) (q:Q (.bl k) H) (e:k=k'):EP X pins σ Q (.bool k') s:=by
 subst e
 exact ⟨.bl k,H,I,rfl,q⟩
theorem op_eq:OpR X (compareOp .Eq) rEq:=by
 intro pins s σ H x y v u Q I rx ry h
 obtain ⟨hs,q⟩:=h
 cases x with
 | non =>
  cases rx
  cases y with
  | non=>cases ry; exact PySem.EqNone.eq_none_none (ZaW I q (by simp))
  | bl j=>cases ry; exact PySem.EqNone.eq_none_bool (ZaW I q (by simp))
  | int j=>obtain ⟨t',rfl⟩:=ry; exact PySem.EqNone.eq_none_int (ZaW I q (by simp))
  | str j=>obtain ⟨t',rfl⟩:=ry; exact PySem.EqNone.eq_none_str (ZaW I q (by simp))
  | _=>exact absurd (show false=true from hs) Bool.false_ne_true
 | bl i =>
  cases rx
  cases y with
  | non=>cases ry; exact PySem.EqNone.eq_bool_none (ZaW I q (by simp))
  | bl j=>cases ry; exact eq_bool (ZaW I q Zm7)
  | str j=>obtain ⟨t',rfl⟩:=ry; exact PySem.EqMixed.eq_bool_str (ZaW I q (by simp))
  | _=>exact absurd (show false=true from hs) Bool.false_ne_true
 | int i =>
  obtain ⟨t,rfl⟩:=rx
  cases y with
  | non=>cases ry; exact PySem.EqNone.eq_int_none (ZaW I q (by simp))
  | int j=>obtain ⟨t',rfl⟩:=ry; exact eq_int (ZaW I q ZkN)
  | str j=>obtain ⟨t',rfl⟩:=ry; exact PySem.EqMixed.eq_int_str (ZaW I q (by simp))
  | _=>exact absurd (show false=true from hs) Bool.false_ne_true
 | str i =>
  obtain ⟨t,rfl⟩:=rx
  cases y with
  | non=>cases ry; exact PySem.EqNone.eq_str_none (ZaW I q (by simp))
  | bl j=>cases ry; exact PySem.EqMixed.eq_str_bool (ZaW I q (by simp))
  | int j=>obtain ⟨t',rfl⟩:=ry; exact PySem.EqMixed.eq_str_int (ZaW I q (by simp))
  | str j=>obtain ⟨t',rfl⟩:=ry; exact eq_str (ZaW I q Zgh)
  | _=>exact absurd (show false=true from hs) Bool.false_ne_true
 | byt i =>
  obtain ⟨t,rfl⟩:=rx
  cases y with
  | byt j=>obtain ⟨t',rfl⟩:=ry; exact PySem.W.eq_bytes (ZaW I q ZkO)
  | _=>exact absurd (show false=true from hs) Bool.false_ne_true
 | _=>cases y <;> exact absurd (show false=true from hs) Bool.false_ne_true
theorem op_ne:OpR X (compareOp .NotEq) rNe:=by
 intro pins s σ H x y v u Q I rx ry h
 obtain ⟨hs,q⟩:=h
 cases x with
 | non =>
  cases rx
  cases y with
  | non=>cases ry; exact PySem.EqNone.ne_none_none (ZaW I q (by simp))
  | bl j=>cases ry; exact PySem.EqNone.ne_none_bool (ZaW I q (by simp))
  | int j=>obtain ⟨t',rfl⟩:=ry; exact PySem.EqNone.ne_none_int (ZaW I q (by simp))
  | str j=>obtain ⟨t',rfl⟩:=ry; exact PySem.EqNone.ne_none_str (ZaW I q (by simp))
  | _=>exact absurd (show false=true from hs) Bool.false_ne_true
 | bl i =>
  cases rx
  cases y with
  | non=>cases ry; exact PySem.EqNone.ne_bool_none (ZaW I q (by simp))
  | bl j=>cases ry; exact ne_bool (ZaW I q (congrArg not Zm7))
  | str j=>obtain ⟨t',rfl⟩:=ry; exact PySem.EqMixed.ne_bool_str (ZaW I q (by simp))
  | _=>exact absurd (show false=true from hs) Bool.false_ne_true
 | int i =>
  obtain ⟨t,rfl⟩:=rx
  cases y with
  | non=>cases ry; exact PySem.EqNone.ne_int_none (ZaW I q (by simp))
  | int j=>obtain ⟨t',rfl⟩:=ry; exact ne_int (ZaW I q (congrArg not ZkN))
  | str j=>obtain ⟨t',rfl⟩:=ry; exact PySem.EqMixed.ne_int_str (ZaW I q (by simp))
  | _=>exact absurd (show false=true from hs) Bool.false_ne_true
 | str i =>
  obtain ⟨t,rfl⟩:=rx
  cases y with
  | non=>cases ry; exact PySem.EqNone.ne_str_none (ZaW I q (by simp))
  | bl j=>cases ry; exact PySem.EqMixed.ne_str_bool (ZaW I q (by simp))
  | int j=>obtain ⟨t',rfl⟩:=ry; exact PySem.EqMixed.ne_str_int (ZaW I q (by simp))
  | str j=>obtain ⟨t',rfl⟩:=ry; exact ne_str (ZaW I q (congrArg not Zgh))
  | _=>exact absurd (show false=true from hs) Bool.false_ne_true
 | byt i =>
  obtain ⟨t,rfl⟩:=rx
  cases y with
  | byt j=>obtain ⟨t',rfl⟩:=ry; exact PySem.W.ne_bytes (ZaW I q (congrArg not ZkO))
  | _=>exact absurd (show false=true from hs) Bool.false_ne_true
 | _=>cases y <;> exact absurd (show false=true from hs) Bool.false_ne_true

theorem ZlO:OpR X (compareOp .Lt) (rI0 λi j=>.bl (decide (i < j))):=opB0 λ_ _ _ _ _ _ _ q=>lt_int q
theorem ZnM:OpR X (compareOp .LtE) (rI0 λi j=>.bl (decide (i<=j))):=opB0 λ_ _ _ _ _ _ _ q=>le_int q
theorem ZeM:OpR X (compareOp .Gt) (rI0 λi j=>.bl (decide (j < i))):=opB0 λ_ _ _ _ _ _ _ q=>gt_int q
theorem op_ge:OpR X (compareOp .GtE) (rI0 λi j=>.bl (decide (j<=i))):=opB0 λ_ _ _ _ _ _ _ q=>ge_int q
theorem OpR.or {f:Value->Value->Sem Value} {r r':R2} (h:OpR X f r) (h':OpR X f r'):OpR X f (λx y H Q=>r x y H Q\/r' x y H Q):=by
 intro pins s σ H x y v u Q I rx ry q
 rcases q with q | q
 ·exact h pins s σ H x y v u Q I rx ry q
 ·exact h' pins s σ H x y v u Q I rx ry q

theorem nomark (b:Expr) {op:CmpOp} (h:op≠.In:=by decide) (h2:op≠.NotIn:=by decide):behindInMarks op b=false:=by
 have e1:(op == CmpOp.In)=false:=by cases op <;> first | rfl | exact absurd rfl h
 have e2:(op == CmpOp.NotIn)=false:=by cases op <;> first | rfl | exact absurd rfl h2
 cases b <;> first | rfl | (show (_ && (op == CmpOp.In || op == CmpOp.NotIn) && _)=false; rw [e1,e2,Bool.or_false,Bool.and_false,Bool.false_and])
theorem ZnJ {op:CmpOp} {r:R2} (ho:OpR X (compareOp op) r) (ha:PE X a ta) (hb:PE X b tb) (hm:behindInMarks op b=false):PE X (.Compare a [op] [b] pos) (tOp r ta tb):=by
 intro pins s σ H Q I h
 exact wpAny_Compare1 (binT ha hb I h λv u s2 x y H2 I2 rx ry q=>ho pins s2 σ H2 x y v u Q I2 rx ry q) hm
noncomputable def ZjA (t:TE):TT:=λσ H Q=>t σ H λx H'=>∃ k,x=.bl k/\Q k H'
theorem ZeI {op:CmpOp} {r:R2} (ho:OpR X (compareOp op) r) (ha:PE X a ta) (hb:PE X b tb) (hm:behindInMarks op b=false):PT X (.Compare a [op] [b] pos) (ZjA (tOp r ta tb)):=by
 intro pins s σ H Q I h
 refine wpAny_isTrue_Compare1 (thn (ha pins s σ H _ I h) λv s1 ⟨x,H1,I1,r1,q1⟩=>thn (hb pins s1 σ H1 _ I1 q1) λu s2 ⟨y,H2,I2,r2,q2⟩ =>
  thn (ho pins s2 σ H2 x y v u _ I2 r1 r2 q2) λc s3 ⟨z,H3,I3,r3,k,e,q3⟩=>?_) hm
 subst e
 cases r3
 exact wpAny_truthy_bool ⟨H3,I3,q3⟩
noncomputable def ZmE (r r':R2) (ta tb tc:TE):TE:=λσ H Q=>ta σ H λx H1=>tb σ H1 λy H2=>r x y H2 λz H3=>∃ k,z=.bl k /\
 (if k=true then tc σ H3 λw' H4=>r' y w' H4 Q else Q (.bl false) H3)
theorem ZlG {op op':CmpOp} {r r':R2} (ho:OpR X (compareOp op) r) (ho':OpR X (compareOp op') r') (ha:PE X a ta) (hb:PE X b tb) (hc:PE X c tc)
  (hm:lastMarks [op,op'] [b,c]=false:=by with_unfolding_all rfl):PT X (.Compare a [op,op'] [b,c] pos) (ZjA (ZmE r r' ta tb tc)):=by
 intro pins s σ H Q I h
 refine isTrue_chain (thn (ha pins s σ H _ I h) λv s1 ⟨x,H1,I1,r1,q1⟩=>test_link (thn (hb pins s1 σ H1 _ I1 q1) λu s2 ⟨y,H2,I2,r2,q2⟩ =>
  thn (ho pins s2 σ H2 x y v u _ I2 r1 r2 q2) λd s3 ⟨z,H3,I3,r3,k,e,q3⟩=>?_)) hm
 subst e
 cases r3
 refine wpAny_truthy_bool ?_
 cases k with
 | false =>
  obtain ⟨k',e',q'⟩:=q3
  cases e'
  exact ite_ff ⟨H3,I3,q'⟩
 | true =>
  refine ite_tt (test_last (thn (hc pins s3 σ H3 _ I3 q3) λw' s4 ⟨z',H4,I4,r4,q4⟩=>thn (ho' pins s4 σ H4 y z' u w' _ I4 r2 r4 q4) λd' s5 hz0=>?_))
  obtain ⟨z2,H5,I5,r5,k2,e2,q5⟩:=hz0
  subst e2
  cases r5
  exact wpAny_truthy_bool ⟨H5,I5,q5⟩

noncomputable def TruV (K:PySem.W.Frag) (x:V) (H:Hp) (k:Bool):Prop :=
 match x with
 | .non=>k=false
 | .bl b=>k=b
 | .int i=>k=(i != 0)
 | .str y=>y.length<=sizeLine/\k=((y.length:Int) != 0)
 | .byt y=>y.size<=sizeLine/\k=((y.size:Int) != 0)
 | .ref p=>(∃ xs,SqL K H p xs/\k=!xs.isEmpty)\/(∃ xs,SqT K H p xs/\k=!xs.isEmpty)\/∃ kvs,H p=some (.dK kvs)/\k=!kvs.isEmpty
 | _=>False
theorem Zi5 {κ:Type} {kvs:List (κ×V)} {vs:List (κ×Value)} (r:KV kvs vs):(!vs.isEmpty)=!kvs.isEmpty:=by
 cases r <;> rfl
theorem ZfC {xs:List V} {its:List Value} (r:Vals xs its):(!its.toArray.isEmpty)=!xs.isEmpty:=by
 cases r <;> simp
theorem Zee:(sizeLine:Nat) < 2 ^ 63:=by rw [sizeLine_eq]; decide
theorem Zo6:TruR X (λx H Q=>∃ k,TruV X.K x H k/\Q k H):=by
 intro pins s σ H x v Q I rx h
 obtain ⟨k,e,q⟩:=h
 have hl:=Zee
 have hs:sizeLine=16777216:=sizeLine_eq
 cases x with
 | non =>
  cases rx
  have e':k=false:=e
  subst e'
  exact truthy_none ⟨H,I,q⟩
 | bl b =>
  cases rx
  have e':k=b:=e
  subst e'
  exact wpAny_truthy_bool ⟨H,I,q⟩
 | int i =>
  obtain ⟨t,rfl⟩:=rx
  have e':k=(i != 0):=e
  subst e'
  exact PySem.P.truthy_int ⟨H,I,q⟩
 | str y =>
  obtain ⟨t,rfl⟩:=rx
  obtain ⟨hy,e'⟩:y.length<=sizeLine/\k=((y.length:Int) != 0):=e
  subst e'
  exact PySem.P.truthy_str (by omega) ⟨H,I.tok _,q⟩
 | byt y =>
  obtain ⟨t,rfl⟩:=rx
  obtain ⟨hy,e'⟩:y.size<=sizeLine/\k=((y.size:Int) != 0):=e
  subst e'
  exact PySem.W.truthy_bytes (by omega) ⟨H,I.tok _,q⟩
 | ref p =>
  cases rx
  have e':(∃ xs,SqL X.K H p xs/\k=!xs.isEmpty)\/(∃ xs,SqT X.K H p xs/\k=!xs.isEmpty)\/∃ kvs,H p=some (.dK kvs)/\k=!kvs.isEmpty:=e
  rcases e' with ⟨xs,hx,e'⟩ | ⟨xs,hx,e'⟩ | ⟨kvs,hx,e'⟩
  ·subst e'
   obtain ⟨its,r,pl,hz⟩:=I.list hx
   have hlen:=r.length
   exact wpAny_truthy_list pl.isList (by simp only [List.size_toArray]; omega) ⟨H,I.tok _,by rw [ZfC r]; exact q⟩
  ·subst e'
   obtain ⟨its,r,pl,hz⟩:=I.tuple hx
   have hlen:=r.length
   exact truthy_tuple pl (by simp only [List.size_toArray]; omega) ⟨H,I.tok _,by rw [ZfC r]; exact q⟩
  ·subst e'
   obtain ⟨hz,hS,vs,r,m⟩:kvs.length<=sizeLine/\(p == sysModules)=false/\∃ vs,KV kvs vs/\s.heap.DictOf (Zbt X.prog X.w) p vs:=I.hok p _ hx
   have hlen:kvs.length=vs.length:=Paired.length r
   exact wpAny_truthy_dict hS m (by omega) ⟨H,I.tok _,by rw [Zi5 r]; exact q⟩
 | _=>exact (show False from e).elim
theorem ZlF (ha:PE X a ta) (he:∀ whole,isTrue a X.env whole=(do let v <- whole; standAt a.pos; holding [v] (truthy v))) :
  PT X a (λσ H Q=>ta σ H λx H'=>∃ k,TruV X.K x H' k/\Q k H'):=by
 intro pins s σ H Q I h
 exact isTrue_plain (thn (ha pins s σ H _ I h) λv s1 ⟨x,H1,I1,r1,q1⟩=>Zo6 pins s1 σ H1 x v Q I1 r1 q1) (he _)

theorem ZdY {x:V} {us:List Value} (r:Vals [x] us):∃ u,us=[u]/\RelV x u:=by
 cases r with
 | cons r1 r2=>cases r2; exact ⟨_,rfl,r1⟩
theorem Zln {x y:V} {us:List Value} (r:Vals [x,y] us):∃ u w',us=[u,w']/\RelV x u/\RelV y w':=by
 cases r with
 | cons r1 r2 =>
  cases r2 with
  | cons r3 r4=>cases r4; exact ⟨_,_,rfl,r1,r3⟩
theorem Zex:Zdk X (.builtin "abs") (λxs H Q=>∃ i,xs=[.int i]/\Q (.int (if i < 0 then -i else i)) H):=by
 intro pins s σ H xs us Q I r h
 obtain ⟨i,rfl,q⟩:=h
 obtain ⟨u,rfl,t,rfl⟩:=ZdY r
 exact call_abs_int λu tk=>⟨.int (if i < 0 then -i else i),H,I.tok _,⟨_,rfl⟩,q⟩
theorem ZdQ (hc:X.calm=true):Zdk X (.builtin "max") (λxs H Q=>∃ i j,xs=[.int i,.int j]/\Q (.int (if j > i then j else i)) H):=by
 intro pins s σ H xs us Q I r h
 obtain ⟨i,j,rfl,q⟩:=h
 obtain ⟨u,w',rfl,⟨t,rfl⟩,⟨t',rfl⟩⟩:=Zln r
 refine max_two_ints (I.ok.hd hc) λh' tk k=>⟨_,H,I.kept k,?_,q⟩
 by_cases hj:j > i
 ·rw [if_pos hj,if_pos hj]; exact ⟨_,rfl⟩
 ·rw [if_neg hj,if_neg hj]; exact ⟨_,rfl⟩
theorem ZeZ:Zdk X (.type "int") (λxs H Q=>(∃ i,xs=[.int i]/\Q (.int i) H)\/∃ k,xs=[.bl k]/\Q (.int (if k then 1 else 0)) H):=by
 intro pins s σ H xs us Q I r h
 rcases h with ⟨i,rfl,q⟩ | ⟨k,rfl,q⟩
 ·obtain ⟨u,rfl,t,rfl⟩:=ZdY r
  exact call_int_int ⟨.int i,H,I,⟨_,rfl⟩,q⟩
 ·obtain ⟨u,rfl,r1⟩:=ZdY r
  cases r1
  exact call_int_bool ⟨.int (if k then 1 else 0),H,I.tok _,⟨_,rfl⟩,q⟩
end
end L2
namespace L2
open PySem PySem.Spec PyProof.Rows
structure ObjM (h:Heap) (x dx C:Addr) (mA:Str->Option Value):Prop where
 obj:h.get? x=some (PySem.W.instObj C dx)
 ns:h.Ns1 dx mA
 ne:dx≠x

theorem Zki {h:Heap} {dx:Addr} {mA:Str->Option Value} (n:h.Ns1 dx mA):∃ od,h.get? dx=some od/\∀ name,PySem.W.lookIn name od=some (mA name):=by
 obtain ⟨o,es,ep,ho,hd,hk,_,hm⟩:=n
 refine ⟨o,ho,λname=>?_⟩
 have e:=hm name
 unfold nsFind findBy at e
 rw [<- Array.find?_toList] at e
 unfold PySem.W.lookIn
 rw [hd]
 dsimp only
 split
 ·rename_i y q
  rw [q] at e
  exact congrArg some e
 ·rename_i q
  rw [q] at e
  have a:es.toList.any (·.refKey)=false:=by
   rw [List.any_eq_false]
   intro y hy
   obtain ⟨z,t,hkey⟩:=hk y (Array.mem_toList_iff.mp hy)
   simp [DictEntry.refKey,hkey]
  have a':¬ es.toList.any (·.refKey)=true:=by rw [a]; exact Bool.false_ne_true
  rw [if_neg a']
  exact congrArg some e

theorem ObjM.look {h:Heap} {x dx C:Addr} {mA:Str->Option Value} (I:ObjM h x dx C mA):∃ od,PySem.W.InstAt h x (PySem.W.instObj C dx) C (some od)/\∀ name,PySem.W.lookIn name od=some (mA name) :=
 let ⟨od,ho,hl⟩:=Zki I.ns
 ⟨od,⟨I.obj,rfl,rfl,ho⟩,hl⟩

section
variable {prog:Program} {w:World} {A:Around} {E:Value->Shared->Prop} {s:Shared} {K:PySem.W.Frag} {x dx C f:Addr} {mA:Str->Option Value} {name:Str} {v:Value}
end
theorem RelO.some_of {v:V} {o:Option Value} (r:RelO (some v) o):∃ u,o=some u/\RelV v u:=by
 cases o with
 | none=>exact (show False from r).elim
 | some u=>exact ⟨u,rfl,r⟩
section
variable {P:Program} {w:World} {H H':Hp} {h h':Heap} {a C dx:Addr} {fs fs':List (Str×V)}
theorem Zoc (hok:HOk P w H h) (e:H a=some (.ins C dx fs)):∃ mA,ObjM h a dx C mA/\(∀ f,RelO (fs.lookup f) (mA f))/\PySem.Within mA (fs.map (·.1))/\fs.length<=1000/\H dx=some (.own a):=by
 obtain ⟨d,z,ne,ob,mA,n,r,q⟩:=(show ObjOk P w H h a (.ins C dx fs) from hok a _ e)
 exact ⟨mA,⟨ob,n,ne⟩,r,q,z,d⟩
end
structure Cls (K:PySem.W.Frag) (C:Addr):Prop where
 pg:PySem.W.plainGet K C Str.empty=true
 hd:PySem.W.hasDictIn K C=true
 po:PySem.W.plainOver K C=true
 sa:PySem.W.findIn K (.ref C) "__setattr__"=some (some (.builtin "object.__setattr__"))
theorem Cls.get {K:PySem.W.Frag} {C:Addr} (c:Cls K C) (f:Str):PySem.W.plainGet K C f=true:=c.pg
section
variable {X:Cx} {pins:List (Addr×Obj)} {σ:St} {H:Hp} {s:Shared} {a C dx:Addr} {fs:List (Str×V)} {f:Str} {v:V} {A:Around} {E:Value->Shared->Prop}
end
section
variable {X:Cx} {o e value:Expr} {f:Str} {pos pos' tpos:Pos} {ta tv:TE}
end
section
variable {X:Cx} {pins:List (Addr×Obj)} {σ:St} {H:Hp} {s:Shared} {A:Around} {E:Value->Shared->Prop} {Q:Value->Shared->Prop} {c:Value} {b:Bool}
inductive TyOf (K:PySem.W.Frag) (H:Hp):V->Value->Prop where
 | non:TyOf K H .non (.type "NoneType")
 | bl (x:Bool):TyOf K H (.bl x) (.type "bool")
 | int (i:Int):TyOf K H (.int i) (.type "int")
 | str (x:Str):TyOf K H (.str x) (.type "str")
 | flt (x:UInt64):TyOf K H (.flt x) (.type "float")
 | lst {a:Addr} {xs:List V} (e:H a=some (.lst xs)):TyOf K H (.ref a) (.type "list")
 | frz {a:Addr} {o:Obj} {xs:List V} (e:H a=some (.frz o (.lst xs))):TyOf K H (.ref a) (.type "list")
 | tup {a:Addr} {xs:List V} (e:H a=some (.tup xs)):TyOf K H (.ref a) (.type "tuple")
 | dK {a:Addr} {kvs:List (Key×V)} (e:H a=some (.dK kvs)):TyOf K H (.ref a) (.type "dict")
 | dT {a:Addr} {kvs:List (List Key×V)} (e:H a=some (.dT kvs)):TyOf K H (.ref a) (.type "dict")
 | frzD {a:Addr} {o:Obj} {kvs:List (Key×V)} (e:H a=some (.frz o (.dK kvs))):TyOf K H (.ref a) (.type "dict")
 | ins {a C dx:Addr} {fs:List (Str×V)} (e:H a=some (.ins C dx fs)) (cl:Cls K C) (ha:PySem.W.findIn K (.ref C) "__class__"=some (some (.builtin "object.__class__")))
   (hn:PySem.W.specialIn K (.builtin "object.__class__") "__get__"=some (some (.builtin "getset_descriptor.__get__"))) (htk:PySem.W.takesIn K (.builtin "object.__class__")=some true)
   (hm:PySem.W.mroIn K C (.type "object")=some true):TyOf K H (.ref a) (.ref C)
theorem Zku {x:V} {u t:Value} (I:Inv X pins σ H s) (rx:RelV x u) (ty:TyOf X.K H x t) (e:PySem.W.kitOne X.K t c=some b) (h:∀ tk,Q (.bool b) { s with toks:=tk }) :
  wpAny (model X.prog X.w) A (call (.builtin "isinstance") [u,c]) Q E s:=by
 cases ty with
 | non=>cases (show u=Value.none from rx); exact PySem.W.kia_one PySem.W.kitx_none I.kIn True.intro e (λz=>nomatch z) h
 | bl y=>cases (show u=Value.bool y from rx); exact PySem.W.kia_one PySem.W.kitx_bool I.kIn True.intro e (λz=>nomatch z) h
 | int i=>obtain ⟨t,q⟩:=(show ∃ t,u=Value.int i t from rx); cases q; exact PySem.W.kia_one PySem.W.kitx_int I.kIn True.intro e (λz=>nomatch z) h
 | str y=>obtain ⟨t,q⟩:=(show ∃ t,u=Value.str y t from rx); cases q; exact PySem.W.kia_one PySem.W.kitx_str I.kIn True.intro e (λz=>nomatch z) h
 | flt y=>obtain ⟨t,q⟩:=(show ∃ t,u=Value.float y t from rx); cases q; exact PySem.W.kia_one PySem.W.kitx_float I.kIn True.intro e (λz=>nomatch z) h
 | @lst a xs ea =>
  cases (show u=Value.ref a from rx)
  obtain ⟨_,_,n,_,h1⟩:=(show ObjOk X.prog X.w H s.heap a (.lst xs) from I.hok a _ ea)
  exact PySem.W.kia_one PySem.W.kitx_list I.kIn ⟨_,h1,rfl⟩ e (λz=>nomatch z) h
 | @frz a ob xs ea =>
  cases (show u=Value.ref a from rx)
  obtain ⟨_,_,_,n,_,h1⟩:=(show ObjOk X.prog X.w H s.heap a (.frz ob (.lst xs)) from I.hok a _ ea)
  exact PySem.W.kia_one PySem.W.kitx_list I.kIn ⟨_,h1,rfl⟩ e (λz=>nomatch z) h
 | @tup a xs ea =>
  cases (show u=Value.ref a from rx)
  obtain ⟨_,_,_,p⟩:=(show ObjOk X.prog X.w H s.heap a (.tup xs) from I.hok a _ ea)
  obtain ⟨o,h1,h2,_⟩:=p
  exact PySem.W.kia_one PySem.W.kitx_tuple I.kIn ⟨o,h1,h2⟩ e (λz=>nomatch z) h
 | @dK a kvs ea =>
  cases (show u=Value.ref a from rx)
  obtain ⟨_,_,vs,_,p⟩:=(show ObjOk X.prog X.w H s.heap a (.dK kvs) from I.hok a _ ea)
  obtain ⟨o,es,ep,h1,h2,_⟩:=p
  exact PySem.W.kia_one PySem.W.kitx_dict I.kIn ⟨o,h1,h2.1⟩ e (λz=>nomatch z) h
 | @frzD a ob kvs ea =>
  cases (show u=Value.ref a from rx)
  obtain ⟨_,_,_,vs,_,p⟩:=(show ObjOk X.prog X.w H s.heap a (.frz ob (.dK kvs)) from I.hok a _ ea)
  obtain ⟨o,es,ep,h1,h2,_⟩:=p
  exact PySem.W.kia_one PySem.W.kitx_dict I.kIn ⟨o,h1,h2.1⟩ e (λz=>nomatch z) h
 | @dT a kvs ea =>
  cases (show u=Value.ref a from rx)
  obtain ⟨_,_,xs,_,o,es,ep,h1,h2,_⟩:=(show ObjOk X.prog X.w H s.heap a (.dT kvs) from I.hok a _ ea)
  exact PySem.W.kia_one PySem.W.kitx_dict I.kIn ⟨o,h1,h2.1⟩ e (λz=>nomatch z) h
 | @ins a C dx fs ea cl ha hn htk hm =>
  cases (show u=Value.ref a from rx)
  obtain ⟨mA,O,_⟩:=Zoc I.hok ea
  obtain ⟨od,J,_⟩:=O.look
  exact PySem.W.kia_one (PySem.W.kitx_own (cl.get _) cl.hd ha hn htk hm) I.kIn J e (λz=>nomatch z) h
end
end L2
namespace L2
open PySem PySem.Spec PyProof.Rows
structure Room (k:Nat) (A:Around):Prop where
 hd:A.handled=none
 dp:A.depth+3 * k+5 < recursionLimit
 un:A.units+16 * k+200 < cLine
 gd:A.guards=some []
theorem Room.mono {j k:Nat} {A:Around} (r:Room k A) (h:j<=k):Room j A:=⟨r.hd,by have:=r.dp; omega,by have:=r.un; omega,r.gd⟩
theorem Room.deeper {k:Nat} {A:Around} (r:Room (k+1) A) (env:Env):Room k (A.deeper env) :=
 ⟨r.hd,by have:=r.dp; show A.depth+1+3 * k+5 < _; omega,by have:=r.un; show A.units+3+16 * k+200 < _; omega,r.gd⟩
theorem Room.depth {k:Nat} {A:Around} (r:Room k A):A.depth < recursionLimit:=by have:=r.dp; omega
theorem Room.units {k:Nat} {A:Around} (r:Room k A):A.units+64 < cLine:=by have:=r.un; omega
noncomputable def Zcb:TA:=λ_ H Q=>Q [] H
noncomputable def Zej (ta:TE) (tr:TA):TA:=λσ H Q=>ta σ H λx H1=>tr σ H1 λxs H2=>Q (x::xs) H2
section
variable {X:Cx} {e:Expr} {es:List Expr} {te:TE} {t:TA} {pos:Pos}
theorem pa_nil:PA X [] Zcb:=λ_ _ _ _ H Q I h=>Calls.spliced_nil ⟨[],H,I,.nil,h⟩
theorem ZaE (ha:PE X e te) (hr:PA X es t) (hs:starEach (e::es) X.env=(false,eval e X.env)::starEach es X.env:=by rfl):PA X (e::es) (Zej te t):=by
 intro pos pins s σ H Q I h
 rw [hs]
 show wpAny _ _ (spliced ((false,eval e X.env)::backTo pos (starEach es X.env))) _ _ s
 refine Calls.spliced_cons (thn (ha pins s σ H _ I h) λu s1 hz0=>?_)
 obtain ⟨x,H1,I1,r1,q1⟩:=hz0
 exact thn (hr pos pins s1 σ H1 _ I1 q1) λus s2 hz0=>by
  obtain ⟨xs,H2,I2,r2,q2⟩:=hz0
  exact ⟨x::xs,H2,I2,.cons r1 r2,q2⟩

noncomputable def tTup (t:TA):TE:=λσ H Q=>t σ H λxs H1=>xs.length<=sizeLine/\∀ p,H1 p=none->Q (.ref p) (upd H1 p (.tup xs))
noncomputable def tLst (t:TA):TE:=λσ H Q=>t σ H λxs H1=>xs.length<=sizeLine/\∀ p,H1 p=none->Q (.ref p) (upd H1 p (.lst xs))
theorem ZmQ {x1} (h:PA X es t):PE X (.Tuple es x1 pos) (tTup t):=by
 intro pins s σ H Q I hq
 refine wpAny_Tuple_spliced (thn (h pos pins s σ H _ I hq) λus s1 ⟨xs,H1,I1,r,z,q⟩=>⟨by rw [<- r.length]; exact z,?_⟩)
 have hf:H1 s1.heap.objs.size=none:=I1.hok.fresh (Nat.le_refl _)
 refine ⟨.ref s1.heap.objs.size,upd H1 s1.heap.objs.size (.tup xs),I1.laid (t':=s1.toks) (λb u e=>Heap.get?_push_of_some _ e) (Nat.le_refl _) ?_,rfl,q _ hf⟩
 exact ⟨z,us,r,⟨_,Heap.get?_push_size _ rfl,rfl,_,rfl⟩⟩
theorem ZpS (h:PA X es t):PE X (.List es pos) (tLst t):=by
 intro pins s σ H Q I hq
 refine wpAny_List_spliced (thn (h pos pins s σ H _ I hq) λus s1 ⟨xs,H1,I1,r,z,q⟩=>⟨by rw [<- r.length]; exact z,?_⟩)
 have hf:H1 s1.heap.objs.size=none:=I1.hok.fresh (Nat.le_refl _)
 refine ⟨.ref s1.heap.objs.size,upd H1 s1.heap.objs.size (.lst xs),I1.laid (t':=s1.toks) (λb u e=>Heap.get?_push_of_some _ e) (Nat.le_refl _) ?_,rfl,q _ hf⟩
 exact ⟨z,us,0,r,Heap.get?_push_size _ rfl⟩
end
noncomputable abbrev Sp:=List V->Hp->VK->XK->Prop
noncomputable abbrev CXT:=List Env->Hp->Shared->XK->Value->Shared->Prop

structure Env0 (P:Program) (w:World) (K:PySem.W.Frag) (mg:Str->Option Value) (base:Heap) (A:Around) (outer:List Env) (s:Shared) (H:Hp):Prop where
 frames:A.frames=some outer
 mod:Mod K mg base
 bs:∀ b o,base.get? b=some o->s.heap.get? b=some o/\H b=none
 bsz:base.objs.size<=s.heap.objs.size
 funs:s.heap.FunFrames base outer
 frf:∀ b∈frs outer,H b=none
 hok:HOk P w H s.heap
 bare:AllBare s.gens
noncomputable def CE (outer:List Env) (P:Program) (w:World) (H:Hp) (s:Shared) (Q:VK) (u:Value) (s':Shared):Prop :=
 ∃ v H',s'.os=s.os/\AllBare s'.gens/\Un (frs outer) [] H H' s.heap s'.heap/\HOk P w H' s'.heap/\RelV v u/\Q v H'
noncomputable def CR (CX:CXT) (outer:List Env) (P:Program) (w:World) (H:Hp) (s:Shared) (Q:VK) (E:XK) (r:Result) (s':Shared):Prop :=
 match r with
 | .ok (.ret u)=>CE outer P w H s Q u s'
 | .ok _=>False
 | .error e=>CX outer H s E e s'
structure FnOk (P:Program) (w:World) (K:PySem.W.Frag) (mg:Str->Option Value) (base:Heap) (CX:CXT) (k:Nat) (f:Addr) (fd:FuncData) (ps:List Str) (sp:Sp):Prop where
 len:∀ vs H Q E,sp vs H Q E->vs.length=ps.length
 run:∀ (A:Around) (outer:List Env) (s:Shared) (H:Hp) (args:Args) (us:List Value) (vs:List V) (Q:VK) (E:XK),Room k A->Env0 P w K mg base A outer s H->BindsTo s fd args (ps.zip us)->Vals vs us->sp vs H Q E ->
  codeAny (model P w) A (.call (.ref f) args) (CR CX outer P w H s Q E) s
theorem FnOk.imp {P:Program} {w:World} {K:PySem.W.Frag} {mg:Str->Option Value} {base:Heap} {CX:CXT} {k:Nat} {f:Addr} {fd:FuncData} {ps:List Str} {sp sp':Sp} (F:FnOk P w K mg base CX k f fd ps sp)
  (h:∀ vs H Q E,sp' vs H Q E->sp vs H Q E):FnOk P w K mg base CX k f fd ps sp' :=
 ⟨λvs H Q E q=>F.len vs H Q E (h _ _ _ _ q),λA outer s H args us vs Q E hr he hb hv hs=>F.run A outer s H args us vs Q E hr he hb hv (h _ _ _ _ hs)⟩

section
variable {X:Cx} {pins:List (Addr×Obj)} {σ:St} {H:Hp} {s s':Shared}
theorem Inv.env0 (I:Inv X pins σ H s):Env0 X.prog X.w X.K X.mg X.base X.A X.stack s H :=
 ⟨I.ok.frames,I.ok.mod,I.bs,Nat.le_trans I.ok.bsz I.sz,I.stack,I.stkFree,I.hok,I.bare⟩
theorem Inv.after {Q:VK} {u:Value} (I:Inv X pins σ H s) (h:CE X.stack X.prog X.w H s Q u s'):EP X pins σ Q u s':=by
 obtain ⟨v,H',os,bare,un,hok,r,q⟩:=h
 obtain ⟨hh,g,d,t,os'⟩:=s'
 obtain rfl:os'=s.os:=os
 exact ⟨v,H',I.call (h':=hh) (g':=g) (d':=d) (t':=t) (ch:=[]) un hok bare (λb z=>absurd z (by simp)),r,q⟩
end
noncomputable def Zpd (sp:Sp) (dvs:List V) (E:XK) (t:TA):TE:=λσ H Q=>t σ H λvs H1=>sp (vs++dvs) H1 Q E
noncomputable def Binds (K:PySem.W.Frag) (fd:FuncData) (ps:List Str) (ds:List Value):Prop :=
 ∀ (s:Shared) (us:List Value),K.In s.heap->(us++ds).length=ps.length->BindsTo s fd ⟨us,[]⟩ (ps.zip (us++ds))
theorem Binds.all {K:PySem.W.Frag} {fd:FuncData} {ps:List Str} (h:∀ us:List Value,us.length=ps.length->bindArgs fd ⟨us,[]⟩=pure (ps.zip us)):Binds K fd ps []:=λs us _ hl=>by
 rw [List.append_nil] at hl ⊢
 exact .of_eq (h us hl)

noncomputable def Zle (CX:CXT) (X:Cx) (E:XK):Prop:=∀ (pins:List (Addr×Obj)) (σ:St) (H:Hp) (s:Shared) (e:Value) (s':Shared),Inv X pins σ H s->CX X.stack H s E e s'->X.xe e s'

section
variable {X:Cx} {CX:CXT} {k:Nat} {f C:Addr} {fd:FuncData} {ps:List Str} {sp:Sp} {dvs:List V} {ds:List Value} {E:XK} {x m:Str} {p pos apos:Pos} {e o:Expr} {es:List Expr} {ta:TE} {t:TA}
theorem Zpp {pins:List (Addr×Obj)} {σ:St} {H:Hp} {s:Shared} {Q:VK} {us:List Value} {vs:List V} (F:FnOk X.prog X.w X.K X.mg X.base CX k f fd ps sp) (hr:Room k X.A) (hb:Binds X.K fd ps ds) (hd:Vals dvs ds) (hx:Zle CX X E)
  (I:Inv X pins σ H s) (r:Vals vs us) (h:sp (vs++dvs) H Q E):wpAny (model X.prog X.w) X.A (call (.ref f) us) (EP X pins σ Q) X.xe s:=by
 have r2:Vals (vs++dvs) (us++ds):=r.append hd
 have hl:(us++ds).length=ps.length:=by rw [<- r2.length]; exact F.len _ _ _ _ h
 refine wpAny_call (codeAny_mono (F.run X.A X.stack s H ⟨us,[]⟩ (us++ds) (vs++dvs) Q E hr I.env0 (hb s us I.kIn hl) r2 h) λr s' hq=>?_)
 cases r with
 | error e=>exact hx pins σ H s e s' I hq
 | ok fl =>
  cases fl with
  | ret u=>exact I.after hq
  | next=>exact False.elim hq
  | brk=>exact False.elim hq
  | cont=>exact False.elim hq

theorem ZnK (F:FnOk X.prog X.w X.K X.mg X.base CX k f fd ps sp) (hr:Room k X.A) (hg:Gl X x) (hm:X.mg x=some (.ref f)) (hk:PySem.W.keepIn X.K (.ref f)=true) (hb:Binds X.K fd ps ds) (hd:Vals dvs ds) (hx:Zle CX X E)
  (ha:PA X (e::es) t) (hdb:(x == ("__debug__":Str))=false:=by decide) (he:starEach (e::es) X.env=(false,eval e X.env)::starEach es X.env:=by rfl) (hpl:(backTo pos (starEach es X.env)).any (·.1)=false:=by rfl) :
  PE X (.Call (.Name x p) (e::es) [] pos) (Zpd sp dvs E t):=by
 intro pins s σ H Q I h
 refine wpAny_Call_Name_kw (Zkl I hg hm ?_ hdb)
 refine PySem.W.callWith_K (h₀:=X.base) I.ok.mod.kin hk (thn (ha pos pins s σ H _ I h) λus s1 ⟨vs,H1,I1,r,q⟩=>⟨I1.kIn,?_⟩) he hpl
 exact Zpp F hr hb hd hx I1 r q
end
noncomputable def PK (X:Cx) (kws:List Keyword) (t:TA):Prop :=
 ∀ (pos:Pos) (pins:List (Addr×Obj)) (s:Shared) (σ:St) (H:Hp) (Q:List V->Hp->Prop),Inv X pins σ H s->t σ H Q->wpAny (model X.prog X.w) X.A (evalAll ((backToKw pos (keywordEach kws X.env)).map (·.2))) (AP X pins σ Q) X.xe s
section
variable {X:Cx} {CX:CXT} {k:Nat} {f C:Addr} {fd:FuncData} {ps ks:List Str} {sp:Sp} {E:XK} {x m:Str} {p pos apos kpos:Pos} {e o:Expr} {es:List Expr} {kws:List Keyword} {te ta:TE} {t tk:TA} {nm:Option Str}
variable {g:List Value->List Value->List Value} {gV:List V->List V->List V}
end
structure FnScope (N P:List Str) (sc:Scope):Prop where
 kind:sc.kind=.function
 co:sc.isCoroutine=false
 gen:sc.isGenerator=false
 nd:N.Nodup
 pre:N.take P.length=P
 par:∀ x∈P,sc.names.lookup x=some .local\/sc.names.lookup x=some .cell
 nofree:∀ y∈sc.names,y.2≠.free

theorem Zg0 {kindOf:Str->Option NameKind} {x:Str}:∀ {binds:List (Str×Value)} {m:Str->Option Value},(∀ v,(x,v) ∉ binds)->bindL kindOf binds m x=m x
 | [],_,_=>rfl
 | (n,v)::r,m,h=>by
  unfold bindL
  rw [Zg0 λw hw=>h w (List.mem_cons_of_mem _ hw)]
  split
  ·have:x≠n:=by rintro rfl; exact h v List.mem_cons_self
   simp [this]
  ·rfl
theorem Zg2 {kindOf:Str->Option NameKind} {x:Str}:∀ {binds:List (Str×Value)} {m:Str->Option Value},(∀ v,(x,v) ∉ binds)->bindC kindOf binds m x=m x
 | [],_,_=>rfl
 | (n,v)::r,m,h=>by
  unfold bindC
  rw [Zg2 λw hw=>h w (List.mem_cons_of_mem _ hw)]
  split
  ·rfl
  ·have:x≠n:=by rintro rfl; exact h v List.mem_cons_self
   simp [this]
theorem Zg1 {kindOf:Str->Option NameKind} {x:Str} {v:Value}:∀ {P:List Str} {vs:List Value} {i:Nat} {m:Str->Option Value},P.Nodup->P[i]?=some x->vs[i]?=some v->kindOf x=some .local ->
  bindL kindOf (P.zip vs) m x=some v
 | [],_,_,_,_,h,_,_=>by simp at h
 | _::_,[],_,_,_,_,h,_=>by simp at h
 | p::P,w::vs,0,m,nd,h1,h2,hk=>by
  simp at h1 h2; subst h1; subst h2
  show bindL kindOf ((p,w)::P.zip vs) m p=_
  unfold bindL
  rw [Zg0 λv hv=>(List.nodup_cons.mp nd).1 (List.of_mem_zip hv).1,if_pos hk]
  simp
 | p::P,w::vs,i+1,m,nd,h1,h2,hk=>by
  show bindL kindOf ((p,w)::P.zip vs) m x=_
  unfold bindL
  exact Zg1 (i:=i) (List.nodup_cons.mp nd).2 (by simpa using h1) (by simpa using h2) hk
theorem Zg3 {kindOf:Str->Option NameKind} {x:Str} {v:Value}:∀ {P:List Str} {vs:List Value} {i:Nat} {m:Str->Option Value},P.Nodup->P[i]?=some x->vs[i]?=some v->kindOf x≠some .local ->
  bindC kindOf (P.zip vs) m x=some v
 | [],_,_,_,_,h,_,_=>by simp at h
 | _::_,[],_,_,_,_,h,_=>by simp at h
 | p::P,w::vs,0,m,nd,h1,h2,hk=>by
  simp at h1 h2; subst h1; subst h2
  show bindC kindOf ((p,w)::P.zip vs) m p=_
  unfold bindC
  rw [Zg2 λv hv=>(List.nodup_cons.mp nd).1 (List.of_mem_zip hv).1,if_neg hk]
  simp
 | p::P,w::vs,i+1,m,nd,h1,h2,hk=>by
  show bindC kindOf ((p,w)::P.zip vs) m x=_
  unfold bindC
  exact Zg3 (i:=i) (List.nodup_cons.mp nd).2 (by simpa using h1) (by simpa using h2) hk

noncomputable def start (N:List Str) (vs:List V):St:=vs.map some++List.replicate (N.length - vs.length) none

noncomputable def Zmj (CX:CXT) (P:Program) (w:World) (K:PySem.W.Frag) (mg:Str->Option Value) (base:Heap) (N:List Str) (qual:Str) (scope:Scope) (f:Addr) (cd:Value) (A:Around) (outer:List Env) (s:Shared) (H:Hp) (E:XK):Cx where
 prog:=P
 w:=w
 K:=K
 mg:=mg
 base:=base
 A:=A.deeper (envOfC qual scope s.heap.objs.size f cd)
 N:=N
 s₀:=s
 H₀:=H
 env:=envOfC qual scope s.heap.objs.size f cd
 outer:=outer
 stack:=envOfC qual scope s.heap.objs.size f cd::outer
 ex:=[]
 calm:=true
 fn:=λ_=>true
 pn:=[]
 xe:=λe s'=>wpAny (model P w) (A.deeper (envOfC qual scope s.heap.objs.size f cd)) (leaving (envOfC qual scope s.heap.objs.size f cd) e) (λ_ s''=>CX outer H s E e s'') (λe' s''=>CX outer H s E e' s'') s'

theorem ZiF {sc:Scope} {n:Nat} {x:Str} (h:sc.names.lookup x=some .cell):∃ c,(cellsFrom n sc.names []).lookup x=some c:=by
 have q:=PySem.W.cellsFrom_some sc.names n [] (.inl h)
 exact Option.isSome_iff_exists.mp q

theorem Zkv {CX:CXT} {P:Program} {w:World} {K:PySem.W.Frag} {mg:Str->Option Value} {base:Heap} {N ps:List Str} {qual:Str} {scope:Scope} {f:Addr} {cd:Value} {A:Around} {outer:List Env} {s s1:Shared} {H:Hp} {E:XK} {us:List Value} {vs:List V}
  (S:FnScope N ps scope) (hd:A.handled=none) (e0:Env0 P w K mg base A outer s H) (hl:vs.length=ps.length) (r:Vals vs us)
  (x:InCallC s s.heap.objs.size (bindL (envOfC qual scope s.heap.objs.size f cd).kindOf (ps.zip us) λ_=>none) (cellsFrom (s.heap.objs.size+1) scope.names []) (bindC (envOfC qual scope s.heap.objs.size f cd).kindOf (ps.zip us) λ_=>none) s1) :
  Inv (Zmj CX P w K mg base N qual scope f cd A outer s H E) [] (start N vs) H s1:=by
 have hpl:ps.length<=N.length:=by have:=congrArg List.length S.pre; rw [List.length_take] at this; omega
 obtain ⟨h1,tk,rfl,hk⟩:=x.done
 have noA:∀ b:Addr,b ∉ (Zmj CX P w K mg base N qual scope f cd A outer s H E).ex:=λb z=>absurd (show b∈([]:List Addr) from z) (by simp)
 refine ⟨⟨e0.mod,S.kind,rfl,rfl,Nat.le_refl _,λy z c h1 h2=>?_,λy hy=>?_,λy c _ h=>?_,λ_=>hd,Around.frames_deeper e0.frames,.inr ⟨rfl,rfl⟩,λb z=>absurd z (noA b),e0.bs,e0.bsz,λb _ _=>noA b,λb z=>absurd z (noA b),e0.funs,e0.frf⟩,
  rfl,e0.bare,Un.kept hk,⟨_,x.toInCall.ns,λi y v h1 h2 h3=>?_⟩,λy c h=>⟨_,x.cell y c h⟩,e0.hok.fresh (Nat.le_refl _),λy c h=>?_,λp hp=>absurd (show p∈([]:List (Addr×Obj)) from hp) (by simp),e0.hok.kept hk,?_⟩
 ·exact name_of_addr x.apart (PySem.mem_of_lookup h1) (PySem.mem_of_lookup h2)
 ·have hy:scope.names.lookup y=some .cell\/scope.names.lookup y=some .free:=hy
  rcases hy with hy | hy
  ·exact ZiF hy
  ·exact absurd rfl (S.nofree _ (PySem.mem_of_lookup hy))
 ·exact Nat.le_of_lt (x.above y c (PySem.mem_of_lookup h))
 ·have hi:i < vs.length:=by
   unfold start at h2
   by_cases hi:i < vs.length
   ·exact hi
   ·rw [List.getElem?_append_right (by simpa using hi)] at h2
    rw [List.getElem?_replicate] at h2
    split at h2 <;> cases h2
  have ha:vs[i]?=some v:=by
   unfold start at h2
   rw [List.getElem?_append_left (by simpa using hi),List.getElem?_map] at h2
   cases e:vs[i]? with
   | none=>rw [e] at h2; cases h2
   | some a=>rw [e] at h2; cases h2; rfl
  obtain ⟨u,hu,rv⟩:=r.get ha
  have hp:ps[i]?=some y:=by
   rw [<- S.pre,List.getElem?_take_of_lt (by omega)]; exact h1
  have ndP:ps.Nodup:=by rw [<- S.pre]; exact S.nd.sublist (List.take_sublist _ _)
  refine ⟨u,rv,?_⟩
  rcases S.par y (List.mem_of_getElem? hp) with k | k
  ·exact .inl ⟨k,Zg1 ndP hp hu k⟩
  ·obtain ⟨c,e⟩:=ZiF (n:=s.heap.objs.size+1) k
   refine .inr ⟨.inl k,c,e,?_⟩
   have q:=x.cell y c e
   rw [Zg3 ndP hp hu (by show scope.names.lookup y≠_; rw [k]; decide)] at q
   exact q
 ·exact e0.hok.fresh (Nat.le_of_lt (x.above y c (PySem.mem_of_lookup h)))
 ·unfold start
  show _=N.length
  rw [List.length_append,List.length_map,List.length_replicate]
  omega

theorem fn_of {CX:CXT} {P:Program} {w:World} {K:PySem.W.Frag} {mg:Str->Option Value} {base:Heap} {k:Nat} {f:Addr} {name qual:Str} {params:Arguments} {body:List Stmt} {scope:Scope} {dV kV doc pm cdv ct oc:Value} {an od:Option Addr}
  {osl:Array (Option Value)} {N ps:List Str} {sp:Sp} (lk:K.lookup f=some ⟨oc,od,.func (PySem.W.fnOf name qual params body scope dV kV doc pm an cdv ct),osl⟩) (hcd:PySem.W.codeIn K cdv qual=true) (S:FnScope N ps scope)
  (len:∀ vs H Q E,sp vs H Q E->vs.length=ps.length)
  (hbody:∀ (A:Around) (outer:List Env) (s:Shared) (H:Hp) (vs:List V) (Q:VK) (E:XK),Room k (A.deeper (envOfC qual scope s.heap.objs.size f cdv))->sp vs H Q E ->
   ∃ t,PSs (Zmj CX P w K mg base N qual scope f cdv A outer s H E) body t/\t { nx:=λ_ H'=>Q .non H',rt:=Q } (start N vs) H) :
  FnOk P w K mg base CX (k+1) f (PySem.W.fnOf name qual params body scope dV kV doc pm an cdv ct) ps sp:=by
 refine ⟨len,λA outer s H args us vs Q E hr e0 hb r hsp=>?_⟩
 have hl:=len _ _ _ _ hsp
 have KX:K.In s.heap:=e0.mod.kin.keeps λb o e=>(e0.bs b o e).1
 have lim:s.heap.NoLimit:=e0.mod.nolimit.keeps λb o e=>(e0.bs b o e).1
 have hkind:∀ y∈ps.zip us,scope.names.lookup y.1=some .local\/(scope.names.lookup y.1=some .cell/\((cellsFrom (s.heap.objs.size+1) scope.names []).lookup y.1).isSome=true):=λ⟨n,v⟩ hy=>by
  rcases S.par n (List.of_mem_zip hy).1 with q | q
  ·exact .inl q
  ·exact .inr ⟨q,PySem.W.cellsFrom_some _ _ _ (.inl q)⟩
 refine codeAny_call_function hr.depth (KX _ _ lk) rfl S.co S.gen rfl (PySem.W.codeRec_of KX hcd) (hb _ _ _ _ ?_)
 refine wpAny_newFunctionEnv_cells S.kind hkind λenv he s1 x=>?_
 subst he
 refine ⟨lim.keeps x.toInCall.keep,codeAny_func ?_⟩
 obtain ⟨t,ht,hq⟩:=hbody A outer s H vs Q E (hr.deeper _) hsp
 have I:Inv (Zmj CX P w K mg base N qual scope f cdv A outer s H E) [] (start N vs) H s1:=Zkv S hr.hd e0 hl r x
 refine wpAny_mono (ht [] s1 (start N vs) H _ I hq) (λfl s' hs=>?_) λe s' hs=>hs
 have fin:∀ {σ':St} {H':Hp} {v:V} {u:Value},Inv (Zmj CX P w K mg base N qual scope f cdv A outer s H E) [] σ' H' s'->RelV v u->Q v H'->CE outer P w H s Q u s' :=
  λ{σ' H' v u} J rv q=>⟨v,H',J.os,J.bare,J.base,J.hok,rv,q⟩
 cases fl with
 | ret u =>
  obtain ⟨v,σ',H',J,rv,q⟩:=hs
  exact fin J rv q
 | next =>
  obtain ⟨σ',H',J,q⟩:=hs
  exact fin (v:=V.non) (u:=Value.none) J rfl q
 | brk =>
  obtain ⟨_,_,_,q⟩:=hs
  exact False.elim q
 | cont =>
  obtain ⟨_,_,_,q⟩:=hs
  exact False.elim q
end L2
namespace L2
open PySem PySem.Spec PyProof.Rows
section
variable {X:Cx} {x:Str} {p pos:Pos} {e:Expr} {es:List Expr} {t:TA} {id T:String} {r:List V->Hp->VK->Prop}
noncomputable def tCB (r:List V->Hp->VK->Prop) (t:TA):TE:=λσ H Q=>t σ H λvs H1=>r vs H1 Q
theorem Zat (hc:Zdk X (.builtin id) r) (hg:Gl X x) (hm:X.mg x=none) (hv:bootBuiltins x=some (.builtin id)) (ha:PA X (e::es) t) (hn:x≠"__name__":=by decide) (hdb:(x == ("__debug__":Str))=false:=by decide)
  (he:starEach (e::es) X.env=(false,eval e X.env)::starEach es X.env:=by rfl) (hpl:(backTo pos (starEach es X.env)).any (·.1)=false:=by rfl):PE X (.Call (.Name x p) (e::es) [] pos) (tCB r t):=by
 intro pins s σ H Q I h
 refine wpAny_Call_Name_kw (Zef I hg hm hv ?_ hn hdb)
 exact PyProof.Rows.callWith_builtin1 (thn (ha pos pins s σ H _ I h) λus s1 ⟨vs,H1,I1,r1,q1⟩=>hc pins s1 σ H1 vs us Q I1 r1 q1) he hpl
theorem ZaZ (hc:Zdk X (.type T) r) (hg:Gl X x) (hm:X.mg x=none) (hv:bootBuiltins x=some (.type T)) (ha:PA X (e::es) t) (hn:x≠"__name__":=by decide) (hdb:(x == ("__debug__":Str))=false:=by decide)
  (he:starEach (e::es) X.env=(false,eval e X.env)::starEach es X.env:=by rfl) (hpl:(backTo pos (starEach es X.env)).any (·.1)=false:=by rfl):PE X (.Call (.Name x p) (e::es) [] pos) (tCB r t):=by
 intro pins s σ H Q I h
 refine wpAny_Call_Name_kw (Zef I hg hm hv ?_ hn hdb)
 exact PyProof.Rows.callWith_type1 (thn (ha pos pins s σ H _ I h) λus s1 ⟨vs,H1,I1,r1,q1⟩=>hc pins s1 σ H1 vs us Q I1 r1 q1) he hpl
end
end L2
namespace HT
open PySem PyProof.Rows
noncomputable def lexLt:List Int->List Int->Bool
 | [],[]=>false
 | [],_::_=>true
 | _::_,[]=>false
 | x::xs,y::ys=>if x=y then lexLt xs ys else decide (x < y)
theorem lexLt_cons (x y:Int) (xs ys:List Int):lexLt (x::xs) (y::ys)=if x=y then lexLt xs ys else decide (x < y):=rfl
theorem lexLt_nil_nil:lexLt [] []=false:=rfl
theorem Zfi (y:Int) (ys:List Int):lexLt [] (y::ys)=true:=rfl
theorem Zfj (x:Int) (xs:List Int):lexLt (x::xs) []=false:=rfl

theorem Zma (A:Around) (s:Shared) (a:Int) (t:Tok) (c:Int) (u:Tok):∃ e,SeqAt.EqAt A s (.int a t) (.int c u) e/\(e=true ↔ a=c) :=
 ⟨(a == c),SeqAt.EqAt.int_int a t c u,by simp⟩
theorem ZlE (A:Around) (s:Shared) (a:Int) (t:Tok) (c:Int) (u:Tok) (prog:Program) (w:World) (E:Value->Shared->Prop) (Q:Value->Shared->Prop) (h:Q (.bool (decide (a < c))) s) :
  wpAny (model prog w) A (richCompare .Lt (.int a t) (.int c u)) Q E s :=
 (PyProof.Rows.lt_int h:wpAny (model prog w) A (compareOp .Lt (.int a t) (.int c u)) Q E s)

section
open PySem.SeqAt
open PySem.AutoSeq1 (wpAny_loadPart')
open PySem.MeetsSeq PySem.MeetsSeq2 PySem.MeetsSeq3
theorem ZfN (l b:Addr) (items items2:Array Value) (n n2:Nat) (dd dd2:Option Addr) (sl sl2:Array (Option Value)) (ns ms:List Int) (hi:IntsAre items.toList ns) (hj:IntsAre items2.toList ms) :
  Meets (Builtin.«tuple.__lt__» ⟨[.ref l,.ref b],[]⟩)
   (λ_ R s=>s.heap.get? l=some { cls:=.type "tuple",dict:=dd,data:=.seq items n,slots:=sl }/\s.heap.get? b=some { cls:=.type "tuple",dict:=dd2,data:=.seq items2 n2,slots:=sl2 } /\
    R (.ok (.ret (.bool (lexLt ns ms)))) s) :=
 .of_wp λprog w A R s h=>by
  obtain ⟨hp,g,d,tk,os⟩:=s; obtain ⟨hl,hb,h⟩:=h
  have f2:=AutoSeq1.sub_tuple_tuple
  have z1:items.size=ns.length:=by rw [<- hi.length]; simp
  have z2:items2.size=ms.length:=by rw [<- hj.length]; simp
  wp_walk using wpAny_loadPart' hl,wpAny_loadPart' hb,wpAny_forIn_list _ (λrest b s'=>b.1=none/\s'=⟨hp,g,d,tk,os⟩/\∃ (vs ws:List Value) (ns' ms':List Int),rest=vs.zip ws /\
   IntsAre vs ns'/\IntsAre ws ms'/\ns'.length+items2.size=ms'.length+items.size/\R (.ok (.ret (.bool (lexLt ns' ms')))) ⟨hp,g,d,tk,os⟩) _
  case turn =>
   rintro ⟨y,x⟩ rest b s' ⟨hb',rfl,vs,ws,ns',ms',hz,hvi,hwi,hlen,hR⟩
   cases hvi with
   | nil=>rw [List.zip_nil_left] at hz; cases hz
   | cons a t hvi' =>
    cases hwi with
    | nil=>rw [List.zip_nil_right] at hz; cases hz
    | cons c u hwi' =>
     rw [List.zip_cons_cons] at hz
     injection hz with hyx hrest
     injection hyx with hy hx
     subst hy hx
     rw [lexLt_cons] at hR
     simp only [List.length_cons] at hlen
     obtain ⟨e,he,hiff⟩:=Zma A.in1 ⟨hp,g,d,tk,os⟩ a t c u
     refine wpAny_bind (he prog w _ _ ?_)
     cases e with
     | true =>
      rw [if_pos (hiff.mp rfl)] at hR
      wp_walk
      exact ⟨rfl,rfl,_,_,_,_,hrest,hvi',hwi',by omega,hR⟩
     | false =>
      rw [if_neg (λq=>absurd (hiff.mpr q) Bool.false_ne_true)] at hR
      have hri:=ZlE A.in1 ⟨hp,g,d,tk,os⟩ a t c u prog w
      wp_walk using hri
      exact ⟨_,rfl,by simpa using hR⟩
  case fin =>
   rintro ⟨b1,b2⟩ s' ⟨hb',rfl,vs,ws,ns',ms',hz,hvi,hwi,hlen,hR⟩
   simp only at hb'
   subst hb'
   have hv:lexLt ns' ms'=decide (items.size < items2.size):=by
    cases hvi with
    | nil =>
     cases hwi with
     | nil =>
      simp only [List.length_nil] at hlen
      rw [lexLt_nil_nil]
      exact (decide_eq_false (by omega)).symm
     | cons c u hw =>
      simp only [List.length_nil,List.length_cons] at hlen
      rw [Zfi]
      exact (decide_eq_true (by omega)).symm
    | cons a t hv =>
     cases hwi with
     | nil =>
      simp only [List.length_nil,List.length_cons] at hlen
      rw [Zfj]
      exact (decide_eq_false (by omega)).symm
     | cons c u hw =>
      rw [List.zip_cons_cons] at hz
      cases hz
   rw [hv] at hR
   wp_walk
   exact ⟨_,rfl,by simpa [Builtin.Tuple.tupleCompareSizes] using hR⟩
  case h =>
   exact ⟨rfl,rfl,items.toList,items2.toList,ns,ms,rfl,hi,hj,by omega,h⟩
end
section
variable {prog:Program} {w:World} {A:Around} {E:Value->Shared->Prop} {s:Shared}
theorem lt_tupInts {l b:Addr} {items items2:Array Value} {ns ms:List Int} {Q:Value->Shared->Prop} (hl:IsTup s.heap l items) (hb:IsTup s.heap b items2) (hi:IntsAre items.toList ns) (hj:IntsAre items2.toList ms)
  (hu:A.units < cLine) (h:Q (.bool (lexLt ns ms)) s):wpAny (model prog w) A (compareOp .Lt (.ref l) (.ref b)) Q E s:=by
 obtain ⟨⟨cls,dd,data,sl⟩,ho,hc,n,hd⟩:=id hl
 obtain ⟨⟨cls2,dd2,data2,sl2⟩,ho2,hc2,n2,hd2⟩:=id hb
 simp only at hc hd hc2 hd2
 subst hc hd hc2 hd2
 exact richCompare_meets_room (op:=.Lt) ⟨_,ho,rfl⟩ ⟨_,ho2,rfl⟩ PySem.F.slot_tuple_lt PySem.F.entry_tuple_lt (PySem.F.args_tuple_lt_2 _ _) (ZfN l b items items2 n n2 dd dd2 sl sl2 ns ms hi hj)
  ⟨ho,ho2,show Value.bool (lexLt ns ms)≠Value.notImplemented/\Q (.bool (lexLt ns ms)) s from ⟨(λx=>nomatch x),h⟩⟩ hu

theorem cat_tup {t b:Addr} {vs ws:List Value} {Q:Value->Shared->Prop} (ht:IsTup s.heap t vs.toArray) (hb:IsTup s.heap b ws.toArray) (hv:vs≠[])
  (h1:ws=[]->Q (.ref t) s) (h2:ws≠[]->Q (.ref s.heap.objs.size) { s with heap:=s.heap.push { cls:=.type "tuple",data:=.seq (vs++ws).toArray } })
  (hsz:vs.length+ws.length<=sizeLine):wpAny (model prog w) A (binaryOp .Add (.ref t) (.ref b)) Q E s:=by
 obtain ⟨⟨cls,dd,data,sl⟩,ho,hc,n,hd⟩:=id ht
 obtain ⟨⟨cls2,dd2,data2,sl2⟩,ho2,hc2,n2,hd2⟩:=id hb
 simp only at hc hd hc2 hd2
 subst hc hd hc2 hd2
 have e:vs.toArray++ws.toArray=(vs++ws).toArray:=by simp
 by_cases hw:ws=[]
 ·exact concat_meets ⟨_,ho,rfl⟩ ⟨_,ho2,rfl⟩ noFill_tuple_add seq_tuple_add PySem.F.slot_tuple_add PySem.F.entry_tuple_add (PySem.F.args_tuple_add_2 _ _)
   (tuple_addW1 t b vs.toArray ws.toArray n n2 dd dd2 sl sl2 (by simpa using hv) (by simp [hw])) ⟨ho,ho2,h1 hw⟩
 ·refine concat_meets ⟨_,ho,rfl⟩ ⟨_,ho2,rfl⟩ noFill_tuple_add seq_tuple_add PySem.F.slot_tuple_add PySem.F.entry_tuple_add (PySem.F.args_tuple_add_2 _ _)
   (tuple_addW2 t b vs.toArray ws.toArray n n2 dd dd2 sl sl2 (by simpa using hv) (by simpa using hw) (by rw [List.size_toArray,List.size_toArray]; exact hsz)) ⟨ho,ho2,?_⟩
  rw [e]
  exact h2 hw

noncomputable def sIx (n d:Nat):Option Int->Nat
 | none=>d
 | some v=>if v < 0 then (v+(n:Int)).toNat else min v.toNat n
theorem sIx_none (n d:Nat):sIx n d none=d:=rfl
theorem sIx_nat (n d k:Nat):sIx n d (some (k:Int))=min k n:=by
 show (if (k:Int) < 0 then ((k:Int)+(n:Int)).toNat else min (k:Int).toNat n)=min k n
 rw [if_neg (by omega),Int.toNat_natCast]
theorem Zpo (n d:Nat) (hd:d<=n) (o:Option Int):sIx n d o<=n:=by
 cases o with
 | none=>exact hd
 | some v =>
  show (if v < 0 then (v+(n:Int)).toNat else min v.toNat n)<=n
  by_cases hv:v < 0
  ·rw [if_pos hv]; omega
  ·rw [if_neg hv]; exact Nat.min_le_right _ _
theorem ZkS (v:Int) (n d:Nat):(if v < 0 then max (v+(n:Int)) 0 else min v (n:Int))=((sIx n d (some v):Nat):Int):=by
 show (if v < 0 then max (v+(n:Int)) 0 else min v (n:Int))=(((if v < 0 then (v+(n:Int)).toNat else min v.toNat n):Nat):Int)
 by_cases hv:v < 0
 ·rw [if_pos hv,if_pos hv,Int.ofNat_toNat]
 ·rw [if_neg hv,if_neg hv]
  obtain ⟨k,rfl⟩:=Int.eq_ofNat_of_zero_le (Int.not_lt.mp hv)
  rw [Int.toNat_natCast,<- Lean.Omega.Int.ofNat_min]
theorem Zjg (lo hi:Option Int) (n:Nat):Builtin.Slice.sliceAdjust lo hi 1 (n:Int)=(((sIx n 0 lo:Nat):Int),((sIx n n hi:Nat):Int)):=by
 have h1:¬ ((1:Int) < 0):=by omega
 unfold Builtin.Slice.sliceAdjust
 simp only [h1,if_false]
 refine Prod.ext ?_ ?_
 ·cases lo with
  | none=>rfl
  | some v=>exact ZkS v n 0
 ·cases hi with
  | none=>rfl
  | some v=>exact ZkS v n n
theorem ZiS (i j:Nat):Builtin.Slice.slicePlaces (i:Int) (j:Int) 1=j - i:=by
 unfold Builtin.Slice.slicePlaces
 have h1:(1:Int) > 0:=by omega
 simp only [h1,if_true,Int.ediv_one]
 split <;> omega
theorem Zfv {v:Value} {o:Option Int} {Q:Option Int->Shared->Prop} (p:IsPart v o) (h:Q o s):wpAny (model prog w) A (Builtin.Slice.slicePartIndex v) Q E s:=by
 cases p with
 | none=>exact slicePart_none h
 | int i t=>exact slicePart_int h
theorem sliceApplied_gen {sl:Addr} {vl vu:Value} {lo hi:Option Int} {n:Nat} {Q:Int×Int×Nat->Shared->Prop} (hs:s.heap.IsSliceOf sl vl vu .none) (pl:IsPart vl lo) (pu:IsPart vu hi)
  (h:Q (((sIx n 0 lo:Nat):Int),1,sIx n n hi - sIx n 0 lo) s):wpAny (model prog w) A (Builtin.Slice.sliceApplied (.ref sl) (pure (n:Int))) Q E s:=by
 obtain ⟨os,hos,hcs,hds⟩:=id hs
 unfold Builtin.Slice.sliceApplied Builtin.Slice.sliceFields
 refine wpAny_bind (wpAny_bind (wpAny_field hos hds (x:=vl) rfl (wpAny_bind (wpAny_field hos hds (x:=vu) rfl (wpAny_bind (wpAny_field hos hds (x:=.none) rfl (wpAny_pure ?_)))))))
 refine wpAny_bind (slicePart_none ?_)
 show wpAny _ _ (if ((1:Int) == 0)=true then _ else _) _ _ s
 rw [if_neg (by decide)]
 refine wpAny_bind (Zfv pl (wpAny_bind (Zfv pu (wpAny_bind (wpAny_pure ?_)))))
 show wpAny _ _ (match Builtin.Slice.sliceAdjust lo hi 1 (n:Int) with | (lo,hi)=>pure (lo,(1:Int),Builtin.Slice.slicePlaces lo hi 1)) _ _ s
 rw [Zjg lo hi n]
 show wpAny _ _ (pure (((sIx n 0 lo:Nat):Int),(1:Int),Builtin.Slice.slicePlaces ((sIx n 0 lo:Nat):Int) ((sIx n n hi:Nat):Int) 1)) _ _ s
 rw [ZiS]
 exact wpAny_pure h
theorem ZlK (xs:Array Value) (i k:Nat):((List.range k).filterMap λ(m:Nat)=>xs[((i:Int)+(m:Int) * 1).toNat]?).toArray=((xs.toList.drop i).take k).toArray:=by
 have e:(λ(m:Nat)=>xs[((i:Int)+(m:Int) * 1).toNat]?)=λm=>xs[i+m]?:=by
  funext m
  have:((i:Int)+(m:Int) * 1).toNat=i+m:=by omega
  rw [this]
 rw [e]
 have:=pick_run xs i k
 rw [List.filterMap_map] at this
 have e2:((λx=>xs[x]?) ∘ λx=>i+x)=λm=>xs[i+m]?:=rfl
 rw [e2] at this
 rw [this]

theorem getItem_tuple_cut {t sl:Addr} {items:Array Value} {vl vu:Value} {lo hi:Option Int} {Q:Value->Shared->Prop} (ht:IsTup s.heap t items) (hs:s.heap.IsSliceOf sl vl vu .none) (pl:IsPart vl lo) (pu:IsPart vu hi)
  (hw:¬ (sIx items.size 0 lo=0/\sIx items.size items.size hi=items.size))
  (h:Q (.ref s.heap.objs.size) { s with heap:=s.heap.push { cls:=.type "tuple",data:=.seq ((items.toList.drop (sIx items.size 0 lo)).take (sIx items.size items.size hi - sIx items.size 0 lo)).toArray } })
  (hsz:items.size<=sizeLine):wpAny (model prog w) A (getItem (.ref t) (.ref sl)) Q E s:=by
 have htake:sizeOk (.seq ((items.toList.drop (sIx items.size 0 lo)).take (sIx items.size items.size hi - sIx items.size 0 lo)).toArray):=by
  show ((items.toList.drop (sIx items.size 0 lo)).take (sIx items.size items.size hi - sIx items.size 0 lo)).toArray.size<=sizeLine
  rw [List.size_toArray,List.length_take,List.length_drop,Array.length_toList]
  exact Nat.le_trans (Nat.min_le_right _ _) (Nat.le_trans (Nat.sub_le _ _) hsz)
 have hj:sIx items.size items.size hi<=items.size:=Zpo _ _ (Nat.le_refl _) hi
 obtain ⟨os,hos,hcs,hds⟩:=id hs
 have hTs:s.TypeIs (.ref sl) "slice":=⟨os,hos,hcs⟩
 unfold getItem
 try with_reducible refine wpAny_holding ?_
 first | refine wpAny_bind (wpAny_pure ?_) | skip
 refine wpAny_bind (wpAny_sequenceKey ht.typeIs (by decide) ?_)
 refine wpAny_bind (wpAny_callSpecial?_slot (name:=Str.ofString "__getitem__") ht.typeIs PyProof.Rows.slot_tuple_getitem
  (wpAny_call_entry PyProof.Rows.slot_tuple_getitem ht.typeIs entry_tuple_getitem ?_ (args_tuple_getitem _ _)))
 show wpAny _ _ (Builtin.Tuple.tupleItemsOf (.ref t) >>= _) _ _ s
 refine wpAny_bind (tupleItemsOf_ ht ?_)
 refine wpAny_bind (wpAny_typeOf hTs ?_)
 rw [if_pos (by decide)]
 refine wpAny_bind (sliceApplied_gen hs pl pu ?_)
 have hno:¬ ((((sIx items.size 0 lo:Nat):Int) == 0 && (1:Int) == 1 && (sIx items.size items.size hi - sIx items.size 0 lo) == items.size)=true):=by
  intro q
  rw [Bool.and_eq_true,Bool.and_eq_true] at q
  have q1:((sIx items.size 0 lo:Nat):Int)=0:=eq_of_beq q.1.1
  have q2:sIx items.size items.size hi - sIx items.size 0 lo=items.size:=eq_of_beq q.2
  exact hw ⟨by omega,by omega⟩
 show wpAny _ _ (if (((sIx items.size 0 lo:Nat):Int) == 0 && (1:Int) == 1 && (sIx items.size items.size hi - sIx items.size 0 lo) == items.size)=true then _ else _) _ _ s
 rw [if_neg hno,ZlK]
 first
  | exact wpAny_bind (m:=Builtin.Tuple.tupleExact _) (wpAny_newObj_type (wpAny_pure ⟨_,rfl,wpAny_pure h⟩) htake)
  | exact wpAny_bind (m:=Builtin.Tuple.tupleExact _) (wpAny_newObj_type (wpAny_bind (wpAny_pure (wpAny_pure ⟨_,rfl,wpAny_pure h⟩))) htake)
  | exact wpAny_bind (wpAny_bind (m:=Builtin.Tuple.tupleExact _) (wpAny_newObj_type (wpAny_pure (wpAny_pure ⟨_,rfl,wpAny_pure h⟩)) htake))
  | exact wpAny_bind (wpAny_bind (m:=Builtin.Tuple.tupleExact _) (wpAny_newObj_type (wpAny_pure ⟨_,rfl,wpAny_pure h⟩) htake))
end
end HT
namespace L2
open PySem PySem.Spec PyProof.Rows
noncomputable abbrev TO:=St->Hp->(Option Int->Hp->Prop)->Prop
noncomputable def PO (X:Cx) (e:Option Expr) (t:TO):Prop :=
 ∀ (pins:List (Addr×Obj)) (s:Shared) (σ:St) (H:Hp) (Q:Option Int->Hp->Prop),Inv X pins σ H s->t σ H Q ->
  wpAny (model X.prog X.w) X.A (evalPart e X.env) (λu s'=>∃ o H',Inv X pins σ H' s'/\IsPart u o/\Q o H') X.xe s
noncomputable def Zno:TO:=λ_ H Q=>Q none H
noncomputable def tPart (t:TE):TO:=λσ H Q=>t σ H λx H1=>∃ i,x=.int i/\Q (some i) H1

theorem ZfD {ns:List Int}:∀ {us:List Value},Vals (ns.map V.int) us->IntsAre us ns:=by
 induction ns with
 | nil=>intro us r; rw [List.map_nil] at r; cases r; exact .nil
 | cons n ns ih =>
  intro us r
  rw [List.map_cons] at r
  cases r with
  | cons r1 r2 =>
   obtain ⟨t,e⟩:=r1
   subst e
   exact .cons n t (ih r2)

section
variable {X:Cx} {e:Expr} {te:TE} {lo hi:Option Expr} {tl th:TO} {pos p2:Pos}
theorem po_none:PO X none Zno:=by
 intro pins s σ H Q I h
 rw [evalPart_none]
 exact wpAny_pure ⟨none,H,I,.none,h⟩
theorem Zj0 (h:PE X e te):PO X (some e) (tPart te):=by
 intro pins s σ H Q I hw
 rw [evalPart_some]
 refine thn (h pins s σ H _ I hw) λu s1 hz0=>?_
 obtain ⟨x,H1,I1,r1,q1⟩:=hz0
 obtain ⟨i,rfl,q⟩:=q1
 obtain ⟨t,rfl⟩:=r1
 exact ⟨some i,H1,I1,.int i t,q⟩

noncomputable def SlR (X:Cx) (r:V->Option Int->Option Int->Hp->VK->Prop):Prop :=
 ∀ (pins:List (Addr×Obj)) (s:Shared) (σ:St) (H:Hp) (x:V) (v vl vu:Value) (lo hi:Option Int) (sl:Addr) (Q:VK),Inv X pins σ H s->RelV x v->s.heap.IsSliceOf sl vl vu .none->IsPart vl lo->IsPart vu hi->r x lo hi H Q ->
  ∃ T id,typeLookup (.type T) "__getitem__"=pure (some (.builtin id))/\s.TypeIs v T/\wpAny (model X.prog X.w) X.A (getItem v (.ref sl)) (EP X pins σ Q) X.xe s
theorem SlR.or {r r':V->Option Int->Option Int->Hp->VK->Prop} (h:SlR X r) (h':SlR X r'):SlR X (λx lo hi H Q=>r x lo hi H Q\/r' x lo hi H Q):=by
 intro pins s σ H x v vl vu lo hi sl Q I rx hs pl pu q
 rcases q with q | q
 ·exact h pins s σ H x v vl vu lo hi sl Q I rx hs pl pu q
 ·exact h' pins s σ H x v vl vu lo hi sl Q I rx hs pl pu q
noncomputable def tSl (r:V->Option Int->Option Int->Hp->VK->Prop) (te:TE) (tl th:TO):TE:=λσ H Q=>te σ H λx H1=>tl σ H1 λl H2=>th σ H2 λu H3=>r x l u H3 Q
theorem Zik {r:V->Option Int->Option Int->Hp->VK->Prop} (hr:SlR X r) (he:PE X e te) (hl:PO X lo tl) (hu:PO X hi th):PE X (.Subscript e (.Slice lo hi none p2) pos) (tSl r te tl th):=by
 intro pins s σ H Q I h
 refine Subscript_ (thn (he pins s σ H _ I h) λv s1 hz0=>?_)
 obtain ⟨x,H1,I1,r1,q1⟩:=hz0
 refine wpAny_Slice (thn (hl pins s1 σ H1 _ I1 q1) λvl s2 ⟨l,H2,I2,pl,q2⟩=>thn (hu pins s2 σ H2 _ I2 q2) λvu s3 hz0=>?_)
 obtain ⟨u,H3,I3,pu,q3⟩:=hz0
 rw [evalPart_none]
 refine wpAny_pure ?_
 have I4:Inv X pins σ H3 { s3 with heap:=s3.heap.push { cls:=.type "slice",data:=.fields #[vl,vu,.none] } }:=I3.kept (t':=s3.toks) λb ob q=>Heap.get?_push_of_some _ q
 obtain ⟨T,id,hT,ht,hg⟩:=hr pins { s3 with heap:=s3.heap.push { cls:=.type "slice",data:=.fields #[vl,vu,.none] } } σ H3 x v vl vu l u s3.heap.objs.size Q I4 r1 (Heap.IsSliceOf.new ..) pl pu q3
 show wpAny (model X.prog X.w) X.A (subscriptTail e (.Slice lo hi none p2) v (.ref s3.heap.objs.size)) (EP X pins σ Q) X.xe { s3 with heap:=s3.heap.push { cls:=.type "slice",data:=.fields #[vl,vu,.none] } }
 exact tail_any (ops:=[.ref s3.heap.objs.size,v]) ht hT hg (by with_unfolding_all rfl)

noncomputable def Zjq (xs:List V) (lo hi:Option Int):List V:=(xs.drop (HT.sIx xs.length 0 lo)).take (HT.sIx xs.length xs.length hi - HT.sIx xs.length 0 lo)
theorem ZeX (xs:List V) (lo hi:Option Int):(Zjq xs lo hi).length<=xs.length:=by
 unfold Zjq
 rw [List.length_take,List.length_drop]
 exact Nat.le_trans (Nat.min_le_right _ _) (Nat.sub_le _ _)
noncomputable def rSlT (K:PySem.W.Frag):V->Option Int->Option Int->Hp->VK->Prop:=λx lo hi H Q=>∃ a xs,x=.ref a/\SqT K H a xs /\
 ¬ (HT.sIx xs.length 0 lo=0/\HT.sIx xs.length xs.length hi=xs.length)/\∀ p,H p=none->Q (.ref p) (upd H p (.tup (Zjq xs lo hi)))
theorem sl_tup:SlR X (rSlT X.K):=by
 intro pins s σ H x v vl vu lo hi sl Q I rx hs pl pu h
 obtain ⟨a,xs,rfl,hx,hw,q⟩:=h
 cases rx
 obtain ⟨its,r,ht,hz⟩:=I.tuple hx
 have hlen:its.toArray.size=xs.length:=by rw [List.size_toArray]; exact r.length.symm
 refine ⟨"tuple",_,PyProof.Rows.slot_tuple_getitem.lookup,ht.typeIs,?_⟩
 refine HT.getItem_tuple_cut ht hs pl pu (by rw [hlen]; exact hw) ?_ (by rw [hlen]; exact hz)
 rw [hlen]
 refine ⟨.ref s.heap.objs.size,_,I.laid (t':=s.toks) (o:=.tup (Zjq xs lo hi)) (λb ob q=>Heap.get?_push_of_some _ q) (Nat.le_refl _) ?_,rfl,q _ (I.hok.fresh (Nat.le_refl _))⟩
 exact ⟨Nat.le_trans (ZeX xs lo hi) hz,_,(r.drop (HT.sIx xs.length 0 lo)).take (HT.sIx xs.length xs.length hi - HT.sIx xs.length 0 lo),IsTup.new _ _⟩

noncomputable def ZpB (K:PySem.W.Frag):R2:=λx y H Q=>∃ a b xs ys,x=.ref a/\y=.ref b/\SqT K H a xs/\SqT K H b ys/\xs≠[]/\xs.length+ys.length<=sizeLine /\
 (ys=[]->Q (.ref a) H)/\(ys≠[]->∀ p,H p=none->Q (.ref p) (upd H p (.tup (xs++ys))))
theorem Vals.nil_iff {xs:List V} {us:List Value} (r:Vals xs us):us=[] ↔ xs=[]:=by
 cases r with
 | nil=>simp
 | cons _ _=>simp
theorem op_catT:OpR X (binaryOp .Add) (ZpB X.K):=by
 intro pins s σ H x y v u Q I rx ry h
 obtain ⟨a,b,xs,ys,rfl,rfl,ha,hb,hx,hz,q1,q2⟩:=h
 cases rx
 cases ry
 obtain ⟨its,r1,p1,_⟩:=I.tuple ha
 obtain ⟨its2,r2,p2,_⟩:=I.tuple hb
 refine HT.cat_tup p1 p2 (λz=>hx (r1.nil_iff.mp z)) (λz=>⟨.ref a,H,I,rfl,q1 (r2.nil_iff.mp z)⟩) (λz=>?_) (by rw [<- r1.length,<- r2.length]; exact hz)
 refine ⟨.ref s.heap.objs.size,_,I.laid (t':=s.toks) (o:=.tup (xs++ys)) (λb ob q=>Heap.get?_push_of_some _ q) (Nat.le_refl _) ?_,rfl,q2 (λw=>z (r2.nil_iff.mpr w)) _ (I.hok.fresh (Nat.le_refl _))⟩
 exact ⟨by rw [List.length_append]; exact hz,_,r1.append r2,IsTup.new _ _⟩
end
end L2
namespace L2
open PySem PySem.Spec PyProof.Rows
noncomputable def ixN (n:Nat) (i:Int):Option Nat:=if 0<=i then (if i < n then some i.toNat else none) else if -(n:Int)<=i then some (i+n).toNat else none
noncomputable def atI {α:Type} (xs:List α) (i:Int):Option α:=(ixN xs.length i).bind λj=>xs[j]?
theorem Zkt {n:Nat} {i:Int} {j:Nat} (h:ixN n i=some j):seqIndex? i n=some j/\j < n/\-(n:Int)<=i/\i < n:=by
 unfold ixN at h
 by_cases h0:0<=i
 ·rw [if_pos h0] at h
  by_cases h1:i < n
  ·rw [if_pos h1] at h
   have e:i.toNat=j:=Option.some.inj h
   exact ⟨by rw [seqIndex_of h0 h1,e],by omega,by omega,h1⟩
  ·rw [if_neg h1] at h; cases h
 ·rw [if_neg h0] at h
  by_cases h1:-(n:Int)<=i
  ·rw [if_pos h1] at h
   have e:(i+n).toNat=j:=Option.some.inj h
   exact ⟨by rw [seqIndex_neg (by omega) h1,e],by omega,h1,by omega⟩
  ·rw [if_neg h1] at h; cases h
theorem Zgn {α:Type} {xs:List α} {i:Int} {v:α} (h:atI xs i=some v):∃ j,seqIndex? i xs.length=some j/\xs[j]?=some v/\j < xs.length/\-(xs.length:Int)<=i/\i < xs.length:=by
 unfold atI at h
 cases e:ixN xs.length i with
 | none=>rw [e] at h; cases h
 | some j =>
  rw [e] at h
  obtain ⟨h1,h2,h3,h4⟩:=Zkt e
  exact ⟨j,h1,h,h2,h3,h4⟩
theorem Zb9 {α:Type} {xs:List α} {j:Nat} {v:α} (h:xs[j]?=some v):atI xs (j:Int)=some v:=by
 have hj:j < xs.length:=(List.getElem?_eq_some_iff.mp h).1
 have e:ixN xs.length (j:Int)=some j:=by
  unfold ixN
  rw [if_pos (by omega),if_pos (by omega)]; simp
 unfold atI; rw [e]; exact h
noncomputable def Zh2 (b:Expr):Prop:=∀ o i,subscripted b false o i=operate [o,i] (getItem o i)
noncomputable def IxR (X:Cx) (r:R2):Prop :=
 ∀ (value slice:Expr) (pins:List (Addr×Obj)) (s:Shared) (σ:St) (H:Hp) (x y:V) (v u:Value) (Q:VK),Inv X pins σ H s->RelV x v->RelV y u->r x y H Q ->
  subscripted slice false v u=operate [v,u] (getItem v u)->wpAny (model X.prog X.w) X.A (subscriptTail value slice v u) (EP X pins σ Q) X.xe s
noncomputable def MtR (X:Cx) (id:String) (r:V->List V->Hp->VK->Prop):Prop :=
 ∀ (pins:List (Addr×Obj)) (s:Shared) (σ:St) (H:Hp) (x:V) (xs:List V) (v:Value) (us:List Value) (Q:VK),Inv X pins σ H s->RelV x v->Vals xs us->r x xs H Q ->
  wpAny (model X.prog X.w) X.A (call (.builtin id) (v::us)) (EP X pins σ Q) X.xe s
section
variable {X:Cx} {a b:Expr} {ta tb:TE} {pos:Pos}
theorem IxR.or {r r':R2} (h:IxR X r) (h':IxR X r'):IxR X (λx y H Q=>r x y H Q\/r' x y H Q):=by
 intro value slice pins s σ H x y v u Q I rx ry q hs
 rcases q with q | q
 ·exact h value slice pins s σ H x y v u Q I rx ry q hs
 ·exact h' value slice pins s σ H x y v u Q I rx ry q hs
theorem ZlM {r:R2} (hr:IxR X r) (ha:PE X a ta) (hb:PE X b tb) (hs:Zh2 b):PE X (.Subscript a b pos) (tOp r ta tb):=by
 intro pins s σ H Q I h
 exact Subscript_ (binT ha hb I h λv u s2 x y H2 I2 rx ry q=>hr a b pins s2 σ H2 x y v u Q I2 rx ry q (hs _ _))

noncomputable def rIxL (K:PySem.W.Frag):R2:=λx y H Q=>∃ p xs i v,x=.ref p/\y=.int i/\SqL K H p xs/\atI xs i=some v/\Q v H
noncomputable def rIxT (K:PySem.W.Frag):R2:=λx y H Q=>∃ p xs i v,x=.ref p/\y=.int i/\SqT K H p xs/\atI xs i=some v/\Q v H
noncomputable def rIxS:R2:=λx y H Q=>∃ z i c,x=.str z/\y=.int i/\z.length<=sizeLine/\atI z.cps.toList i=some c/\Q (.str ⟨#[c]⟩) H
theorem ix_list:IxR X (rIxL X.K):=by
 intro value slice pins s σ H x y v u Q I rx ry h hs
 obtain ⟨p,xs,i,z,rfl,rfl,hq,he,q⟩:=h
 cases rx
 obtain ⟨t,rfl⟩:=ry
 obtain ⟨its,r,pl,hz⟩:=I.list hq
 obtain ⟨j,h1,h2,h3,h4,h5⟩:=Zgn he
 obtain ⟨w,ew,rw'⟩:=r.get h2
 have hl:=r.length
 have hn:=Zee
 have fin:EP X pins σ Q w s:=⟨z,H,I,rw',q⟩
 by_cases h0:0<=i
 ·have hj:i.toNat=j:=by
   rw [seqIndex_of h0 h5] at h1
   exact Option.some.inj h1
  exact item_listR pl.isList h0 (by omega) (by rw [hj]; simpa using ew) fin hs
 ·have hj:(i+(its.toArray.size:Int)).toNat=j:=by
   rw [seqIndex_neg (by omega) h4] at h1
   rw [List.size_toArray,<- hl]
   exact Option.some.inj h1
  exact subscriptTail_builtinR (x:=w) pl.isList.typeIs slot_list_getitem.lookup
   (wpAny_getItem_list_neg (Q:=λr s'=>r=w/\EP X pins σ Q r s') pl.isList (by omega) (by rw [List.size_toArray] <;> omega) (by omega) (by rw [hj]; simpa using ew) ⟨rfl,fin⟩) hs
theorem ix_tup:IxR X (rIxT X.K):=by
 intro value slice pins s σ H x y v u Q I rx ry h hs
 obtain ⟨p,xs,i,z,rfl,rfl,hq,he,q⟩:=h
 cases rx
 obtain ⟨t,rfl⟩:=ry
 obtain ⟨its,r,pl,hz⟩:=I.tuple hq
 obtain ⟨j,h1,h2,h3,h4,h5⟩:=Zgn he
 obtain ⟨w,ew,rw'⟩:=r.get h2
 have hl:=r.length
 have hn:=Zee
 have fin:EP X pins σ Q w s:=⟨z,H,I,rw',q⟩
 exact subscriptTail_builtinR (x:=w) pl.typeIs slot_tuple_getitem.lookup
  (getItem_tuple (j:=j) (Q:=λr s'=>r=w/\EP X pins σ Q r s') pl (by omega) (by omega) (by rw [List.size_toArray,<- hl]; exact h1) (by simpa using ew) ⟨rfl,fin⟩) hs
theorem Zqj:IxR X rIxS:=by
 intro value slice pins s σ H x y v u Q I rx ry h hs
 obtain ⟨z,i,c,rfl,rfl,hz,he,q⟩:=h
 obtain ⟨t,rfl⟩:=rx
 obtain ⟨t',rfl⟩:=ry
 obtain ⟨j,h1,h2,h3,h4,h5⟩:=Zgn he
 have hl:z.cps.toList.length=z.length:=by simp [Str.length]
 rw [hl] at h1 h4 h5
 have hn:=Zee
 exact tail_any (typeIs_str s z t) slot_str_getitem.lookup (getItem_str (c:=c) (by
  have e1:decide (i < -(2 ^ 63:Int))=false:=decide_eq_false (by omega)
  have e2:decide (i ≥ 2 ^ 63)=false:=decide_eq_false (by omega)
  rw [e1,e2,Bool.or_false]) (by rw [h1]; simpa using h2) ⟨.str ⟨#[c]⟩,H,I.tok _,⟨_,rfl⟩,q⟩) hs
noncomputable def rIx (K:PySem.W.Frag):R2:=λx y H Q=>rIxL K x y H Q\/rIxT K x y H Q\/rIxS x y H Q
theorem Zaj:IxR X (rIx X.K):=ix_list.or (ix_tup.or Zqj)

theorem Zi2 (its:List Value) (n j:Nat) (u:Value):Obj.mapSeq (·.setIfInBounds j u) { cls:=.type "list",data:=.seq its.toArray n }={ cls:=.type "list",data:=.seq (its.set j u).toArray n }:=by
 simp [Obj.mapSeq]
theorem Inv.lst {pins:List (Addr×Obj)} {σ:St} {H:Hp} {s:Shared} {p:Addr} {xs:List V} (I:Inv X pins σ H s) (h:H p=some (.lst xs)) :
  ∃ (its:List Value) (n:Nat),Vals xs its/\s.heap.get? p=some { cls:=.type "list",data:=.seq its.toArray n }/\xs.length<=sizeLine:=by
 obtain ⟨z,its,n,r,e⟩:=I.hok p _ h
 exact ⟨its,n,r,e,z⟩
theorem Inv.lstUpd {pins:List (Addr×Obj)} {σ:St} {H:Hp} {s:Shared} {p:Addr} {xs ys:List V} {its its':List Value} {n n':Nat} {f:Obj->Obj} (I:Inv X pins σ H s) (h:H p=some (.lst xs))
  (ho:s.heap.get? p=some { cls:=.type "list",data:=.seq its.toArray n }) (hf:f { cls:=.type "list",data:=.seq its.toArray n }={ cls:=.type "list",data:=.seq its'.toArray n' }) (r:Vals ys its') (hz:ys.length<=sizeLine) (t:Nat) :
  Inv X pins σ (upd H p (.lst ys)) { s with heap:=s.heap.update p f,toks:=t }:=by
 have e:(s.heap.update p f).get? p=some { cls:=.type "list",data:=.seq its'.toArray n' }:=by
  rw [Heap.get?_update_self f ho (by rw [hf] <;> rfl),hf]
 refine I.write (x:=p) (e:=p) (by rw [h]; trivial) (.inl rfl) (λb u hb q=>(Heap.get?_update_other _ _ (Ne.symm hb)).trans q) ⟨_,e⟩ ?_
 exact ⟨hz,its',n',r,e⟩
noncomputable def ZnA:V->V->V->Hp->(Hp->Prop)->Prop:=λo i v H Q=>∃ p xs k j,o=.ref p/\i=.int k/\H p=some (.lst xs)/\ixN xs.length k=some j/\Q (upd H p (.lst (xs.set j v)))
theorem ZdH:PSet X ZnA:=by
 intro pins s σ H o i v ov iv u Q I ro ri rv h
 obtain ⟨p,xs,k,j,rfl,rfl,hp,hj,q⟩:=h
 cases ro
 obtain ⟨t,rfl⟩:=ri
 obtain ⟨its,n,r,ho,hz⟩:=I.lst hp
 obtain ⟨h1,h2,h3,h4⟩:=Zkt hj
 have hl:=r.length
 have hn:=Zee
 have I':Inv X pins σ (upd H p (.lst (xs.set j v))) { s with heap:=s.heap.update p (Obj.mapSeq (·.setIfInBounds j u)) } :=
  I.lstUpd hp ho (Zi2 its n j u) (r.set rv j) (by rw [List.length_set]; exact hz) s.toks
 by_cases h0:0<=k
 ·have hk:k.toNat=j:=by
   rw [seqIndex_of h0 h4] at h1
   exact Option.some.inj h1
  exact PySem.W.ki_setAt ho h0 (by omega) (by rw [List.size_toArray,<- hl]; exact h4) (by rw [hk]; exact ⟨_,I',q⟩)
 ·have hk:(k+(its.toArray.size:Int)).toNat=j:=by
   rw [seqIndex_neg (by omega) h3] at h1
   rw [List.size_toArray,<- hl]
   exact Option.some.inj h1
  exact PySem.W.ki_setBack ho (by omega) (by rw [List.size_toArray,<- hl]; exact h3) (by omega) (by rw [hk]; exact ⟨_,I',q⟩)

theorem ZiE {n:Nat} {i:Int} (h:i < 0):max 0 (min (i+(n:Int)) n)=(((i+n).toNat:Nat):Int):=by
 rw [Int.min_eq_left (by omega),Int.ofNat_toNat,Int.max_comm]
theorem ZgU {n:Nat} {i:Int} (h:¬ i < 0):max 0 (min i (n:Int))=((min i.toNat n:Nat):Int):=by
 obtain ⟨k,rfl⟩:=Int.eq_ofNat_of_zero_le (Int.not_lt.mp h)
 rw [Int.toNat_natCast,<- Lean.Omega.Int.ofNat_min]
 exact Int.max_eq_right (Int.natCast_nonneg _)
theorem Zgz (lo hi:Option Int) (n:Nat):(sliceBounds lo hi none n).1=((HT.sIx n 0 lo:Nat):Int)/\(sliceBounds lo hi none n).2.1=((HT.sIx n n hi:Nat):Int)/\(sliceBounds lo hi none n).2.2=1:=by
 refine ⟨?_,?_,rfl⟩
 ·cases lo with
  | none=>simp [sliceBounds,HT.sIx]
  | some i =>
   simp only [sliceBounds,HT.sIx,Option.getD_none,show (1:Int) > 0 by decide,if_true]
   by_cases h:i < 0
   ·simp only [h,if_true]
    exact ZiE h
   ·simp only [h,if_false]
    exact ZgU h
 ·cases hi with
  | none=>simp [sliceBounds,HT.sIx]
  | some i =>
   simp only [sliceBounds,HT.sIx,Option.getD_none,show (1:Int) > 0 by decide,if_true]
   by_cases h:i < 0
   ·simp only [h,if_true]
    exact ZiE h
   ·simp only [h,if_false]
    exact ZgU h
theorem ZfR (its:List Value) (lo hi:Option Int):slicePick its.toArray lo hi none=((its.drop (HT.sIx its.length 0 lo)).take (HT.sIx its.length its.length hi - HT.sIx its.length 0 lo)).toArray:=by
 obtain ⟨h1,h2,h3⟩:=Zgz lo hi its.toArray.size
 unfold slicePick
 rw [h1,h2,h3]
 simp only [sliceRange_one,pick_run,List.size_toArray] <;> rfl
noncomputable def rSlL (K:PySem.W.Frag):V->Option Int->Option Int->Hp->VK->Prop:=λx lo hi H Q=>∃ a xs,x=.ref a/\SqL K H a xs/\∀ p,H p=none->Q (.ref p) (upd H p (.lst (Zjq xs lo hi)))
theorem sl_list:SlR X (rSlL X.K):=by
 intro pins s σ H x v vl vu lo hi sl Q I rx hs pl pu h
 obtain ⟨a,xs,rfl,hx,q⟩:=h
 cases rx
 obtain ⟨its,r,ht,hz⟩:=I.list hx
 have hlen:=r.length
 refine ⟨"list",_,slot_list_getitem.lookup,ht.isList.typeIs,?_⟩
 refine wpAny_getItem_list_slice ht.isList hs pl pu .none (by simp) ?_ (by rw [List.size_toArray] <;> omega)
 rw [ZfR,<- hlen]
 refine ⟨.ref s.heap.objs.size,_,I.laid (t':=s.toks) (o:=.lst (Zjq xs lo hi)) (λb ob q=>Heap.get?_push_of_some _ q) (Nat.le_refl _) ?_,rfl,q _ (I.hok.fresh (Nat.le_refl _))⟩
 exact ⟨Nat.le_trans (ZeX xs lo hi) hz,_,0,(r.drop (HT.sIx xs.length 0 lo)).take (HT.sIx xs.length xs.length hi - HT.sIx xs.length 0 lo),Heap.get?_push_size _ rfl⟩

theorem ZaS:Zdk X (.builtin "len") (λxs H Q=>∃ p ys,xs=[.ref p]/\(SqL X.K H p ys\/SqT X.K H p ys)/\Q (.int ys.length) H):=by
 intro pins s σ H xs us Q I r h
 obtain ⟨p,ys,rfl,hq,q⟩:=h
 obtain ⟨u,rfl,rx⟩:=ZdY r
 cases rx
 have hn:=Zee
 rcases hq with hq | hq
 ·obtain ⟨its,r',pl,hz⟩:=I.list hq
  have hlen:=r'.length
  exact Calls.call_len_list pl.isList (by simp only [List.size_toArray] <;> omega) ⟨.int ys.length,H,I.tok _,⟨s.toks+1,by rw [List.size_toArray,hlen]⟩,q⟩
 ·obtain ⟨its,r',pl,hz⟩:=I.tuple hq
  have hlen:=r'.length
  exact len_tuple pl (by simp only [List.size_toArray] <;> omega) ⟨.int ys.length,H,I.tok _,⟨s.toks+1,by rw [List.size_toArray,hlen]⟩,q⟩
theorem Zeh:Zdk X (.type "list") (λxs H Q=>∃ p ys,xs=[.ref p]/\(SqL X.K H p ys\/SqT X.K H p ys)/\∀ l,H l=none->Q (.ref l) (upd H l (.lst ys))):=by
 intro pins s σ H xs us Q I r h
 obtain ⟨p,ys,rfl,hq,q⟩:=h
 obtain ⟨u,rfl,rx⟩:=ZdY r
 cases rx
 have fin:∀ (its:List Value),Vals ys its->ys.length<=sizeLine->∀ (h':Heap) (c':Nat),(∀ b o',s.heap.get? b=some o'->h'.get? b=some o') ->
   h'.get? s.heap.objs.size=some { cls:=.type "list",dict:=none,data:=.seq its.toArray c',slots:=#[] }->EP X pins σ Q (.ref s.heap.objs.size) { s with heap:=h' }:=λits r' hz h' c' kp e =>
  ⟨.ref s.heap.objs.size,_,I.laid (t':=s.toks) kp (Nat.le_refl _) (show ObjOk X.prog X.w _ h' _ (.lst ys) from ⟨hz,its,c',r',e⟩),rfl,q _ (I.hok.fresh (Nat.le_refl _))⟩
 rcases hq with hq | hq
 ·obtain ⟨its,r',pl,hz⟩:=I.list hq
  have hlen:=r'.length
  obtain ⟨o,ho,hc,n,hd⟩:=pl.isList
  exact call_list_seq p (.inl rfl) ho hc hd (λh' c' kp e=>fin its r' hz h' c' kp e) (by simp only [List.size_toArray] <;> omega)
 ·obtain ⟨its,r',pl,hz⟩:=I.tuple hq
  have hlen:=r'.length
  obtain ⟨o,ho,hc,n,hd⟩:=pl
  exact call_list_seq p (.inr rfl) ho hc hd (λh' c' kp e=>fin its r' hz h' c' kp e) (by simp only [List.size_toArray] <;> omega)
theorem Zbp:Zdk X (.type "tuple") (λxs H Q=>∃ p ys,xs=[.ref p]/\((SqL X.K H p ys/\∀ l,H l=none->Q (.ref l) (upd H l (.tup ys)))\/(SqT X.K H p ys/\Q (.ref p) H))):=by
 intro pins s σ H xs us Q I r h
 obtain ⟨p,ys,rfl,h⟩:=h
 obtain ⟨u,rfl,rx⟩:=ZdY r
 cases rx
 rcases h with ⟨hq,q⟩ | ⟨hq,q⟩
 ·obtain ⟨its,r',pl,hz⟩:=I.list hq
  have hlen:=r'.length
  refine call_tuple_list pl.isList (λh' kp=>?_) (by simp only [List.size_toArray] <;> omega)
  have I1:Inv X pins σ H { s with heap:=h' }:=I.kept (t':=s.toks) kp
  have I2:Inv X pins σ (upd H h'.objs.size (.tup ys)) { s with heap:=h'.push { cls:=.type "tuple",data:=.seq its.toArray } } :=
   I1.laid (t':=s.toks) (λb o e=>Heap.get?_push_of_some _ e) (Nat.le_refl _) (show ObjOk X.prog X.w _ _ _ (.tup ys) from ⟨hz,its,r',IsTup.new _ _⟩)
  exact ⟨.ref h'.objs.size,_,I2,rfl,q _ (I1.hok.fresh (Nat.le_refl _))⟩
 ·obtain ⟨its,r',pl,hz⟩:=I.tuple hq
  exact call_tuple_same pl ⟨.ref p,H,I,rfl,q⟩

noncomputable def tyV (K:PySem.W.Frag) (T:String) (x:V) (H:Hp):Prop:=match x with
 | .str _=>T="str"
 | .int _=>T="int"
 | .ref p=>(T="list"/\∃ xs,SqL K H p xs)\/(T="tuple"/\∃ o,K.lookup p=some o/\o.cls=.type "tuple"/\o.dict=none) \/
   (T="dict"/\((∃ kvs,H p=some (.dK kvs))\/∃ kvs,H p=some (.dT kvs)))\/(T="set"/\∃ S n,H p=some (.set S n))
 | _=>False
theorem ZmC {pins:List (Addr×Obj)} {σ:St} {H:Hp} {s:Shared} {T:String} {x:V} {v:Value} (I:Inv X pins σ H s) (r:RelV x v) (ty:tyV X.K T x H) :
  s.TypeIs v T/\∀ a,v=.ref a->∃ ob,s.heap.get? a=some ob/\ob.dict=none:=by
 cases x with
 | str z =>
  obtain ⟨t,rfl⟩:=r
  cases (show T="str" from ty)
  exact ⟨typeIs_str s z t,λ_ e=>nomatch e⟩
 | int i =>
  obtain ⟨t,rfl⟩:=r
  cases (show T="int" from ty)
  exact ⟨typeIs_int s i t,λ_ e=>nomatch e⟩
 | ref p =>
  cases r
  rcases ty with ⟨rfl,xs,hq⟩ | ⟨rfl,o,hk,hc,hd⟩ | ⟨rfl,hk⟩ | ⟨rfl,S,n,hk⟩
  ·obtain ⟨its,_,pl,_⟩:=I.list hq
   refine ⟨pl.isList.typeIs,λa e=>?_⟩
   cases e
   obtain ⟨o,n,e,c,hd,_⟩:=pl
   exact ⟨o,e,hd⟩
  ·refine ⟨⟨o,I.kIn p o hk,hc⟩,λa e=>?_⟩
   cases e
   exact ⟨o,I.kIn _ o hk,hd⟩
  ·have z:∃ o,s.heap.get? p=some o/\o.ExactDict:=by
    rcases hk with ⟨kvs,hk⟩ | ⟨kvs,hk⟩
    ·obtain ⟨_,_,_,_,o,_,_,e,ex,_⟩:=I.hok p _ hk
     exact ⟨o,e,ex⟩
    ·obtain ⟨_,_,_,_,o,_,_,e,ex,_⟩:=I.hok p _ hk
     exact ⟨o,e,ex⟩
   obtain ⟨o,e,ex⟩:=z
   refine ⟨⟨o,e,ex.1⟩,λa e2=>?_⟩
   cases e2
   exact ⟨o,e,ex.2.1⟩
  ·obtain ⟨o,_,_,_,e,ex,_⟩:=I.hok p _ hk
   refine ⟨⟨o,e,ex.1⟩,λa e2=>?_⟩
   cases e2
   exact ⟨o,e,ex.2.1⟩
 | _=>exact False.elim ty
noncomputable def tBM0 (K:PySem.W.Frag) (T:String) (r:V->List V->Hp->VK->Prop) (to:TE):TE:=λσ H Q=>to σ H λx H1=>tyV K T x H1/\r x [] H1 Q
noncomputable def tBM (K:PySem.W.Frag) (T:String) (r:V->List V->Hp->VK->Prop) (to:TE) (t:TA):TE:=λσ H Q=>to σ H λx H1=>tyV K T x H1/\t σ H1 λxs H2=>r x xs H2 Q
variable {o e:Expr} {es:List Expr} {to:TE} {t:TA} {name:Str} {apos cpos:Pos} {T id:String} {r:V->List V->Hp->VK->Prop}
theorem ZpT (pa:PlainAttrs T) (slot:Slot T name id) (hty:typeOf (.builtin id)=pure (.type "method_descriptor")) (hm:MtR X id r) (ho:PE X o to)
  (hbase:attributeBase o name X.env (eval o X.env)=eval o X.env:=by rfl) (hline:(apos.endLine == cpos.line)=true:=by rfl):PE X (.Call (.Attribute o name apos) [] [] cpos) (tBM0 X.K T r to):=by
 intro pins s σ H Q I h
 refine wpAny_Call_method0_late hbase hline (thn (ho pins s σ H _ I h) λv s1 hz0=>?_)
 obtain ⟨x,H1,I1,r1,ty,q1⟩:=hz0
 obtain ⟨h1,h2⟩:=ZmC I1 r1 ty
 exact ⟨T,id,pa,slot,hty,h1,h2,Calls.callWith_builtin rfl (PySem.evalArgs_none (hm pins s1 σ H1 x [] v [] Q I1 r1 .nil q1))⟩
theorem ZnL (pa:PlainAttrs T) (slot:Slot T name id) (hty:typeOf (.builtin id)=pure (.type "method_descriptor")) (hm:MtR X id r) (ho:PE X o to) (ha:PA X (e::es) t)
  (hbase:attributeBase o name X.env (eval o X.env)=eval o X.env:=by rfl)
  (hfew:((backTo cpos (starEach (e::es) X.env)).all (λx=>!x.1) && (backToKw cpos (keywordEach [] X.env)).all (λx=>x.1.isSome)
   && decide ((e::es).length+([]:List Keyword).length+(if ([]:List Keyword).isEmpty then 0 else 1) < 30))=true:=by rfl)
  (hline:(apos.endLine == cpos.line)=true:=by rfl) (hs:starEach (e::es) X.env=(false,eval e X.env)::starEach es X.env:=by rfl) (hplain:(backTo cpos (starEach es X.env)).any (·.1)=false:=by rfl) :
  PE X (.Call (.Attribute o name apos) (e::es) [] cpos) (tBM X.K T r to t):=by
 intro pins s σ H Q I h
 refine wpAny_Call_method_late hbase hfew hline rfl (thn (ho pins s σ H _ I h) λv s1 hz0=>?_)
 obtain ⟨x,H1,I1,r1,ty,q1⟩:=hz0
 obtain ⟨h1,h2⟩:=ZmC I1 r1 ty
 refine ⟨T,id,pa,slot,hty,h1,h2,?_⟩
 have hA:=ha cpos pins s1 σ H1 _ I1 q1
 rw [hs] at hA ⊢
 refine Calls.callWith_builtin (by show (false || (backTo cpos (starEach es X.env)).any (·.1))=false; rw [hplain] <;> rfl) (Calls.evalArgs_plain ?_)
 exact thn hA λus s2 hz0=>by
  obtain ⟨vs,H2,I2,r2,q2⟩:=hz0
  exact hm pins s2 σ H2 x vs v us Q I2 r1 r2 q2
end
end L2
namespace L2
open PySem PySem.Spec PyProof.Rows
noncomputable def MtM (X:Cx) (id:String) (r:V->List V->Hp->VK->Prop):Prop :=
 ∀ (pins:List (Addr×Obj)) (s:Shared) (σ:St) (H:Hp) (x:V) (xs:List V) (v:Value) (us:List Value) (Q:VK),Inv X pins σ H s->RelV x v->Vals xs us->r x xs H Q ->
  wpAny (model X.prog X.w) X.A (call (.builtin id) (v::us)) (EP X pins σ Q) X.xe s

theorem Vals.one {x:V} {us:List Value} (h:Vals [x] us):∃ u,us=[u]/\RelV x u:=by
 cases h with
 | cons r t=>cases t; exact ⟨_,rfl,r⟩
theorem Vals.zero:∀ {us:List Value},Vals [] us->us=[]
 | _,.nil=>rfl
theorem Vals.reverse {xs:List V} {us:List Value} (h:Vals xs us):Vals xs.reverse us.reverse:=by
 induction h with
 | nil=>exact .nil
 | cons r t ih=>rw [List.reverse_cons,List.reverse_cons]; exact Vals.append ih (.cons r .nil)
theorem Vals.rep {xs:List V} {us:List Value} (h:Vals xs us):∀ k:Nat,Vals (List.replicate k xs).flatten (List.replicate k us).flatten
 | 0=>.nil
 | k+1=>by
  rw [List.replicate_succ,List.replicate_succ,List.flatten_cons,List.flatten_cons]
  exact Vals.append h (Vals.rep h k)
theorem ZgR (its:List Value):∀ (k:Nat) (acc:List Value),
  List.foldl (λx1 x2=>x1++x2) acc.toArray (List.replicate k its.toArray)=(acc++(List.replicate k its).flatten).toArray
 | 0,acc=>by simp
 | k+1,acc=>by
  have e:acc.toArray++its.toArray=(acc++its).toArray:=by simp
  have e2:(acc++its)++(List.replicate k its).flatten=acc++(List.replicate (k+1) its).flatten:=by
   rw [List.replicate_succ,List.flatten_cons,List.append_assoc]
  rw [<- e2,<- ZgR its k (acc++its),<- e,List.replicate_succ,List.foldl_cons]

section
variable {X:Cx} {pins:List (Addr×Obj)} {σ:St} {H:Hp} {s:Shared} {l b:Addr} {xs ys zs:List V}
theorem Inv.lset {its its':List Value} {n:Nat} {f:Array Value->Array Value} {t':Nat} (I:Inv X pins σ H s) (hH:H l=some (.lst xs))
  (e:s.heap.get? l=some { cls:=.type "list",data:=.seq its.toArray n }) (hf:f its.toArray=its'.toArray) (hv:Vals ys its') (hz:ys.length<=sizeLine) :
  Inv X pins σ (upd H l (.lst ys)) { s with heap:=s.heap.update l (Obj.mapSeq f),toks:=t' }:=by
 have q:=PySem.IsL.update e f
 rw [hf] at q
 refine I.write (x:=l) (e:=l) (by rw [hH]; exact trivial) (.inl rfl) (λb' u hb hu=>(Heap.get?_update_other s.heap (Obj.mapSeq f) (Ne.symm hb)).trans hu) ⟨_,q⟩ ?_
 exact ⟨hz,its',_,hv,q⟩
theorem Inv.lnew {its:List Value} {t':Nat} (I:Inv X pins σ H s) (hv:Vals ys its) (hz:ys.length<=sizeLine) :
  Inv X pins σ (upd H s.heap.objs.size (.lst ys)) { s with heap:=s.heap.push { cls:=.type "list",data:=.seq its.toArray },toks:=t' } :=
 I.laid (λ_ _ q=>Heap.get?_push_of_some _ q) (Nat.le_refl _) ⟨hz,its,0,hv,Heap.get?_push_size _ rfl⟩
theorem Inv.fresh (I:Inv X pins σ H s):H s.heap.objs.size=none:=I.hok.fresh (Nat.le_refl _)
theorem Inv.lstM (I:Inv X pins σ H s) (hH:H l=some (.lst xs)):xs.length<=sizeLine/\∃ (its:List Value) (n:Nat),Vals xs its/\xs.length=its.length/\s.heap.get? l=some { cls:=.type "list",data:=.seq its.toArray n }:=by
 obtain ⟨z,its,n,r,e⟩:=I.hok l _ hH
 exact ⟨z,its,n,r,r.length,e⟩

theorem ZlR {n:Nat} (h:n<=sizeLine):Builtin.List.listTooLong n=false:=by
 unfold Builtin.List.listTooLong
 exact decide_eq_false (by omega)
end
section
variable {X:Cx}
noncomputable def ZjW:V->List V->Hp->VK->Prop:=λx vs H Q=>∃ l xs y,x=.ref l/\vs=[y]/\H l=some (.lst xs)/\xs.length < sizeLine/\Q .non (upd H l (.lst (xs++[y])))
theorem ZeP:MtM X "list.append" ZjW:=by
 intro pins s σ H x vs v us Q I rx rv h
 obtain ⟨l,xs,y,rfl,rfl,hH,hz,q⟩:=h
 cases rx
 obtain ⟨u,rfl,ru⟩:=rv.one
 obtain ⟨z,its,n,r,hl,e⟩:=I.lstM hH
 refine call_meets F.slot_list_append ⟨_,e,rfl⟩ F.entry_list_append (F.args_list_append_2 _ _) (PySem.list_append l its.toArray n u (by rw [List.size_toArray]; omega)) ⟨e,?_⟩
 refine ⟨.non,_,I.lset (its':=its++[u]) hH e (by simp) (r.append (.cons ru .nil)) ?_,rfl,q⟩
 rw [List.length_append,List.length_singleton]
 omega

noncomputable def Zih:V->List V->Hp->VK->Prop:=λx vs H Q=>∃ l xs,x=.ref l/\vs=[]/\H l=some (.lst xs)/\Q .non (upd H l (.lst xs.reverse))
theorem ZiW:MtM X "list.reverse" Zih:=by
 intro pins s σ H x vs v us Q I rx rv h
 obtain ⟨l,xs,rfl,rfl,hH,q⟩:=h
 cases rx
 have hus:=rv.zero
 subst hus
 obtain ⟨z,its,n,r,hl,e⟩:=I.lstM hH
 refine call_meets F.slot_list_reverse ⟨_,e,rfl⟩ F.entry_list_reverse (F.args_list_reverse_1 _) (AutoSeq1.list_reverse_list_0 l its.toArray n (by rw [List.size_toArray]; omega)) ⟨e,?_⟩
 refine ⟨.non,_,I.lset (its':=its.reverse) hH e (by simp) r.reverse ?_,rfl,q⟩
 rw [List.length_reverse]
 omega

noncomputable def rCat:R2:=λx y H Q=>∃ l b xs zs,x=.ref l/\y=.ref b/\H l=some (.lst xs)/\H b=some (.lst zs)/\xs.length+zs.length<=sizeLine/\∀ p,H p=none->Q (.ref p) (upd H p (.lst (xs++zs)))
theorem ZpY:OpR X (binaryOp .Add) rCat:=by
 intro pins s σ H x y v u Q I rx ry h
 obtain ⟨l,b,xs,zs,rfl,rfl,hH,hB,hz,q⟩:=h
 cases rx
 cases ry
 obtain ⟨z,its,n,r,hl,e⟩:=I.lstM hH
 obtain ⟨z2,its2,n2,r2,hl2,e2⟩:=I.lstM hB
 refine PySem.P.add_list e e2 ?_ (by rw [List.size_toArray,List.size_toArray]; omega)
 have ea:its.toArray++its2.toArray=(its++its2).toArray:=by simp
 rw [ea]
 exact ⟨.ref _,_,I.lnew (t':=s.toks) (r.append r2) (by rw [List.length_append]; omega),rfl,q _ I.fresh⟩
noncomputable def rRep:R2:=λx y H Q=>∃ l k xs,x=.ref l/\y=.int k/\H l=some (.lst xs)/\-(2 ^ 63)<=k/\k < 2 ^ 63/\xs.length * k.toNat<=sizeLine /\
 ∀ p,H p=none->Q (.ref p) (upd H p (.lst (List.replicate k.toNat xs).flatten))
theorem Zn1 {α:Type} (xs:List α) (k:Nat):(List.replicate k xs).flatten.length=k * xs.length:=by
 induction k with
 | zero=>simp
 | succ k ih=>rw [List.replicate_succ,List.flatten_cons,List.length_append,ih,Nat.succ_mul,Nat.add_comm]
theorem ZmT:OpR X (binaryOp .Mult) rRep:=by
 intro pins s σ H x y v u Q I rx ry h
 obtain ⟨l,k,xs,rfl,rfl,hH,h1,h2,hz,q⟩:=h
 cases rx
 obtain ⟨t,rfl⟩:=ry
 obtain ⟨z,its,n,r,hl,e⟩:=I.lstM hH
 have hlen:its.toArray.size * k.toNat<=sizeLine:=by rw [List.size_toArray,<- hl]; exact hz
 have hcap:¬ its.toArray.size * k.toNat > (2 ^ 63 - 1) / 8:=by
  have:(sizeLine:Nat)<=(2 ^ 63 - 1) / 8:=by decide
  omega
 have hfit:¬ (!Builtin.List.listFitsIndex k)=true:=by
  rw [fitsIndex_both h1 h2]
  exact Bool.false_ne_true
 have hlong:¬ Builtin.List.listTooLong (its.toArray.size * k.toNat)=true:=by
  rw [ZlR hlen]
  exact Bool.false_ne_true
 have hnew:List.foldl (λx1 x2=>x1++x2) #[] (List.replicate (if its.toArray.isEmpty=true then 0 else k.toNat) its.toArray)=(List.replicate k.toNat its).flatten.toArray:=by
  have f0:∀ m:Nat,List.foldl (λx1 x2=>x1++x2) #[] (List.replicate m its.toArray)=(List.replicate m its).flatten.toArray:=λm=>by
   have:=ZgR its m []
   rw [List.nil_append] at this
   exact this
  rw [f0]
  cases its with
  | nil=>simp
  | cons a r'=>rw [if_neg (by simp)]
 refine wpAny_binaryOp_repeat_ref (T:="list") (U:="int") (by decide) ⟨_,e,rfl⟩ (λs'=>typeIs_int s' k t) noFill_list_mul F.fills_int_mul F.slot_int_rmul repeat_list F.slot_int_index.lookup
  (call_meets F.slot_int_rmul (typeIs_int s k t) F.entry_int_rmul (F.args_int_rmul_2 _ _) (int___rmul___int_list k t l its.toArray n)
   ⟨e,rfl,⟨_,e,rfl⟩,call_meets F.slot_list_mul ⟨_,e,rfl⟩ F.entry_list_mul (F.args_list_mul_2 _ _) (AutoListH.list___mul___list_int_3 l its.toArray n k t hfit hcap hlong) ⟨e,?_⟩⟩)
 rw [hnew]
 exact ⟨.ref _,_,I.lnew (t':=s.toks) (r.rep k.toNat) (by rw [Zn1,Nat.mul_comm]; exact hz),rfl,q _ I.fresh⟩

end
section
variable {prog:Program} {w:World} {A:Around} {E:Value->Shared->Prop} {s:Shared}
end
section
variable {X:Cx}
end
end L2
namespace L2
open PySem PySem.Spec PyProof.Rows
section
variable {κ:Type} [DecidableEq κ]
noncomputable def Zia (kvs:List (κ×V)) (k:κ):Option V:=(kvs.find? λkv=>decide (kv.1=k)).map (·.2)
noncomputable def Zf2 (kvs:List (κ×V)) (k:κ) (v:V):List (κ×V) :=
 if (kvs.any λkv=>decide (kv.1=k))=true then kvs.map (λkv=>if kv.1=k then (kv.1,v) else kv) else kvs++[(k,v)]
theorem Zc8 {p:κ×V} {r:List (κ×V)} {k:κ} (e:p.1=k):Zia (p::r) k=some p.2:=by simp [Zia,List.find?_cons,e]
theorem Zc9 {p:κ×V} {r:List (κ×V)} {k:κ} (e:¬ p.1=k):Zia (p::r) k=Zia r k:=by simp [Zia,List.find?_cons,e]
theorem Zer (k:κ):∀ kvs:List (κ×V),(kvs.any λkv=>decide (kv.1=k))=(Zia kvs k).isSome
 | []=>rfl
 | p::r=>by
  rw [List.any_cons]
  by_cases e:p.1=k
  ·simp only [Zc8 e,decide_eq_true e,Bool.true_or,Option.isSome_some]
  ·rw [Zc9 e,decide_eq_false e,Bool.false_or]; exact Zer k r
theorem Zdu (kvs:List (κ×V)) (k:κ) (v:V):(Zf2 kvs k v).length<=kvs.length+1:=by
 unfold Zf2
 split
 ·rw [List.length_map]; omega
 ·rw [List.length_append,List.length_cons,List.length_nil]; omega
theorem RelO.isSome_eq {o:Option V} {u:Option Value} (r:RelO o u):o.isSome=u.isSome:=by
 cases o with
 | none=>cases u with
  | none=>rfl
  | some _=>exact (show False from r).elim
 | some _=>cases u with
  | none=>exact (show False from r).elim
  | some _=>rfl
theorem KV.val {kvs:List (κ×V)} {vs:List (κ×Value)} (r:KV kvs vs) (k:κ):RelO (Zia kvs k) (valueAt vs k):=by
 unfold KV at r
 induction r with
 | nil=>exact True.intro
 | @cons p q ps qs h t ih =>
  obtain ⟨h1,h2⟩:=h
  by_cases e:p.1=k
  ·have e':q.1=k:=h1.symm.trans e
   have b:valueAt (q::qs) k=some q.2:=by simp [valueAt,List.find?_cons,e']
   rw [Zc8 e,b]; exact h2
  ·have e':¬ q.1=k:=λz=>e (h1.trans z)
   have b:valueAt (q::qs) k=valueAt qs k:=by simp [valueAt,List.find?_cons,e']
   rw [Zc9 e,b]; exact ih
theorem KV.any {kvs:List (κ×V)} {vs:List (κ×Value)} (r:KV kvs vs) (k:κ):(kvs.any λkv=>decide (kv.1=k))=vs.any λkv=>decide (kv.1=k):=by
 unfold KV at r
 induction r with
 | nil=>rfl
 | cons h t ih=>rw [List.any_cons,List.any_cons,ih,h.1]
theorem KV.repl {kvs:List (κ×V)} {vs:List (κ×Value)} (r:KV kvs vs) (k:κ) {y:V} {u:Value} (ry:RelV y u) :
  KV (kvs.map λkv=>if kv.1=k then (kv.1,y) else kv) (vs.map λkv=>if kv.1=k then (kv.1,u) else kv):=by
 unfold KV at r ⊢
 induction r with
 | nil=>exact .nil
 | @cons p q ps qs h t ih =>
  rw [List.map_cons,List.map_cons]
  refine .cons ?_ ih
  obtain ⟨h1,h2⟩:=h
  by_cases e:p.1=k
  ·rw [if_pos e,if_pos (h1.symm.trans e)]; exact ⟨h1,ry⟩
  ·rw [if_neg e,if_neg (λz=>e (h1.trans z))]; exact ⟨h1,h2⟩
theorem KV.put {kvs:List (κ×V)} {vs:List (κ×Value)} (r:KV kvs vs) (k:κ) {y:V} {u:Value} (ry:RelV y u):KV (Zf2 kvs k y) (stored vs k u):=by
 unfold Zf2 stored
 rw [r.any k]
 by_cases e:(vs.any λkv=>decide (kv.1=k))=true
 ·rw [if_pos e,if_pos e]; exact r.repl k ry
 ·rw [if_neg e,if_neg e]; exact Paired.snoc r ⟨rfl,ry⟩
theorem KV.length {kvs:List (κ×V)} {vs:List (κ×Value)} (r:KV kvs vs):kvs.length=vs.length:=Paired.length r
end
theorem ZlX {P:Program} {w:World} {k:Key} {u:Value} (r:RelV (kV k) u):(Zbt P w).is k u=true:=by
 cases k with
 | inl i=>obtain ⟨t,e⟩:=(show ∃ t,u=Value.int i t from r); subst e; exact ZhF P w i t
 | inr x=>obtain ⟨t,e⟩:=(show ∃ t,u=Value.str x t from r); subst e; exact ZhE P w x t
theorem ZgO {P:Program} {w:World}:∀ {ks:List Key} {us:List Value},Vals (ks.map kV) us->ItemsAre (Zbt P w) ks us
 | [],_,r=>by rw [List.map_nil] at r; cases r; exact .nil
 | k::ks,_,r=>by
  rw [List.map_cons] at r
  cases r with
  | cons h t=>exact .cons (ZlX h) (ZgO t)

noncomputable abbrev KT (H:Hp):List (List Key×V)->List (List Key×Addr×Value)->Prop:=Paired λp q=>p.1=q.1/\H q.2.1=some (.tup (p.1.map kV))/\RelV p.2 q.2.2
theorem KT.val {H:Hp} {kvs:List (List Key×V)} {xs:List (List Key×Addr×Value)} (r:KT H kvs xs) (k:List Key):RelO (Zia kvs k) ((atKey xs k).map (·.2)):=by
 induction r with
 | nil=>exact True.intro
 | @cons p q ps qs h t ih =>
  obtain ⟨h1,_,h2⟩:=h
  by_cases e:p.1=k
  ·have e':q.1=k:=h1.symm.trans e
   have b:atKey (q::qs) k=some q.2:=by simp [atKey,List.find?_cons,e']
   rw [Zc8 e,b]; exact h2
  ·have e':¬ q.1=k:=λz=>e (h1.trans z)
   have b:atKey (q::qs) k=atKey qs k:=by simp [atKey,List.find?_cons,e']
   rw [Zc9 e,b]; exact ih
theorem KT.repl {H:Hp} {kvs:List (List Key×V)} {xs:List (List Key×Addr×Value)} (r:KT H kvs xs) (k:List Key) {y:V} {u:Value} (ry:RelV y u) :
  KT H (kvs.map λkv=>if kv.1=k then (kv.1,y) else kv) (xs.map (putAt k u)):=by
 induction r with
 | nil=>exact .nil
 | @cons p q ps qs h t ih =>
  rw [List.map_cons,List.map_cons]
  refine .cons ?_ ih
  obtain ⟨h1,h2,h3⟩:=h
  unfold putAt
  by_cases e:p.1=k
  ·rw [if_pos e,if_pos (h1.symm.trans e)]; exact ⟨h1,h2,ry⟩
  ·rw [if_neg e,if_neg (λz=>e (h1.trans z))]; exact ⟨h1,h2,h3⟩
theorem KT.put {H:Hp} {kvs:List (List Key×V)} {xs:List (List Key×Addr×Value)} (r:KT H kvs xs) (k:List Key) {b:Addr} {y:V} {u:Value} (hb:H b=some (.tup (k.map kV))) (ry:RelV y u) :
  KT H (Zf2 kvs k y) (storedH xs k b u):=by
 have e:(kvs.any λkv=>decide (kv.1=k))=(atKey xs k).isSome:=by
  rw [Zer,(r.val k).isSome_eq,Option.isSome_map]
 unfold Zf2 storedH
 rw [e]
 by_cases q:(atKey xs k).isSome=true
 ·rw [if_pos q,if_pos q]; exact r.repl k ry
 ·rw [if_neg q,if_neg q]; exact Paired.snoc r ⟨rfl,hb,ry⟩
theorem KT.keeps {H H':Hp} {kvs:List (List Key×V)} {xs:List (List Key×Addr×Value)} (r:KT H kvs xs) (ht:∀ b ys,H b=some (.tup ys)->H' b=some (.tup ys)):KT H' kvs xs :=
 Paired.mapP r λ_ _ z=>⟨z.1,ht _ _ z.2.1,z.2.2⟩

section
variable {P:Program} {w:World} {H:Hp} {h:Heap} {a:Addr}
theorem Zpw {u:HO} (ok:HOk P w H h) (e:Rd H a u):ObjOk P w H h a u:=e.ok ok
theorem Zon {kvs:List (Key×V)} (ok:HOk P w H h) (e:Rd H a (.dK kvs)):kvs.length<=sizeLine/\(a == sysModules)=false/\∃ vs,KV kvs vs/\h.DictOf (Zbt P w) a vs :=
 show ObjOk P w H h a (.dK kvs) from Zpw ok e
theorem ZqD {kvs:List (Key×V)} (ok:HOk P w H h) (e:H a=some (.dK kvs)):kvs.length<=sizeLine/\(a == sysModules)=false/\∃ vs,KV kvs vs/\h.DictOf (Zbt P w) a vs:=Zon ok (.inl e)
theorem Zkp {ks:List Key} (ok:HOk P w H h) (e:H a=some (.tup (ks.map kV))):(tupleKind (Zbt P w)).is h ks a:=by
 obtain ⟨_,its,r,o,h1,h2,n,h3⟩:=(show ObjOk P w H h a (.tup (ks.map kV)) from ok a _ e)
 exact ⟨o,its.toArray,n,h1,h2,h3,by simpa using ZgO r⟩
theorem Zom {kvs:List (List Key×V)} (ok:HOk P w H h) (e:Rd H a (.dT kvs)):kvs.length<=sizeLine/\(a == sysModules)=false /\
  ∃ xs,KT H kvs xs/\h.DictOfH (tupleKind (Zbt P w)) a xs:=by
 obtain ⟨z,y,xs,r,o,es,ep,h1,h2,h3,h4,h5⟩:=(show ObjOk P w H h a (.dT kvs) from Zpw ok e)
 refine ⟨z,y,xs,r,o,es,ep,h1,h2,h3,h4,λx hx=>?_,h5⟩
 have all:∀ {l:List (List Key×V)} {m:List (List Key×Addr×Value)},KT H l m->∀ x∈m,(tupleKind (Zbt P w)).is h x.1 x.2.1:=by
  intro l m q
  induction q with
  | nil=>intro x hx; exact nomatch hx
  | @cons p q ps qs hq t ih =>
   intro x hx
   rcases List.mem_cons.mp hx with e | hx
   ·subst e
    exact Zkp ok (by rw [<- hq.1]; exact hq.2.1)
   ·exact ih x hx
 exact all r x hx
theorem dt_of {kvs:List (List Key×V)} (ok:HOk P w H h) (e:H a=some (.dT kvs)):kvs.length<=sizeLine/\(a == sysModules)=false /\
  ∃ xs,KT H kvs xs/\h.DictOfH (tupleKind (Zbt P w)) a xs:=Zom ok (.inl e)
end
noncomputable def DGet (H:Hp) (a:Addr) (y:V) (r:Option V):Prop :=
 (∃ kvs k,Rd H a (.dK kvs)/\y=kV k/\r=Zia kvs k)\/∃ kvs k b,Rd H a (.dT kvs)/\y=.ref b/\H b=some (.tup (k.map kV))/\r=Zia kvs k
noncomputable def DPut (H:Hp) (a:Addr) (y v:V) (H':Hp):Prop :=
 (∃ kvs k,H a=some (.dK kvs)/\y=kV k/\kvs.length < sizeLine/\H'=upd H a (.dK (Zf2 kvs k v))) \/
 ∃ kvs k b,H a=some (.dT kvs)/\y=.ref b/\H b=some (.tup (k.map kV))/\kvs.length < sizeLine/\H'=upd H a (.dT (Zf2 kvs k v))
theorem DGet.k {H:Hp} {a:Addr} {kvs:List (Key×V)} {k:Key} (e:H a=some (.dK kvs)):DGet H a (kV k) (Zia kvs k):=.inl ⟨kvs,k,.inl e,rfl,rfl⟩
theorem DPut.k {H:Hp} {a:Addr} {kvs:List (Key×V)} {k:Key} {v:V} (e:H a=some (.dK kvs)) (hl:kvs.length < sizeLine):DPut H a (kV k) v (upd H a (.dK (Zf2 kvs k v))):=.inl ⟨kvs,k,e,rfl,hl,rfl⟩
section
variable {X:Cx} {pins:List (Addr×Obj)} {σ:St} {H:Hp} {s:Shared} {a:Addr} {y v:V} {u r:Value} {o:Option V} {A:Around} {E:Value->Shared->Prop}
theorem Inv.big (I:Inv X pins σ H s):sysModules < s.heap.objs.size:=by
 have h:mainGlobals < s.heap.objs.size:=(I.mod.glob.keeps I.bk).lt
 exact Nat.lt_trans (by decide) h

theorem ZkQ {Q:Value->Shared->Prop} (hu:A.units+1 < cLine) (I:Inv X pins σ H s) (g:DGet H a y (some v)) (ry:RelV y u) (h:∀ w' s',Inv X pins σ H s'->RelV v w'->Q w' s') :
  wpAny (model X.prog X.w) A (getItem (.ref a) u) Q E s:=by
 rcases g with ⟨kvs,k,e,ey,l⟩ | ⟨kvs,k,b,e,ey,eb,l⟩
 ·subst ey
  obtain ⟨z,hd,vs,rel,dd⟩:=Zon I.hok e
  obtain ⟨w',hw,rw'⟩:=RelO.some_of (v:=v) (o:=valueAt vs k) (by rw [l]; exact rel.val k)
  exact wpAny_getItem_of (ZlX ry) dd.mapOf hw (h w' _ (I.tok _) rw')
 ·subst ey
  cases (show u=Value.ref b from ry)
  obtain ⟨z,hd,xs,rel,dd⟩:=Zom I.hok e
  obtain ⟨w',hw,rw'⟩:=RelO.some_of (v:=v) (o:=(atKey xs k).map (·.2)) (by rw [l]; exact rel.val k)
  obtain ⟨p,hp,hp2⟩:=Option.map_eq_some_iff.mp hw
  refine wpAny_getItem_heap (tupleKind_room_in1 hu) (Zkp I.hok eb) dd hp ?_
  rw [hp2]
  exact h w' _ (I.tok _) rw'
theorem ZhO {h':Heap} {t':Nat} {ob:HO} (I:Inv X pins σ H s) (mu:Mut (H a)) (hs:Heap.SameBut a s.heap h') (he:∃ q,h'.get? a=some q) (new:ObjOk X.prog X.w (upd H a ob) h' a ob) :
  Inv X pins σ (upd H a ob) { s with heap:=h',toks:=t' } :=
 I.write (x:=a) (e:=a) mu (.inl rfl) (λb q hb z=>(hs.2 b hb).trans z) he new
theorem Zm4 {P:Program} {w:World} {H':Hp} {h':Heap} {kvs:List (Key×V)} {vs:List (Key×Value)} (z:kvs.length<=sizeLine) (hd:(a == sysModules)=false) (rel:KV kvs vs) (dd:h'.DictOf (Zbt P w) a vs) :
  ObjOk P w H' h' a (.dK kvs):=⟨z,hd,vs,rel,dd⟩
theorem ZkP {H':Hp} {Q:Unit->Shared->Prop} (hu:A.units+1 < cLine) (I:Inv X pins σ H s) (g:DPut H a y v H') (ry:RelV y u) (rv:RelV v r) (h:∀ s',Inv X pins σ H' s'->Q () s') :
  wpAny (model X.prog X.w) A (setItem (.ref a) u r) Q E s:=by
 rcases g with ⟨kvs,k,e,ey,l,eH⟩ | ⟨kvs,k,b,e,ey,eb,l,eH⟩
 ·subst ey eH
  obtain ⟨z,hd,vs,rel,dd⟩:=ZqD I.hok e
  have hz:vs.length<=sizeLine:=by rw [<- rel.length]; exact z
  have hl:(Zf2 kvs k v).length<=sizeLine:=by have:=Zdu kvs k v; omega
  refine wpAny_setItem_pairs (hsz:=hz) (ZlX ry) dd λh' dd' hs=>h _ ?_
  have he:∃ q,h'.get? a=some q:=let ⟨q,_,_,hq,_⟩:=dd'; ⟨q,hq⟩
  exact ZhO I (by rw [e]; exact True.intro) hs he (Zm4 hl hd (rel.put k rv) dd')
 ·subst ey eH
  cases (show u=Value.ref b from ry)
  obtain ⟨z,hd,xs,rel,dd⟩:=dt_of I.hok e
  have hz:xs.length<=sizeLine:=by rw [<- Paired.length rel]; exact z
  have hl:(Zf2 kvs k v).length<=sizeLine:=by have:=Zdu kvs k v; omega
  refine wpAny_setItem_heap (hsz:=hz) (tupleKind_room_in1 hu) (Zkp I.hok eb) dd λh' dd' hs=>h _ ?_
  obtain ⟨q,es,ep,hq,h2,h3,h4,_,h5⟩:=dd'
  refine ZhO I (by rw [e]; exact True.intro) hs ⟨q,hq⟩ ⟨hl,hd,_,(rel.put k eb rv).keeps λc ys ec=>?_,q,es,ep,hq,h2,h3,h4,h5⟩
  rw [Zau (Zkc ec e (λz=>nomatch z))]
  exact ec
end
section
variable {X:Cx} {pins:List (Addr×Obj)} {σ:St} {H:Hp} {s:Shared} {a:Addr} {kvs:List (Key×V)} {k:Key} {u:Value} {A:Around} {E:Value->Shared->Prop}
end
noncomputable def NoSl (i:Expr):Prop:=∀ ov iv,subscripted i false ov iv=operate [ov,iv] (getItem ov iv)
theorem Zns {prog:Program} {w:World} {A:Around} {E:Value->Shared->Prop} {s:Shared} {env:Env} {value slice:Expr} {pos:Pos} {T id:String} {Q:Value->Shared->Prop}
  (hl:typeLookup (.type T) "__getitem__"=pure (some (.builtin id))) (hs:NoSl slice)
  (h:wpAny (model prog w) A (eval value env) (λo s₁=>wpAny (model prog w) A (eval slice env) (λi s₂=>s₂.TypeIs o T/\wpAny (model prog w) A (getItem o i) Q E s₂) E s₁) E s) :
  wpAny (model prog w) A (eval (.Subscript value slice pos) env) Q E s:=by
 refine Subscript_ (wpAny_mono h (λo s₁ h₁=>wpAny_mono h₁ (λi s₂ h₂=>?_) λ_ _ x=>x) λ_ _ x=>x)
 obtain ⟨hT,h₂⟩:=h₂
 unfold subscriptTail
 refine wpAny_bind ?_
 rw [getitemInPython_of_ne hT.not_modules]
 refine wpAny_bind (wpAny_specialOf hT hl ?_)
 have fin:wpAny (model prog w) A (subscripted slice false o i) (λr s₃=>wpAny (model prog w) A (letTemporaryGo value o r >>= λ_=>pure r) Q E s₃) E s₂:=by
  rw [hs o i]
  exact wpAny_operating (wpAny_mono h₂ (λr s₃ h₃=>wpAny_bind (wpAny_letTemporaryGo (wpAny_pure h₃))) λ_ _ x=>x)
 first
  | exact wpAny_pure (wpAny_bind fin)
  | exact wpAny_bind (wpAny_pure (wpAny_bind fin))
  | exact wpAny_bind fin

theorem ZhN {X:Cx} {pins:List (Addr×Obj)} {σ:St} {H:Hp} {s:Shared} {a:Addr} {y:V} {o:Option V} (I:Inv X pins σ H s) (g:DGet H a y o):s.TypeIs (.ref a) "dict":=by
 rcases g with ⟨kvs,k,e,_,_⟩ | ⟨kvs,k,b,e,_,_,_⟩
 ·obtain ⟨_,_,vs,_,dd⟩:=Zon I.hok e
  exact dd.typeIs
 ·obtain ⟨_,_,xs,_,dd⟩:=Zom I.hok e
  exact dd.typeIs
noncomputable def tDGet (td ty:TE):TE:=λσ H Q=>td σ H λx H1=>ty σ H1 λy H2=>∃ a v,x=.ref a/\DGet H2 a y (some v)/\Q v H2
noncomputable def sDPut (td ty tv:TE):TS:=λD σ H=>tv σ H λv H1=>td σ H1 λx H2=>ty σ H2 λy H3=>∃ a H4,x=.ref a/\DPut H3 a y v H4/\D.nx σ H4
section
variable {X:Cx} {o i e value:Expr} {pos pos' tpos:Pos} {td ty tv:TE}
theorem ZcY (hu:X.A.units+1 < cLine) (ho:PE X o td) (hi:PE X i ty) (hs:NoSl i):PE X (.Subscript o i pos) (tDGet td ty):=by
 intro pins s σ H Q I h
 refine Zns PySem.F.slot_dict_getitem.lookup hs (thn (ho pins s σ H _ I h) λu s1 ⟨x,H1,I1,rx,q1⟩=>thn (hi pins s1 σ H1 _ I1 q1) λiv s2 hz0=>?_)
 obtain ⟨y,H2,I2,ry,a,v,ex,g,q2⟩:=hz0
 subst ex
 obtain rfl:u=Value.ref a:=rx
 exact ⟨ZhN I2 g,ZkQ hu I2 g ry λw' s3 I3 rw'=>⟨v,H2,I3,rw',q2⟩⟩
theorem Zhy (hu:X.A.units+1 < cLine) (ho:PE X o td) (hi:PE X i ty) (hv:PE X value tv) (hs:swapsWith value (some (.Subscript o i pos')) pos.line X.env=pure false) :
  PS X (.Assign [.Subscript o i pos'] value pos) (sDPut td ty tv):=by
 intro pins s σ H D I h
 refine wpAny_Assign_Subscript (thn (hv pins s σ H _ I h) λr s1 ⟨v,H1,I1,rv,q1⟩=>thn (ho pins s1 σ H1 _ I1 q1) λu s2 ⟨x,H2,I2,rx,q2⟩=>thn (hi pins s2 σ H2 _ I2 q2) λiv s3 hz0=>?_) hs
 obtain ⟨y,H3,I3,ry,a,H4,ex,g,q3⟩:=hz0
 subst ex
 obtain rfl:u=Value.ref a:=rx
 exact ZkP hu I3 g ry rv λs4 I4=>⟨σ,H4,I4,q3⟩
end
theorem Zmh {P:Program} {w:World} {H:Hp} (h:Heap) (hb:sysModules < h.objs.size):ObjOk P w H (h.push { cls:=.type "dict",data:=.dict #[] }) h.objs.size (.dK []) :=
 ⟨Nat.zero_le _,beq_eq_false_iff_ne.mpr (Ne.symm (Nat.ne_of_lt hb)),[],.nil,Heap.DictOf.new h⟩
section
variable {X:Cx} {pos:Pos}
end
noncomputable def ZjB:List (TE×TE)->St->Hp->(List (V×V)->Hp->Prop)->Prop
 | [],_,H,Q=>Q [] H
 | (tk,tv)::r,σ,H,Q=>tk σ H λx H1=>tv σ H1 λy H2=>ZjB r σ H2 λps H3=>Q ((x,y)::ps) H3
noncomputable abbrev VV:List (V×V)->List (Value×Value)->Prop:=Paired λp q=>RelV p.1 q.1/\RelV p.2 q.2
noncomputable def PPs (X:Cx) (pos:Pos) (keys:List (Option Expr)) (values:List Expr) (trs:List (TE×TE)):Prop :=
 ∀ (pins:List (Addr×Obj)) (s:Shared) (σ:St) (H:Hp) (Q:List (V×V)->Hp->Prop),Inv X pins σ H s->ZjB trs σ H Q ->
  wpAny (model X.prog X.w) X.A (evalPairs (pairTrees keys values X.env pos)) (λvs s'=>∃ ps H',Inv X pins σ H' s'/\VV ps vs/\Q ps H') X.xe s
theorem ZnD {X:Cx} {pos:Pos}:PPs X pos [] [] []:=λpins s σ H Q I h=>pairTrees_nil_walk ⟨[],H,I,.nil,h⟩
theorem Zf3 {X:Cx} {pos:Pos} {k v:Expr} {ks:List (Option Expr)} {vs:List Expr} {tk tv:TE} {trs:List (TE×TE)} (hk:PE X k tk) (hv:PE X v tv) (hr:PPs X pos ks vs trs) :
  PPs X pos (some k::ks) (v::vs) ((tk,tv)::trs):=λpins s σ H Q I h =>
 pairTrees_cons_walk (thn (hk pins s σ H _ I h) λu s1 ⟨x,H1,I1,rx,q1⟩=>thn (hv pins s1 σ H1 _ I1 q1) λw2 s2 ⟨y,H2,I2,ry,q2⟩ =>
  thn (hr pins s2 σ H2 _ I2 q2) λws s3 ⟨ps,H3,I3,rel,q3⟩=>⟨(x,y)::ps,H3,I3,.cons ⟨rx,ry⟩ rel,q3⟩)

noncomputable def ZgK (kvs more:List (Key×V)):List (Key×V):=more.foldl (λacc kv=>Zf2 acc kv.1 kv.2) kvs
theorem KV.merge:∀ {more:List (Key×V)} {rs:List (Key×Value)} {kvs:List (Key×V)} {vs:List (Key×Value)},KV more rs->KV kvs vs->KV (ZgK kvs more) (merged vs rs):=by
 intro more rs kvs vs r
 unfold KV at r
 induction r generalizing kvs vs with
 | nil=>intro q; exact q
 | @cons p q ps qs h t ih =>
  intro r0
  have e:KV (Zf2 kvs p.1 p.2) (stored vs q.1 q.2):=by
   have:=r0.put p.1 h.2
   rw [<- h.1]; exact this
  exact ih e
theorem ZdK:∀ (more kvs:List (Key×V)),(ZgK kvs more).length<=kvs.length+more.length
 | [],kvs=>by show kvs.length<=kvs.length+0; omega
 | p::r,kvs=>by
  have h1:=ZdK r (Zf2 kvs p.1 p.2)
  have h2:=Zdu kvs p.1 p.2
  show (ZgK (Zf2 kvs p.1 p.2) r).length<=_
  rw [List.length_cons]; omega
theorem ZfG {P:Program} {w:World}:∀ {kvs:List (Key×V)} {ws:List (Value×Value)},VV (kvs.map λkv=>(kV kv.1,kv.2)) ws->∃ rs,Carries (Zbt P w) ws rs/\KV kvs rs
 | [],_,r=>by rw [List.map_nil] at r; cases r; exact ⟨[],True.intro,.nil⟩
 | p::kvs,_,r=>by
  rw [List.map_cons] at r
  cases r with
  | @cons a b as bs h t =>
   obtain ⟨rs,c,q⟩:=ZfG (P:=P) (w:=w) t
   obtain ⟨b1,b2⟩:=b
   exact ⟨(p.1,b2)::rs,⟨ZlX h.1,rfl,c⟩,.cons ⟨rfl,h.2⟩ q⟩
noncomputable def tDisp (trs:List (TE×TE)):TE:=λσ H Q=>∀ p,H p=none->ZjB trs σ (upd H p (.dK [])) λps H2=>H2 p=some (.dK [])/\∃ kvs:List (Key×V),ps=kvs.map (λkv=>(kV kv.1,kv.2))/\kvs.length<=15/\Q (.ref p) (upd H2 p (.dK (ZgK [] kvs)))
theorem ZnI {X:Cx} {pos:Pos} {keys:List (Option Expr)} {values:List Expr} {trs:List (TE×TE)} (h:PPs X pos keys values trs) (hall:keys.all (·.isSome)=true) (hl:keys.length=values.length) (h0:keys≠[])
  (h15:keys.length<=15):PE X (.Dict keys values pos) (tDisp trs):=by
 intro pins s σ H Q I q
 have hn:=I.hok.fresh (Nat.le_refl s.heap.objs.size)
 have I1:=I.laid (a:=s.heap.objs.size) (o:=.dK []) (h':=s.heap.push { cls:=.type "dict",data:=.dict #[] }) (t':=s.toks) (λ_ _ q=>Heap.get?_push_of_some _ q) (Nat.le_refl _) (Zmh s.heap I.big)
 refine wpAny_Dict_walk (knd:=Zbt X.prog X.w) hall hl h0 h15 (thn (h pins _ σ _ _ I1 (q _ hn)) λws s2 hz0=>?_)
 obtain ⟨ps,H2,I2,rel,e,kvs,ep,lk,q2⟩:=hz0
 subst ep
 obtain ⟨rs,c,rk⟩:=ZfG (P:=X.prog) (w:=X.w) rel
 obtain ⟨z,hd,vs0,r0,dd⟩:=ZqD I2.hok e
 cases r0
 refine ⟨rs,c,dd,λh' dd' hs=>⟨.ref s.heap.objs.size,_,?_,rfl,q2⟩⟩
 have hz:(ZgK [] kvs).length<=sizeLine:=by
  have h1:=ZdK kvs []
  rw [List.length_nil] at h1
  rw [sizeLine_eq]; omega
 have he:∃ q,h'.get? s.heap.objs.size=some q:=let ⟨q,_,_,hq,_⟩:=dd'; ⟨q,hq⟩
 exact ZhO I2 (by rw [e]; exact True.intro) hs he (Zm4 hz hd (rk.merge .nil) dd')

section
variable {X:Cx} {pins:List (Addr×Obj)} {σ:St} {H:Hp} {s:Shared} {a:Addr} {y d:V} {u r:Value} {o:Option V} {A:Around} {E:Value->Shared->Prop}
end
section
variable {X:Cx} {o e f:Expr} {apos cpos:Pos} {td ty tx:TE}
end
section
variable {X:Cx} {pins:List (Addr×Obj)} {σ:St} {H:Hp} {s:Shared} {a:Addr} {kvs:List (Key×V)} {A:Around} {E:Value->Shared->Prop}
end
section
variable {X:Cx} {pins:List (Addr×Obj)} {σ:St} {H:Hp} {s:Shared} {a:Addr} {y:V} {u:Value} {A:Around} {E:Value->Shared->Prop}
end
end L2
namespace Att
open PySem PySem.W PySem.Calls PyProof.Rows
theorem ZeU {P:Params} {h:Heap}:∀ (ns:List Int) (vs:List Value),WellAll P h vs (ns.map WData.int)->IntsAre vs ns:=by
 intro ns
 induction ns with
 | nil =>
  intro vs w
  rw [List.map_nil] at w
  cases w
  exact .nil
 | cons n ns ih =>
  intro vs w
  rw [List.map_cons] at w
  cases w with
  | cons a b =>
   cases a
   exact .cons _ _ (ih _ b)

theorem ZjK {l:OpenLaw} {n:Nat} (hn:l.most=some n) {P:Params} {h:Heap} {args:List WData} {vals:List Value}
  (hpre:l.row.toRowW.claim.pre args=true) (hwl:WellAll P h vals args) :
  ∃ a vs ns,vals=[Value.ref a]/\args=[WData.list (ns.map WData.int)]/\h.get? a=some { cls:=.type "list",data:=.seq vs.toArray }/\IntsAre vs ns/\ns.length<=n:=by
 have hsh:WShape.hasAll [] args [.list .int]=true:=(pre_splitW hpre).1
 have hc:l.pre.holds [] { args:=args }=true:=(pre_splitW hpre).2
 obtain ⟨d,r,rfl,h1,h2⟩:=hasAllW_cons hsh
 obtain rfl:=hasAllW_nil h2
 obtain ⟨xs,rfl,h3⟩:=hasW_list h1
 obtain ⟨ns,rfl⟩:=items_int h3
 have hlen:ns.length<=n:=by
  unfold OpenLaw.pre at hc
  have h4:(WTm.not (.lt (.lit (.int (n:Int))) (.len (.arg 0)))).holds [] { args:=[.list (ns.map .int)] }=true:=by
   have h4:=(holds_andW hc).1
   rw [hn] at h4
   exact h4
  have h5:=condW_of h4 (w_not (w_lt w_lit (w_len_list (w_arg rfl))))
  rw [List.length_map] at h5
  refine Nat.le_of_not_lt λq=>?_
  have q':(n:Int) < ((ns.length:Nat):Int):=by omega
  first
   | (rw [decide_eq_true q'] at h5; exact absurd h5 (by decide))
   | (simp at h5; omega)
 cases hwl with
 | cons w1 w2 =>
  cases w2
  cases w1 with
  | list ho hall=>exact ⟨_,_,ns,rfl,rfl,ho,ZeU ns _ hall,hlen⟩

theorem ZjZ (l:OpenLaw) (args:List WData):l.row.toRowW.claim.post args (.bool true) args=true :=
 postW_of (r:=l.row.toRowW) (X:=(true == true))
  (show WShape.has [] (.bool true) .bool=true by first | rfl | decide | simp [WShape.has,WShape.arms,WShape.armsAll])
  (show (WTm.eq .res (.lit (.bool true))).value [] { args:=args,res:=some (.bool true),after:=args }=some (.bool (true == true)) from w_eq_bool (w_res rfl) w_lit) rfl

theorem attach_call {l:OpenLaw} {n:Nat} {q:Program} {loose:List Str} {XP:(Str->Option Value)->Heap->Prop} {YP:World->Heap->Prop} {d:DefRec}
  (hn:l.most=some n) (hdf:d.params.defaults=[])
  (call:∀ (w:World) (s₀ s₁:Shared) (mg mb:Str->Option Value) (fa:Addr) (o:Obj) (pm cd doc:Value) (a:Addr) (vs:List Value) (ns:List Int),
   Ground q loose [] XP w s₀ mg mb s₁.heap->YP w s₁.heap ->
   s₁.heap.get? fa=some o->o.data=.func (docDef d.name d.params d.body d.scope pm cd doc)->s₁.heap.CodeRec cd d.name->mg d.name=some (.ref fa) ->
   s₁.heap.get? a=some { cls:=.type "list",data:=.seq vs.toArray }->IntsAre vs ns->ns.length<=n->s₁.gens=#[] ->
   codeAny (model l.prog w) callerA (.call (.ref fa) ⟨[.ref a],[]⟩) (λr s'=>r=.ok (.ret (.bool true))/\OldK s₁.heap s'.heap/\s'.os=s₁.os/\AllBare s'.gens) s₁) :
  WalkO q loose XP YP l.row.toRowW d [] (λf vs=>PySem.call f vs):=by
 intro w s₀ s₁ mg mb G Y fa o pm cd doc dV kV ho hd hcd hD hmg hg args vals as hpre hlay hrd hwl hlo
 obtain rfl:dV=.none:=Dflts.none hD hdf
 obtain rfl:kV=.none:=Dflts.noKw hD
 obtain ⟨a,vs,ns,rfl,rfl,hobj,hints,hlen⟩:=ZjK hn hpre hwl
 refine enter_call (codeAny_mono (call w s₀ s₁ mg mb fa o pm cd doc a vs ns G Y ho (fd_plain hd) hcd hmg hobj hints hlen hg) λr s' hq=>?_)
 obtain ⟨rfl,h2,h3,h4⟩:=hq
 exact ⟨.inl ⟨.bool true,.bool true,[],rfl,λ_=>rfl,.bool true,ZjZ l _,λ_=>⟨List.Pairwise.nil,λ_ hm=>(nomatch hm)⟩⟩,h2,h3,h4⟩

section
variable {prog:Program} {w:World} {A:Around} {E:Value->Shared->Prop} {s:Shared} {K:Frag}
end
end Att
namespace L2
open PySem PySem.Spec PyProof.Rows
theorem Zjw {vs:List Value} {ns:List Int} (h:IntsAre vs ns):Vals (ns.map V.int) vs:=by
 induction h with
 | nil=>exact .nil
 | cons n t h ih=>exact .cons ⟨t,rfl⟩ ih

noncomputable def Only (H:Hp):Prop:=∀ b,H b=none\/∃ o xs,H b=some (.frz o (.lst xs))

theorem ZlW {P:Program} {w:World} {K:PySem.W.Frag} {mg mb:Str->Option Value} {CX:CXT} {k:Nat} {fa a:Addr} {fd:FuncData} {x:Str} {sp:Sp} {s₁:Shared} {vs:List Value} {ns:List Int}
  (KX:K.In s₁.heap) (hns:s₁.heap.Ns mainGlobals mg) (hb:s₁.heap.Ns builtinsNs mb) (hbb:∀ x:Str,x≠"__name__"->mb x=bootBuiltins x) (hlim:s₁.heap.NoLimit) (hdig:s₁.heap.NoDigits) (hg:s₁.gens=#[])
  (ha:s₁.heap.get? a=some { cls:=.type "list",data:=.seq vs.toArray }) (hi:IntsAre vs ns) (hl:ns.length<=sizeLine) (hr:Room k callerA)
  (F:∀ base:Heap,K.In base->base.Ns mainGlobals mg->FnOk P w K mg base CX k fa fd [x] sp) (hbind:∀ (s:Shared) (u:Value),BindsTo s fd ⟨[u],[]⟩ [(x,u)])
  (hsp:∀ H:Hp,Only H->SqL K H a (ns.map V.int)->sp [.ref a] H (λv _=>v=.bl true) λ_ _ _=>False)
  (hCX:∀ H e s',CX [] H s₁ (λ_ _ _=>False) e s'->False) :
  codeAny (model P w) callerA (.call (.ref fa) ⟨[.ref a],[]⟩) (λr s'=>r=.ok (.ret (.bool true))/\OldK s₁.heap s'.heap/\s'.os=s₁.os/\AllBare s'.gens) s₁:=by
 have rv:=Zjw hi
 have lenV:=hi.length
 -- from an abstract heap in which nothing but the script may be tracked
 have core:∀ H:Hp,Only H->SqL K H a (ns.map V.int)->HOk P w H s₁.heap->(∀ b,H b≠none->b=a)->(H a≠none->K.lookup a=none) ->
   codeAny (model P w) callerA (.call (.ref fa) ⟨[.ref a],[]⟩) (λr s'=>r=.ok (.ret (.bool true))/\OldK s₁.heap s'.heap/\s'.os=s₁.os/\AllBare s'.gens) s₁:=by
  intro H hO hS hok hA hK
  have base_of:∀ {b:Addr} {o:Obj},s₁.heap.get? b=some o->H b=none->(Zl5 s₁.heap H).get? b=some o:=λe n=>Zl4 e n
  have noA:∀ {b:Addr} {o:Obj} {es:Array DictEntry} {ep:Nat},s₁.heap.get? b=some o->o.data=.dict es ep->H b=none:=λ{b o es ep} e d=>by
   cases q:H b with
   | none=>rfl
   | some u =>
    have e':b=a:=hA b (by rw [q]; simp)
    subst e'
    rw [ha] at e; cases e
    have d':Data.seq vs.toArray _=Data.dict es ep:=d
    cases d'
  have nsK:∀ {b:Addr} {m:Str->Option Value},s₁.heap.Ns b m->(Zl5 s₁.heap H).Ns b m:=λ{b m} hz0=>by
   obtain ⟨o,es,ep,e,d,r⟩:=hz0
   exact ⟨o,es,ep,base_of e (noA e d),d,r⟩
  have hKb:K.In (Zl5 s₁.heap H):=λb o e=>base_of (KX b o e) (by
   cases q:H b with
   | none=>rfl
   | some u =>
    have e':b=a:=hA b (by rw [q]; simp)
    subst e'
    rw [hK (by rw [q]; simp)] at e; cases e)
  have hM:Mod K mg (Zl5 s₁.heap H):=⟨hKb,nsK hns,⟨mb,nsK hb,hbb⟩,let ⟨mc,h1,h2⟩:=hlim; ⟨mc,nsK h1,h2⟩,let ⟨mc,h1,h2⟩:=hdig; ⟨mc,nsK h1,h2⟩⟩
  have e0:Env0 P w K mg (Zl5 s₁.heap H) callerA [] s₁ H:=⟨rfl,hM,λb o e=>ZnP e,Nat.le_of_eq (Zkw _ _),trivial,λb hb=>absurd (show b∈([]:List Addr) from hb) (by simp),hok,.of_eq hg⟩
  refine codeAny_mono ((F _ hKb (nsK hns)).run callerA [] s₁ H ⟨[.ref a],[]⟩ [.ref a] [.ref a] _ _ hr e0 (hbind s₁ (.ref a)) (.cons rfl .nil) (hsp H hO hS)) λr s' h=>?_
  cases r with
  | error e=>exact (hCX H e s' h).elim
  | ok fl =>
   cases fl with
   | next=>exact False.elim h
   | brk=>exact False.elim h
   | cont=>exact False.elim h
   | ret u =>
    obtain ⟨v,H',os,bare,un,hok',r',q⟩:=h
    have q':v=.bl true:=q
    subst q'
    obtain rfl:u=Value.bool true:=r'
    refine ⟨rfl,OldK.of_keep λb o e=>?_,os,bare⟩
    cases q:H b with
    | none=>exact un.keep b o e q (by intro z; exact absurd (show b∈([]:List Addr) from z) (by simp)) (by simp)
    | some u =>
     rcases hO b with z | ⟨ob,xs,z⟩
     ·rw [q] at z; cases z
     ·have z2:=un.frzs b ob _ z
      obtain ⟨e1,_⟩:=hok b _ z
      obtain ⟨e2,_⟩:=hok' b _ z2
      rw [e] at e1; cases e1
      exact e2
 cases hk:K.lookup a with
 | some o =>
  -- the script is one of the module's own objects
  have e:=KX a o hk
  rw [ha] at e
  cases e
  refine core (λ_=>none) (λ_=>.inl rfl) (.inr ⟨_,vs.toArray,_,hk,rfl,rfl,rfl,by rw [List.size_toArray,lenV]; exact hl,by simpa using rv⟩) (λb u z=>by have z':(none:Option HO)=some u:=z; cases z') (λb z=>absurd rfl z) λz=>absurd rfl z
 | none =>
  refine core (λb=>if b=a then some (.frz { cls:=.type "list",data:=.seq vs.toArray } (.lst (ns.map V.int))) else none) (λb=>?_) (.inl (.inr ⟨{ cls:=.type "list",data:=.seq vs.toArray },if_pos rfl⟩)) (λb u z=>?_) (λb z=>?_) λ_=>hk
  ·by_cases hb:b=a
   ·exact .inr ⟨_,_,if_pos hb⟩
   ·exact .inl (if_neg hb)
  ·by_cases hb:b=a
   ·have z':=(if_pos hb).symm.trans z
    cases z'
    subst hb
    exact ⟨ha,by rw [List.length_map]; exact hl,vs,_,rv,ha⟩
   ·have z':=(if_neg hb).symm.trans z
    cases z'
  ·by_cases hb:b=a
   ·exact hb
   ·exact absurd (if_neg hb) z
end L2
namespace L2
open PySem PySem.Spec PyProof.Rows
noncomputable abbrev KOf {K:PySem.W.Frag} {h:Heap} (_:K.In h):PySem.W.Frag:=K

theorem Znh {l:PySem.W.OpenLaw} {n k:Nat} {q:Program} {loose:List Str} {XP:(Str->Option Value)->Heap->Prop} {YP:World->Heap->Prop} {d:DefRec} {K:Params->PySem.W.Frag} {CX:World->CXT} {sp:World->Sp} {x:Str}
  (hn:l.most=some n) (hn2:n<=sizeLine) (hdf:d.params.defaults=[]) (hr:Room k callerA)
  (hY:∀ (w:World) (h:Heap),YP w h->(K w.params).In h)
  (F:∀ (w:World) (mg:Str->Option Value) (fa:Addr) (h:Heap),(K w.params).In h->h.Ns mainGlobals mg->mg d.name=some (.ref fa) ->
   ∃ fd:FuncData,(∀ (s:Shared) (u:Value),BindsTo s fd ⟨[u],[]⟩ [(x,u)]) /\
    ∀ base:Heap,(K w.params).In base->base.Ns mainGlobals mg->FnOk l.prog w (K w.params) mg base (CX w) k fa fd [x] (sp w))
  (hsp:∀ (w:World) (H:Hp) (a:Addr) (ns:List Int),ns.length<=n->Only H->SqL (K w.params) H a (ns.map V.int)->sp w [.ref a] H (λv _=>v=.bl true) λ_ _ _=>False)
  (hCX:∀ (w:World) (H:Hp) (s:Shared) (e:Value) (s':Shared),CX w [] H s (λ_ _ _=>False) e s'->False) :
  PySem.W.WalkO q loose XP YP l.row.toRowW d [] (λf vs=>PySem.call f vs):=by
 refine Att.attach_call hn hdf λw s₀ s₁ mg mb fa o pm cd doc a vs ns G Y ho hd hcd hmg hobj hints hlen hg=>?_
 have KX:=hY w _ Y
 obtain ⟨fd,hb,hF⟩:=F w mg fa _ KX G.T.g hmg
 exact ZlW KX G.T.g G.T.b G.T.builtins G.T.nolimit G.T.nodigits hg hobj hints (Nat.le_trans hlen hn2) hr hF hb (λH hO hS=>hsp w H a ns hlen hO hS) λH e s'=>hCX w H s₁ e s'
theorem walk_ofK {l:PySem.W.OpenLaw} {n k:Nat} {q:Program} {loose:List Str} {XP:(Str->Option Value)->Heap->Prop} {YP:World->Heap->Prop} {d:DefRec} {K:Params->PySem.W.Frag} {CX:CXT} {sp:PySem.W.Frag->Sp} {x:Str}
  (hn:l.most=some n) (hn2:n<=sizeLine) (hdf:d.params.defaults=[]) (hr:Room k callerA)
  (hY:∀ (w:World) (h:Heap),YP w h->(K w.params).In h)
  (F:∀ (w:World) (mg:Str->Option Value) (fa:Addr) (h:Heap),(K w.params).In h->h.Ns mainGlobals mg->mg d.name=some (.ref fa) ->
   ∃ fd:FuncData,(∀ (s:Shared) (u:Value),BindsTo s fd ⟨[u],[]⟩ [(x,u)]) /\
    ∀ base:Heap,(K w.params).In base->base.Ns mainGlobals mg->FnOk l.prog w (K w.params) mg base CX k fa fd [x] (sp (K w.params)))
  (hsp:∀ (K:PySem.W.Frag) (H:Hp) (a:Addr) (ns:List Int),ns.length<=n->Only H->SqL K H a (ns.map V.int)->sp K [.ref a] H (λv _=>v=.bl true) λ_ _ _=>False)
  (hCX:∀ (H:Hp) (s:Shared) (e:Value) (s':Shared),CX [] H s (λ_ _ _=>False) e s'->False) :
  PySem.W.WalkO q loose XP YP l.row.toRowW d [] (λf vs=>PySem.call f vs) :=
 Znh (K:=K) (CX:=λ_=>CX) (sp:=λw=>sp (K w.params)) hn hn2 hdf hr hY F (λw H a ns h1 h2 h3=>hsp (K w.params) H a ns h1 h2 h3) λ_ H s e s'=>hCX H s e s'
end L2
namespace L2
open PySem PySem.Spec PyProof.Rows
noncomputable def Zd6 (s:Stmt):Arguments:=match s with
 | .FunctionDef _ a _ _ _ _ _ _ _ _=>a
 | _=>{ posonlyargs:=[],args:=[],vararg:=none,kwonlyargs:=[],kw_defaults:=[],kwarg:=none,defaults:=[] }
noncomputable def Zcp (s:Stmt):List Stmt:=match s with
 | .FunctionDef _ _ b _ _ _ _ _ _ _=>b
 | _=>[]
noncomputable def Zah (s:Stmt):Scope:=match s with
 | .FunctionDef _ _ _ _ _ _ sc _ _ _=>sc
 | _=>{ kind:=.function,names:=[],isGenerator:=false,isCoroutine:=false }

noncomputable abbrev CX0:CXT:=λ_ _ _ _ _ _=>False
noncomputable abbrev E0:XK:=λ_ _ _=>False
theorem pass0 {X:Cx}:Zle CX0 X E0:=λ_ _ _ _ _ _ _ h=>h.elim

structure Fun (K:PySem.W.Frag) (x qual:Str) (st:Stmt) (f:Addr) (fd:FuncData):Prop where
 ex:∃ (oc:Value) (od:Option Addr) (kV doc pm:Value) (an:Option Addr) (cdv ct:Value) (osl:Array (Option Value)),
  fd=PySem.W.fnOf x qual (Zd6 st) (Zcp st) (Zah st) .none kV doc pm an cdv ct/\K.lookup f=some ⟨oc,od,.func fd,osl⟩/\PySem.W.codeIn K cdv qual=true
 kp:PySem.W.keepIn K (.ref f)=true
section
variable {P:Program} {w:World} {K:PySem.W.Frag} {mg:Str->Option Value} {base:Heap}
theorem Fun.ok {x qual:Str} {st:Stmt} {f:Addr} {fd:FuncData} {N ps:List Str} {k:Nat} {sp:Sp} (F:Fun K x qual st f fd) (S:FnScope N ps (Zah st)) (len:∀ vs H Q E,sp vs H Q E->vs.length=ps.length)
  (hbody:∀ (cdv:Value) (A:Around) (outer:List Env) (s:Shared) (H:Hp) (vs:List V) (Q:VK) (E:XK),Room k (A.deeper (envOfC qual (Zah st) s.heap.objs.size f cdv))->sp vs H Q E ->
   ∃ t,PSs (Zmj CX0 P w K mg base N qual (Zah st) f cdv A outer s H E).nox (Zcp st) t/\t { nx:=λ_ H'=>Q .non H',rt:=Q } (start N vs) H):FnOk P w K mg base CX0 (k+1) f fd ps sp:=by
 obtain ⟨oc,od,kV,doc,pm,an,cdv,ct,osl,rfl,lk,hcd⟩:=F.ex
 refine fn_of lk hcd S len λA outer s H vs Q E hr hsp=>?_
 obtain ⟨t,h,q⟩:=hbody cdv A outer s H vs Q E hr hsp
 exact ⟨t,h.nox,q⟩
theorem Fun.binds {x qual:Str} {st:Stmt} {f:Addr} {fd:FuncData} {ps:List Str} (F:Fun K x qual st f fd)
  (h:∀ (kV doc pm:Value) (an:Option Addr) (cdv ct:Value) (us:List Value),us.length=ps.length->bindArgs (PySem.W.fnOf x qual (Zd6 st) (Zcp st) (Zah st) .none kV doc pm an cdv ct) ⟨us,[]⟩=pure (ps.zip us)):Binds K fd ps []:=by
 obtain ⟨oc,od,kV,doc,pm,an,cdv,ct,osl,rfl,lk,hcd⟩:=F.ex
 exact .all (h kV doc pm an cdv ct)
theorem Zqs {x qual:Str} {st:Stmt} {f:Addr} {oc:Value} {od an:Option Addr} {osl:Array (Option Value)} {kV doc pm cdv ct:Value} (l:K.lookup f=some ⟨oc,od,.func (PySem.W.fnOf x qual (Zd6 st) (Zcp st) (Zah st) .none kV doc pm an cdv ct),osl⟩)
  (c:PySem.W.codeIn K cdv qual=true) (k:PySem.W.keepIn K (.ref f)=true):Fun K x qual st f (PySem.W.fnOf x qual (Zd6 st) (Zcp st) (Zah st) .none kV doc pm an cdv ct):=⟨⟨oc,od,kV,doc,pm,an,cdv,ct,osl,rfl,l,c⟩,k⟩
end
theorem Zl3 {A:Around} {k:Nat} (hr:Room k A):A.units+1 < cLine:=Nat.lt_of_le_of_lt (Nat.add_le_add_left (by decide:1<=64) _) hr.units
section
variable {X:Cx}
theorem pv (i:Nat) {x:Str} {pos:Pos} (hN:X.N[i]?=some x:=by rfl) (hv:Vis X.env.scope x:=by first | exact Or.inl rfl | exact Or.inr (Or.inl rfl) | exact Or.inr (Or.inr rfl)) (hd:(x == ("__debug__":Str))=false:=by decide)
  (hcd:(x == ("__classdict__":Str))=false:=by decide):PE X (.Name x pos) (Zjp i):=ZpP hN hv hd hcd
end
theorem ite2 {c A B:Prop} [Decidable c] (h1:c->A) (h2:¬ c->B):if c then A else B:=by
 by_cases h:c
 ·rw [if_pos h]
  exact h1 h
 ·rw [if_neg h]
  exact h2 h
noncomputable def Same (H H':Hp):Prop:=∀ b o,H b=some o->H' b=some o
theorem Same.refl (H:Hp):Same H H:=λ_ _ h=>h
theorem Same.seq {K:PySem.W.Frag} {H H':Hp} {a:Addr} {xs:List V} (e:Same H H') (h:SqL K H a xs):SqL K H' a xs:=by
 rcases h with (h | ⟨o,h⟩) | h
 ·exact .inl (.inl (e _ _ h))
 ·exact .inl (.inr ⟨o,e _ _ h⟩)
 ·exact .inr h

end L2
set_option Elab.async false
set_option linter.all false
set_option maxRecDepth 100000
namespace L2
open PySem PySem.Spec PyProof.Rows
structure Blk where
 cl:List (Str×Addr)
 C:Addr
 s:Shared
 H:Hp
 fp:List Addr
 pn:List (Addr×Obj)

noncomputable def cxC (X:Cx) (N:List Str) (scope:Scope) (b:Blk):Cx where
 prog:=X.prog
 w:=X.w
 K:=X.K
 mg:=X.mg
 base:=X.base
 A:=X.A
 N:=N
 s₀:=b.s
 H₀:=b.H
 env:=compEnvC scope b.cl b.C X.env
 outer:=X.stack
 stack:=X.stack
 ex:=b.fp
 fn:=λx=>scope.names.lookup x == some .cell
 calm:=X.calm
 pn:=b.pn
 xe:=λ_ _=>False

noncomputable def bN (Nx ts:List Str) (ix:List Nat):List Str:=ts++ix.map λj=>(Nx[j]?).getD Str.empty
noncomputable def bSt (n:Nat) (ix:List Nat) (σ:St):St:=List.replicate n none++ix.map λj=>(σ[j]?).getD none

structure BlkOk (Nx:List Str) (sc scope:Scope) (ix:List Nat):Prop where
 kind:scope.kind=.function
 cells:∀ y∈scope.names,y.2=.cell->scope.names.lookup y.1=some .cell
 locs:∀ y∈scope.names,y.2=.local->scope.names.lookup y.1=some .local
 frees:∀ y∈scope.names,y.2=.free->sc.names.lookup y.1=some .cell\/sc.names.lookup y.1=some .free
 caps:∀ j∈ix,j < Nx.length/\scope.names.lookup ((Nx[j]?).getD Str.empty)=some .free

theorem Zdx {env:Env} {f:Str×NameKind->List (Str×Addr)->Sem (ForInStep (List (Str×Addr)))}
  (h1:∀ n k r,k≠NameKind.free->f (n,k) r=pure (.yield r)) (h2:∀ n r c,env.cells.lookup n=some c->f (n,NameKind.free) r=pure (.yield ((n,c)::r))) :
  ∀ (names:List (Str×NameKind)) (acc:List (Str×Addr)),(∀ y∈names,y.2=.free->∃ c,env.cells.lookup y.1=some c)->(∀ x c,acc.lookup x=some c->env.cells.lookup x=some c) ->
   ∃ cl,forIn names acc f=pure cl/\(∀ x c,cl.lookup x=some c->env.cells.lookup x=some c)/\(∀ y∈names,y.2=.free->∃ c,cl.lookup y.1=some c)/\∀ x c,acc.lookup x=some c->∃ c',cl.lookup x=some c'
 | [],acc,_,ha=>⟨acc,rfl,ha,(λ_ h=>nomatch h),λx c h=>⟨c,h⟩⟩
 | (n,k)::names,acc,hn,ha=>by
  have hn':∀ y∈names,y.2=.free->∃ c,env.cells.lookup y.1=some c:=λy hy=>hn y (List.mem_cons_of_mem _ hy)
  by_cases hk:k=.free
  ·subst hk
   obtain ⟨c,hc⟩:=hn (n,.free) List.mem_cons_self rfl
   have ha':∀ x d,((n,c)::acc).lookup x=some d->env.cells.lookup x=some d:=λx d e=>by
    rw [List.lookup_cons] at e
    cases hx:x == n with
    | true =>
     rw [hx] at e
     have hxn:x=n:=by simpa using hx
     subst hxn
     cases e
     exact hc
    | false =>
     rw [hx] at e
     exact ha x d e
   obtain ⟨cl,e,p1,p2,p3⟩:=Zdx h1 h2 names ((n,c)::acc) hn' ha'
   refine ⟨cl,?_,p1,λy hy hf=>?_,λx d hx=>?_⟩
   ·rw [List.forIn_cons,h2 n acc c hc,pure_bind]
    exact e
   ·rcases List.mem_cons.mp hy with rfl | hy
    ·exact p3 n c (by simp)
    ·exact p2 y hy hf
   ·by_cases e1:x=n
    ·subst e1
     exact p3 x c (by simp)
    ·exact p3 x d (by rw [List.lookup_cons,beq_false_of_ne e1]; exact hx)
  ·obtain ⟨cl,e,p1,p2,p3⟩:=Zdx h1 h2 names acc hn' ha
   refine ⟨cl,?_,p1,λy hy hf=>?_,p3⟩
   ·rw [List.forIn_cons,h1 n k acc hk,pure_bind]
    exact e
   ·rcases List.mem_cons.mp hy with rfl | hy
    ·exact absurd hf hk
    ·exact p2 y hy hf

theorem Zd7 {scope:Scope} {env:Env} (hn:∀ y∈scope.names,y.2=.free->∃ c,env.cells.lookup y.1=some c) :
  ∃ cl,closureFor scope env=pure cl/\(∀ x c,cl.lookup x=some c->env.cells.lookup x=some c)/\∀ y∈scope.names,y.2=.free->∃ c,cl.lookup y.1=some c:=by
 unfold closureFor
 have key:=Zdx (env:=env) (f:=λ(x:Str×NameKind) (r:List (Str×Addr))=>match x with
  | (name,kind)=>if (kind == NameKind.free)=true then (do let a <- cellOf env name; pure (ForInStep.yield ((name,a)::r))) else pure (ForInStep.yield r))
  (λn k r hk=>by
   have hb:(k == NameKind.free)=false:=by simpa using hk
   show (if (k == NameKind.free)=true then _ else _)=_
   rw [hb]
   rfl)
  (λn r c hc=>by
   show (do let a <- cellOf env n; pure (ForInStep.yield ((n,a)::r)))=_
   unfold cellOf
   rw [hc]
   rfl) scope.names [] hn (λx c h=>by simp at h)
 obtain ⟨cl,e,p1,p2,_⟩:=key
 refine ⟨cl,?_,p1,p2⟩
 show (forIn scope.names [] _ >>= λr=>pure r)=pure cl
 exact (congrArg (λt=>t >>= λr=>pure r) e).trans (pure_bind _ _)

section
variable {X:Cx} {pins:List (Addr×Obj)} {σ:St} {H:Hp} {s:Shared}
theorem ZgD {scope:Scope} {env:Env} {x:Str} (h:scope.names.lookup x=some .free):(relabel scope env).names.lookup x=some .cell\/(relabel scope env).names.lookup x=some .free:=by
 unfold relabel
 show List.lookup x (scope.names.map _)=_\/List.lookup x (scope.names.map _)=_
 generalize scope.names=l at h
 induction l with
 | nil=>simp at h
 | cons p r ih =>
  obtain ⟨n,k⟩:=p
  rw [List.map_cons]
  cases hx:x == n with
  | true =>
   rw [List.lookup_cons,hx] at h
   have hk:k=.free:=by simpa using h
   subst hk
   by_cases hc:(NameKind.free == NameKind.free && env.scope.kind == .function && env.kindOf n == some .cell)=true
   ·refine .inl ?_
    show List.lookup x ((if (NameKind.free == NameKind.free && env.scope.kind == .function && env.kindOf n == some .cell)=true then (n,NameKind.cell) else (n,NameKind.free))::_)=_
    rw [if_pos hc,List.lookup_cons,hx]
   ·refine .inr ?_
    show List.lookup x ((if (NameKind.free == NameKind.free && env.scope.kind == .function && env.kindOf n == some .cell)=true then (n,NameKind.cell) else (n,NameKind.free))::_)=_
    rw [if_neg hc,List.lookup_cons,hx]
  | false =>
   rw [List.lookup_cons,hx] at h
   have key:∀ q:Str×NameKind,(q=(n,NameKind.cell)\/q=(n,k))->∀ l',List.lookup x (q::l')=List.lookup x l':=λq hq l'=>by
    rcases hq with rfl | rfl <;> rw [List.lookup_cons,hx]
   have hq:(if (k == NameKind.free && env.scope.kind == .function && env.kindOf n == some .cell)=true then (n,NameKind.cell) else (n,k))=(n,NameKind.cell)\/(if (k == NameKind.free && env.scope.kind == .function && env.kindOf n == some .cell)=true then (n,NameKind.cell) else (n,k))=(n,k):=by
    split
    ·exact .inl rfl
    ·exact .inr rfl
   rcases ih h with z | z
   ·exact .inl ((key _ hq _).trans z)
   ·exact .inr ((key _ hq _).trans z)

theorem ZgE {scope:Scope} {env:Env} {x:Str} (h:(relabel scope env).names.lookup x=some .cell\/(relabel scope env).names.lookup x=some .free):∃ y∈scope.names,y.1=x/\(y.2=.free\/y.2=.cell):=by
 unfold relabel at h
 have h':List.lookup x (scope.names.map λ(n,k)=>if (k == .free && env.scope.kind == .function && env.kindOf n == some .cell) then (n,NameKind.cell) else (n,k))=some .cell\/List.lookup x (scope.names.map λ(n,k)=>if (k == .free && env.scope.kind == .function && env.kindOf n == some .cell) then (n,NameKind.cell) else (n,k))=some .free:=h
 clear h
 generalize scope.names=l at h'
 induction l with
 | nil=>simp at h'
 | cons p r ih =>
  obtain ⟨n,k⟩:=p
  rw [List.map_cons] at h'
  cases hx:x == n with
  | true =>
   have hxn:x=n:=by simpa using hx
   by_cases hk:k=.free
   ·exact ⟨(n,k),List.mem_cons_self,hxn.symm,.inl hk⟩
   ·
    have hb:(k == NameKind.free)=false:=by simpa using hk
    have e:(if (k == NameKind.free && env.scope.kind == .function && env.kindOf n == some .cell)=true then (n,NameKind.cell) else (n,k))=(n,k):=by
     rw [hb]
     rfl
    have h2:List.lookup x ((n,k)::r.map λ(n,k)=>if (k == .free && env.scope.kind == .function && env.kindOf n == some .cell) then (n,NameKind.cell) else (n,k))=some .cell\/List.lookup x ((n,k)::r.map λ(n,k)=>if (k == .free && env.scope.kind == .function && env.kindOf n == some .cell) then (n,NameKind.cell) else (n,k))=some .free:=by
     rw [<- e]
     exact h'
    rw [List.lookup_cons,hx] at h2
    rcases h2 with z | z
    ·exact ⟨(n,k),List.mem_cons_self,hxn.symm,.inr (Option.some.inj z)⟩
    ·exact absurd (Option.some.inj z) hk
  | false =>
   have hq:∀ q:Str×NameKind,(q=(n,NameKind.cell)\/q=(n,k))->∀ l',List.lookup x (q::l')=List.lookup x l':=λq hq l'=>by
    rcases hq with rfl | rfl <;> rw [List.lookup_cons,hx]
   have hqq:(if (k == NameKind.free && env.scope.kind == .function && env.kindOf n == some .cell)=true then (n,NameKind.cell) else (n,k))=(n,NameKind.cell)\/(if (k == NameKind.free && env.scope.kind == .function && env.kindOf n == some .cell)=true then (n,NameKind.cell) else (n,k))=(n,k):=by
    split
    ·exact .inl rfl
    ·exact .inr rfl
   obtain ⟨y,hy,e⟩:=ih (by
    rcases h' with z | z
    ·exact .inl ((hq _ hqq _).symm.trans z)
    ·exact .inr ((hq _ hqq _).symm.trans z))
   exact ⟨y,List.mem_cons_of_mem _ hy,e⟩

theorem ZfF:∀ (names:List (Str×NameKind)) (h:Heap) (acc:List (Str×Addr)),
  (∀ x c,(cellsFrom h.objs.size names acc).lookup x=some c->acc.lookup x=some c\/(h.objs.size<=c/\(pushCells h names).IsCell c none/\(x,NameKind.cell)∈names)) /\
  (∀ x,((x,NameKind.cell)∈names\/∃ c,acc.lookup x=some c)->∃ c,(cellsFrom h.objs.size names acc).lookup x=some c) /\
  (∀ x c,(x,NameKind.cell)∈names->(cellsFrom h.objs.size names acc).lookup x=some c->h.objs.size<=c) /\
  ((∀ x c,acc.lookup x=some c->c < h.objs.size)->(∀ x y c,acc.lookup x=some c->acc.lookup y=some c->x=y)->∀ x y c,(cellsFrom h.objs.size names acc).lookup x=some c->(cellsFrom h.objs.size names acc).lookup y=some c->x=y):=by
 intro names
 induction names with
 | nil=>intro h acc; exact ⟨λx c e=>.inl e,λx e=>by rcases e with e | e; cases e; exact e,λx c e=>(by cases e),λ_ i=>i⟩
 | cons p r ih =>
  obtain ⟨name,kind⟩:=p
  intro h acc
  unfold cellsFrom pushCells
  by_cases hk:kind=.cell
  ·subst hk
   have hk':((NameKind.cell == NameKind.cell)=true):=rfl
   rw [if_pos hk',if_pos hk']
   have ih':=ih (h.push { cls:=.type "cell",data:=.cell none }) ((name,h.objs.size)::acc)
   rw [Heap.size_push] at ih'
   obtain ⟨i1,i2,i4,i3⟩:=ih'
   refine ⟨λx c e=>?_,λx e=>?_,λx c e1 e2=>?_,λhb hi=>i3 (λx c e=>?_) λx y c e1 e2=>?_⟩
   ·rcases i1 x c e with z | ⟨z1,z2,z3⟩
    ·rw [List.lookup_cons] at z
     cases hx:x == name with
     | true =>
      rw [hx] at z
      have hxn:x=name:=by simpa using hx
      cases z
      exact .inr ⟨Nat.le_refl _,⟨_,pushCells_keeps _ _ _ _ (Heap.get?_push_size _ rfl),rfl⟩,by rw [hxn]; exact List.mem_cons_self⟩
     | false=>rw [hx] at z; exact .inl z
    ·exact .inr ⟨by omega,z2,List.mem_cons_of_mem _ z3⟩
   ·refine i2 x ?_
    by_cases hx:x=name
    ·exact .inr ⟨h.objs.size,by rw [List.lookup_cons,hx]; simp⟩
    ·rcases e with e | ⟨c,e⟩
     ·rcases List.mem_cons.mp e with q | q
      ·exact absurd (congrArg Prod.fst q) hx
      ·exact .inl q
     ·exact .inr ⟨c,by rw [List.lookup_cons,beq_false_of_ne hx]; exact e⟩
   ·rcases i1 x c e2 with z | ⟨z,_,_⟩
    ·rw [List.lookup_cons] at z
     cases hx:x == name with
     | true=>rw [hx] at z; cases z; exact Nat.le_refl _
     | false =>
      have hxn:x≠name:=by simpa using hx
      rcases List.mem_cons.mp e1 with q | q
      ·exact absurd (congrArg Prod.fst q) hxn
      ·exact Nat.le_of_succ_le (i4 x c q e2)
    ·exact Nat.le_of_succ_le z
   ·rw [List.lookup_cons] at e
    cases hx:x == name with
    | true=>rw [hx] at e; cases e; exact Nat.lt_succ_self _
    | false=>rw [hx] at e; exact Nat.lt_succ_of_lt (hb x c e)
   ·rw [List.lookup_cons] at e1 e2
    cases hx:x == name with
    | true =>
     have hxn:x=name:=by simpa using hx
     rw [hx] at e1
     cases e1
     cases hy:y == name with
     | true =>
      have hyn:y=name:=by simpa using hy
      rw [hxn,hyn]
     | false=>rw [hy] at e2; exact absurd (hb y _ e2) (Nat.lt_irrefl _)
    | false =>
     rw [hx] at e1
     cases hy:y == name with
     | true=>rw [hy] at e2; cases e2; exact absurd (hb x _ e1) (Nat.lt_irrefl _)
     | false=>rw [hy] at e2; exact hi x y c e1 e2
  ·have hk':¬ ((kind == NameKind.cell)=true):=by simpa using hk
   rw [if_neg hk',if_neg hk']
   obtain ⟨i1,i2,i4,i3⟩:=ih h acc
   refine ⟨λx c e=>?_,λx e=>i2 x ?_,λx c e1 e2=>?_,i3⟩
   ·rcases i1 x c e with z | ⟨z1,z2,z3⟩
    ·exact .inl z
    ·exact .inr ⟨z1,z2,List.mem_cons_of_mem _ z3⟩
   ·rcases e with e | e
    ·rcases List.mem_cons.mp e with q | q
     ·exact absurd (congrArg Prod.snd q).symm hk
     ·exact .inl q
    ·exact .inr e
   ·rcases List.mem_cons.mp e1 with q | q
    ·exact absurd (congrArg Prod.snd q).symm hk
    ·exact i4 x c q e2

theorem ZdC {M:Model} {A:Around} {E:Value->Shared->Prop} {s:Shared} {scope:Scope} {globals:Addr} {cl:List (Str×Addr)} {qual:Str} {outer:Env} {Q:Env->Shared->Prop}
  (h:Q { scope:=scope,locals:=s.heap.objs.size,globals:=globals,cells:=cellsFrom (s.heap.objs.size+1) scope.names cl,qual:=qual,func:=none,code:=outer.code,frame:=outer.frame,builtins:=outer.builtins } { s with heap:=pushCells (s.heap.push { cls:=.type "dict",data:=.dict #[] }) scope.names }) :
  wpAny M A (newFunctionEnv scope globals cl [] qual none .none (some outer)) Q E s:=by
 simp only [newFunctionEnv,Option.isSome_some,if_true]
 refine wpAny_bind (wpAny_alloc ?_)
 refine wpAny_bind (wpAny_layCells _ (λname kind cells=>by cases hkc:kind == NameKind.cell <;> simp [hkc]) _ _ _ _ ?_)
 rw [show ({ s with heap:=s.heap.push { cls:=.type "dict",data:=.dict #[] } }:Shared).heap.objs.size=s.heap.objs.size+1 from Heap.size_push ..]
 rw [List.forIn_nil]
 exact wpAny_bind (wpAny_pure (wpAny_pure h))

theorem ZqK {Nx ts:List Str} {ix:List Nat} {i:Nat} {x:Str} (h:(bN Nx ts ix)[i]?=some x) (hi:ts.length<=i):∃ j,ix[i - ts.length]?=some j/\x=(Nx[j]?).getD Str.empty:=by
 unfold bN at h
 rw [List.getElem?_append_right hi,List.getElem?_map] at h
 cases e:ix[i - ts.length]? with
 | none=>rw [e] at h; cases h
 | some j=>rw [e] at h; exact ⟨j,rfl,(Option.some.inj h).symm⟩

theorem ZgP {scope:Scope} {cl:List (Str×Addr)} {fp:List Addr} {C:Addr} {h3:Heap} {tk:Nat} {m:Str->Option Value} {Nx ts:List Str} {ix:List Nat}
  (I:Inv X pins σ H s) (hNx:X.N=Nx) (ok:BlkOk Nx X.env.scope scope ix) (cs1:∀ x c,cl.lookup x=some c->X.env.cells.lookup x=some c\/(C < c/\h3.IsCell c none/\(x,NameKind.cell)∈scope.names)) (csI:∀ x y c,cl.lookup x=some c->cl.lookup y=some c->x=y) (cl2:∀ y∈scope.names,(y.2=.free\/y.2=.cell)->∃ c,cl.lookup y.1=some c) (csA:∀ x c,(x,NameKind.cell)∈scope.names->cl.lookup x=some c->C<=c)
  (hf:∀ b∈fp,Zlh X pins H b) (hfs:∀ b∈fp,b < s.heap.objs.size) (hC:s.heap.objs.size<=C) (kp:∀ b o,s.heap.get? b=some o->h3.get? b=some o) (hns:h3.Ns C m) :
  Inv (cxC X (bN Nx ts ix) scope ⟨cl,C,s,H,fp,X.pn++pins⟩) [] (bSt ts.length ix σ) H { s with heap:=h3,toks:=tk }:=by
 have below:∀ {b:Addr},b < s.heap.objs.size->b≠C:=λhb=>Nat.ne_of_lt (Nat.lt_of_lt_of_le hb hC)
 have nstk:∀ b,b≠X.env.locals->b ∉ X.fs->b ∉ frs X.stack:=λb h1 h2 hb=>by
  rcases List.mem_cons.mp (I.stkSub b hb) with z | z
  ·exact h1 z
  ·exact h2 z
 refine ⟨⟨I.ok.mod,?_,I.ok.glob,I.ok.blt,hC,csI,λx hx=>?_,λx c hfn e=>Nat.le_trans hC (csA x c (PySem.mem_of_lookup (eq_of_beq hfn)) e),I.ok.hd,I.ok.frames,.inl rfl,λb hb=>⟨below (hfs b hb),λx c e=>by
  rcases cs1 x c e with z | ⟨z,_,_⟩
  ·exact (hf b hb).2.2.2.2.1 x c z
  ·exact Nat.ne_of_gt (Nat.lt_of_lt_of_le (hfs b hb) (Nat.le_trans hC (Nat.le_of_lt z)))⟩,I.bs,Nat.le_trans I.ok.bsz I.sz,λb o e hb=>?_,λb hb=>nstk b (hf b hb).2.1 (hf b hb).2.2.1,I.stack,I.stkFree⟩,
  rfl,I.bare,Un.kept kp,⟨m,hns,λi x v h1 h2 h3'=>?_⟩,λx c e=>?_,I.hok.fresh hC,λx c e=>by
  rcases cs1 x c e with z | ⟨z,_,_⟩
  ·exact I.freeC x c z
  ·exact I.hok.fresh (Nat.le_trans hC (Nat.le_of_lt z)),λp hp=>?_,I.hok.kept kp,?_⟩
 ·exact ok.kind
 ·have hx':(relabel scope X.env).names.lookup x=some .cell\/(relabel scope X.env).names.lookup x=some .free:=hx
  obtain ⟨y,hy,e1,e2⟩:=ZgE hx'
  obtain ⟨c,hc⟩:=cl2 y hy e2
  exact ⟨c,by rw [<- e1]; exact hc⟩
 ·rcases (hf b hb).2.2.2.1 with z | z
  ·exact I.ok.noex b o e z
  ·exact absurd (Nat.lt_of_lt_of_le (Heap.lt_size e) (Nat.le_trans I.ok.bsz z)) (Nat.lt_irrefl _)
 ·have hi:ts.length<=i:=by
   rcases Nat.lt_or_ge i ts.length with z | z
   ·exfalso
    have h2':(bSt ts.length ix σ)[i]?=some (some v):=h2
    unfold bSt at h2'
    rw [List.getElem?_append_left (by simpa using z),List.getElem?_replicate] at h2'
    split at h2' <;> cases h2'
   ·exact z
  obtain ⟨j,hj,ex⟩:=ZqK h1 hi
  have h2':(bSt ts.length ix σ)[i]?=some (some v):=h2
  unfold bSt at h2'
  rw [List.getElem?_append_right (by simpa using hi),List.getElem?_map,List.length_replicate,hj] at h2'
  have hσ:σ[j]?=some (some v):=by
   have q:(σ[j]?).getD none=some v:=Option.some.inj h2'
   cases e:σ[j]? with
   | none=>rw [e] at q; cases q
   | some w=>rw [e] at q; exact congrArg some q
  obtain ⟨hjl,hfree⟩:=ok.caps j (List.mem_of_getElem? hj)
  have hNj:X.N[j]?=some x:=by
   rw [hNx,ex,List.getElem?_eq_getElem hjl]
   rfl
  rw [<- ex] at hfree
  obtain ⟨c,hc⟩:=cl2 (x,.free) (PySem.mem_of_lookup hfree) (.inl rfl)
  have cl1:X.env.cells.lookup x=some c:=by
   rcases cs1 x c hc with z | ⟨_,_,z⟩
   ·exact z
   ·have:=ok.cells _ z rfl
    rw [hfree] at this
    cases this
  have kx:=ok.frees (x,.free) (PySem.mem_of_lookup hfree) rfl
  obtain ⟨m0,hn0,hl0⟩:=I.loc
  obtain ⟨u,ru,look⟩:=hl0 j x v hNj hσ (by rcases kx with z | z; exact .inr (.inl z); exact .inr (.inr z))
  refine ⟨u,ru,.inr ⟨ZgD hfree,c,hc,?_⟩⟩
  rcases look with ⟨k1,_⟩ | ⟨_,c',hc',z⟩
  ·have k1':X.env.scope.names.lookup x=some .local:=k1
   rcases kx with z | z
   ·rw [k1'] at z; cases z
   ·rw [k1'] at z; cases z
  ·have e:=cl1
   rw [hc'] at e
   cases e
   obtain ⟨o,ho,hd⟩:=z
   exact ⟨o,kp _ _ ho,hd⟩
 ·rcases cs1 x c e with z | ⟨_,z,_⟩
  ·obtain ⟨v,o,ho,hd⟩:=I.cell x c z
   exact ⟨v,o,kp _ _ ho,hd⟩
  ·exact ⟨_,z⟩
 ·have hp':p∈X.pn++pins:=by simpa [cxC] using hp
  obtain ⟨e,n,ne,nf,d⟩:=I.pin p hp'
  exact ⟨kp _ _ e,n,below (Heap.lt_size e),nstk _ ne nf,d⟩
 ·show (bSt ts.length ix σ).length=(bN Nx ts ix).length
  unfold bSt bN
  simp

theorem Inv.track {D:Addr} {ys:List V} {its:List Value} {n:Nat} (I:Inv X pins σ H s) (hD:H D=none) (ho:s.heap.get? D=some { cls:=.type "list",data:=.seq its.toArray n }) (r:Vals ys its) (hz:ys.length<=sizeLine)
  (hL:D≠X.env.locals) (hs0:X.s₀.heap.objs.size<=D) (hc:∀ x c,X.env.cells.lookup x=some c->c≠D) (hp:∀ p∈X.pn++pins,p.1≠D):Inv X pins σ (upd H D (.lst ys)) s:=by
 have ne:∀ {b:Addr} {o:HO},H b=some o->b≠D:=λe=>ZaC e hD
 refine I.step (g':=s.gens) (d':=s.drawn) (t':=s.toks) (h':=s.heap) (ch:=[D]) (λb hb=>?_) (λb o _ _ _ e _=>e) (λb o _ _ _ e _=>⟨o.slots,e⟩) (λb o hb e n=>?_) (λb o _ e=>⟨o,e⟩)
  (λb xs e=>by rw [Zau (ne e)]; exact e) (λb o u e=>by rw [Zau (ne e)]; exact e) (λb ps e=>⟨#[],by rw [Zau (ne e),e]; simp⟩) (λm hm=>hm) (λb u e=>?_) I.bare
 ·have e:b=D:=by simpa using hb
  subst e
  exact ⟨.inr hs0,hL,hc,hp⟩
 ·have hb':b≠D:=by simpa using hb
  rw [Zau hb']
  exact n
 ·by_cases hb:b=D
  ·subst hb
   rw [ZaF] at e
   cases e
   exact ⟨hz,its,n,r,ho⟩
  ·rw [Zau hb] at e
   exact (I.hok b u e).stay (λc v _ q=>q) (λc q=>by rw [Zau (ne q)]; exact q) λc xs q=>by rw [Zau (ne q)]; exact q
end
theorem ZgV {prog:Program} {w:World} {A:Around} {R:Result->Shared->Prop} {s:Shared} {elt target iter:Expr} {scope:Scope} {pos:Pos} {it acc:Value} {env:Env} (J:Nat->Shared->Prop)
  (step:∀ k s0,J k s0->wpAny (model prog w) A (pyNext it) (λgot s1=>match got with
   | none=>R (.ok .next) s1
   | some v=>wpAny (model prog w) A (letOwnedTupleGo target it v) (λ_ s2=>wpAny (model prog w) A (assign target env v) (λ_ s3=>wpAny (model prog w) A (eval elt env) (λy s4 =>
     wpAny (model prog w) A (call (.builtin "list.append") [acc,y]) (λ_ s5=>∃ j,j < k/\J j s5) (λ_ _=>False) s4) (λ_ _=>False) s3) (λ_ _=>False) s2) (λ_ _=>False) s1) (λ_ _=>False) s0)
  (k:Nat) (h:J k s):codeAny (model prog w) A (.compLoop (.ListComp elt [⟨target,iter,[],0⟩] scope pos) 0 it acc env) R s:=by
 refine codeAny_loop rfl J (λk0 s0 hJ=>?_) k h
 show wpAny _ _ ((compTurn (.ListComp elt [⟨target,iter,[],0⟩] scope pos) 0 it acc env).onRaise (λx=>do noteFrame x env; theTreesLotGoes x)) _ _ s0
 apply wpAny_noted
 rw [compTurn_list1]
 refine wpAny_bind (wpAny_standAt (wpAny_bind (wpAny_mono (step k0 s0 hJ) (λgot s1 h1=>?_) λ_ _ z=>z.elim)))
 cases got with
 | none=>exact wpAny_pure h1
 | some v =>
  refine wpAny_bind (wpAny_mono h1 (λ_ s2 h2=>?_) λ_ _ z=>z.elim)
  refine wpAny_bind (wpAny_mono h2 (λ_ s3 h3=>?_) λ_ _ z=>z.elim)
  refine wpAny_bind (wpAny_bind (wpAny_mono h3 (λy s4 h4=>?_) λ_ _ z=>z.elim))
  exact wpAny_bind (wpAny_mono h4 (λ_ s5 h5=>wpAny_pure (wpAny_pure ⟨rfl,h5⟩)) λ_ _ z=>z.elim)

noncomputable def tLc (wi:TI) (n:Nat) (ix:List Nat) (g:Blk->TG) (te:Blk->TE):TE:=λσ H Q=>wi σ H λJ H1=>∀ b:Blk,∃ W:Nat->Nat->St->List V->Hp->Prop,(∃ m,W 0 m (bSt n ix σ) [] H1)/\∀ i m τ ys H2,W i m τ ys H2 ->
 (J.stop i H2/\∀ p v H',H2 p=none->v=V.ref p->H'=upd H2 p (.lst ys)->Q v H') \/
 (J.go i H2/\ys.length < sizeLine/\∀ x H3,J.yld i H2 x H3->g b x τ H3 λτ2 H4=>te b τ2 H4 λy H5=>∃ m',m' < m/\W (i+1) m' τ2 (ys++[y]) H5)

section
variable {X:Cx} {pins:List (Addr×Obj)} {σ:St} {H:Hp} {s:Shared}
theorem Zis {elt target iter:Expr} {scope:Scope} {pos:Pos} {Nx ts:List Str} {ix:List Nat} {g:Blk->TG} {te:Blk->TE} {cl:List (Str×Addr)} {s2:Shared} {itv:Value} {R:Value->Addr->Result->Shared->Prop}
  {E:Value->Shared->Prop} {Q:VK}
  (hc:X.calm=true) (hg:∀ b,PG (cxC X (bN Nx ts ix) scope b) target (g b)) (he:∀ b,PE (cxC X (bN Nx ts ix) scope b) elt (te b))
  (hNx:X.N=Nx) (ok:BlkOk Nx X.env.scope scope ix) (cl1:∀ x c,cl.lookup x=some c->X.env.cells.lookup x=some c) (cl2:∀ y∈scope.names,y.2=.free->∃ c,cl.lookup y.1=some c)
  (h2:PIE X pins σ target (λJ H1=>∀ b:Blk,∃ W:Nat->Nat->St->List V->Hp->Prop,(∃ m,W 0 m (bSt ts.length ix σ) [] H1)/\∀ i m τ ys H2,W i m τ ys H2 ->
   (J.stop i H2/\∀ p v H',H2 p=none->v=V.ref p->H'=upd H2 p (.lst ys)->Q v H') \/
   (J.go i H2/\ys.length < sizeLine/\∀ x H3,J.yld i H2 x H3->g b x τ H3 λτ2 H4=>te b τ2 H4 λy H5=>∃ m',m' < m/\W (i+1) m' τ2 (ys++[y]) H5)) itv s2)
  (hR:∀ (D C:Addr) (H':Hp) (s':Shared) (v:V),Inv X pins σ H' s'->v=.ref D->Q v H'->(∃ m,s'.heap.Ns C m)->H' C=none->C≠X.env.locals->X.s₀.heap.objs.size<=C->(∀ x c,X.env.cells.lookup x=some c->c≠C)->(∀ p∈X.pn++pins,p.1≠C) ->
   R (.ref D) C (.ok .next) s') :
  wpAny (model X.prog X.w) X.A (newList []) (λacc s₃=>wpAny (model X.prog X.w) X.A (newFunctionEnv scope X.env.globals cl [] X.env.qual none .none (some X.env)) (λcenv s₄ =>
   codeAny (model X.prog X.w) X.A (.compStart (.ListComp elt [⟨target,iter,[],0⟩] scope pos) 0 itv acc { cenv with scope:=relabel scope X.env }) (R acc cenv.locals) s₄) E s₃) E s2:=by
 obtain ⟨it,fp,tn,J,H1,e,I2,T,st2,f2,q2⟩:=h2
 subst e
 refine wpAny_newObj_type (ZdC ?_)
 dsimp only
 generalize hG:s2.heap.push { cls:=.type "list",dict:=none,data:=.seq ([]:List Value).toArray }=G
 have hGs:G.objs.size=s2.heap.objs.size+1:=by rw [<- hG,Heap.size_push]
 have hfs:∀ b∈fp,b < s2.heap.objs.size:=λb hb=>let ⟨o,e,_⟩:=T.obj _ _ st2 b hb; Heap.lt_size e
 have kpG:∀ b o,G.get? b=some o->(pushCells (G.push { cls:=.type "dict",data:=.dict #[] }) scope.names).get? b=some o:=λb o e=>pushCells_keeps _ _ _ _ (Heap.get?_push_of_some _ e)
 have hns3:(pushCells (G.push { cls:=.type "dict",data:=.dict #[] }) scope.names).Ns G.objs.size (λ_=>none):=(Heap.Ns.new G (.type "dict")).keeps (pushCells_keeps _ _)
 obtain ⟨sp1,sp2,sp4,sp3⟩:=ZfF scope.names (G.push { cls:=.type "dict",data:=.dict #[] }) cl
 rw [Heap.size_push] at sp1 sp2 sp3 sp4
 generalize hh3:pushCells (G.push { cls:=.type "dict",data:=.dict #[] }) scope.names=h3 at kpG hns3 sp1 ⊢
 have kp:∀ b o,s2.heap.get? b=some o->h3.get? b=some o:=λb o e=>kpG b o (by rw [<- hG]; exact Heap.get?_push_of_some _ e)
 have hD3:h3.get? s2.heap.objs.size=some { cls:=.type "list",data:=.seq ([]:List Value).toArray }:=kpG _ _ (by rw [<- hG]; exact Heap.get?_push_size _ rfl)
 have clB:∀ x c,cl.lookup x=some c->c < G.objs.size+1:=λx c e=>by
  obtain ⟨v,q⟩:=I2.cell x c (cl1 x c e)
  exact Nat.lt_succ_of_lt (Nat.lt_of_lt_of_le q.lt (by rw [hGs]; exact Nat.le_succ _))
 have csI:=sp3 clB λx y c e1 e2=>I2.ok.inj x y c (cl1 x c e1) (cl1 y c e2)
 have cs1:∀ x c,(cellsFrom (G.objs.size+1) scope.names cl).lookup x=some c->X.env.cells.lookup x=some c\/(G.objs.size < c/\h3.IsCell c none/\(x,NameKind.cell)∈scope.names):=λx c e=>by
  rcases sp1 x c e with z | ⟨z1,z2,z3⟩
  ·exact .inl (cl1 x c z)
  ·exact .inr ⟨by omega,z2,z3⟩
 have cs2:∀ y∈scope.names,(y.2=.free\/y.2=.cell)->∃ c,(cellsFrom (G.objs.size+1) scope.names cl).lookup y.1=some c:=λy hy hk=>by
  refine sp2 y.1 ?_
  rcases hk with z | z
  ·exact .inr (cl2 y hy z)
  ·exact .inl (by rw [<- z]; exact hy)
 have csA:∀ x c,(x,NameKind.cell)∈scope.names->(cellsFrom (G.objs.size+1) scope.names cl).lookup x=some c->G.objs.size<=c:=λx c e1 e2=>Nat.le_of_succ_le (sp4 x c e1 e2)
 generalize hcs:cellsFrom (G.objs.size+1) scope.names cl=cs at csI cs1 cs2 csA ⊢
 generalize hCe:G.objs.size=C at hns3 cs1 csA ⊢
 have hC:s2.heap.objs.size<=C:=by omega
 have hDC:s2.heap.objs.size≠C:=by omega
 let B:Blk:=⟨cs,C,s2,H1,fp,X.pn++pins⟩
 have I3:Inv (cxC X (bN Nx ts ix) scope B) [] (bSt ts.length ix σ) H1 { s2 with heap:=h3 }:=ZgP I2 hNx ok cs1 csI cs2 csA f2 hfs hC kp hns3
 have fC:H1 s2.heap.objs.size=none:=I2.hok.fresh (Nat.le_refl _)
 have cellIn:∀ x c,cs.lookup x=some c->c≠s2.heap.objs.size:=λx c e=>by
  rcases cs1 x c e with z | ⟨z,_,_⟩
  ·obtain ⟨v,q⟩:=I2.cell x c z
   exact Nat.ne_of_lt q.lt
  ·exact Nat.ne_of_gt (Nat.lt_of_le_of_lt hC z)
 have pinIn:∀ p∈X.pn++pins,p.1 < s2.heap.objs.size:=λp hp=>Heap.lt_size (I2.pin p hp).1
 have nofrs:s2.heap.objs.size ∉ frs X.stack:=λhb=>by
  rcases List.mem_cons.mp (I2.stkSub _ hb) with z | z
  ·exact absurd I2.lt (by rw [<- z]; exact Nat.lt_irrefl _)
  ·exact I2.nofs (Nat.le_refl _) z
 -- a state with the list at its place,pinned
 have pinD:∀ {τ:St} {H':Hp} {s':Shared} {ob:Obj},Inv (cxC X (bN Nx ts ix) scope B) [] τ H' s'->s'.heap.get? s2.heap.objs.size=some ob->H' s2.heap.objs.size=none->(∀ v,ob.data≠.cell v)->Inv (cxC X (bN Nx ts ix) scope B) [(s2.heap.objs.size,ob)] τ H' s' :=
  λ{τ H' s' ob} I' ho hn hd=>I'.pins_of λp hp=>by
   have e:p=(s2.heap.objs.size,ob):=by simpa using hp
   subst e
   exact ⟨ho,hn,hDC,nofrs,hd⟩
 obtain ⟨W,⟨m0,w0⟩,turn⟩:=q2 B
 have stat:∀ {H':Hp} {ob:Obj},(∀ b∈fp,H' b=none)->∀ b∈fp,Zlh (cxC X (bN Nx ts ix) scope B) [(s2.heap.objs.size,ob)] H' b:=λ{H' ob} hn b hb=>by
  refine ⟨hn b hb,Nat.ne_of_lt (Nat.lt_of_lt_of_le (hfs b hb) hC),λz=>?_,.inl hb,λx c e=>by
   rcases cs1 x c e with z | ⟨z,_,_⟩
   ·exact (f2 b hb).2.2.2.2.1 x c z
   ·exact Nat.ne_of_gt (Nat.lt_of_lt_of_le (hfs b hb) (Nat.le_trans hC (Nat.le_of_lt z))),λp hp=>?_⟩
  ·rcases List.mem_cons.mp (I2.stkSub _ z) with q | q
   ·exact (f2 b hb).2.1 q
   ·exact (f2 b hb).2.2.1 q
  ·rcases List.mem_append.mp hp with z | z
   ·exact (f2 b hb).2.2.2.2.2 p z
   ·have e:p=(s2.heap.objs.size,ob):=by simpa using z
    subst e
    exact Nat.ne_of_gt (hfs b hb)
 have loop:∀ s4:Shared,s4={ s2 with heap:=h3 } ->
   codeAny (model X.prog X.w) X.A (.compLoop (.ListComp elt [⟨target,iter,[],0⟩] scope pos) 0 (.ref it) (.ref s2.heap.objs.size) (compEnvC scope cs C X.env)) (R (.ref s2.heap.objs.size) C) s4:=by
  rintro s4 rfl
  refine ZgV (λk s'=>∃ i τ ys its n H',Inv (cxC X (bN Nx ts ix) scope B) [(s2.heap.objs.size,({ cls:=.type "list",data:=.seq (List.toArray its) n }:Obj))] τ H' s'/\tn i s'.heap/\(∀ b∈fp,H' b=none)/\Vals ys its/\ys.length<=sizeLine/\W i k τ ys H') ?_ m0
   ⟨0,_,[],[],_,H1,pinD I3 hD3 fC (λv z=>by cases z),T.keep _ _ _ st2 λb hb o e=>kp b o e,λb hb=>(f2 b hb).1,.nil,Nat.zero_le _,w0⟩
  rintro k s5 ⟨i,τ,ys,its,n,H5,I5,st5,fr5,rv,hz,w5⟩
  rcases turn i k τ ys H5 w5 with ⟨stop,qn⟩ | ⟨go,hlt,step⟩
  ·refine thn (T.done (cxC X (bN Nx ts ix) scope B) rfl rfl rfl hc i _ s5 τ H5 _ I5 (stat fr5) st5 stop) λgot s6 hz0=>?_
   obtain ⟨hr,I6⟩:=hz0
   subst hr
   obtain ⟨ho,hn,_,_,_⟩:=I6.pin (s2.heap.objs.size,({ cls:=.type "list",data:=.seq (List.toArray its) n }:Obj)) (List.mem_append_right _ (by simp))
   have I7:Inv X pins σ H5 s6:=I2.call' (ch:=fp) (H':=H5) (by exact I6.os) I6.base I6.hok I6.bare λb hb=>⟨(f2 b hb).2.2.2.1,(f2 b hb).2.1,(f2 b hb).2.2.2.2.1,(f2 b hb).2.2.2.2.2⟩
   have hs0:X.s₀.heap.objs.size<=s2.heap.objs.size:=I2.sz
   have I8:=I7.track hn ho rv hz (Nat.ne_of_gt I2.lt) hs0 (λx c e z=>by
    obtain ⟨v,q⟩:=I2.cell x c e
    exact absurd q.lt (by rw [z]; exact Nat.lt_irrefl _)) (λp hp=>Nat.ne_of_lt (pinIn p hp))
   obtain ⟨m6,hm6,_⟩:=I6.loc
   refine hR _ C _ s6 _ I8 rfl (qn _ _ _ hn rfl rfl) ⟨m6,hm6⟩ ?_ (λz=>?_) (Nat.le_trans hs0 hC) (λx c e z=>?_) λp hp=>Nat.ne_of_lt (Nat.lt_of_lt_of_le (pinIn p hp) hC)
   ·rw [Zau (Ne.symm hDC)]
    exact I6.free
   ·exact absurd (Nat.lt_of_lt_of_le I2.lt hC) (by rw [z]; exact Nat.lt_irrefl _)
   ·obtain ⟨v,q⟩:=I2.cell x c e
    exact absurd (Nat.lt_of_lt_of_le q.lt hC) (by rw [z]; exact Nat.lt_irrefl _)
  ·refine thn (T.item (cxC X (bN Nx ts ix) scope B) rfl rfl rfl hc i _ s5 τ H5 _ I5 (stat fr5) st5 go) λgot s6 hz0=>?_
   obtain ⟨u,hr,h6⟩:=hz0
   subst hr
   refine thn h6 λ_ s7 hz0=>?_
   obtain ⟨x,H7,I7,r7,y7,st7,fr7⟩:=hz0
   have I7':=I7.pinned (stat fr7) (T.obj _ _ st7)
   refine thn (hg B _ s7 τ H7 x u _ I7' r7 (step x H7 y7)) λ_ s8 hz0=>?_
   obtain ⟨τ8,H8,I8,q8⟩:=hz0
   refine thn (he B _ s8 τ8 H8 _ I8 q8) λy s9 hz0=>?_
   obtain ⟨vy,H9,I9,r9,m',hm',w9⟩:=hz0
   obtain ⟨ho,hn,_,_,_⟩:=I9.pin (s2.heap.objs.size,({ cls:=.type "list",data:=.seq (List.toArray its) n }:Obj)) (List.mem_append_right _ (List.mem_append_left _ (by simp)))
   have lenv:=rv.length
   refine wpAny_list_append_plain (l:=s2.heap.objs.size) ⟨n,ho⟩ (λh' hpl hsb=>?_) (by rw [List.size_toArray]; omega)
   obtain ⟨n',ho'⟩:=hpl
   have eobj:(its.toArray.push y)=List.toArray (its++[y]):=by simp
   rw [eobj] at ho'
   have I9':Inv (cxC X (bN Nx ts ix) scope B) [] τ8 H9 s9:=I9.pins_of λp hp=>absurd hp (by simp)
   have I10:Inv (cxC X (bN Nx ts ix) scope B) [] τ8 H9 { s9 with heap:=h' }:=I9'.turned (it:=s2.heap.objs.size) (t':=s9.toks) (λb o hb e=>(hsb.2 b hb).trans e) hn hDC (.inr (Nat.le_refl _)) cellIn (λp hp=>by
    have hp':p∈(X.pn++pins)++[]:=hp
    rw [List.append_nil] at hp'
    exact Nat.ne_of_lt (pinIn p hp'))
   refine ⟨m',hm',i+1,τ8,ys++[vy],its++[y],n',H9,pinD I10 ho' hn (λv z=>by cases z),?_,λb hb=>?_,rv.append (.cons r9 .nil),by rw [List.length_append]; show ys.length+1<=_; omega,w9⟩
   ·refine T.keep _ _ _ st7 λb hb o e=>?_
    have q:=(I9.pin (b,o) (List.mem_append_right _ (List.mem_append_right _ (Zbz hb e)))).1
    exact (hsb.2 b (Nat.ne_of_lt (hfs b hb))).trans q
   ·obtain ⟨o,e,d⟩:=T.obj _ _ st7 b hb
    exact (I9.pin (b,o) (List.mem_append_right _ (List.mem_append_right _ (Zbz hb e)))).2.1
 exact codeAny_compStart_list (loop _ rfl) (T.self X.A 0 _ _ _ (T.keep _ _ _ st2 λb hb o e=>kp b o e) (loop _ rfl))

theorem ZgG {elt target iter:Expr} {scope:Scope} {pos:Pos} {wi:TI} {g:Blk->TG} {te:Blk->TE} (Nx:List Str) (ts:List Str) (ix:List Nat)
  (hc:X.calm=true) (hi:PI X target iter wi) (hg:∀ b,PG (cxC X (bN Nx ts ix) scope b) target (g b)) (he:∀ b,PE (cxC X (bN Nx ts ix) scope b) elt (te b))
  (hNx:X.N=Nx) (ok:BlkOk Nx X.env.scope scope ix) (hs:∀ x,foldedSetIterable iter X.env x=pure x:=by intro _; rfl) :
  PE X (.ListComp elt [⟨target,iter,[],0⟩] scope pos) (tLc wi ts.length ix g te):=by
 intro pins s σ H Q I h
 obtain ⟨cl,hcl,cl1,cl2⟩:=Zd7 (scope:=scope) (env:=X.env) λy hy hf=>I.ok.has y.1 (ok.frees y hy hf)
 rw [eval_ListComp]
 refine wpAny_comprehension_free (use:=none) rfl hs hcl ok.kind ok.locs (thn (hi pins s σ H _ I h) λv s1 h1=>thn h1 λitv s2 h2=>?_)
 refine Zis (R:=λacc C=>compPost (model X.prog X.w) X.A X.xe none (EP X pins σ Q) acc C) hc hg he hNx ok cl1 cl2 h2 ?_
 rintro D C H' s' v I' rfl q ⟨m,hm⟩ hn hL h0 hcl' hp
 exact ⟨m,hm,λh' hsb=>⟨.ref D,H',I'.turned (it:=C) (t':=s'.toks) (λb o hb e=>(hsb.2 b hb).trans e) hn hL (.inr h0) hcl' hp,rfl,q⟩⟩

theorem Zii {elt target iter:Expr} {scope:Scope} {pos pos' spos:Pos} {wi:TI} {g:Blk->TG} {te:Blk->TE} {i:Nat} {x:Str} (Nx:List Str) (ts:List Str) (ix:List Nat)
  (hc:X.calm=true) (hN:X.N.Nodup) (hix:X.N[i]?=some x) (hx:X.env.scope.names.lookup x=some .local) (hi:PI X target iter wi) (hg:∀ b,PG (cxC X (bN Nx ts ix) scope b) target (g b)) (he:∀ b,PE (cxC X (bN Nx ts ix) scope b) elt (te b))
  (hNx:X.N=Nx) (ok:BlkOk Nx X.env.scope scope ix) (hsw:swapsWith (.ListComp elt [⟨target,iter,[],0⟩] scope pos) (some (.Name x pos')) spos.line X.env=pure true) (hs:∀ x,foldedSetIterable iter X.env x=pure x:=by intro _; rfl) :
  PS X (.Assign [.Name x pos'] (.ListComp elt [⟨target,iter,[],0⟩] scope pos) spos) (Zlj (tLc wi ts.length ix g te) (ZgQ i)):=by
 intro pins s σ H D0 I h
 obtain ⟨cl,hcl,cl1,cl2⟩:=Zd7 (scope:=scope) (env:=X.env) λy hy hf=>I.ok.has y.1 (ok.frees y hy hf)
 rw [exec_Assign_Name_used _ _ _ _ hsw]
 refine wpAny_bind (wpAny_standAt (wpAny_bind ?_))
 show wpAny _ X.A (do let _ <- comprehension (.ListComp elt [⟨target,iter,[],0⟩] scope pos) scope X.env _ (newList []) false (eval iter X.env) (some (assign (.Name x pos') X.env))) _ _ s
 refine wpAny_bind (thn (wpAny_comprehension_free (use:=some (assign (.Name x pos') X.env)) (Q:=λ_ s'=>SP X pins D0 .next s') rfl hs hcl ok.kind ok.locs (thn (hi pins s σ H _ I h) λv s1 h1=>thn h1 λitv s2 h2=>?_)) λ_ s' hq=>wpAny_pure (wpAny_pure hq))
 refine Zis (R:=λacc C=>compPost (model X.prog X.w) X.A X.xe (some (assign (.Name x pos') X.env)) (λ_ s'=>SP X pins D0 .next s') acc C) (Q:=λx H1=>ZgQ i x σ H1 D0.nx) hc hg he hNx ok cl1 cl2 h2 ?_
 rintro D C H' s' v I' rfl q ⟨m,hm⟩ hn hL h0 hcl' hp
 show wpAny _ X.A (assign (.Name x pos') X.env (.ref D)) _ _ _
 refine wpAny_assign_Name (Zgy I' hN hix (.inl hx) (show RelV (.ref D) (.ref D) from rfl) (λs'' I'' hch=>?_) (.inr hx))
 obtain ⟨a,hsb,ha⟩:=hch
 have haC:C≠a:=by
  rcases ha with z | z
  ·rw [z]; exact hL
  ·exact λe=>hcl' _ _ z e.symm
 exact ⟨m,hm.sameBut hsb haC,λh'' hs''=>⟨_,H',I''.turned (it:=C) (t':=s''.toks) (λb o hb e=>(hs''.2 b hb).trans e) hn hL (.inr h0) hcl' hp,q⟩⟩
end
end L2
set_option Elab.async false
set_option linter.all false
set_option maxRecDepth 100000
namespace L2
open PySem PySem.Spec PyProof.Rows
mutual
/-- the value bears the datum -/
inductive Dn (H:Hp):V->PyData->Prop
 | non:Dn H .non .none
 | bl (b:Bool):Dn H (.bl b) (.bool b)
 | int (i:Int):Dn H (.int i) (.int i)
 | str (x:Str):Dn H (.str x) (.str x)
 | tup {a:Addr} {xs:List V} {ds:List PyData}:H a=some (.tup xs)->DnAll H xs ds->Dn H (.ref a) (.tuple ds)
 | lst {a:Addr} {xs:List V} {ds:List PyData}:H a=some (.lst xs)->DnAll H xs ds->Dn H (.ref a) (.list ds)
 | dct {a:Addr} {ks:List (Key×V)} {ds:List PyData}:Rd H a (.dK ks)->DnAll H (ks.map (·.2)) ds->Dn H (.ref a) (.dict ((ks.map λk=>match k.1 with | .inl i=>PyData.int i | .inr x=>PyData.str x).zip ds))
inductive DnAll (H:Hp):List V->List PyData->Prop
 | nil:DnAll H [] []
 | cons {v:V} {vs:List V} {d:PyData} {ds:List PyData}:Dn H v d->DnAll H vs ds->DnAll H (v::vs) (d::ds)
end
mutual
theorem Dn.mono {H H':Hp} (e:∀ b o,H b=some o->H' b=some o):∀ {v:V} {d:PyData},Dn H v d->Dn H' v d
 | _,_,.non=>.non
 | _,_,.bl b=>.bl b
 | _,_,.int i=>.int i
 | _,_,.str x=>.str x
 | _,_,.tup h r=>.tup (e _ _ h) (DnAll.mono e r)
 | _,_,.lst h r=>.lst (e _ _ h) (DnAll.mono e r)
 | _,_,.dct h r=>.dct (h.imp (e _ _) λ⟨o,h⟩=>⟨o,e _ _ h⟩) (DnAll.mono e r)
theorem DnAll.mono {H H':Hp} (e:∀ b o,H b=some o->H' b=some o):∀ {vs:List V} {ds:List PyData},DnAll H vs ds->DnAll H' vs ds
 | _,_,.nil=>.nil
 | _,_,.cons r t=>.cons (Dn.mono e r) (DnAll.mono e t)
end
theorem DnAll.ints {H:Hp}:∀ ns:List Int,DnAll H (ns.map V.int) (ns.map PyData.int)
 | []=>.nil
 | n::ns=>.cons (.int n) (DnAll.ints ns)
theorem DnAll.length {H:Hp} {vs:List V} {ds:List PyData} (h:DnAll H vs ds):vs.length=ds.length:=by
 induction vs generalizing ds with
 | nil=>cases h; rfl
 | cons v vs ih=>cases h with | cons r t=>exact congrArg (·+1) (ih t)
theorem DnAll.append {H:Hp} {vs ws:List V} {ds es:List PyData} (h:DnAll H vs ds) (s:DnAll H ws es):DnAll H (vs++ws) (ds++es):=by
 induction vs generalizing ds with
 | nil=>cases h; exact s
 | cons v vs ih=>cases h with | cons r t=>exact .cons r (ih t)

mutual
/-- data without dicts -/
theorem Dn.reads {P:Program} {w:World} {H:Hp} {h:Heap} (ok:HOk P w H h):∀ {v:V} {d:PyData} {u:Value},Dn H v d->d.hasDict=false->RelV v u->∃ as,Reads h u d as
 | _,_,_,.non,_,r=>by cases r; exact ⟨_,.none⟩
 | _,_,_,.bl b,_,r=>by cases r; exact ⟨_,.bool b⟩
 | _,_,_,.int i,_,r=>by obtain ⟨t,rfl⟩:=r; exact ⟨_,.int i t⟩
 | _,_,_,.str x,_,r=>by obtain ⟨t,rfl⟩:=r; exact ⟨_,.str x t⟩
 | _,_,_,.tup e rs,hd,r=>by
  cases r
  obtain ⟨z,its,rv,o,h1,h2,n,h3⟩:=ok _ _ e
  obtain ⟨as,q⟩:=DnAll.reads ok rs (by simpa [PyData.hasDict] using hd) rv
  exact ⟨_,.tuple h1 h2 h3 (by simpa using q)⟩
 | _,_,_,.lst e rs,hd,r=>by
  cases r
  obtain ⟨z,its,n,rv,h1⟩:=ok _ _ e
  obtain ⟨as,q⟩:=DnAll.reads ok rs (by simpa [PyData.hasDict] using hd) rv
  exact ⟨_,.list h1 rfl rfl (by simpa using q)⟩
 | _,_,_,.dct e rs,hd,r=>by simp [PyData.hasDict] at hd
theorem DnAll.reads {P:Program} {w:World} {H:Hp} {h:Heap} (ok:HOk P w H h):∀ {vs:List V} {ds:List PyData} {us:List Value},DnAll H vs ds->PyData.hasDictAll ds=false->Vals vs us->∃ as,ReadsAll h us ds as
 | _,_,_,.nil,_,r=>by cases r; exact ⟨_,.nil⟩
 | _,_,_,.cons p t,hd,r=>by
  cases r with
  | cons r1 r2 =>
   simp only [PyData.hasDictAll,Bool.or_eq_false_iff] at hd
   obtain ⟨as,q⟩:=Dn.reads ok p hd.1 r1
   obtain ⟨bs,q2⟩:=DnAll.reads ok t hd.2 r2
   exact ⟨_,.cons q q2⟩
end
section
variable {X:Cx}
theorem ZgW {k:Nat} (hr:Room k X.A):Zdk X (.builtin "repr") (λxs H Q=>∃ v d,xs=[v]/\Dn H v d/\d.hasDict=false/\d.showable=true/\d.depth<=32/\d.shown.length<=sizeLine/\Q (.str d.shown) H):=by
 intro pins s σ H xs us Q I r h
 obtain ⟨v,d,rfl,hd,hn,hs,hdp,hz,q⟩:=h
 obtain ⟨u,rfl,ru⟩:=ZdY r
 have hun:=hr.units
 have viaRef:∀ {a:Addr} {as:List Addr},Reads s.heap (.ref a) d as->wpAny (model X.prog X.w) X.A (call (.builtin "repr") [.ref a]) (EP X pins σ Q) X.xe s:=λ{a as} rd =>
  repr_of_reads' rd hs (PyData.noDict_hsm hn) hr.gd (by omega) (λ_ _ e=>e) (λh' u' tk hk=>⟨.str d.shown,H,I.kept hk,⟨_,rfl⟩,q⟩) hz
 obtain ⟨as,rd⟩:=Dn.reads I.hok hd hn ru
 cases rd with
 | none=>exact PySem.P.repr_of_none ⟨.str "None",H,I.tok _,⟨_,rfl⟩,q⟩
 | bool b=>exact PySem.P.repr_of_bool ⟨.str (if b then "True" else "False"),H,I.tok _,⟨_,rfl⟩,q⟩
 | int i t=>exact PySem.P.repr_of_int (by simpa [PyData.showable] using hs) ⟨.str (toString i),H,I.tok _,⟨_,rfl⟩,q⟩
 | str x t=>exact PySem.P.repr_of_str ⟨.str (reprText x),H,I.tok _,⟨_,rfl⟩,q⟩ hz
 | list h1 h2 h3 h4=>exact viaRef (.list h1 h2 h3 h4)
 | tuple h1 h2 h3 h4=>exact viaRef (.tuple h1 h2 h3 h4)
 | dict h1 h2 h3 h4 h5=>simp [PyData.hasDict] at hn

theorem ZpX {k:Nat} (hr:Room k X.A):OpR X (compareOp .Eq) (λx y H Q=>∃ d e,Dn H x d/\Dn H y e/\SeqAt.shaped d=true/\SeqAt.shaped e=true/\Q (.bl (PyData.eqv d e)) H):=by
 intro pins s σ H x y v u Q I rx ry h
 obtain ⟨d,e,hd,he,sd,se,q⟩:=h
 obtain ⟨as,r1⟩:=Dn.reads I.hok hd (PyData.hasDict_of_canLay _ (SeqAt.canLay_of_shaped sd)) rx
 obtain ⟨bs,r2⟩:=Dn.reads I.hok he (PyData.hasDict_of_canLay _ (SeqAt.canLay_of_shaped se)) ry
 exact SeqAt.compareEq_shaped r1 r2 sd se hr.units ⟨.bl _,H,I,rfl,q⟩
theorem ZpW {k:Nat} (hr:Room k X.A):OpR X (compareOp .NotEq) (λx y H Q=>∃ d e,Dn H x d/\Dn H y e/\SeqAt.shaped d=true/\SeqAt.shaped e=true/\Q (.bl (!PyData.eqv d e)) H):=by
 intro pins s σ H x y v u Q I rx ry h
 obtain ⟨d,e,hd,he,sd,se,q⟩:=h
 obtain ⟨as,r1⟩:=Dn.reads I.hok hd (PyData.hasDict_of_canLay _ (SeqAt.canLay_of_shaped sd)) rx
 obtain ⟨bs,r2⟩:=Dn.reads I.hok he (PyData.hasDict_of_canLay _ (SeqAt.canLay_of_shaped se)) ry
 exact SeqAt.compareNe_shaped r1 r2 sd se hr.units ⟨.bl _,H,I,rfl,q⟩

theorem Zeg:Zdk X (.type "range") (λxs H Q=>∃ i j:Int,xs=[.int i,.int j]/\∀ p,H p=none->Q (.ref p) (upd H p (.rng i j))):=by
 intro pins s σ H xs us Q I r h
 obtain ⟨i,j,rfl,q⟩:=h
 cases r with
 | cons r1 rr =>
  cases rr with
  | cons r2 rr =>
   cases rr
   obtain ⟨t,rfl⟩:=r1
   obtain ⟨u,rfl⟩:=r2
   refine call_range_2 ?_
   exact ⟨.ref s.heap.objs.size,_,I.laid (t':=s.toks+1) (λb o e=>Heap.get?_push_of_some _ e) (Nat.le_refl _) (show ObjOk X.prog X.w _ _ _ (.rng i j) from ⟨t,u,s.toks,Heap.get?_push_size _ rfl⟩),rfl,q _ (I.hok.fresh (Nat.le_refl _))⟩

noncomputable def ZcX (lo:Int) (n:Nat):List V:=(List.range n).map λ(k:Nat)=>V.int (lo+(k:Int))
theorem ZiM (lo:Int):∀ (n:Nat) (l:List Value),l.length=n->(∀ (j:Nat) (v:Value),l[j]?=some v->∃ t,v=Value.int (lo+(j:Int)) t)->Vals (ZcX lo n) l:=by
 intro n
 unfold ZcX
 induction n with
 | zero =>
  intro l hl _
  have e:l=[]:=List.length_eq_zero_iff.mp hl
  subst e
  exact .nil
 | succ n ih =>
  intro l hl hl2
  obtain ⟨l',x,rfl⟩:∃ l' x,l=l'++[x]:=⟨l.dropLast,l.getLast (by intro e; rw [e] at hl; cases hl),(List.dropLast_concat_getLast _).symm⟩
  have hl':l'.length=n:=by rw [List.length_append] at hl; simpa using hl
  rw [List.range_succ,List.map_append]
  refine Vals.append (ih l' hl' λj v hv=>hl2 j v (by rw [List.getElem?_append_left (List.getElem?_eq_some_iff.mp hv).1]; exact hv)) (.cons ?_ .nil)
  obtain ⟨t,e⟩:=hl2 n x (by rw [List.getElem?_append_right (by omega),hl',Nat.sub_self]; rfl)
  exact ⟨t,e⟩
end
end L2
set_option Elab.async false
set_option linter.all false
set_option maxRecDepth 100000
namespace L2
open PySem PySem.Spec PyProof.Rows
structure Def (K:PySem.W.Frag) (mg:Str->Option Value) (x:Str) (st:Stmt) (ps:List Str):Prop where
 ex:∃ f fd,Fun K x x st f fd/\mg x=some (.ref f)/\Binds K fd ps []
structure Callee (P:Program) (w:World) (K:PySem.W.Frag) (mg:Str->Option Value) (base:Heap) (x:Str) (k:Nat) (ps:List Str) (sp:Sp):Prop where
 ex:∃ f fd,FnOk P w K mg base CX0 k f fd ps sp/\mg x=some (.ref f)/\PySem.W.keepIn K (.ref f)=true/\Binds K fd ps []

section
variable {P:Program} {w:World} {K:PySem.W.Frag} {mg:Str->Option Value} {base:Heap}
theorem Def.ok {x:Str} {st:Stmt} {N ps:List Str} {k:Nat} {sp:Sp} (D:Def K mg x st ps) (S:FnScope N ps (Zah st)) (len:∀ vs H Q E,sp vs H Q E->vs.length=ps.length)
  (hbody:∀ (f:Addr) (cdv:Value) (A:Around) (outer:List Env) (s:Shared) (H:Hp) (vs:List V) (Q:VK) (E:XK),Room k (A.deeper (envOfC x (Zah st) s.heap.objs.size f cdv))->sp vs H Q E ->
   ∃ t,PSs (Zmj CX0 P w K mg base N x (Zah st) f cdv A outer s H E).nox (Zcp st) t/\t { nx:=λ_ H'=>Q .non H',rt:=Q } (start N vs) H):Callee P w K mg base x (k+1) ps sp:=by
 obtain ⟨f,fd,F,hm,hb⟩:=D.ex
 exact ⟨f,fd,F.ok S len λcdv A outer s H vs Q E hr h=>hbody f cdv A outer s H vs Q E hr h,hm,F.kp,hb⟩
theorem def_mk {x:Str} {st:Stmt} {ps:List Str} {h:Heap} {f:Addr} {oc:Value} {od an:Option Addr} {osl:Array (Option Value)} {kV doc pm cdv ct:Value} (X:K.In h) (G:h.Ns mainGlobals mg)
  (a:PySem.W.nsIn K mainGlobals x=some (some (.ref f))) (l:K.lookup f=some ⟨oc,od,.func (PySem.W.fnOf x x (Zd6 st) (Zcp st) (Zah st) .none kV doc pm an cdv ct),osl⟩)
  (c:PySem.W.codeIn K cdv x=true) (k:PySem.W.keepIn K (.ref f)=true)
  (hb:∀ (kV doc pm:Value) (an:Option Addr) (cdv ct:Value) (us:List Value),us.length=ps.length->bindArgs (PySem.W.fnOf x x (Zd6 st) (Zcp st) (Zah st) .none kV doc pm an cdv ct) ⟨us,[]⟩=pure (ps.zip us)):Def K mg x st ps:=by
 have F:=Zqs (st:=st) l c k
 exact ⟨f,_,F,PySem.W.mg_of X G a,F.binds hb⟩
end
section
variable {X:Cx} {x:Str} {k:Nat} {ps:List Str} {sp:Sp} {e:Expr} {es:List Expr} {t:TA} {p pos:Pos}
theorem Zeu (C:Callee X.prog X.w X.K X.mg X.base x k ps sp) (hr:Room k X.A) (hg:Gl X x) (ha:PA X (e::es) t) (hdb:(x == ("__debug__":Str))=false:=by decide)
  (he:starEach (e::es) X.env=(false,eval e X.env)::starEach es X.env:=by rfl) (hpl:(backTo pos (starEach es X.env)).any (·.1)=false:=by rfl):PE X (.Call (.Name x p) (e::es) [] pos) (Zpd sp [] E0 t):=by
 obtain ⟨f,fd,F,hm,hk,hb⟩:=C.ex
 exact ZnK F hr hg hm hk hb .nil pass0 ha hdb he hpl
theorem ZnH {i:Int} (hg:Gl X x) (h:∃ t,X.mg x=some (.int i t)) (hd:(x == ("__debug__":Str))=false:=by decide):PE X (.Name x pos) (tC (.int i)):=by
 obtain ⟨t,e⟩:=h
 exact ZnG hg e ⟨t,rfl⟩ hd
end
noncomputable def Zpc (t:TS):TS:=λD σ H=>∃ J:St->Hp->Prop,t { D with nx:=J } σ H/\∀ σ' H',J σ' H'->D.nx σ' H'
noncomputable def Zpb (t:TT):TT:=λσ H Q=>∃ J:Bool->Hp->Prop,t σ H J/\∀ b H',J b H'->Q b H'
section
variable {X:Cx} {st:Stmt} {e:Expr}
theorem PS.join {t:TS} (h:PS X st t):PS X st (Zpc t):=by
 rintro pins s σ H D I ⟨J,q,hJ⟩
 refine thn (h pins s σ H _ I q) λf s' z=>?_
 cases f with
 | next=>obtain ⟨σ',H',I',q'⟩:=z; exact ⟨σ',H',I',hJ _ _ q'⟩
 | brk=>exact z
 | cont=>exact z
 | ret u=>exact z
theorem PT.join {t:TT} (h:PT X e t):PT X e (Zpb t):=by
 rintro pins s σ H Q I ⟨J,q,hJ⟩
 refine thn (h pins s σ H _ I q) λb s' ⟨H',I',q'⟩=>⟨H',I',hJ _ _ q'⟩
end
theorem ne1:¬ ((Sum.inr ("script":Str):Key)=(Sum.inr ("at":Str):Key)):=by decide +kernel
section
variable {H:Hp} {p c:Addr} {a l b:Int}
end
noncomputable def Kept (p:Addr) (H H':Hp):Prop:=∀ b o,H b=some o->b≠p->H' b=some o
theorem Kept.refl {p:Addr} {H:Hp}:Kept p H H:=λ_ _ h _=>h
theorem Kept.pen {p:Addr} {H H':Hp} {o:HO} (a:Kept p H H'):Kept p H (upd H' p o):=λc u h n=>by
 rw [Zau n]
 exact a c u h n
theorem Same.new {q:Addr} {H H':Hp} {o:HO} (a:Same H H') (hq:H' q=none):Same H (upd H' q o):=λc u h=>by
 have e:=a c u h
 rw [Zau (ZaC e hq)]
 exact e
theorem ZeB (ns:List Int):SeqAt.shaped (.list (ns.map PyData.int))=true:=by
 have h1:PyData.canLayAll0 (ns.map PyData.int)=true:=by
  induction ns with
  | nil=>rfl
  | cons n r ih=>simp [PyData.canLayAll0,PyData.canLay0,ih]
 have h2:PyData.depthAll (ns.map PyData.int)=0:=by
  induction ns with
  | nil=>rfl
  | cons n r ih=>simp [PyData.depthAll,PyData.depth]; exact ih (by
    have:=h1
    simp [PyData.canLayAll0] at this
    exact this.2)
 simp [SeqAt.shaped,PyData.canLay0,PyData.depth,h1,h2]
end L2
set_option Elab.async false
set_option linter.all false
set_option maxRecDepth 100000
namespace L2
open PySem PySem.Spec PyProof.Rows
section
variable {prog:Program} {w:World} {A:Around} {E:Value->Shared->Prop} {s:Shared} {r:Addr} {a b c:Int} {t u v:Tok} {n:Nat}
theorem ZhP {Q:List Value->Shared->Prop} (hh:A.handled=none) (hr:IsRange s.heap r a b c t u v) (hs:Builtin.Range.small a b c=true) (hn:Builtin.Range.rangeSize a b c=n) (hl:n<=2 ^ 24)
  (hQ:∀ (h':Heap) (tk:Nat) (acc:Array Value),(∀ b o,s.heap.get? b=some o->h'.get? b=some o)->ItemsOf (λi v=>∃ t,v=.int (a+i * c) t) acc n->Q acc.toList { s with heap:=h',toks:=tk }):wpAny (model prog w) A (collect (.ref r)) Q E s:=by
 unfold collect; apply wpAny_bind; apply wpAny_runValue; refine codeAny_builtin F.entry_proto_collect ?_
 rw [Around.under_plainId F.plain_proto_collect _]
 show wpAny _ A.in1 (newList [] >>= λz=>again (.builtin "list.__iadd__" ⟨[z,.ref r],[]⟩)) _ _ s
 refine wpAny_bind (wpAny_newObj_type (wpAny_pure ⟨plainId_quiet F.plain_list_iadd _,codeAny_builtin F.entry_list_iadd ?_⟩))
 rw [Around.under_plainId F.plain_list_iadd _]
 show wpAny _ A.in1 (Builtin.List.listExtendWith (.ref s.heap.objs.size) (.ref r) (.ref s.heap.objs.size)) _ _ { s with heap:=s.heap.push { cls:=.type "list",data:=.seq ([]:List Value).toArray } }
 let R:Result->Shared->Prop:=λz s'=>match z with
  | .ok (.ret v)=>wpAny (model prog w) A (match v with
   | .ref q=>(do match (<- load q).data with
    | .seq xs _=>pure xs.toList
    | _=>unsupported "internal:collect")
   | _=>unsupported "internal:collect") Q E s'
  | .ok _=>False
  | .error e=>E e s'
 refine wpAny_extend_range (R:=R) (s:={ s with heap:=s.heap.push { cls:=.type "list",data:=.seq ([]:List Value).toArray } }) hh (Heap.get?_push_of_some _ hr) hs hn hl _ _ _ (show (s.heap.push { cls:=.type "list",data:=.seq ([]:List Value).toArray }).get? s.heap.objs.size=some { cls:=.type "list",data:=.seq #[] } from Heap.get?_push_size _ rfl) λh' tk acc c' hk hS hacc=>?_
 show wpAny _ A (load s.heap.objs.size >>= _) _ _ { s with heap:=h',toks:=tk }
 exact wpAny_bind (wpAny_load hS (wpAny_pure (hQ h' tk acc (λb o e=>hk b o (Nat.ne_of_lt (Heap.lt_size e)) (Heap.get?_push_of_some _ e)) hacc)))

theorem Zjz {Q:Value->Shared->Prop} (hh:A.handled=none) (hr:IsRange s.heap r a b c t u v) (hs:Builtin.Range.small a b c=true) (hn:Builtin.Range.rangeSize a b c=n) (hl:n<=2 ^ 24)
  (hQ:∀ (h':Heap) (tk:Nat) (acc:Array Value),(∀ b o,s.heap.get? b=some o->h'.get? b=some o)->ItemsOf (λi v=>∃ t,v=.int (a+i * c) t) acc n->Q (.ref h'.objs.size) { s with heap:=h'.push { cls:=.type "tuple",data:=.seq acc },toks:=tk }) :
  wpAny (model prog w) A (call (.type "tuple") [.ref r]) Q E s:=by
 refine callType_codes (Q₁:=λz s1=>s1.TypeIs z "tuple"/\Q z s1) F.called_tuple (F.typeCall_tuple_1 _) F.entry_object_init ?_ λz s1 h1=>?_
 ·apply codeAny_of_tree
  show wpAny _ A.in1.in1 (do checkBuiltinCall "tuple.__new__" ⟨[.type "tuple",.ref r],[]⟩; again (.builtin "tuple.__new__" ⟨[.type "tuple",.ref r],[]⟩)) _ _ s
  refine wpAny_bind (wpAny_of_eq (F.newCall_tuple_1 _) (wpAny_pure ⟨plainId_quiet F.plain_tuple_new _,codeAny_builtin F.entry_tuple_new ?_⟩))
  rw [Around.under_plainId F.plain_tuple_new _]
  have f1:=sub_tuple_self; have f2:=init_tuple_lookup; have f3:=madeHere_tuple
  have fT:s.TypeIs (.ref r) "range":=⟨_,hr,rfl⟩
  wp_walk using wpAny_typeOf fT,ZhP (A:=A.in1.in1) hh hr hs hn hl
  intro h' tk acc hk hacc
  show wpAny _ _ (Builtin.Tuple.tupleExact acc.toList.toArray >>= λz=>ret z) _ _ _
  unfold Builtin.Tuple.tupleExact
  have e:acc.toList.toArray=acc:=by simp
  rw [e]
  refine wpAny_bind (wpAny_newObj_type (wpAny_pure ⟨⟨_,Heap.get?_push_size _ rfl,rfl⟩,hQ h' tk acc hk hacc⟩) ?_)
  show acc.size<=sizeLine
  rw [hacc.1,sizeLine_eq]
  exact hl
 ·exact ⟨h1.1,F.args_object_init_2 z _,object_init_meets F.called_tuple.init.lookup F.called_tuple.made (by decide) prog w A.in1 _ s1 ⟨h1.1,rfl,h1.2⟩⟩
end
section
variable {X:Cx}
theorem Zfm (hh:X.A.handled=none):Zdk X (.type "tuple") (λxs H Q=>∃ a lo hi,xs=[.ref a]/\H a=some (.rng lo hi)/\-(2 ^ 62)<=lo/\lo < 2 ^ 62/\-(2 ^ 62)<=hi/\hi < 2 ^ 62/\(hi - lo).toNat<=1000/\∀ p,H p=none->Q (.ref p) (upd H p (.tup (ZcX lo (hi - lo).toNat)))):=by
 intro pins s σ H xs us Q I r h
 obtain ⟨a,lo,hi,rfl,ha,b1,b2,b3,b4,hn,q⟩:=h
 obtain ⟨u,rfl,ru⟩:=ZdY r
 cases ru
 obtain ⟨t,u,v,e⟩:=I.hok a _ ha
 have hsz:Builtin.Range.rangeSize lo hi 1=(((hi - lo).toNat:Nat):Int):=by rw [rangeSize_one]; split <;> omega
 refine Zjz hh (r:=a) (t:=t) (u:=u) (v:=v) e (small_one b1 b2 b3 b4) hsz (by omega) λh' tk acc hk hacc=>?_
 have I1:Inv X pins σ H { s with heap:=h',toks:=tk }:=I.kept hk
 have hv:Vals (ZcX lo (hi - lo).toNat) acc.toList:=ZiM lo _ _ (by simpa using hacc.1) λj v hv=>by
  obtain ⟨t,e⟩:=hacc.2 j v (by simpa using hv)
  exact ⟨t,by rw [e,Int.mul_one]⟩
 have hz:(ZcX lo (hi - lo).toNat).length<=sizeLine:=by
  unfold ZcX
  rw [List.length_map,List.length_range]
  exact Nat.le_trans hn (by decide)
 refine ⟨.ref h'.objs.size,_,I1.laid (h':=h'.push { cls:=.type "tuple",data:=.seq acc }) (t':=tk) (λb o e=>Heap.get?_push_of_some _ e) (Nat.le_refl _) (show ObjOk X.prog X.w _ _ _ (.tup (ZcX lo (hi - lo).toNat)) from ⟨hz,acc.toList,hv,⟨_,Heap.get?_push_size _ rfl,rfl,0,by simp⟩⟩),rfl,q _ (I1.hok.fresh (Nat.le_refl _))⟩

theorem ZiV:fillsNumberSlot (.type "tuple") "mul"=pure false :=
 PySem.fillsNumberSlot_seq (id:="tuple.__mul__") (r:=some (.builtin "tuple.__rmul__")) PySem.F.slot_tuple_mul.lookup (by decide +kernel) PySem.F.slot_tuple_rmul.lookup (by decide +kernel)
theorem ZiR:seqRepeat? (.type "tuple")=pure (some (.builtin "tuple.__mul__")):=by
 unfold seqRepeat?
 rw [PySem.seqSlot_of (T:="tuple") (name:="__mul__") (id:="tuple.__mul__") PySem.F.slot_tuple_mul.lookup (by decide +kernel),PySem.seqSlot_of (T:="tuple") (name:="__rmul__") (id:="tuple.__rmul__") PySem.F.slot_tuple_rmul.lookup (by decide +kernel)]; rfl
theorem ZlA (x:Int) (t:Tok) (l:Addr) (items:Array Value) (n:Nat) (dd:Option Addr) (sl:Array (Option Value)) :
  Meets (Builtin.«int.__rmul__» ⟨[.int x t,.ref l],[]⟩) (λ_ R s=>s.heap.get? l=some { cls:=.type "tuple",dict:=dd,data:=.seq items n,slots:=sl }/\R (.ok (.ret Value.notImplemented)) s):=by
 refine .of_wp λprog w A R s h=>?_
 obtain ⟨hp,g,d,tk,os⟩:=s
 obtain ⟨hl,h⟩:=h
 wp_walk
 exact ⟨_,rfl,h⟩
theorem ZnT (x:Int) (t:Tok) (l:Addr) (items:Array Value) (n:Nat) (dd:Option Addr) (sl:Array (Option Value)) (h1:1 < x) (h2:x<=1000) (h3:items.isEmpty=false) (h4:items.size<=1000) :
  Meets (Builtin.«tuple.__mul__» ⟨[.ref l,.int x t],[]⟩) (λ_ R s=>s.heap.get? l=some { cls:=.type "tuple",dict:=dd,data:=.seq items n,slots:=sl } /\
   R (.ok (.ret (.ref s.heap.objs.size))) { s with heap:=s.heap.push { cls:=.type "tuple",data:=.seq ((List.replicate x.toNat items).foldl (·++·) #[]) } }):=by
 refine .of_wp λprog w A R s h=>?_
 obtain ⟨hp,g,d,tk,os⟩:=s
 obtain ⟨hl,h⟩:=h
 have hp0:0<=(items.size:Int) * x:=Int.mul_nonneg (by omega) (by omega)
 have hp1:(items.size:Int) * x<=1000 * 1000:=Int.mul_le_mul (by omega) h2 (by omega) (by omega)
 have hne:items.size≠0:=λe=>by simp [Array.isEmpty,e] at h3
 wp_walk
 refine wpAny_ite_split (λz=>absurd z (by simp; omega)) (λ_=>?_)
 refine wpAny_bind ?_
 unfold Builtin.Tuple.tupleItemsOf
 refine wpAny_bind (wpAny_seqItems hl rfl (wpAny_pure ?_))
 refine wpAny_ite_split (λz=>absurd z (by rw [h3]; simp; omega)) (λ_=>?_)
 refine wpAny_ite_split (λz=>absurd z (by rw [h3]; simp; omega)) (λ_=>?_)
 refine wpAny_ite_split (λz=>absurd z (by omega)) (λ_=>?_)
 refine wpAny_ite_split (λz=>absurd z (by unfold Builtin.Tuple.tupleTooMany; rw [sizeLine_eq]; simp; omega)) (λ_=>?_)
 unfold Builtin.Tuple.tupleExact
 have hlen:∀ k:Nat,((List.replicate k items).foldl (·++·) #[]).size=k * items.size:=λk=>by
  have key:∀ (k:Nat) (acc:Array Value),((List.replicate k items).foldl (·++·) acc).size=acc.size+k * items.size:=by
   intro k
   induction k with
   | zero=>intro acc; simp
   | succ k ih =>
    intro acc
    rw [List.replicate_succ,List.foldl_cons,ih,Array.size_append,Nat.succ_mul]
    omega
  simpa using key k #[]
 refine wpAny_bind (wpAny_newObj_type (wpAny_pure ⟨_,rfl,h⟩) ?_)
 show ((List.replicate x.toNat items).foldl (·++·) #[]).size<=sizeLine
 rw [hlen,sizeLine_eq]
 have hx:x.toNat<=1000:=by omega
 exact Nat.le_trans (Nat.mul_le_mul hx h4) (by decide)
noncomputable def Zpy (K:PySem.W.Frag):R2:=λx y H Q=>∃ a k xs,x=.ref a/\y=.int k/\SqT K H a xs/\1 < k/\k<=1000/\xs≠[]/\xs.length<=1000/\∀ p,H p=none->Q (.ref p) (upd H p (.tup (List.replicate k.toNat xs).flatten))
theorem Zh9 {xs:List V} {us:List Value} (r:Vals xs us):∀ k:Nat,Vals (List.replicate k xs).flatten (List.replicate k us).flatten
 | 0=>.nil
 | k+1=>by
  rw [List.replicate_succ,List.replicate_succ,List.flatten_cons,List.flatten_cons]
  exact r.append (Zh9 r k)
theorem op_repT:OpR X (binaryOp .Mult) (Zpy X.K):=by
 intro pins s σ H x y v u Q I rx ry h
 obtain ⟨a,k,xs,rfl,rfl,hq,h1,h2,hne,hl,q⟩:=h
 cases rx
 obtain ⟨t,rfl⟩:=ry
 obtain ⟨its,rv,p,hz⟩:=I.tuple hq
 obtain ⟨o,ho,hc,n,hd⟩:=p
 obtain ⟨oc,od,odd,osl⟩:=o
 have hc':oc=.type "tuple":=hc
 have hd':odd=.seq its.toArray n:=hd
 subst hc' hd'
 have hlen:=rv.length
 have hemp:its.toArray.isEmpty=false:=by
  cases its with
  | nil=>cases rv; exact absurd rfl hne
  | cons i r=>rfl
 have efl:(List.replicate k.toNat its.toArray).foldl (·++·) #[]=(List.replicate k.toNat its).flatten.toArray:=by
  have key:∀ (k:Nat) (acc:Array Value),(List.replicate k its.toArray).foldl (·++·) acc=acc++(List.replicate k its).flatten.toArray:=by
   intro k
   induction k with
   | zero=>intro acc; simp
   | succ k ih =>
    intro acc
    rw [List.replicate_succ,List.foldl_cons,ih,List.replicate_succ,List.flatten_cons]
    simp
  simpa using key k.toNat #[]
 refine wpAny_binaryOp_repeat_ref (T:="tuple") (U:="int") (by decide) ⟨_,ho,rfl⟩ (λs'=>typeIs_int s' k t) ZiV PySem.F.fills_int_mul PySem.F.slot_int_rmul ZiR PySem.F.slot_int_index.lookup ?_
 refine call_meets PySem.F.slot_int_rmul (typeIs_int s k t) PySem.F.entry_int_rmul (PySem.F.args_int_rmul_2 _ _) (ZlA k t a its.toArray n od osl) ⟨ho,rfl,⟨_,ho,rfl⟩,?_⟩
 refine call_meets PySem.F.slot_tuple_mul ⟨_,ho,rfl⟩ PySem.F.entry_tuple_mul (PySem.F.args_tuple_mul_2 _ _) (ZnT k t a its.toArray n od osl h1 h2 hemp (by rw [List.size_toArray]; omega)) ⟨ho,?_⟩
 rw [efl]
 have hzz:(List.replicate k.toNat xs).flatten.length<=sizeLine:=by
  have hx:k.toNat<=1000:=by omega
  have e:(List.replicate k.toNat xs).flatten.length=k.toNat * xs.length:=by simp
  rw [e,sizeLine_eq]
  exact Nat.le_trans (Nat.mul_le_mul hx hl) (by decide)
 exact ⟨.ref s.heap.objs.size,_,I.laid (t':=s.toks) (λb o e=>Heap.get?_push_of_some _ e) (Nat.le_refl _) (show ObjOk X.prog X.w _ _ _ (.tup (List.replicate k.toNat xs).flatten) from ⟨hzz,_,Zh9 rv k.toNat,IsTup.new _ _⟩),rfl,q _ (I.hok.fresh (Nat.le_refl _))⟩
end
end L2
set_option Elab.async false
set_option linter.all false
set_option maxRecDepth 100000
namespace L2
open PySem PySem.Spec PyProof.Rows
theorem ZgN {n:Nat} (h:n < 2 ^ 1900):n.log2 < 1900:=by
 by_cases h0:n=0
 ·rw [h0]; decide
 ·exact (Nat.log2_lt h0).mpr h
theorem ZfS {i:Int} (h:i.natAbs < 2 ^ 1900):(PyData.int i).shown.length<=1901:=by
 have e:=int_text_length_le (k:=1900) (by decide) (ZgN h)
 have q:(Str.ofString (toString i)).length<=1901:=by rw [PySem.ofString_length]; exact e
 simpa [PyData.shown] using q
theorem ZdG:∀ (ns:List Int),(∀ n∈ns,n.natAbs < 2 ^ 1900)->((PyData.shownAll (ns.map PyData.int)).map (·.length)).sum<=ns.length * 1901/\(PyData.shownAll (ns.map PyData.int)).length=ns.length
 | [],_=>⟨by simp [PyData.shownAll],rfl⟩
 | n::r,h=>by
  obtain ⟨h1,h2⟩:=ZdG r λx hx=>h x (List.mem_cons_of_mem _ hx)
  have h3:=ZfS (h n List.mem_cons_self)
  rw [List.map_cons,PyData.shownAll,List.map_cons,List.sum_cons,List.length_cons,List.length_cons,h2,Nat.succ_mul]
  exact ⟨by omega,rfl⟩
theorem ZcR:∀ (ns:List Int),(∀ n∈ns,n.natAbs < 2 ^ 1900)->PyData.showableAll (ns.map PyData.int)=true
 | [],_=>rfl
 | n::r,h=>by
  rw [List.map_cons,PyData.showableAll,ZcR r λx hx=>h x (List.mem_cons_of_mem _ hx),Bool.and_true]
  have q:=ZgN (h n List.mem_cons_self)
  simp only [PyData.showable,decide_eq_true_eq]
  omega
noncomputable def Zak (lo:Int) (n:Nat):List Int:=(List.range n).map λ(k:Nat)=>lo+(k:Int)
theorem ZjV (lo:Int) (n:Nat):ZcX lo n=(Zak lo n).map V.int:=by
 unfold ZcX Zak
 rw [List.map_map]
 rfl
theorem ZaR (lo:Int) (n:Nat):(Zak lo n).length=n:=by
 unfold Zak
 rw [List.length_map,List.length_range]
theorem Zd1 {lo x:Int} {n:Nat} (h:x∈Zak lo n):lo<=x/\x < lo+n:=by
 unfold Zak at h
 obtain ⟨k,hk,rfl⟩:=List.mem_map.mp h
 have:=List.mem_range.mp hk
 omega
end L2
set_option Elab.async false
set_option linter.all false
set_option maxRecDepth 100000
namespace L2
open PySem PySem.Spec PyProof.Rows
noncomputable def CMulG (i j:Int):Prop:=i.natAbs < 2 ^ 8000/\j.natAbs < 2 ^ 8000
noncomputable def ZqZ (i j:Int):Prop:=j≠0/\j.natAbs < 2 ^ 8000
theorem Zk2 {x:Int} (h:x.natAbs < 2 ^ 8000):Builtin.Int.intBits x<=8000:=by
 unfold Builtin.Int.intBits
 split
 ·exact Nat.zero_le _
 ·rename_i hx
  have h0:x.natAbs≠0:=by
   intro z
   have e:x=0:=Int.natAbs_eq_zero.mp z
   rw [e] at hx
   exact hx rfl
  exact (Nat.log2_lt h0).mpr h
theorem CMulG.ok {i j:Int} (h:CMulG i j):IntMulOk i j:=by
 have h1:=Zk2 h.1
 have h2:=Zk2 h.2
 unfold IntMulOk
 have e:Builtin.Int.intTooBig ((Builtin.Int.intBits i+Builtin.Int.intBits j:Nat):Int)=false:=by
  unfold Builtin.Int.intTooBig
  refine decide_eq_false ?_
  have hb:((16000:Nat):Int)<=(bitsLine:Int):=by decide
  omega
 intro z
 rw [Bool.and_eq_true] at z
 have z2:Builtin.Int.intTooBig ((Builtin.Int.intBits i+Builtin.Int.intBits j:Nat):Int)=true:=z.2
 rw [e] at z2
 cases z2
section
variable {X:Cx}
theorem op_mulG:OpR X (binaryOp .Mult) (rI CMulG λi j=>.int (i * j)):=opI λ_ _ _ _ _ _ _ hc q=>mul_int q hc.ok
theorem Zb0:OpR X (binaryOp .FloorDiv) (rI ZqZ λi j=>.int (i.fdiv j)):=opI λi j _ _ _ _ _ hc q=>by
 refine floordiv_int hc.1 q (.inl (PyProof.noPylong_of_log2 ?_))
 by_cases h0:j.natAbs=0
 ·exact absurd (Int.natAbs_eq_zero.mp h0) hc.1
 ·exact Nat.lt_trans ((Nat.log2_lt h0).mpr hc.2) (by decide)
theorem ZdR:Zdk X (.builtin "isinstance") (λxs H Q=>∃ x T t b,xs=[x,.ty T]/\TyOf X.K H x t/\PySem.W.kitOne X.K t (.type T)=some b/\Q (.bl b) H):=by
 intro pins s σ H xs us Q I r h
 obtain ⟨x,T,t,b,rfl,ty,e,q⟩:=h
 obtain ⟨u,c,rfl,ru,rc⟩:=Zln r
 cases rc
 exact Zku I ru ty e λtk=>⟨.bl b,H,I.tok tk,rfl,q⟩
end
end L2
set_option Elab.async false
set_option linter.all false
set_option maxRecDepth 100000
namespace Gc
noncomputable def gcdI (a b:Int):Int:=((Nat.gcd a.natAbs b.natAbs:Nat):Int)
noncomputable def den (t b:Int):Int:=if b < 0 then -gcdI t b else gcdI t b
noncomputable def lowT (t b:Int):Int:=t.fdiv (den t b)
noncomputable def lowB (t b:Int):Int:=b.fdiv (den t b)
theorem ZhK {t b:Int} (h:b≠0):0 < Nat.gcd t.natAbs b.natAbs:=Nat.gcd_pos_of_pos_right _ (by omega)
theorem den_ne {t b:Int} (h:b≠0):den t b≠0:=by
 have:=ZhK (t:=t) h
 unfold den gcdI
 split <;> omega
theorem den_abs (t b:Int):(den t b).natAbs=Nat.gcd t.natAbs b.natAbs:=by
 unfold den gcdI
 split <;> omega
theorem low_spec {t b:Int} (h:b≠0):t=den t b * lowT t b/\b=den t b * lowB t b/\0 < lowB t b/\Nat.gcd (lowT t b).natAbs (lowB t b).natAbs=1:=by
 have hd:=den_ne (t:=t) h
 have ha:=den_abs t b
 have hg:=ZhK (t:=t) h
 have d1:den t b ∣ t:=Int.natAbs_dvd_natAbs.mp (by rw [ha]; exact Nat.gcd_dvd_left _ _)
 have d2:den t b ∣ b:=Int.natAbs_dvd_natAbs.mp (by rw [ha]; exact Nat.gcd_dvd_right _ _)
 obtain ⟨x,hx⟩:=d1
 obtain ⟨y,hy⟩:=d2
 have e1:lowT t b=x:=by
  show t.fdiv (den t b)=x
  generalize den t b=d at hd hx
  rw [hx]
  exact Int.mul_fdiv_cancel_left _ hd
 have e2:lowB t b=y:=by
  show b.fdiv (den t b)=y
  generalize den t b=d at hd hy
  rw [hy]
  exact Int.mul_fdiv_cancel_left _ hd
 rw [e1,e2]
 refine ⟨hx,hy,?_,?_⟩
 ·have hb:(0 < b/\0 < den t b)\/(b < 0/\den t b < 0):=by
   unfold den gcdI
   split <;> omega
  rcases hb with ⟨p,q⟩ | ⟨p,q⟩
  ·rcases (show 0 < y\/y<=0 by omega) with z | z
   ·exact z
   ·exfalso
    have:=Int.mul_nonneg (Int.le_of_lt q) (show 0<=-y by omega)
    rw [Int.mul_neg,<- hy] at this
    omega
  ·rcases (show 0 < y\/y<=0 by omega) with z | z
   ·exact z
   ·exfalso
    have:=Int.mul_nonneg (show 0<=-den t b by omega) (show 0<=-y by omega)
    rw [Int.neg_mul_neg,<- hy] at this
    omega
 ·have h1:t.natAbs=Nat.gcd t.natAbs b.natAbs * x.natAbs:=by
   have:=congrArg Int.natAbs hx
   rw [Int.natAbs_mul,ha] at this
   exact this
  have h2:b.natAbs=Nat.gcd t.natAbs b.natAbs * y.natAbs:=by
   have:=congrArg Int.natAbs hy
   rw [Int.natAbs_mul,ha] at this
   exact this
  have h3:Nat.gcd t.natAbs b.natAbs=Nat.gcd t.natAbs b.natAbs * Nat.gcd x.natAbs y.natAbs:=by
   rw [<- Nat.gcd_mul_left,<- h1,<- h2]
  have h4:Nat.gcd t.natAbs b.natAbs * 1=Nat.gcd t.natAbs b.natAbs * Nat.gcd x.natAbs y.natAbs:=by rw [Nat.mul_one]; exact h3
  exact (Nat.eq_of_mul_eq_mul_left hg h4).symm
theorem low_le {t b:Int} (h:b≠0):(lowT t b).natAbs<=t.natAbs/\(lowB t b).natAbs<=b.natAbs:=by
 obtain ⟨h1,h2,_,_⟩:=low_spec (t:=t) h
 have hg:=ZhK (t:=t) h
 have ha:=den_abs t b
 constructor
 ·have e:=congrArg Int.natAbs h1
  rw [Int.natAbs_mul,ha] at e
  rw [e]
  exact Nat.le_mul_of_pos_left _ hg
 ·have e:=congrArg Int.natAbs h2
  rw [Int.natAbs_mul,ha] at e
  rw [e]
  exact Nat.le_mul_of_pos_left _ hg
theorem low_same {t b u c:Int} (hb:0 < b) (hc:0 < c) (g1:Nat.gcd t.natAbs b.natAbs=1) (g2:Nat.gcd u.natAbs c.natAbs=1) (h:t * c=u * b):t=u/\b=c:=by
 have k1:b.natAbs ∣ c.natAbs:=by
  have d:b.natAbs ∣ t.natAbs * c.natAbs:=⟨u.natAbs,by rw [<- Int.natAbs_mul,h,Int.natAbs_mul,Nat.mul_comm]⟩
  exact Nat.Coprime.dvd_of_dvd_mul_left (show Nat.Coprime b.natAbs t.natAbs by unfold Nat.Coprime; rw [Nat.gcd_comm]; exact g1) d
 have k2:c.natAbs ∣ b.natAbs:=by
  have d:c.natAbs ∣ u.natAbs * b.natAbs:=⟨t.natAbs,by rw [<- Int.natAbs_mul,<- h,Int.natAbs_mul,Nat.mul_comm]⟩
  exact Nat.Coprime.dvd_of_dvd_mul_left (show Nat.Coprime c.natAbs u.natAbs by unfold Nat.Coprime; rw [Nat.gcd_comm]; exact g2) d
 have e:b=c:=by
  have:=Nat.dvd_antisymm k1 k2
  omega
 subst e
 exact ⟨Int.eq_of_mul_eq_mul_right (by omega) h,rfl⟩
end Gc
set_option Elab.async false
set_option linter.all false
set_option maxRecDepth 100000
namespace L2
open PySem PySem.Spec PyProof.Rows
end L2
set_option Elab.async false
set_option linter.all false
set_option maxRecDepth 100000
namespace L2
open PySem PySem.Spec PyProof.Rows
end L2
set_option Elab.async false
set_option linter.all false
set_option maxRecDepth 100000
namespace L2
open PySem PySem.Spec PyProof.Rows
inductive Tr (α:Type) where
 | ret (a:α)
 | draw (n:Int) (k:Int->Tr α)
 | fail
namespace Tr
variable {α β γ:Type}
noncomputable def bind:Tr α->(α->Tr β)->Tr β
 | .ret a,f=>f a
 | .draw n k,f=>.draw n λr=>(k r).bind f
 | .fail,_=>.fail
@[simp] theorem ret_bind (a:α) (f:α->Tr β):(Tr.ret a).bind f=f a:=rfl
@[simp] theorem draw_bind (n:Int) (k:Int->Tr α) (f:α->Tr β):(Tr.draw n k).bind f=.draw n λr=>(k r).bind f:=rfl
@[simp] theorem Zqt (f:α->Tr β):(Tr.fail:Tr α).bind f=.fail:=rfl
@[simp] theorem bind_assoc:∀ (t:Tr α) (f:α->Tr β) (g:β->Tr γ),(t.bind f).bind g=t.bind λa=>(f a).bind g
 | .ret a,f,g=>rfl
 | .draw n k,f,g=>by simp only [draw_bind]; congr 1; funext r; exact bind_assoc (k r) f g
 | .fail,f,g=>rfl
noncomputable def of:Option α->Tr α
 | some a=>.ret a
 | none=>.fail
@[simp] theorem of_some (a:α):Tr.of (some a)=.ret a:=rfl
@[simp] theorem of_none:Tr.of (none:Option α)=.fail:=rfl
noncomputable def ok:Tr α->Nat->(Nat->α->Prop)->Prop
 | .ret a,m,Q=>Q m a
 | .draw n k,m,Q=>m < 400000/\0 < n/\n < 1073741824/\∀ r,0<=r->r < n->(k r).ok (m+1) Q
 | .fail,_,_=>False
theorem ok_mono:∀ {t:Tr α} {m:Nat} {Q Q':Nat->α->Prop},t.ok m Q->(∀ m a,Q m a->Q' m a)->t.ok m Q'
 | .ret a,m,_,_,h,hq=>hq m a h
 | .draw n k,m,_,_,⟨h1,h2,h3,h⟩,hq=>⟨h1,h2,h3,λr h0 h1=>ok_mono (h r h0 h1) hq⟩
theorem ok_bind:∀ {t:Tr α} {f:α->Tr β} {m:Nat} {Q:Nat->β->Prop},(t.bind f).ok m Q ↔ t.ok m λm' a=>(f a).ok m' Q
 | .ret a,f,m,Q=>Iff.rfl
 | .draw n k,f,m,Q=>by
  show (_/\_/\_/\∀ r,_) ↔ (_/\_/\_/\∀ r,_)
  refine and_congr_right λ_=>and_congr_right λ_=>and_congr_right λ_=>forall_congr' λr=>forall_congr' λ_=>forall_congr' λ_=>ok_bind
 | .fail,f,m,Q=>Iff.rfl
theorem ok_of {o:Option α} {m:Nat} {Q:Nat->α->Prop} (h:(Tr.of o).ok m Q):∃ a,o=some a/\Q m a:=by
 cases o with
 | none=>exact h.elim
 | some a=>exact ⟨a,rfl,h⟩
noncomputable def all:Tr α->Nat->(α->Prop)->Prop
 | .ret a,_,P=>P a
 | .draw w k,n+1,P=>0 < w/\w < 1073741824/\∀ r,0<=r->r < w->(k r).all n P
 | .draw _ _,0,_=>False
 | .fail,_,_=>False
theorem all_ok:∀ {t:Tr α} {n m:Nat} {P:α->Prop},t.all n P->m+n<=400000->t.ok m λm' a=>m'<=m+n/\P a
 | .ret a,n,m,P,h,hm=>⟨by omega,h⟩
 | .draw w k,n+1,m,P,⟨h1,h2,h⟩,hm=>⟨by omega,h1,h2,λr a b=>ok_mono (all_ok (h r a b) (by omega)) λm' x hz0=>by
  obtain ⟨p,q⟩:=hz0
  exact ⟨by omega,q⟩⟩
theorem all_mono:∀ {t:Tr α} {n n':Nat} {P P':α->Prop},t.all n P->n<=n'->(∀ a,P a->P' a)->t.all n' P'
 | .ret a,n,n',P,P',h,hn,hp=>hp a h
 | .draw w k,n+1,n'+1,P,P',⟨h1,h2,h⟩,hn,hp=>⟨h1,h2,λr a b=>all_mono (h r a b) (by omega) hp⟩
 | .draw w k,n+1,0,P,P',h,hn,hp=>by omega
theorem all_bind:∀ {t:Tr α} {f:α->Tr β} {n n':Nat} {P:α->Prop} {P':β->Prop},t.all n P->(∀ a,P a->(f a).all n' P')->(t.bind f).all (n+n') P'
 | .ret a,f,n,n',P,P',h,hf=>all_mono (hf a h) (by omega) λ_ x=>x
 | .draw w k,f,n+1,n',P,P',⟨h1,h2,h⟩,hf=>by
  have e:n+1+n'=(n+n')+1:=by omega
  rw [e]
  exact ⟨h1,h2,λr a b=>all_bind (h r a b) hf⟩
end Tr
noncomputable abbrev Sub (G H:Hp):Prop:=∀ b o,G b=some o->H b=some o
structure Pk where
 is:HO->Hp->Nat->Prop
 mono:∀ {o:HO} {G G':Hp} {m:Nat},Sub G G'->is o G m->is o G' m
structure Wd (PK:Pk) (pa:Addr) (m:Nat) (G H:Hp):Prop where
 sub:Sub G H
 gpa:G pa=none
 pen:∃ o,H pa=some o/\PK.is o G m
structure Stp (pa:Addr) (G H G' H':Hp):Prop where
 gs:Sub G G'
 gn:∀ b o,G' b=some o->G b=some o\/H b=none
 hk:∀ b o,H b=some o->b≠pa->H' b=some o
theorem Stp.refl {pa:Addr} {G H:Hp}:Stp pa G H G H:=⟨λ_ _ h=>h,λ_ _ h=>.inl h,λ_ _ h _=>h⟩
theorem Stp.trans {pa:Addr} {G H G1 H1 G2 H2:Hp} (a:Stp pa G H G1 H1) (b:Stp pa G1 H1 G2 H2) (hp:∃ o,H1 pa=some o):Stp pa G H G2 H2:=by
 refine ⟨λc o h=>b.gs c o (a.gs c o h),λc o h=>?_,λc o h n=>b.hk c o (a.hk c o h n) n⟩
 rcases b.gn c o h with z | z
 ·exact a.gn c o z
 ·refine .inr ?_
  cases e:H c with
  | none=>rfl
  | some u =>
   by_cases hc:c=pa
   ·subst hc
    obtain ⟨o',z'⟩:=hp
    rw [z'] at z; cases z
   ·rw [a.hk c u e hc] at z; cases z
section
variable {PK:Pk} {pa:Addr} {m:Nat} {G H:Hp}
theorem Wd.some (w:Wd PK pa m G H):∃ o,H pa=some o:=let ⟨o,h,_⟩:=w.pen; ⟨o,h⟩
theorem Wd.ne (w:Wd PK pa m G H) {p:Addr} (hp:H p=none):pa≠p:=λe=>by
 obtain ⟨o,h⟩:=w.some
 rw [e,hp] at h; cases h
theorem Sub.new {p:Addr} {o:HO} (hp:G p=none):Sub G (upd G p o):=λb u h=>by rw [Zau (ZaC h hp)]; exact h
theorem Wd.gnone (w:Wd PK pa m G H) {p:Addr} (hp:H p=none):G p=none:=by
 cases e:G p with
 | none=>rfl
 | some o=>rw [w.sub p o e] at hp; cases hp
theorem Sub.upd2 {p:Addr} {o:HO} (s:Sub G H):Sub (upd G p o) (upd H p o):=λb u h=>by
 by_cases e:b=p
 ·subst e; rw [ZaF] at h ⊢; exact h
 ·rw [Zau e] at h ⊢; exact s b u h
theorem Wd.new (w:Wd PK pa m G H) {p:Addr} {o:HO} (hp:H p=none):Wd PK pa m (upd G p o) (upd H p o)/\Stp pa G H (upd G p o) (upd H p o):=by
 have hg:=w.gnone hp
 have hne:=w.ne hp
 refine ⟨⟨w.sub.upd2,by rw [Zau hne]; exact w.gpa,?_⟩,⟨Sub.new hg,λb u h=>?_,λb u h _=>by rw [Zau (ZaC h hp)]; exact h⟩⟩
 ·obtain ⟨u,h,q⟩:=w.pen
  exact ⟨u,by rw [Zau hne]; exact h,PK.mono (Sub.new hg) q⟩
 ·by_cases e:b=p
  ·subst e; exact .inr hp
  ·rw [Zau e] at h; exact .inl h
theorem Wd.own (w:Wd PK pa m G H) {p:Addr} {o:HO} (hp:H p=none):Wd PK pa m G (upd H p o)/\Stp pa G H G (upd H p o):=by
 have hne:=w.ne hp
 refine ⟨⟨λb u h=>by rw [Zau (ZaC (w.sub b u h) hp)]; exact w.sub b u h,w.gpa,?_⟩,⟨λ_ _ h=>h,λ_ _ h=>.inl h,λb u h _=>by rw [Zau (ZaC h hp)]; exact h⟩⟩
 obtain ⟨u,h,q⟩:=w.pen
 exact ⟨u,by rw [Zau hne]; exact h,q⟩
theorem Wd.freeze (w:Wd PK pa m G H) {p:Addr} {o:HO} (hp:H p=Option.some o) (hg:G p=none) (hne:pa≠p):Wd PK pa m (upd G p o) H:=by
 refine ⟨λb u h=>?_,by rw [Zau hne]; exact w.gpa,?_⟩
 ·by_cases e:b=p
  ·subst e; rw [ZaF] at h; rw [hp]; exact h
  ·rw [Zau e] at h; exact w.sub b u h
 ·obtain ⟨u,h,q⟩:=w.pen
  exact ⟨u,h,PK.mono (Sub.new hg) q⟩

noncomputable def Kn (PK:Pk) (pa:Addr) (m:Nat) (G H:Hp) (x:PyData) (Q:VK):Prop:=∀ v G' H',Stp pa G H G' H'->Wd PK pa m G' H'->Dn G' v x->Q v H'
variable {x:PyData} {Q:VK} {v:V} {vs:List V} {ds:List PyData} {p:Addr}
theorem Kn.here (k:Kn PK pa m G H x Q) (w:Wd PK pa m G H) (d:Dn G v x):Q v H:=k v G H .refl w d
theorem Kn.tup (k:Kn PK pa m G H (.tuple ds) Q) (w:Wd PK pa m G H) (d:DnAll G vs ds) (hp:H p=none):Q (.ref p) (upd H p (.tup vs)):=by
 obtain ⟨w1,s1⟩:=w.new (o:=.tup vs) hp
 exact k _ _ _ s1 w1 (.tup ZaF (DnAll.mono s1.gs d))
theorem Kn.lst (k:Kn PK pa m G H (.list ds) Q) (w:Wd PK pa m G H) (d:DnAll G vs ds) (hp:H p=none):Q (.ref p) (upd H p (.lst vs)):=by
 obtain ⟨w1,s1⟩:=w.new (o:=.lst vs) hp
 exact k _ _ _ s1 w1 (.lst ZaF (DnAll.mono s1.gs d))
theorem Kn.later {G1 H1:Hp} (k:Kn PK pa m G H x Q) (s:Stp pa G H G1 H1) (hp:∃ o,H1 pa=Option.some o):Kn PK pa m G1 H1 x Q:=λv G' H' s' w d=>k v G' H' (s.trans s' hp) w d
end
inductive Sl where
 | un | d (x:PyData) | own (xs:List PyData) | pen | dic (kvs:List (Int×PyData))
inductive KD (G:Hp):List (Key×V)->List (Int×PyData)->Prop
 | nil:KD G [] []
 | cons {i:Int} {v:V} {d:PyData} {ks:List (Key×V)} {kvs:List (Int×PyData)}:Dn G v d->KD G ks kvs->KD G ((.inl i,v)::ks) ((i,d)::kvs)
theorem KD.mono {G G':Hp} (s:Sub G G') {ks:List (Key×V)} {kvs:List (Int×PyData)} (h:KD G ks kvs):KD G' ks kvs:=by
 induction h with
 | nil=>exact .nil
 | cons h _ ih=>exact .cons (h.mono s) ih
inductive SlOk (pa:Addr) (H₀ G H:Hp):Option V->Sl->Prop
 | un {o:Option V}:SlOk pa H₀ G H o .un
 | d {v:V} {x:PyData}:Dn G v x->SlOk pa H₀ G H (some v) (.d x)
 | own {p:Addr} {vs:List V} {xs:List PyData}:H p=some (.lst vs)->G p=none->H₀ p=none->DnAll G vs xs->SlOk pa H₀ G H (some (.ref p)) (.own xs)
 | pen:SlOk pa H₀ G H (some (.ref pa)) .pen
 | dic {p:Addr} {ks:List (Key×V)} {kvs:List (Int×PyData)}:H p=some (.dK ks)->G p=none->H₀ p=none->KD G ks kvs->SlOk pa H₀ G H (some (.ref p)) (.dic kvs)
structure Rl (PK:Pk) (pa:Addr) (G₀ H₀:Hp) (m:Nat) (σ:St) (ρ:List Sl) (G H:Hp):Prop where
 wd:Wd PK pa m G H
 st:Stp pa G₀ H₀ G H
 p0:∃ o,H₀ pa=some o
 sl:∀ (i:Nat) (s:Sl),ρ[i]?=some s->∃ o,σ[i]?=some o/\SlOk pa H₀ G H o s
 len:ρ.length=σ.length
 dj:∀ (i j:Nat) (xs ys:List PyData),i≠j->ρ[i]?=some (.own xs)->ρ[j]?=some (.own ys)->σ[i]?≠σ[j]?
 dj2:∀ (i j:Nat) (xs ys:List (Int×PyData)),i≠j->ρ[i]?=some (.dic xs)->ρ[j]?=some (.dic ys)->σ[i]?≠σ[j]?
section
variable {PK:Pk} {pa:Addr} {G₀ H₀ G H:Hp} {m:Nat} {σ:St} {ρ:List Sl}
theorem ZfU {α:Type} {l:List α} {k i:Nat} {x y:α} (h:(l.set k x)[i]?=some y) (hn:x≠y):k≠i/\l[i]?=some y:=by
 have hi:k≠i:=λe=>by
  subst e
  have hl:k < l.length:=by
   have:=(List.getElem?_eq_some_iff.mp h).1
   rwa [List.length_set] at this
  rw [List.getElem?_set_self hl] at h
  exact hn (Option.some.inj h)
 rw [List.getElem?_set_ne hi] at h
 exact ⟨hi,h⟩
theorem Zm5 {α:Type} {T:α->Sl} {k:Nat} {x:Sl} {v:Option V} (dj:∀ (i j:Nat) (a b:α),i≠j->ρ[i]?=some (T a)->ρ[j]?=some (T b)->σ[i]?≠σ[j]?) (hn:∀ a,x≠T a) :
  ∀ (i j:Nat) (a b:α),i≠j->(ρ.set k x)[i]?=some (T a)->(ρ.set k x)[j]?=some (T b)->(σ.set k v)[i]?≠(σ.set k v)[j]?:=λi j a b hij h1 h2=>by
 obtain ⟨hi,h1⟩:=ZfU h1 (hn a)
 obtain ⟨hj,h2⟩:=ZfU h2 (hn b)
 rw [List.getElem?_set_ne hi,List.getElem?_set_ne hj]
 exact dj i j a b hij h1 h2
theorem ZkM {α:Type} {T:α->Sl} {k:Nat} {x:Sl} (dj:∀ (i j:Nat) (a b:α),i≠j->ρ[i]?=some (T a)->ρ[j]?=some (T b)->σ[i]?≠σ[j]?) (hn:∀ a,x≠T a) :
  ∀ (i j:Nat) (a b:α),i≠j->(ρ.set k x)[i]?=some (T a)->(ρ.set k x)[j]?=some (T b)->σ[i]?≠σ[j]?:=λi j a b hij h1 h2 =>
 dj i j a b hij (ZfU h1 (hn a)).2 (ZfU h2 (hn b)).2
theorem SlOk.step {G' H':Hp} {o:Option V} {s:Sl} (k:SlOk pa H₀ G H o s) (hp0:∃ o,H₀ pa=some o) (st:Stp pa G H G' H'):SlOk pa H₀ G' H' o s:=by
 cases k with
 | un=>exact .un
 | d h=>exact .d (h.mono st.gs)
 | pen=>exact .pen
 | @own p vs xs h1 h2 h3 h4 =>
  have hne:p≠pa:=λe=>by
   obtain ⟨u,hu⟩:=hp0
   rw [<- e,h3] at hu; cases hu
  refine .own (st.hk _ _ h1 hne) ?_ h3 (DnAll.mono st.gs h4)
  cases e:G' p with
  | none=>rfl
  | some u =>
   rcases st.gn p u e with z | z
   ·rw [h2] at z; cases z
   ·rw [h1] at z; cases z
 | @dic p ks kvs h1 h2 h3 h4 =>
  have hne:p≠pa:=λe=>by
   obtain ⟨u,hu⟩:=hp0
   rw [<- e,h3] at hu; cases hu
  refine .dic (st.hk _ _ h1 hne) ?_ h3 (h4.mono st.gs)
  cases e:G' p with
  | none=>rfl
  | some u =>
   rcases st.gn p u e with z | z
   ·rw [h2] at z; cases z
   ·rw [h1] at z; cases z
theorem Rl.step {G' H':Hp} {m':Nat} (r:Rl PK pa G₀ H₀ m σ ρ G H) (s:Stp pa G H G' H') (w:Wd PK pa m' G' H'):Rl PK pa G₀ H₀ m' σ ρ G' H' :=
 ⟨w,r.st.trans s r.wd.some,r.p0,λi sl h=>let ⟨o,h1,h2⟩:=r.sl i sl h; ⟨o,h1,h2.step r.p0 s⟩,r.len,r.dj,r.dj2⟩
theorem Rl.set (r:Rl PK pa G₀ H₀ m σ ρ G H) {v:V} {x:PyData} (d:Dn G v x) (k:Nat):Rl PK pa G₀ H₀ m (σ.set k (some v)) (ρ.set k (.d x)) G H:=by
 refine ⟨r.wd,r.st,r.p0,λi s h=>?_,by rw [List.length_set,List.length_set]; exact r.len,λi j xs ys hij h1 h2=>?_,Zm5 r.dj2 λa h=>by cases h⟩
 ·by_cases e:k=i
  ·subst e
   have hl:k < ρ.length:=by
    have:=(List.getElem?_eq_some_iff.mp h).1
    rwa [List.length_set] at this
   rw [List.getElem?_set_self hl] at h
   cases h
   exact ⟨_,List.getElem?_set_self (by rw [<- r.len]; exact hl),.d d⟩
  ·rw [List.getElem?_set_ne e] at h ⊢
   exact r.sl i s h
 ·have hi:k≠i:=λe=>by
   subst e
   have hl:k < ρ.length:=by
    have:=(List.getElem?_eq_some_iff.mp h1).1
    rwa [List.length_set] at this
   rw [List.getElem?_set_self hl] at h1; cases h1
  have hj:k≠j:=λe=>by
   subst e
   have hl:k < ρ.length:=by
    have:=(List.getElem?_eq_some_iff.mp h2).1
    rwa [List.length_set] at this
   rw [List.getElem?_set_self hl] at h2; cases h2
  rw [List.getElem?_set_ne hi] at h1 ⊢
  rw [List.getElem?_set_ne hj] at h2 ⊢
  exact r.dj i j xs ys hij h1 h2
theorem Rl.setO (r:Rl PK pa G₀ H₀ m σ ρ G H) {p:Addr} {vs:List V} {xs:List PyData} (h1:H p=some (.lst vs)) (h2:G p=none) (h3:H₀ p=none) (h4:DnAll G vs xs)
  (hd:∀ (i:Nat) (ys:List PyData),ρ[i]?=some (.own ys)->σ[i]?≠some (some (.ref p))) (k:Nat):Rl PK pa G₀ H₀ m (σ.set k (some (.ref p))) (ρ.set k (.own xs)) G H:=by
 have up:∀ {i:Nat} {s:Sl},(ρ.set k (.own xs))[i]?=some s->i=k->s=.own xs/\(σ.set k (some (V.ref p)))[i]?=some (some (.ref p)):=λ{i s} h e=>by
  subst e
  have hl:i < ρ.length:=by
   have:=(List.getElem?_eq_some_iff.mp h).1
   rwa [List.length_set] at this
  rw [List.getElem?_set_self hl] at h
  cases h
  exact ⟨rfl,List.getElem?_set_self (by rw [<- r.len]; exact hl)⟩
 refine ⟨r.wd,r.st,r.p0,λi s h=>?_,by rw [List.length_set,List.length_set]; exact r.len,λi j ys zs hij e1 e2=>?_,Zm5 r.dj2 λa h=>by cases h⟩
 ·by_cases e:i=k
  ·obtain ⟨e1,e2⟩:=up h e
   subst e1
   exact ⟨_,e2,.own h1 h2 h3 h4⟩
  ·rw [List.getElem?_set_ne (Ne.symm e)] at h ⊢
   exact r.sl i s h
 ·by_cases ei:i=k
  ·have q:=(up e1 ei).2
   have hj:k≠j:=λe=>hij (ei.trans e)
   rw [q]
   rw [List.getElem?_set_ne hj] at e2 ⊢
   exact λz=>hd j zs e2 z.symm
  ·rw [List.getElem?_set_ne (Ne.symm ei)] at e1 ⊢
   by_cases ej:j=k
   ·rw [(up e2 ej).2]
    exact hd i ys e1
   ·rw [List.getElem?_set_ne (Ne.symm ej)] at e2 ⊢
    exact r.dj i j ys zs hij e1 e2
theorem Rl.h0 (r:Rl PK pa G₀ H₀ m σ ρ G H) {p:Addr} (hp:H p=none):H₀ p=none:=by
 cases e:H₀ p with
 | none=>rfl
 | some u =>
  by_cases hc:p=pa
  ·subst hc
   obtain ⟨o,h⟩:=r.wd.some
   rw [hp] at h; cases h
  ·rw [r.st.hk p u e hc] at hp; cases hp
theorem Rl.apart (r:Rl PK pa G₀ H₀ m σ ρ G H) {p:Addr} (hp:H p=none) (i:Nat) (ys:List PyData) (h:ρ[i]?=some (.own ys)):σ[i]?≠some (some (.ref p)):=λe=>by
 obtain ⟨o,h1,h2⟩:=r.sl i _ h
 rw [e] at h1
 cases h1
 cases h2 with
 | own a _ _ _=>rw [hp] at a; cases a
theorem Rl.change (r:Rl PK pa G₀ H₀ m σ ρ G H) {k:Nat} {xs ys:List PyData} {p:Addr} {ws:List V} (hk:ρ[k]?=some (.own xs)) (hσ:σ[k]?=some (some (.ref p))) (d:DnAll G ws ys) :
  Rl PK pa G₀ H₀ m σ (ρ.set k (.own ys)) G (upd H p (.lst ws)):=by
 obtain ⟨o,h1,h2⟩:=r.sl k _ hk
 rw [hσ] at h1
 cases h1
 cases h2 with
 | @own _ vs _ a1 a2 a3 a4 =>
  have hne:pa≠p:=λe=>by
   obtain ⟨u,hu⟩:=r.p0
   rw [e,a3] at hu; cases hu
  have hl:k < ρ.length:=(List.getElem?_eq_some_iff.mp hk).1
  refine ⟨⟨λb o h=>?_,r.wd.gpa,?_⟩,⟨r.st.gs,r.st.gn,λb o h hb=>?_⟩,r.p0,λi s h=>?_,by rw [List.length_set]; exact r.len,λi j us ws hij e1 e2=>?_,ZkM r.dj2 λa h=>by cases h⟩
  ·rw [Zau (λe=>by subst e; rw [a2] at h; cases h)]
   exact r.wd.sub b o h
  ·obtain ⟨u,h,q⟩:=r.wd.pen
   exact ⟨u,by rw [Zau hne]; exact h,q⟩
  ·rw [Zau (λe=>by subst e; rw [a3] at h; cases h)]
   exact r.st.hk b o h hb
  ·by_cases e:k=i
   ·subst e
    rw [List.getElem?_set_self hl] at h
    cases h
    exact ⟨_,hσ,.own ZaF a2 a3 d⟩
   ·rw [List.getElem?_set_ne e] at h
    obtain ⟨o,q1,q2⟩:=r.sl i s h
    refine ⟨o,q1,?_⟩
    cases q2 with
    | un=>exact .un
    | d z=>exact .d z
    | pen=>exact .pen
    | dic b1 b2 b3 b4=>exact .dic (by rw [Zau (λe2=>by subst e2; rw [a1] at b1; cases b1)]; exact b1) b2 b3 b4
    | own b1 b2 b3 b4 =>
     refine .own ?_ b2 b3 b4
     rw [Zau]
     ·exact b1
     ·intro e2
      subst e2
      exact r.dj k i _ _ e hk h (by rw [hσ,q1])
  ·by_cases ei:k=i
   ·subst ei
    rw [List.getElem?_set_ne hij] at e2
    exact r.dj k j _ _ hij hk e2
   ·rw [List.getElem?_set_ne ei] at e1
    by_cases ej:k=j
    ·subst ej
     exact r.dj i k _ _ hij e1 hk
    ·rw [List.getElem?_set_ne ej] at e2
     exact r.dj i j _ _ hij e1 e2
noncomputable def fz (k:Nat) (ρ:List Sl):List Sl:=match ρ[k]? with
 | some (.own xs)=>ρ.set k (.d (.list xs))
 | _=>ρ
theorem Rl.freeze (r:Rl PK pa G₀ H₀ m σ ρ G H) (k:Nat):∃ G',Sub G G'/\Rl PK pa G₀ H₀ m σ (fz k ρ) G' H:=by
 unfold fz
 split
 ·rename_i xs hk
  obtain ⟨o,h1,h2⟩:=r.sl k _ hk
  cases h2 with
  | @own p vs _ a1 a2 a3 a4 =>
   have hne:pa≠p:=λe=>by
    obtain ⟨u,hu⟩:=r.p0
    rw [e,a3] at hu; cases hu
   have hl:k < ρ.length:=(List.getElem?_eq_some_iff.mp hk).1
   have sb:Sub G (upd G p (.lst vs)):=Sub.new a2
   refine ⟨upd G p (.lst vs),sb,r.wd.freeze a1 a2 hne,⟨λb o h=>sb b o (r.st.gs b o h),λb o h=>?_,r.st.hk⟩,r.p0,λi s h=>?_,by rw [List.length_set]; exact r.len,λi j us ws hij e1 e2=>?_,ZkM r.dj2 λa h=>by cases h⟩
   ·by_cases e:b=p
    ·subst e; exact .inr a3
    ·rw [Zau e] at h; exact r.st.gn b o h
   ·by_cases e:k=i
    ·subst e
     rw [List.getElem?_set_self hl] at h
     cases h
     exact ⟨_,h1,.d (.lst ZaF (DnAll.mono sb a4))⟩
    ·rw [List.getElem?_set_ne e] at h
     obtain ⟨o,q1,q2⟩:=r.sl i s h
     refine ⟨o,q1,?_⟩
     cases q2 with
     | un=>exact .un
     | d z=>exact .d (z.mono sb)
     | pen=>exact .pen
     | dic b1 b2 b3 b4=>exact .dic b1 (by rw [Zau (λe2=>by subst e2; rw [a1] at b1; cases b1)]; exact b2) b3 (b4.mono sb)
     | own b1 b2 b3 b4 =>
      refine .own b1 ?_ b3 (DnAll.mono sb b4)
      rw [Zau]
      ·exact b2
      ·intro e2
       subst e2
       exact r.dj k i _ _ e hk h (by rw [h1,q1])
   ·have hi:k≠i:=λe=>by subst e; rw [List.getElem?_set_self hl] at e1; cases e1
    have hj:k≠j:=λe=>by subst e; rw [List.getElem?_set_self hl] at e2; cases e2
    rw [List.getElem?_set_ne hi] at e1
    rw [List.getElem?_set_ne hj] at e2
    exact r.dj i j _ _ hij e1 e2
 ·exact ⟨G,λ_ _ h=>h,r⟩
end
end L2
set_option Elab.async false
set_option linter.all false
set_option maxRecDepth 100000
namespace L2
open PySem PySem.Spec PyProof.Rows
noncomputable def TAe (PK:Pk) (i:List Sl->Tr PyData):TE:=λσ H Q=>∃ pa G₀ H₀ m ρ G,Rl PK pa G₀ H₀ m σ ρ G H/\(i ρ).ok m λm' x=>Kn PK pa m' G H x Q
noncomputable def TAt (PK:Pk) (i:List Sl->Tr Bool):TT:=λσ H Q=>∃ pa G₀ H₀ m ρ G,Rl PK pa G₀ H₀ m σ ρ G H/\(i ρ).ok m λm' b=>∀ G' H',Stp pa G H G' H'->Wd PK pa m' G' H'->Q b H'
noncomputable def TAd (PK:Pk) (i:List Sl->Tr (List PyData)):TA:=λσ H Q=>∃ pa G₀ H₀ m ρ G,Rl PK pa G₀ H₀ m σ ρ G H/\(i ρ).ok m λm' xs=>∀ vs G' H',Stp pa G H G' H'->Wd PK pa m' G' H'->DnAll G' vs xs->Q vs H'
noncomputable def Ko1 (PK:Pk) (pa:Addr) (m:Nat) (G H:Hp) (xs:List PyData) (Q:VK):Prop:=∀ p vs G' H',Stp pa G H G' H'->Wd PK pa m G' H'->H p=none->G' p=none->H' p=some (.lst vs)->DnAll G' vs xs->Q (.ref p) H'
noncomputable def TAo (PK:Pk) (i:List Sl->Tr (List PyData)):TE:=λσ H Q=>∃ pa G₀ H₀ m ρ G,Rl PK pa G₀ H₀ m σ ρ G H/\(i ρ).ok m λm' xs=>Ko1 PK pa m' G H xs Q
inductive ArOk (pa:Addr) (G:Hp):V->Sl->Prop
 | d {v:V} {x:PyData}:Dn G v x->ArOk pa G v (.d x)
 | pen:ArOk pa G (.ref pa) .pen
inductive ArsOk (pa:Addr) (G:Hp):List V->List Sl->Prop
 | nil:ArsOk pa G [] []
 | cons {v:V} {vs:List V} {s:Sl} {ss:List Sl}:ArOk pa G v s->ArsOk pa G vs ss->ArsOk pa G (v::vs) (s::ss)
theorem ArOk.mono {pa:Addr} {G G':Hp} {v:V} {s:Sl} (h:ArOk pa G v s) (e:Sub G G'):ArOk pa G' v s:=by
 cases h with
 | d z=>exact .d (z.mono e)
 | pen=>exact .pen
theorem ArsOk.mono {pa:Addr} {G G':Hp} (e:Sub G G') {vs:List V} {ss:List Sl} (h:ArsOk pa G vs ss):ArsOk pa G' vs ss:=by
 induction h with
 | nil=>exact .nil
 | cons h t ih=>exact .cons (h.mono e) ih
theorem ArsOk.length {pa:Addr} {G:Hp} {vs:List V} {ss:List Sl} (h:ArsOk pa G vs ss):vs.length=ss.length:=by
 induction h with
 | nil=>rfl
 | cons h t ih=>exact congrArg (·+1) ih
noncomputable def TAa (PK:Pk) (i:List Sl->Tr (List Sl)):TA:=λσ H Q=>∃ pa G₀ H₀ m ρ G,Rl PK pa G₀ H₀ m σ ρ G H/\(i ρ).ok m λm' as=>∀ vs G' H',Stp pa G H G' H'->Wd PK pa m' G' H'->ArsOk pa G' vs as->Q vs H'

inductive Re where
 | d (x:PyData) | own (xs:List PyData)
noncomputable def Re.val:Re->PyData
 | .d x=>x
 | .own xs=>.list xs
@[simp] theorem Re.val_d (x:PyData):(Re.d x).val=x:=rfl
@[simp] theorem Re.val_own (xs:List PyData):(Re.own xs).val=.list xs:=rfl
inductive Ou where
 | next (ρ:List Sl) | ret (r:Re) | brk (ρ:List Sl) | cont (ρ:List Sl)
noncomputable def ReOk (H₀ G H:Hp) (v:V):Re->Prop
 | .d x=>Dn G v x
 | .own xs=>∃ p vs,v=.ref p/\H p=some (.lst vs)/\G p=none/\H₀ p=none/\DnAll G vs xs
noncomputable def Kr (PK:Pk) (pa:Addr) (m:Nat) (G₀ H₀:Hp) (r:Re) (Q:VK):Prop:=∀ v G H,Stp pa G₀ H₀ G H->Wd PK pa m G H->ReOk H₀ G H v r->Q v H
noncomputable def Ko (PK:Pk) (pa:Addr) (G₀ H₀ Gs:Hp) (D:Ends) (m:Nat):Ou->Prop
 | .next ρ=>∀ σ G H,Sub Gs G->Rl PK pa G₀ H₀ m σ ρ G H->D.nx σ H
 | .ret r=>Kr PK pa m G₀ H₀ r D.rt
 | .brk ρ=>∀ σ G H,Sub Gs G->Rl PK pa G₀ H₀ m σ ρ G H->D.bk σ H
 | .cont ρ=>∀ σ G H,Sub Gs G->Rl PK pa G₀ H₀ m σ ρ G H->D.ct σ H
noncomputable def TAs (PK:Pk) (i:List Sl->Tr Ou):TS:=λD σ H=>∃ pa G₀ H₀ m ρ G,Rl PK pa G₀ H₀ m σ ρ G H/\(i ρ).ok m (Ko PK pa G₀ H₀ G D)

theorem PE.imp {X:Cx} {e:Expr} {t t':TE} (h:PE X e t) (q:∀ σ H Q,t' σ H Q->t σ H Q):PE X e t':=λpins s σ H Q I z=>h pins s σ H Q I (q σ H Q z)
theorem PT.imp {X:Cx} {e:Expr} {t t':TT} (h:PT X e t) (q:∀ σ H Q,t' σ H Q->t σ H Q):PT X e t':=λpins s σ H Q I z=>h pins s σ H Q I (q σ H Q z)
theorem PW.imp {X:Cx} {e:Expr} {t t':TT} (h:PW X e t) (q:∀ σ H Q,t' σ H Q->t σ H Q):PW X e t':=λwh pins s σ H Q I z=>h wh pins s σ H Q I (q σ H Q z)
theorem PA.imp {X:Cx} {e:List Expr} {t t':TA} (h:PA X e t) (q:∀ σ H Q,t' σ H Q->t σ H Q):PA X e t':=λpos pins s σ H Q I z=>h pos pins s σ H Q I (q σ H Q z)
theorem PS.imp {X:Cx} {e:Stmt} {t t':TS} (h:PS X e t) (q:∀ D σ H,t' D σ H->t D σ H):PS X e t':=λpins s σ H D I z=>h pins s σ H D I (q D σ H z)
theorem PSs.imp {X:Cx} {e:List Stmt} {t t':TS} (h:PSs X e t) (q:∀ D σ H,t' D σ H->t D σ H):PSs X e t':=λpins s σ H D I z=>h pins s σ H D I (q D σ H z)

variable {PK:Pk} {X:Cx} {a b c e:Expr} {es:List Expr} {pos:Pos} {i j l:List Sl->Tr PyData}
theorem TAe.then {σ:St} {H:Hp} {β:Type} {k:PyData->Tr β} {Z:Nat->β->Prop} {Q:VK} {pa:Addr} {G₀ H₀ G:Hp} {m:Nat} {ρ:List Sl} (R:Rl PK pa G₀ H₀ m σ ρ G H) (h:((i ρ).bind k).ok m Z)
  (hq:∀ m1 x v G1 H1,Stp pa G H G1 H1->Wd PK pa m1 G1 H1->Rl PK pa G₀ H₀ m1 σ ρ G1 H1->Dn G1 v x->(k x).ok m1 Z->Q v H1):TAe PK i σ H Q:=by
 refine ⟨pa,G₀,H₀,m,ρ,G,R,Tr.ok_mono (Tr.ok_bind.mp h) λm1 x hx v G1 H1 s1 w1 d1=>?_⟩
 exact hq m1 x v G1 H1 s1 w1 (R.step s1 w1) d1 hx

noncomputable def Zae (k:Nat):List Sl->Tr PyData:=λρ=>match ρ[k]? with
 | some (.d x)=>.ret x
 | _=>.fail
noncomputable def aC (d:PyData):List Sl->Tr PyData:=λ_=>.ret d
theorem Zaa {k:Nat} (h:PE X e (Zjp k)):PE X e (TAe PK (Zae k)):=h.imp λσ H Q hz0=>by
 obtain ⟨pa,G₀,H₀,m,ρ,G,R,q⟩:=hz0
 unfold Zae at q
 split at q
 ·rename_i x hx
  obtain ⟨o,h1,h2⟩:=R.sl k _ hx
  cases h2 with
  | d z=>exact ⟨_,h1,Kn.here q R.wd z⟩
 ·exact q.elim
theorem ae_c {v:V} {d:PyData} (h:PE X e (tC v)) (hd:∀ G,Dn G v d):PE X e (TAe PK (aC d)):=h.imp λσ H Q hz0=>by
 obtain ⟨pa,G₀,H₀,m,ρ,G,R,q⟩:=hz0
 exact Kn.here q R.wd (hd G)
theorem Zag {n:Int} {k pos}:PE X (.Constant (.int n) k pos) (TAe PK (aC (.int n))):=ae_c Zba λ_=>.int n
theorem ZdU {n:Bool} {k pos}:PE X (.Constant (.bool n) k pos) (TAe PK (aC (.bool n))):=ae_c pe_bl λ_=>.bl n
theorem Za2 {x:Str} {n:Int} (hg:Gl X x) (h:∃ t,X.mg x=some (.int n t)) (hd:(x == ("__debug__":Str))=false:=by decide):PE X (.Name x pos) (TAe PK (aC (.int n))):=ae_c (ZnH hg h hd) λ_=>.int n

noncomputable def Zfc (r:R2) (f:PyData->PyData->Option PyData):Prop:=∀ (PK:Pk) (pa:Addr) (m:Nat) (G H:Hp) (x y:V) (dx dy dz:PyData) (Q:VK),Wd PK pa m G H->Dn G x dx->Dn G y dy->f dx dy=some dz->Kn PK pa m G H dz Q->r x y H Q
noncomputable def Zal (f:PyData->PyData->Option PyData) (i j:List Sl->Tr PyData):List Sl->Tr PyData:=λρ=>(i ρ).bind λx=>(j ρ).bind λy=>Tr.of (f x y)
theorem ZdV {r:R2} {f:PyData->PyData->Option PyData} (hv:Zfc r f):∀ σ H Q,TAe PK (Zal f i j) σ H Q->tOp r (TAe PK i) (TAe PK j) σ H Q:=by
 rintro σ H Q ⟨pa,G₀,H₀,m,ρ,G,R,q⟩
 refine TAe.then R q λm1 x v G1 H1 s1 w1 R1 d1 q1=>?_
 refine TAe.then R1 q1 λm2 y u G2 H2 s2 w2 R2 d2 q2=>?_
 obtain ⟨z,hz,k⟩:=Tr.ok_of q2
 exact hv PK pa m2 G2 H2 v u x y z Q w2 (d1.mono s2.gs) d2 hz (Kn.later k (s1.trans s2 w1.some) w2.some)
theorem Zaq {op:Operator} {r:R2} {f:PyData->PyData->Option PyData} (ho:OpR X (binaryOp op) r) (hv:Zfc r f) (ha:PE X a (TAe PK i)) (hb:PE X b (TAe PK j)):PE X (.BinOp a op b pos) (TAe PK (Zal f i j)) :=
 (ZbJ ho ha hb).imp (ZdV hv)
theorem Zg9 {op:CmpOp} {r:R2} {f:PyData->PyData->Option PyData} (ho:OpR X (compareOp op) r) (hv:Zfc r f) (ha:PE X a (TAe PK i)) (hb:PE X b (TAe PK j)) (hm:behindInMarks op b=false):PE X (.Compare a [op] [b] pos) (TAe PK (Zal f i j)) :=
 (ZnJ ho ha hb hm).imp (ZdV hv)
theorem ZaB {r:R2} {f:PyData->PyData->Option PyData} (hr:IxR X r) (hv:Zfc r f) (ha:PE X a (TAe PK i)) (hb:PE X b (TAe PK j)) (hs:Zh2 b):PE X (.Subscript a b pos) (TAe PK (Zal f i j)) :=
 (ZlM hr ha hb hs).imp (ZdV hv)
noncomputable def toB:PyData->Option Bool
 | .bool b=>some b
 | _=>none
@[simp] theorem toB_bool (b:Bool):toB (.bool b)=some b:=rfl
noncomputable def Zbr (i:List Sl->Tr PyData):List Sl->Tr Bool:=λρ=>(i ρ).bind λx=>Tr.of (toB x)
theorem Zea:∀ σ H Q,TAt PK (Zbr i) σ H Q->ZjA (TAe PK i) σ H Q:=by
 rintro σ H Q ⟨pa,G₀,H₀,m,ρ,G,R,q⟩
 refine TAe.then R q λm1 x v G1 H1 s1 w1 R1 d1 q1=>?_
 obtain ⟨b,hb,k⟩:=Tr.ok_of q1
 cases d1 <;> simp only [toB] at hb <;> cases hb
 exact ⟨_,rfl,k G1 H1 s1 w1⟩
theorem Zft {t t':TE} (h:∀ σ H Q,t' σ H Q->t σ H Q):∀ σ H Q,ZjA t' σ H Q->ZjA t σ H Q:=λσ H Q z=>h σ H _ z
theorem Zbu {op:CmpOp} {r:R2} {f:PyData->PyData->Option PyData} (ho:OpR X (compareOp op) r) (hv:Zfc r f) (ha:PE X a (TAe PK i)) (hb:PE X b (TAe PK j)) (hm:behindInMarks op b=false):PT X (.Compare a [op] [b] pos) (TAt PK (Zbr (Zal f i j))) :=
 (ZeI ho ha hb hm).imp λσ H Q z=>Zft (ZdV hv) σ H Q (Zea σ H Q z)
theorem ZqL (h:PE X e (TAe PK i)) (he:∀ whole,isTrue e X.env whole=(do let v <- whole; standAt e.pos; holding [v] (truthy v)):=by intro _; rfl):PT X e (TAt PK (Zbr i)):=(ZpG h he).imp λσ H Q z=>Zea σ H Q z
noncomputable def truD:PyData->Option Bool
 | .bool b=>some b
 | .int n=>some (n != 0)
 | .none=>some false
 | .list xs=>some (!xs.isEmpty)
 | .tuple xs=>some (!xs.isEmpty)
 | _=>none
noncomputable def ZhZ (i:List Sl->Tr PyData):List Sl->Tr Bool:=λρ=>(i ρ).bind λx=>Tr.of (truD x)
theorem DnAll.isEmpty {H:Hp} {vs:List V} {ds:List PyData} (h:DnAll H vs ds):vs.isEmpty=ds.isEmpty:=by
 cases h <;> rfl
theorem ZcA (h:PE X e (TAe PK i)) (he:∀ whole,isTrue e X.env whole=(do let v <- whole; standAt e.pos; holding [v] (truthy v)):=by intro _; rfl):PT X e (TAt PK (ZhZ i)):=(ZlF h he).imp λσ H Q hz0=>by
 obtain ⟨pa,G₀,H₀,m,ρ,G,R,q⟩:=hz0
 refine TAe.then R q λm1 x v G1 H1 s1 w1 R1 d1 q1=>?_
 obtain ⟨b,hb,k⟩:=Tr.ok_of q1
 have fin:=k G1 H1 s1 w1
 cases d1 with
 | non=>cases hb; exact ⟨_,rfl,fin⟩
 | bl b=>cases hb; exact ⟨_,rfl,fin⟩
 | int n=>cases hb; exact ⟨_,rfl,fin⟩
 | str _=>cases hb
 | tup h1 h2=>cases hb; exact ⟨_,.inr (.inl ⟨_,SqT.of (w1.sub _ _ h1),rfl⟩),by rw [h2.isEmpty]; exact fin⟩
 | lst h1 h2=>cases hb; exact ⟨_,.inl ⟨_,SqL.of (w1.sub _ _ h1),rfl⟩,by rw [h2.isEmpty]; exact fin⟩
 | dct _ _=>cases hb

noncomputable def aOr (i j:List Sl->Tr Bool):List Sl->Tr Bool:=λρ=>(i ρ).bind λx=>if x=true then .ret true else j ρ
noncomputable def Zh0 (i:List Sl->Tr Bool):List Sl->Tr Bool:=λρ=>(i ρ).bind λx=>.ret (!x)
variable {p q:List Sl->Tr Bool} {rest:List Expr}
theorem TAt.then {σ:St} {H:Hp} {β:Type} {k:Bool->Tr β} {Z:Nat->β->Prop} {Q:Bool->Hp->Prop} {pa:Addr} {G₀ H₀ G:Hp} {m:Nat} {ρ:List Sl} (R:Rl PK pa G₀ H₀ m σ ρ G H) (h:((p ρ).bind k).ok m Z)
  (hq:∀ m1 x G1 H1,Stp pa G H G1 H1->Wd PK pa m1 G1 H1->Rl PK pa G₀ H₀ m1 σ ρ G1 H1->(k x).ok m1 Z->Q x H1):TAt PK p σ H Q:=by
 refine ⟨pa,G₀,H₀,m,ρ,G,R,Tr.ok_mono (Tr.ok_bind.mp h) λm1 x hx G1 H1 s1 w1=>?_⟩
 exact hq m1 x G1 H1 s1 w1 (R.step s1 w1) hx
theorem Zmm {G₀ H₀ G H G1 H1:Hp} {m:Nat} {σ:St} {ρ:List Sl} {pa:Addr} {Q:Bool->Hp->Prop} (R1:Rl PK pa G₀ H₀ m σ ρ G1 H1) (s1:Stp pa G H G1 H1) (h:(q ρ).ok m λm' b=>∀ G' H',Stp pa G H G' H'->Wd PK pa m' G' H'->Q b H'):TAt PK q σ H1 Q :=
 ⟨pa,G₀,H₀,m,ρ,G1,R1,Tr.ok_mono h λm2 b k G2 H2 s2 w2=>k G2 H2 (s1.trans s2 R1.wd.some) w2⟩
theorem Zgr {G₀ H₀ G H G1 H1:Hp} {m:Nat} {σ:St} {ρ:List Sl} {pa:Addr} {Q:VK} (R1:Rl PK pa G₀ H₀ m σ ρ G1 H1) (s1:Stp pa G H G1 H1) (h:(i ρ).ok m λm' x=>Kn PK pa m' G H x Q):TAe PK i σ H1 Q :=
 ⟨pa,G₀,H₀,m,ρ,G1,R1,Tr.ok_mono h λm2 b k=>Kn.later k s1 R1.wd.some⟩
theorem Zei (ha:PT X a (TAt PK p)):PW X (.BoolOp .Or [a] pos) (TAt PK p):=ZpE ha
theorem Zep (ha:PT X a (TAt PK p)) (hb:PW X (.BoolOp .Or (b::rest) pos) (TAt PK q)):PW X (.BoolOp .Or (a::b::rest) pos) (TAt PK (aOr p q)):=(pw_or ha hb).imp λσ H Q hz0=>by
 obtain ⟨pa,G₀,H₀,m,ρ,G,R,z⟩:=hz0
 refine TAt.then R z λm1 x G1 H1 s1 w1 R1 q1=>?_
 cases x with
 | true=>rw [if_pos rfl] at q1 ⊢; exact q1 G1 H1 s1 w1
 | false=>rw [if_neg Bool.false_ne_true] at q1 ⊢; exact Zmm R1 s1 q1
theorem Znb (h:PW X e (TAt PK p)):PT X e (TAt PK p):=h.pt
theorem ZcB (ha:PT X a (TAt PK p)):PT X (.UnaryOp .Not a pos) (TAt PK (Zh0 p)):=(ZpH ha).imp λσ H Q hz0=>by
 obtain ⟨pa,G₀,H₀,m,ρ,G,R,z⟩:=hz0
 refine TAt.then R z λm1 x G1 H1 s1 w1 R1 q1=>?_
 exact q1 G1 H1 s1 w1
noncomputable def Zmw (i j:List Sl->Tr PyData):List Sl->Tr PyData:=λρ=>(Zbr i ρ).bind λx=>if x=true then j ρ else .ret (.bool false)
noncomputable def ZoH (i:List Sl->Tr PyData):List Sl->Tr PyData:=λρ=>(Zbr i ρ).bind λx=>.ret (.bool (!x))
theorem TAe.thenB {σ:St} {H:Hp} {β:Type} {k:Bool->Tr β} {Z:Nat->β->Prop} {Q:VK} {pa:Addr} {G₀ H₀ G:Hp} {m:Nat} {ρ:List Sl} (R:Rl PK pa G₀ H₀ m σ ρ G H) (h:((Zbr i ρ).bind k).ok m Z)
  (hq:∀ m1 c G1 H1,Stp pa G H G1 H1->Wd PK pa m1 G1 H1->Rl PK pa G₀ H₀ m1 σ ρ G1 H1->(k c).ok m1 Z->Q (.bl c) H1):TAe PK i σ H Q:=by
 unfold Zbr at h
 rw [Tr.bind_assoc] at h
 refine TAe.then R h λm1 x v G1 H1 s1 w1 R1 d1 q1=>?_
 rw [Tr.ok_bind] at q1
 obtain ⟨c,hb,q1⟩:=Tr.ok_of q1
 cases d1 <;> simp only [toB] at hb <;> cases hb
 exact hq m1 _ G1 H1 s1 w1 R1 q1
theorem Znd {op} (h:PE X a (TAe PK i)):PE X (.BoolOp op [a] pos) (TAe PK i):=ZpQ h
theorem Zne (ha:PE X a (TAe PK i)) (hb:PE X (.BoolOp .And (b::rest) pos) (TAe PK j)):PE X (.BoolOp .And (a::b::rest) pos) (TAe PK (Zmw i j)):=(ZpU ha hb).imp λσ H Q hz0=>by
 obtain ⟨pa,G₀,H₀,m,ρ,G,R,z⟩:=hz0
 refine TAe.thenB R z λm1 x G1 H1 s1 w1 R1 q1=>⟨x,rfl,?_⟩
 cases x with
 | true=>rw [if_pos rfl] at q1 ⊢; exact Zgr R1 s1 q1
 | false=>rw [if_neg Bool.false_ne_true] at q1 ⊢; exact (Kn.later q1 s1 w1.some).here w1 (.bl false)
theorem ZqT (ha:PE X a (TAe PK i)):PE X (.UnaryOp .Not a pos) (TAe PK (ZoH i)):=(ZpR ha).imp λσ H Q hz0=>by
 obtain ⟨pa,G₀,H₀,m,ρ,G,R,z⟩:=hz0
 refine TAe.thenB R z λm1 x G1 H1 s1 w1 R1 q1=>⟨x,rfl,?_⟩
 exact (Kn.later q1 s1 w1.some).here w1 (.bl _)
noncomputable def aIf (p:List Sl->Tr Bool) (i j:List Sl->Tr PyData):List Sl->Tr PyData:=λρ=>(p ρ).bind λx=>if x=true then i ρ else j ρ
theorem ae_if (hc:PT X c (TAt PK p)) (ha:PE X a (TAe PK i)) (hb:PE X b (TAe PK j)):PE X (.IfExp c a b pos) (TAe PK (aIf p i j)):=(ZlN hc ha hb).imp λσ H Q hz0=>by
 obtain ⟨pa,G₀,H₀,m,ρ,G,R,z⟩:=hz0
 refine TAt.then R z λm1 x G1 H1 s1 w1 R1 q1=>?_
 cases x with
 | true=>rw [if_pos rfl] at q1 ⊢; exact Zgr R1 s1 q1
 | false=>rw [if_neg Bool.false_ne_true] at q1 ⊢; exact Zgr R1 s1 q1

variable {is:List Sl->Tr (List PyData)}
noncomputable def Zbb:List Sl->Tr (List PyData):=λ_=>.ret []
noncomputable def Zan (i:List Sl->Tr PyData) (is:List Sl->Tr (List PyData)):List Sl->Tr (List PyData):=λρ=>(i ρ).bind λx=>(is ρ).bind λxs=>.ret (x::xs)
theorem Zao:PA X [] (TAd PK Zbb):=pa_nil.imp λσ H Q hz0=>by
 obtain ⟨pa,G₀,H₀,m,ρ,G,R,z⟩:=hz0
 exact z [] G H .refl R.wd .nil
theorem TAd.then {σ:St} {H:Hp} {β:Type} {k:List PyData->Tr β} {Z:Nat->β->Prop} {Q:List V->Hp->Prop} {pa:Addr} {G₀ H₀ G:Hp} {m:Nat} {ρ:List Sl} (R:Rl PK pa G₀ H₀ m σ ρ G H) (h:((is ρ).bind k).ok m Z)
  (hq:∀ m1 xs vs G1 H1,Stp pa G H G1 H1->Wd PK pa m1 G1 H1->Rl PK pa G₀ H₀ m1 σ ρ G1 H1->DnAll G1 vs xs->(k xs).ok m1 Z->Q vs H1):TAd PK is σ H Q:=by
 refine ⟨pa,G₀,H₀,m,ρ,G,R,Tr.ok_mono (Tr.ok_bind.mp h) λm1 x hx v G1 H1 s1 w1 d1=>?_⟩
 exact hq m1 x v G1 H1 s1 w1 (R.step s1 w1) d1 hx
theorem Zad (ha:PE X e (TAe PK i)) (hr:PA X es (TAd PK is)) (hs:starEach (e::es) X.env=(false,eval e X.env)::starEach es X.env:=by rfl):PA X (e::es) (TAd PK (Zan i is)):=(ZaE ha hr hs).imp λσ H Q hz0=>by
 obtain ⟨pa,G₀,H₀,m,ρ,G,R,z⟩:=hz0
 refine TAe.then R z λm1 x v G1 H1 s1 w1 R1 d1 q1=>?_
 refine TAd.then R1 q1 λm2 xs vs G2 H2 s2 w2 R2 d2 q2=>?_
 exact q2 _ _ _ (s1.trans s2 w1.some) w2 (.cons (d1.mono s2.gs) d2)
noncomputable def small (n:Nat):Bool:=decide (n<=sizeLine)
noncomputable def Zha (is:List Sl->Tr (List PyData)):List Sl->Tr PyData:=λρ=>(is ρ).bind λxs=>if small xs.length=true then .ret (.tuple xs) else .fail
noncomputable def Zfo (is:List Sl->Tr (List PyData)):List Sl->Tr PyData:=λρ=>(is ρ).bind λxs=>.ret (.list xs)
noncomputable def aLo (is:List Sl->Tr (List PyData)):List Sl->Tr (List PyData):=λρ=>(is ρ).bind λxs=>if small xs.length=true then .ret xs else .fail
theorem Zf8 {α:Type} {c:Bool} {t:Tr α} {m:Nat} {Q:Nat->α->Prop} (h:(if c=true then t else .fail).ok m Q):c=true/\t.ok m Q:=by
 cases c with
 | true=>exact ⟨rfl,h⟩
 | false=>exact h.elim
theorem Zca {x1} (h:PA X es (TAd PK is)):PE X (.Tuple es x1 pos) (TAe PK (Zha is)):=(ZmQ h).imp λσ H Q hz0=>by
 obtain ⟨pa,G₀,H₀,m,ρ,G,R,z⟩:=hz0
 refine TAd.then R z λm1 xs vs G1 H1 s1 w1 R1 d1 q1=>?_
 obtain ⟨hs,k⟩:=Zf8 q1
 exact ⟨by rw [d1.length]; exact of_decide_eq_true hs,λp hp=>(Kn.later k s1 w1.some).tup w1 d1 hp⟩
theorem Ko1.new {pa:Addr} {m:Nat} {G H:Hp} {xs:List PyData} {vs:List V} {Q:VK} {p:Addr} (k:Ko1 PK pa m G H xs Q) (w:Wd PK pa m G H) (d:DnAll G vs xs) (hp:H p=none):Q (.ref p) (upd H p (.lst vs)):=by
 obtain ⟨w1,s1⟩:=w.own (o:=.lst vs) hp
 exact k p vs G _ s1 w1 hp (w.gnone hp) ZaF d
theorem Ko1.later {pa:Addr} {m:Nat} {G H G1 H1:Hp} {xs:List PyData} {Q:VK} (k:Ko1 PK pa m G H xs Q) (s:Stp pa G H G1 H1) (hp:∃ o,H1 pa=some o):Ko1 PK pa m G1 H1 xs Q:=λp vs G' H' s' w' h1 h2 h3 h4=>by
 refine k p vs G' H' (s.trans s' hp) w' ?_ h2 h3 h4
 cases e:H p with
 | none=>rfl
 | some u =>
  by_cases hc:p=pa
  ·subst hc
   obtain ⟨o,z⟩:=hp
   rw [h1] at z; cases z
  ·rw [s.hk p u e hc] at h1; cases h1
theorem Zdq (h:PA X es (TAd PK is)):PE X (.List es pos) (TAo PK (aLo is)):=(ZpS h).imp λσ H Q hz0=>by
 obtain ⟨pa,G₀,H₀,m,ρ,G,R,z⟩:=hz0
 refine TAd.then R z λm1 xs vs G1 H1 s1 w1 R1 d1 q1=>?_
 obtain ⟨hs,k⟩:=Zf8 q1
 exact ⟨by rw [d1.length]; exact of_decide_eq_true hs,λp hp=>(Ko1.later k s1 w1.some).new w1 d1 hp⟩
theorem Ko1.of {pa:Addr} {m:Nat} {G H:Hp} {xs:List PyData} {Q:VK} (k:Kn PK pa m G H (.list xs) Q) (hp:∃ o,H pa=some o):Ko1 PK pa m G H xs Q:=λp vs G' H' s w h1 h2 h3 h4=>by
 have hne:pa≠p:=λe=>by
  obtain ⟨o,z⟩:=hp
  rw [e,h1] at z; cases z
 have sb:Sub G' (upd G' p (.lst vs)):=Sub.new h2
 refine k _ (upd G' p (.lst vs)) H' ⟨λb o h=>sb b o (s.gs b o h),λb o h=>?_,s.hk⟩ (w.freeze h3 h2 hne) (.lst ZaF (DnAll.mono sb h4))
 by_cases e:b=p
 ·subst e; exact .inr h1
 ·rw [Zau e] at h; exact s.gn b o h
theorem ZhX (h:PE X e (TAo PK is)):PE X e (TAe PK (Zfo is)):=h.imp λσ H Q hz0=>by
 obtain ⟨pa,G₀,H₀,m,ρ,G,R,z⟩:=hz0
 refine ⟨pa,G₀,H₀,m,ρ,G,R,Tr.ok_mono (Tr.ok_bind.mp z) λm1 xs k=>Ko1.of k R.wd.some⟩

noncomputable def VCl (r:List V->Hp->VK->Prop) (f:List PyData->Option PyData):Prop:=∀ (PK:Pk) (pa:Addr) (m:Nat) (G H:Hp) (vs:List V) (ds:List PyData) (d:PyData) (Q:VK),Wd PK pa m G H->DnAll G vs ds->f ds=some d->Kn PK pa m G H d Q->r vs H Q
noncomputable def VClo (r:List V->Hp->VK->Prop) (f:List PyData->Option (List PyData)):Prop:=∀ (PK:Pk) (pa:Addr) (m:Nat) (G H:Hp) (vs:List V) (ds:List PyData) (d:List PyData) (Q:VK),Wd PK pa m G H->DnAll G vs ds->f ds=some d->Ko1 PK pa m G H d Q->r vs H Q
noncomputable def aCB (f:List PyData->Option PyData) (is:List Sl->Tr (List PyData)):List Sl->Tr PyData:=λρ=>(is ρ).bind λxs=>Tr.of (f xs)
noncomputable def aCBo (f:List PyData->Option (List PyData)) (is:List Sl->Tr (List PyData)):List Sl->Tr (List PyData):=λρ=>(is ρ).bind λxs=>Tr.of (f xs)
theorem Zmu {r:List V->Hp->VK->Prop} {f:List PyData->Option PyData} (hv:VCl r f):∀ σ H Q,TAe PK (aCB f is) σ H Q->tCB r (TAd PK is) σ H Q:=by
 rintro σ H Q ⟨pa,G₀,H₀,m,ρ,G,R,z⟩
 refine TAd.then R z λm1 xs vs G1 H1 s1 w1 R1 d1 q1=>?_
 obtain ⟨d,hd,k⟩:=Tr.ok_of q1
 exact hv PK pa m1 G1 H1 vs xs d Q w1 d1 hd (Kn.later k s1 w1.some)
theorem Zld {r:List V->Hp->VK->Prop} {f:List PyData->Option (List PyData)} (hv:VClo r f):∀ σ H Q,TAo PK (aCBo f is) σ H Q->tCB r (TAd PK is) σ H Q:=by
 rintro σ H Q ⟨pa,G₀,H₀,m,ρ,G,R,z⟩
 refine TAd.then R z λm1 xs vs G1 H1 s1 w1 R1 d1 q1=>?_
 obtain ⟨d,hd,k⟩:=Tr.ok_of q1
 exact hv PK pa m1 G1 H1 vs xs d Q w1 d1 hd (Ko1.later k s1 w1.some)
theorem Zbq {t:TA} {r:List V->Hp->VK->Prop} {f:List PyData->Option PyData} (h:PE X e (tCB r (TAd PK is))) (hv:VCl r f):PE X e (TAe PK (aCB f is)):=h.imp (Zmu hv)
theorem ao_cb {t:TA} {r:List V->Hp->VK->Prop} {f:List PyData->Option (List PyData)} (h:PE X e (tCB r (TAd PK is))) (hv:VClo r f):PE X e (TAo PK (aCBo f is)):=h.imp (Zld hv)

variable {as:List Sl->Tr (List Sl)}
noncomputable def ZaI:List Sl->Tr (List Sl):=λ_=>.ret []
noncomputable def Zaf (i:List Sl->Tr PyData) (as:List Sl->Tr (List Sl)):List Sl->Tr (List Sl):=λρ=>(i ρ).bind λx=>(as ρ).bind λxs=>.ret (.d x::xs)
noncomputable def Zcq (k:Nat) (as:List Sl->Tr (List Sl)):List Sl->Tr (List Sl):=λρ=>match ρ[k]? with
 | some .pen=>(as ρ).bind λxs=>.ret (.pen::xs)
 | _=>.fail
theorem Zaz:PA X [] (TAa PK ZaI):=pa_nil.imp λσ H Q hz0=>by
 obtain ⟨pa,G₀,H₀,m,ρ,G,R,z⟩:=hz0
 exact z [] G H .refl R.wd .nil
theorem TAa.then {σ:St} {H:Hp} {β:Type} {k:List Sl->Tr β} {Z:Nat->β->Prop} {Q:List V->Hp->Prop} {pa:Addr} {G₀ H₀ G:Hp} {m:Nat} {ρ:List Sl} (R:Rl PK pa G₀ H₀ m σ ρ G H) (h:((as ρ).bind k).ok m Z)
  (hq:∀ m1 xs vs G1 H1,Stp pa G H G1 H1->Wd PK pa m1 G1 H1->Rl PK pa G₀ H₀ m1 σ ρ G1 H1->ArsOk pa G1 vs xs->(k xs).ok m1 Z->Q vs H1):TAa PK as σ H Q:=by
 refine ⟨pa,G₀,H₀,m,ρ,G,R,Tr.ok_mono (Tr.ok_bind.mp h) λm1 x hx v G1 H1 s1 w1 d1=>?_⟩
 exact hq m1 x v G1 H1 s1 w1 (R.step s1 w1) d1 hx
theorem Zab (ha:PE X e (TAe PK i)) (hr:PA X es (TAa PK as)) (hs:starEach (e::es) X.env=(false,eval e X.env)::starEach es X.env:=by rfl):PA X (e::es) (TAa PK (Zaf i as)):=(ZaE ha hr hs).imp λσ H Q hz0=>by
 obtain ⟨pa,G₀,H₀,m,ρ,G,R,z⟩:=hz0
 refine TAe.then R z λm1 x v G1 H1 s1 w1 R1 d1 q1=>?_
 refine TAa.then R1 q1 λm2 xs vs G2 H2 s2 w2 R2 d2 q2=>?_
 exact q2 _ _ _ (s1.trans s2 w1.some) w2 (.cons (.d (d1.mono s2.gs)) d2)
theorem ZbL {k:Nat} (ha:PE X e (Zjp k)) (hr:PA X es (TAa PK as)) (hs:starEach (e::es) X.env=(false,eval e X.env)::starEach es X.env:=by rfl):PA X (e::es) (TAa PK (Zcq k as)):=(ZaE ha hr hs).imp λσ H Q hz0=>by
 obtain ⟨pa,G₀,H₀,m,ρ,G,R,z⟩:=hz0
 unfold Zcq at z
 split at z
 ·rename_i hk
  obtain ⟨o,h1,h2⟩:=R.sl k _ hk
  cases h2
  refine ⟨_,h1,?_⟩
  refine TAa.then R z λm2 xs vs G2 H2 s2 w2 R2 d2 q2=>?_
  exact q2 _ _ _ s2 w2 (.cons .pen d2)
 ·exact z.elim
noncomputable def aSp (PK:Pk) (n:Nat) (f:List Sl->Tr Re):Sp:=λvs H Q _=>vs.length=n/\∃ pa m G as,Wd PK pa m G H/\ArsOk pa G vs as/\(f as).ok m λm' r=>Kr PK pa m' G H r Q
noncomputable def ZaJ (f:List Sl->Tr Re) (as:List Sl->Tr (List Sl)):List Sl->Tr Re:=λρ=>(as ρ).bind f
noncomputable def aRe (f:List Sl->Tr Re):List Sl->Tr PyData:=λρ=>(f ρ).bind λr=>.ret r.val
noncomputable def TAr (PK:Pk) (i:List Sl->Tr Re):TE:=λσ H Q=>∃ pa G₀ H₀ m ρ G,Rl PK pa G₀ H₀ m σ ρ G H/\(i ρ).ok m λm' r=>Kr PK pa m' G H r Q
theorem Kr.later {pa:Addr} {m:Nat} {G H G1 H1:Hp} {r:Re} {Q:VK} (k:Kr PK pa m G H r Q) (s:Stp pa G H G1 H1) (hp:∃ o,H1 pa=some o):Kr PK pa m G1 H1 r Q:=λv G' H' s' w' d=>by
 refine k v G' H' (s.trans s' hp) w' ?_
 cases r with
 | d x=>exact d
 | own xs =>
  obtain ⟨p,vs,e,h1,h2,h3,h4⟩:=d
  refine ⟨p,vs,e,h1,h2,?_,h4⟩
  cases e:H p with
  | none=>rfl
  | some u =>
   by_cases hc:p=pa
   ·subst hc
    obtain ⟨o,z⟩:=hp
    rw [h3] at z; cases z
   ·rw [s.hk p u e hc] at h3; cases h3
theorem Kr.of {pa:Addr} {m:Nat} {G H:Hp} {r:Re} {Q:VK} (k:Kn PK pa m G H r.val Q) (hp:∃ o,H pa=some o):Kr PK pa m G H r Q:=λv G' H' s w d=>by
 cases r with
 | d x=>exact k v G' H' s w d
 | own xs =>
  obtain ⟨p,vs,rfl,h1,h2,h3,h4⟩:=d
  exact Ko1.of k hp p vs G' H' s w h3 h2 h1 h4
theorem ZbK {f:List Sl->Tr Re} (h:PE X e (TAr PK f)):PE X e (TAe PK (aRe f)):=h.imp (by
 intro σ H Q z
 obtain ⟨pa,G₀,H₀,m,ρ,G,R,z⟩:=z
 exact ⟨pa,G₀,H₀,m,ρ,G,R,Tr.ok_mono (Tr.ok_bind.mp z) λm1 r k=>Kr.of k R.wd.some⟩)
structure ACal (PK:Pk) (P:Program) (w:World) (K:PySem.W.Frag) (mg:Str->Option Value) (base:Heap) (x:Str) (k:Nat) (ps:List Str) (f:List Sl->Tr Re):Prop where
 cal:Callee P w K mg base x k ps (aSp PK ps.length f)
 len:∀ as m Z,(f as).ok m Z->as.length=ps.length
theorem Zam {x:Str} {k:Nat} {ps:List Str} {f:List Sl->Tr Re} {pp:Pos} (C:ACal PK X.prog X.w X.K X.mg X.base x k ps f) (hr:Room k X.A) (hg:Gl X x) (ha:PA X (e::es) (TAa PK as))
  (hdb:(x == ("__debug__":Str))=false:=by decide)
  (he:starEach (e::es) X.env=(false,eval e X.env)::starEach es X.env:=by rfl) (hpl:(backTo pos (starEach es X.env)).any (·.1)=false:=by rfl):PE X (.Call (.Name x pp) (e::es) [] pos) (TAr PK (ZaJ f as)) :=
 (Zeu C.cal hr hg ha hdb he hpl).imp λσ H Q hz0=>by
  obtain ⟨pa,G₀,H₀,m,ρ,G,R,z⟩:=hz0
  refine TAa.then R z λm1 xs vs G1 H1 s1 w1 R1 d1 q1=>?_
  show aSp PK ps.length f (vs++[]) H1 Q E0
  rw [List.append_nil]
  exact ⟨by rw [d1.length]; exact C.len _ _ _ q1,pa,m1,G1,xs,w1,d1,Tr.ok_mono q1 λm2 r k=>Kr.later k s1 w1.some⟩
end L2
set_option Elab.async false
set_option linter.all false
set_option maxRecDepth 100000
namespace L2
open PySem PySem.Spec PyProof.Rows
variable {PK:Pk} {X:Cx} {a b c e:Expr} {es:List Expr} {pos:Pos} {i j l:List Sl->Tr PyData} {is:List Sl->Tr (List PyData)} {as:List Sl->Tr (List Sl)} {f:List Sl->Tr Re} {p q:List Sl->Tr Bool} {st:Stmt} {sts:List Stmt} {s t u:List Sl->Tr Ou}
noncomputable def ZaV (s t:List Sl->Tr Ou):List Sl->Tr Ou:=λρ=>(s ρ).bind λo=>match o with
 | .next ρ'=>t ρ'
 | o=>.ret o
noncomputable def ZcF:List Sl->Tr Ou:=λρ=>.ret (.next ρ)
theorem Ko.later {pa:Addr} {G₀ H₀ Gs G:Hp} {D:Ends} {m:Nat} {o:Ou} (k:Ko PK pa G₀ H₀ Gs D m o) (sb:Sub Gs G):Ko PK pa G₀ H₀ G D m o:=by
 cases o with
 | next ρ=>exact λσ G' H s R=>k σ G' H (λb o h=>s b o (sb b o h)) R
 | ret r=>exact k
 | brk ρ=>exact λσ G' H s R=>k σ G' H (λb o h=>s b o (sb b o h)) R
 | cont ρ=>exact λσ G' H s R=>k σ G' H (λb o h=>s b o (sb b o h)) R
theorem Sub.refl {G:Hp}:Sub G G:=λ_ _ h=>h
theorem Sub.trans {G G1 G2:Hp} (a:Sub G G1) (b:Sub G1 G2):Sub G G2:=λc o h=>b c o (a c o h)
theorem Zbg:PSs X [] (TAs PK ZcF):=pss_nil.imp λD σ H hz0=>by
 obtain ⟨pa,G₀,H₀,m,ρ,G,R,z⟩:=hz0
 exact z σ G H .refl R
theorem Zk9:∀ D σ H,TAs PK (ZaV s t) D σ H->tSeq (TAs PK s) (TAs PK t) D σ H:=by
 rintro D σ H ⟨pa,G₀,H₀,m,ρ,G,R,z⟩
 refine ⟨pa,G₀,H₀,m,ρ,G,R,Tr.ok_mono (Tr.ok_bind.mp z) λm1 o k=>?_⟩
 cases o with
 | next ρ'=>exact λσ' G' H' sb R'=>⟨pa,G₀,H₀,m1,ρ',G',R',Tr.ok_mono k λ_ _ k'=>Ko.later k' sb⟩
 | ret r=>exact k
 | brk ρ'=>exact k
 | cont ρ'=>exact k
theorem Zac (h1:PS X st (TAs PK s)) (h2:PSs X sts (TAs PK t)):PSs X (st::sts) (TAs PK (ZaV s t)):=(Zbi h1 h2).imp Zk9
theorem Zai (h1:PS X st (TAs PK s)):PSs X [st] (TAs PK s):=Zds h1
noncomputable def Zlb:List Sl->Tr Ou:=λ_=>.fail
theorem ZiG:PS X st (TAs PK Zlb):=λ_ _ _ _ _ _ h=>by
 obtain ⟨pa,G₀,H₀,m,ρ,G,R,z⟩:=h
 exact z.elim
noncomputable def ZoJ (i:List Sl->Tr PyData):List Sl->Tr Ou:=λρ=>(i ρ).bind λ_=>.ret (.next ρ)
theorem Zow (he:PE X e (TAe PK i)) (hs:swapsWith e none pos.line X.env=pure false:=by rfl):PS X (.Expr e pos) (TAs PK (ZoJ i)):=(ZeJ he hs).imp λD σ H hz0=>by
 obtain ⟨pa,G₀,H₀,m,ρ,G,R,z⟩:=hz0
 refine TAe.then R z λm1 x v G1 H1 s1 w1 R1 d1 q1=>?_
 exact q1 σ G1 H1 s1.gs R1
noncomputable def ZcU (i:List Sl->Tr PyData):List Sl->Tr Ou:=λρ=>(i ρ).bind λx=>.ret (.ret (.d x))
theorem ZaO (he:PE X e (TAe PK i)):PS X (.Return (some e) pos) (TAs PK (ZcU i)):=(ZdI he).imp λD σ H hz0=>by
 obtain ⟨pa,G₀,H₀,m,ρ,G,R,z⟩:=hz0
 refine TAe.then R z λm1 x v G1 H1 s1 w1 R1 d1 q1=>?_
 exact q1 v G1 H1 R1.st w1 d1
noncomputable def ZoG (is:List Sl->Tr (List PyData)):List Sl->Tr Ou:=λρ=>(is ρ).bind λx=>.ret (.ret (.own x))
theorem Zou (he:PE X e (TAo PK is)):PS X (.Return (some e) pos) (TAs PK (ZoG is)):=(ZdI he).imp λD σ H hz0=>by
 obtain ⟨pa,G₀,H₀,m,ρ,G,R,z⟩:=hz0
 refine ⟨pa,G₀,H₀,m,ρ,G,R,Tr.ok_mono (Tr.ok_bind.mp z) λm1 xs k p vs G1 H1 s1 w1 h1 h2 h3 h4=>?_⟩
 exact k (.ref p) G1 H1 (R.st.trans s1 R.wd.some) w1 ⟨p,vs,rfl,h3,h2,R.h0 h1,h4⟩
noncomputable def ZoF (f:List Sl->Tr Re):List Sl->Tr Ou:=λρ=>(f ρ).bind λr=>.ret (.ret r)
theorem Zot (he:PE X e (TAr PK f)):PS X (.Return (some e) pos) (TAs PK (ZoF f)):=(ZdI he).imp (by
 intro D σ H z
 obtain ⟨pa,G₀,H₀,m,ρ,G,R,z⟩:=z
 exact ⟨pa,G₀,H₀,m,ρ,G,R,Tr.ok_mono (Tr.ok_bind.mp z) λm1 r k=>Kr.later k R.st R.wd.some⟩)
noncomputable def Zgu (k:Nat):List Sl->Tr Ou:=λρ=>match ρ[k]? with
 | some (.d x)=>.ret (.ret (.d x))
 | some (.own xs)=>.ret (.ret (.own xs))
 | _=>.fail
theorem ZhV {k:Nat} (he:PE X e (Zjp k)):PS X (.Return (some e) pos) (TAs PK (Zgu k)):=(ZdI he).imp λD σ H hz0=>by
 obtain ⟨pa,G₀,H₀,m,ρ,G,R,z⟩:=hz0
 unfold Zgu at z
 split at z
 ·rename_i x hx
  obtain ⟨o,h1,h2⟩:=R.sl k _ hx
  cases h2 with
  | d d1=>exact ⟨_,h1,z _ G H R.st R.wd d1⟩
 ·rename_i xs hx
  obtain ⟨o,h1,h2⟩:=R.sl k _ hx
  cases h2 with
  | own a1 a2 a3 a4=>exact ⟨_,h1,z _ G H R.st R.wd ⟨_,_,rfl,a1,a2,a3,a4⟩⟩
 ·exact z.elim
noncomputable def ZfL (p:List Sl->Tr Bool) (s t:List Sl->Tr Ou):List Sl->Tr Ou:=λρ=>(p ρ).bind λx=>if x=true then s ρ else t ρ
theorem ZcV {xs ys:List Stmt} (hc:PT X c (TAt PK p)) (ha:PSs X xs (TAs PK s)) (hb:PSs X ys (TAs PK t)):PS X (.If c xs ys pos) (TAs PK (ZfL p s t)):=(ZlI hc ha hb).imp λD σ H hz0=>by
 obtain ⟨pa,G₀,H₀,m,ρ,G,R,z⟩:=hz0
 refine TAt.then R z λm1 x G1 H1 s1 w1 R1 q1=>?_
 cases x with
 | true=>rw [if_pos rfl] at q1 ⊢; exact ⟨pa,G₀,H₀,m1,ρ,G1,R1,Tr.ok_mono q1 λ_ _ k'=>Ko.later k' s1.gs⟩
 | false=>rw [if_neg Bool.false_ne_true] at q1 ⊢; exact ⟨pa,G₀,H₀,m1,ρ,G1,R1,Tr.ok_mono q1 λ_ _ k'=>Ko.later k' s1.gs⟩

noncomputable def ZbT (k:Nat) (i:List Sl->Tr PyData):List Sl->Tr Ou:=λρ=>(i ρ).bind λx=>.ret (.next (ρ.set k (.d x)))
theorem ZaD {k:Nat} (h:PS X st (Zlj (TAe PK i) (ZgQ k))):PS X st (TAs PK (ZbT k i)):=h.imp λD σ H hz0=>by
 obtain ⟨pa,G₀,H₀,m,ρ,G,R,z⟩:=hz0
 refine TAe.then R z λm1 x v G1 H1 s1 w1 R1 d1 q1=>?_
 exact q1 _ G1 H1 s1.gs (R1.set d1 k)
noncomputable def Zjh (k:Nat) (is:List Sl->Tr (List PyData)):List Sl->Tr Ou:=λρ=>(is ρ).bind λx=>.ret (.next (ρ.set k (.own x)))
theorem Zgo {k:Nat} (h:PS X st (Zlj (TAo PK is) (ZgQ k))):PS X st (TAs PK (Zjh k is)):=h.imp λD σ H hz0=>by
 obtain ⟨pa,G₀,H₀,m,ρ,G,R,z⟩:=hz0
 refine ⟨pa,G₀,H₀,m,ρ,G,R,Tr.ok_mono (Tr.ok_bind.mp z) λm1 xs k' p vs G1 H1 s1 w1 h1 h2 h3 h4=>?_⟩
 exact k' _ G1 H1 s1.gs ((R.step s1 w1).setO h3 h2 (R.h0 h1) h4 (λn ys e=>R.apart h1 n ys e) k)
noncomputable def aAug (f:PyData->PyData->Option PyData) (k:Nat) (i:List Sl->Tr PyData):List Sl->Tr Ou:=λρ=>(Zae k ρ).bind λx=>(i ρ).bind λy=>(Tr.of (f x y)).bind λz=>.ret (.next (ρ.set k (.d z)))
theorem ZqP {k:Nat} {r:R2} {g:PyData->PyData->Option PyData} (hv:Zfc r g) (h:PS X st (tAug k (TAe PK i) r)):PS X st (TAs PK (aAug g k i)):=h.imp λD σ H hz0=>by
 obtain ⟨pa,G₀,H₀,m,ρ,G,R,z⟩:=hz0
 unfold aAug Zae at z
 split at z
 ·rename_i x hx
  obtain ⟨o,h1,h2⟩:=R.sl k _ hx
  cases h2 with
  | d d0 =>
   refine ⟨_,h1,?_⟩
   refine TAe.then R z λm1 y v G1 H1 s1 w1 R1 d1 q1=>?_
   rw [Tr.ok_bind] at q1
   obtain ⟨w,hw,q1⟩:=Tr.ok_of q1
   refine hv PK pa m1 G1 H1 _ v x y w _ w1 (d0.mono s1.gs) d1 hw λu G2 H2 s2 w2 d2=>?_
   exact q1 _ G2 H2 (s1.gs.trans s2.gs) ((R1.step s2 w2).set d2 k)
 ·exact z.elim
noncomputable def ZoY (k:Nat) (i:List Sl->Tr PyData):List Sl->Tr Ou:=λρ=>match ρ[k]? with
 | some (.own xs)=>(i ρ).bind λx=>if small (xs.length+1)=true then .ret (.next (ρ.set k (.own (xs++[x])))) else .fail
 | _=>.fail
theorem DnAll.snoc {H:Hp} {vs:List V} {ds:List PyData} {v:V} {d:PyData} (h:DnAll H vs ds) (h1:Dn H v d):DnAll H (vs++[v]) (ds++[d]):=h.append (.cons h1 .nil)
theorem Zk6 {k:Nat} {K:PySem.W.Frag} {st:Stmt} (h:PS X st (Znq (tBM K "list" ZjW (Zjp k) (Zej (TAe PK i) Zcb)))):PS X st (TAs PK (ZoY k i)):=h.imp λD σ H hz0=>by
 obtain ⟨pa,G₀,H₀,m,ρ,G,R,z⟩:=hz0
 unfold ZoY at z
 split at z
 ·rename_i xs hx
  obtain ⟨o,h1,h2⟩:=R.sl k _ hx
  cases h2 with
  | @own p vs _ a1 a2 a3 a4 =>
   refine ⟨_,h1,.inl ⟨rfl,_,SqL.of a1⟩,?_⟩
   refine TAe.then R z λm1 x v G1 H1 s1 w1 R1 d1 q1=>?_
   obtain ⟨hs,q1⟩:=Zf8 q1
   obtain ⟨o,h1',h2⟩:=R1.sl k _ hx
   rw [h1] at h1'
   cases h1'
   cases h2 with
   | @own _ vs1 _ b1 b2 b3 b4 =>
    have hs':xs.length+1<=sizeLine:=of_decide_eq_true hs
    refine ⟨p,vs1,v,rfl,rfl,b1,by rw [b4.length]; omega,?_⟩
    exact q1 σ G1 _ s1.gs (R1.change hx h1 (b4.snoc d1))
 ·exact z.elim
theorem DnAll.set {H:Hp}:∀ {vs:List V} {ds:List PyData} {v:V} {d:PyData} (n:Nat),DnAll H vs ds->Dn H v d->DnAll H (vs.set n v) (ds.set n d)
 | _,_,_,_,_,.nil,_=>.nil
 | _,_,_,_,0,.cons _ t,h=>.cons h t
 | _,_,_,_,n+1,.cons g t,h=>.cons g (DnAll.set n t h)
noncomputable def ZfK (k:Nat) (n i:List Sl->Tr PyData):List Sl->Tr Ou:=λρ=>(i ρ).bind λx=>match ρ[k]? with
 | some (.own xs)=>(n ρ).bind λy=>match y with
  | .int y=>(Tr.of (ixN xs.length y)).bind λt=>.ret (.next (ρ.set k (.own (xs.set t x))))
  | _=>.fail
 | _=>.fail
theorem Zgp {k:Nat} {n:List Sl->Tr PyData} (h:PS X st (Zlj (TAe PK i) (gSub (Zjp k) (TAe PK n) ZnA))):PS X st (TAs PK (ZfK k n i)):=h.imp λD σ H hz0=>by
 obtain ⟨pa,G₀,H₀,m,ρ,G,R,z⟩:=hz0
 refine TAe.then R z λm1 x v G1 H1 s1 w1 R1 d1 q1=>?_
 split at q1
 ·rename_i xs hx
  obtain ⟨o,h1,h2⟩:=R1.sl k _ hx
  cases h2 with
  | @own p vs _ a1 a2 a3 a4 =>
   refine ⟨_,h1,?_⟩
   refine TAe.then R1 q1 λm2 y u G2 H2 s2 w2 R2 d2 q2=>?_
   obtain ⟨o,h1',h2⟩:=R2.sl k _ hx
   rw [h1] at h1'
   cases h1'
   cases h2 with
   | @own _ vs2 _ b1 b2 b3 b4 =>
    cases d2 with
    | int y =>
     rw [Tr.ok_bind] at q2
     obtain ⟨n',hn,q2⟩:=Tr.ok_of q2
     refine ⟨p,vs2,y,n',rfl,rfl,b1,by rw [b4.length]; exact hn,?_⟩
     exact q2 σ G2 _ (s1.gs.trans s2.gs) (R2.change hx h1 (b4.set n' (d1.mono s2.gs)))
    | _=>exact q2.elim
 ·exact q1.elim
theorem DnAll.reverse {H:Hp} {vs:List V} {ds:List PyData} (h:DnAll H vs ds):DnAll H vs.reverse ds.reverse:=by
 induction vs generalizing ds with
 | nil=>cases h; exact .nil
 | cons v vs ih=>cases h with | cons r t=>rw [List.reverse_cons,List.reverse_cons]; exact DnAll.append (ih t) (.cons r .nil)
noncomputable def aRev (k:Nat):List Sl->Tr Ou:=λρ=>match ρ[k]? with
 | some (.own xs)=>.ret (.next (ρ.set k (.own xs.reverse)))
 | _=>.fail
theorem ZqO {k:Nat} {K:PySem.W.Frag} (h:PS X st (Znq (tBM0 K "list" Zih (Zjp k)))):PS X st (TAs PK (aRev k)):=h.imp λD σ H hz0=>by
 obtain ⟨pa,G₀,H₀,m,ρ,G,R,z⟩:=hz0
 unfold aRev at z
 split at z
 ·rename_i xs hx
  obtain ⟨o,h1,h2⟩:=R.sl k _ hx
  cases h2 with
  | @own p vs _ a1 a2 a3 a4 =>
   refine ⟨_,h1,.inl ⟨rfl,_,SqL.of a1⟩,p,vs,rfl,rfl,a1,?_⟩
   exact z σ G _ .refl (R.change hx h1 a4.reverse)
 ·exact z.elim
noncomputable def aFz (k:Nat) (s:List Sl->Tr Ou):List Sl->Tr Ou:=λρ=>s (fz k ρ)
theorem Zov {k:Nat} (h:PS X st (TAs PK s)):PS X st (TAs PK (aFz k s)):=h.imp λD σ H hz0=>by
 obtain ⟨pa,G₀,H₀,m,ρ,G,R,z⟩:=hz0
 obtain ⟨G',sb,R'⟩:=R.freeze k
 exact ⟨pa,G₀,H₀,m,_,G',R',Tr.ok_mono z λ_ _ k'=>Ko.later k' sb⟩

noncomputable def TAg (PK:Pk) (g:PyData->List Sl->Option (List Sl)):TG:=λv σ H Q=>∃ pa G₀ H₀ m ρ G x ρ',Rl PK pa G₀ H₀ m σ ρ G H/\Dn G v x/\g x ρ=some ρ'/\∀ σ',Rl PK pa G₀ H₀ m σ' ρ' G H->Q σ' H
noncomputable def TAgs (PK:Pk) (g:List PyData->List Sl->Option (List Sl)):TGs:=λvs σ H Q=>∃ pa G₀ H₀ m ρ G xs ρ',Rl PK pa G₀ H₀ m σ ρ G H/\DnAll G vs xs/\g xs ρ=some ρ'/\∀ σ',Rl PK pa G₀ H₀ m σ' ρ' G H->Q σ' H
theorem PG.imp {tg:Expr} {t t':TG} (h:PG X tg t) (q:∀ v σ H Q,t' v σ H Q->t v σ H Q):PG X tg t':=λpins s σ H v u Q I r z=>h pins s σ H v u Q I r (q v σ H Q z)
theorem PGs.imp {tg:List Expr} {t t':TGs} (h:PGs X tg t) (q:∀ v σ H Q,t' v σ H Q->t v σ H Q):PGs X tg t':=λpins s σ H v u Q I r z=>h pins s σ H v u Q I r (q v σ H Q z)
noncomputable def ZaU (k:Nat):PyData->List Sl->Option (List Sl):=λx ρ=>some (ρ.set k (.d x))
theorem Zay {k:Nat} (h:PG X e (ZgQ k)):PG X e (TAg PK (ZaU k)):=h.imp λv σ H Q hz0=>by
 obtain ⟨pa,G₀,H₀,m,ρ,G,x,ρ',R,d,e,q⟩:=hz0
 cases e
 exact q _ (R.set d k)
noncomputable def ZbA:List PyData->List Sl->Option (List Sl):=λxs ρ=>match xs with
 | []=>some ρ
 | _=>none
noncomputable def Zax (g:PyData->List Sl->Option (List Sl)) (gs:List PyData->List Sl->Option (List Sl)):List PyData->List Sl->Option (List Sl):=λxs ρ=>match xs with
 | x::xs=>(g x ρ).bind λρ'=>gs xs ρ'
 | []=>none
theorem ZbV:PGs X [] (TAgs PK ZbA):=pgs_nil.imp λvs σ H Q hz0=>by
 obtain ⟨pa,G₀,H₀,m,ρ,G,xs,ρ',R,d,e,q⟩:=hz0
 cases d with
 | nil=>cases e; exact ⟨rfl,q _ R⟩
 | cons _ _=>cases e
theorem ZaH {g:PyData->List Sl->Option (List Sl)} {gs:List PyData->List Sl->Option (List Sl)} (h1:PG X e (TAg PK g)) (h2:PGs X es (TAgs PK gs))
  (hs:(assignEach (e::es) X.env).map (·.2)=assign e X.env::(assignEach es X.env).map (·.2):=by rfl):PGs X (e::es) (TAgs PK (Zax g gs)):=(ZlL h1 h2 hs).imp λvs σ H Q hz0=>by
 obtain ⟨pa,G₀,H₀,m,ρ,G,xs,ρ',R,d,e,q⟩:=hz0
 cases d with
 | nil=>cases e
 | cons d1 d2 =>
  have e':(g _ ρ).bind (λρ'=>gs _ ρ')=some ρ':=e
  cases h:g _ ρ with
  | none=>rw [h] at e'; cases e'
  | some ρ1 =>
   rw [h] at e'
   exact ⟨_,_,rfl,pa,G₀,H₀,m,ρ,G,_,ρ1,R,d1,h,λσ1 R1=>⟨pa,G₀,H₀,m,ρ1,G,_,ρ',R1,d2,e',q⟩⟩
noncomputable def ZbH (gs:List PyData->List Sl->Option (List Sl)):PyData->List Sl->Option (List Sl):=λx ρ=>match x with
 | .tuple xs=>gs xs ρ
 | _=>none
noncomputable def Zl6 (n:Nat) (gs:List PyData->List Sl->Option (List Sl)):Prop:=∀ xs ρ ρ',gs xs ρ=some ρ'->xs.length=n
theorem Zbe:Zl6 0 ZbA:=λxs ρ ρ' h=>by cases xs with | nil=>rfl | cons _ _=>cases h
theorem Zas {n:Nat} {g:PyData->List Sl->Option (List Sl)} {gs:List PyData->List Sl->Option (List Sl)} (h:Zl6 n gs):Zl6 (n+1) (Zax g gs):=λxs ρ ρ' e=>by
 cases xs with
 | nil=>cases e
 | cons x xs =>
  have e':(g x ρ).bind (λρ'=>gs xs ρ')=some ρ':=e
  cases h1:g x ρ with
  | none=>rw [h1] at e'; cases e'
  | some ρ1 =>
   rw [h1] at e'
   exact congrArg (·+1) (h xs ρ1 ρ' e')
theorem ZcT {k:Nat} {gs:List PyData->List Sl->Option (List Sl)} {n:Nat} (hc:X.calm=true) (h:PGs X es (TAgs PK gs)) (hl:Zl6 n gs)
  (hn:(assignEach es X.env).length=n:=by rfl) (hst:(assignEach es X.env).findIdx? (·.1)=none:=by rfl):PG X (.Tuple es k pos) (TAg PK (ZbH gs)):=(ZpO hc h hn hst).imp λv σ H Q hz0=>by
 obtain ⟨pa,G₀,H₀,m,ρ,G,x,ρ',R,d,e,q⟩:=hz0
 cases d with
 | tup h1 h2=>exact ⟨_,_,rfl,SqT.of (R.wd.sub _ _ h1),by rw [h2.length]; exact hl _ _ _ e,pa,G₀,H₀,m,ρ,G,_,ρ',R,h2,e,q⟩
 | _=>cases e
noncomputable def ZoK (g:PyData->List Sl->Option (List Sl)) (i:List Sl->Tr PyData):List Sl->Tr Ou:=λρ=>(i ρ).bind λx=>(Tr.of (g x ρ)).bind λρ'=>.ret (.next ρ')
theorem Zg5 {g:PyData->List Sl->Option (List Sl)} (h:PS X st (Zlj (TAe PK i) (TAg PK g))):PS X st (TAs PK (ZoK g i)):=h.imp λD σ H hz0=>by
 obtain ⟨pa,G₀,H₀,m,ρ,G,R,z⟩:=hz0
 refine TAe.then R z λm1 x v G1 H1 s1 w1 R1 d1 q1=>?_
 rw [Tr.ok_bind] at q1
 obtain ⟨ρ',hg,q1⟩:=Tr.ok_of q1
 exact ⟨pa,G₀,H₀,m1,ρ,G1,x,ρ',R1,d1,hg,λσ' R'=>q1 σ' G1 H1 s1.gs R'⟩
noncomputable def Zmr (k n:Nat) (is:List Sl->Tr (List PyData)):List Sl->Tr Ou:=λρ=>(is ρ).bind λxs=>match xs with
 | [x,y]=>.ret (.next ((ρ.set k (.d x)).set n (.d y)))
 | _=>.fail
theorem ZfI {k n:Nat} (h:PS X st (tPar k n (TAd PK is))):PS X st (TAs PK (Zmr k n is)):=h.imp λD σ H hz0=>by
 obtain ⟨pa,G₀,H₀,m,ρ,G,R,z⟩:=hz0
 refine TAd.then R z λm1 xs vs G1 H1 s1 w1 R1 d1 q1=>?_
 split at q1
 ·cases d1 with
  | cons e1 d1 =>
   cases d1 with
   | cons e2 d1 =>
    cases d1
    exact ⟨_,_,rfl,q1 _ G1 H1 s1.gs ((R1.set e1 k).set e2 n)⟩
 ·exact q1.elim

noncomputable def JOk (PK:Pk) (pa:Addr) (J:It) (G:Hp) (xs:List PyData):Prop:=∀ m G2 H2,Sub G G2->Wd PK pa m G2 H2 ->
 (∀ (n:Nat) (d:PyData),xs[n]?=some d->J.go n H2/\∀ x H3,J.yld n H2 x H3->∃ G3,Stp pa G2 H2 G3 H3/\Wd PK pa m G3 H3/\Dn G3 x d)/\J.stop xs.length H2
noncomputable def TAi (PK:Pk) (is:List Sl->Tr (List PyData)):TI:=λσ H R=>∃ pa G₀ H₀ m ρ G,Rl PK pa G₀ H₀ m σ ρ G H/\(is ρ).ok m λm' xs=>∀ J G' H',Stp pa G H G' H'->Wd PK pa m' G' H'->JOk PK pa J G' xs->R J H'
theorem PI.imp {tg iter:Expr} {t t':TI} (h:PI X tg iter t) (q:∀ σ H R,t' σ H R->t σ H R):PI X tg iter t':=λpins s σ H R I z=>h pins s σ H R I (q σ H R z)
noncomputable def Zdw (g:PyData->List Sl->Option (List Sl)) (s:List Sl->Tr Ou):List PyData->List Sl->Tr Ou
 | [],ρ=>.ret (.next ρ)
 | x::xs,ρ=>(Tr.of (g x ρ)).bind λρ1=>(s ρ1).bind λo=>match o with
  | .next ρ2=>Zdw g s xs ρ2
  | .cont ρ2=>Zdw g s xs ρ2
  | .brk ρ2=>.ret (.next ρ2)
  | .ret r=>.ret (.ret r)
noncomputable def Zh1 (is:List Sl->Tr (List PyData)) (g:PyData->List Sl->Option (List Sl)) (s:List Sl->Tr Ou):List Sl->Tr Ou:=λρ=>(is ρ).bind λxs=>Zdw g s xs ρ
theorem ZcD {tg iter:Expr} {body:List Stmt} {g:PyData->List Sl->Option (List Sl)} (hp:PassesOwn (model X.prog X.w) X.A X.env X.xe) (hc:X.calm=true) (hi:PI X tg iter (TAi PK is)) (hg:PG X tg (TAg PK g)) (hb:PSs X body (TAs PK s))
  (hs:∀ x,foldedSetIterable iter X.env x=pure x:=by intro _; rfl):PS X (.For tg iter body [] pos) (TAs PK (Zh1 is g s)):=(ZpJ hp hc hi hg hb hs).imp λD σ H hz0=>by
 obtain ⟨pa,G₀,H₀,m,ρ,G,R,z⟩:=hz0
 refine ⟨pa,G₀,H₀,m,ρ,G,R,Tr.ok_mono (Tr.ok_bind.mp z) λm1 xs k J G1 H1 s1 w1 jo=>?_⟩
 let W:Nat->Nat->St->Hp->Prop:=λn mm σ H=>mm=xs.length - n/\n<=xs.length/\∃ m ρ G,Sub G1 G/\Rl PK pa G₀ H₀ m σ ρ G H/\(Zdw g s (xs.drop n) ρ).ok m (Ko PK pa G₀ H₀ G1 D)
 refine ⟨W,⟨xs.length,rfl,Nat.zero_le _,m1,ρ,G1,λ_ _ h=>h,R.step s1 w1,Tr.ok_mono k λ_ _ k'=>Ko.later k' s1.gs⟩,?_⟩
 rintro n mm σ2 H2 ⟨rfl,hn,m2,ρ2,G2,sb,R2,k2⟩
 obtain ⟨j1,j2⟩:=jo m2 G2 H2 sb R2.wd
 by_cases hlt:n < xs.length
 ·have hx:xs[n]?=some xs[n]:=by simp [hlt]
  obtain ⟨jg,jy⟩:=j1 n _ hx
  refine .inr ⟨jg,W (n+1) (xs.length - (n+1)),λσ' H' h'=>⟨_,by omega,h'⟩,λx H3 y=>?_⟩
  obtain ⟨G3,s3,w3,d3⟩:=jy x H3 y
  rw [List.drop_eq_getElem_cons hlt] at k2
  unfold Zdw at k2
  rw [Tr.ok_bind] at k2
  obtain ⟨ρ3,hg3,k3⟩:=Tr.ok_of k2
  refine ⟨pa,G₀,H₀,m2,ρ2,G3,_,ρ3,R2.step s3 w3,d3,hg3,λσ4 R4=>?_⟩
  refine ⟨pa,G₀,H₀,m2,ρ3,G3,R4,Tr.ok_mono (Tr.ok_bind.mp k3) λm5 o ko=>?_⟩
  have again:∀ ρ5,(Zdw g s (xs.drop (n+1)) ρ5).ok m5 (Ko PK pa G₀ H₀ G1 D)->∀ σ5 G5 H5,Sub G3 G5->Rl PK pa G₀ H₀ m5 σ5 ρ5 G5 H5->W (n+1) (xs.length - (n+1)) σ5 H5:=λρ5 k5 σ5 G5 H5 sb5 R5 =>
   ⟨rfl,hlt,m5,ρ5,G5,(sb.trans s3.gs).trans sb5,R5,k5⟩
  cases o with
  | next ρ5=>exact again ρ5 ko
  | cont ρ5=>exact again ρ5 ko
  | brk ρ5=>exact λσ5 G5 H5 sb5 R5=>ko σ5 G5 H5 ((sb.trans s3.gs).trans sb5) R5
  | ret r=>exact ko
 ·have e:n=xs.length:=by omega
  subst e
  refine .inl ⟨j2,?_⟩
  rw [List.drop_length] at k2
  exact k2 σ2 G2 H2 sb R2
end L2
set_option Elab.async false
set_option linter.all false
set_option maxRecDepth 100000
namespace L2
open PySem PySem.Spec PyProof.Rows
variable {PK:Pk} {X:Cx} {a b c e:Expr} {es:List Expr} {pos:Pos} {i j l:List Sl->Tr PyData} {is:List Sl->Tr (List PyData)} {as:List Sl->Tr (List Sl)} {f:List Sl->Tr Re} {p q:List Sl->Tr Bool} {st:Stmt} {sts:List Stmt} {s t u:List Sl->Tr Ou}
noncomputable def whL (p:List Sl->Tr Bool) (s:List Sl->Tr Ou):Nat->List Sl->Tr Ou
 | 0,_=>.fail
 | n+1,ρ=>(p ρ).bind λb=>if b=true then (s ρ).bind λo=>match o with
   | .next ρ2=>whL p s n ρ2
   | .cont ρ2=>whL p s n ρ2
   | .brk ρ2=>.ret (.next ρ2)
   | .ret r=>.ret (.ret r)
  else .ret (.next ρ)
theorem Zey {body:List Stmt} (n:Nat) (hp:PassesOwn (model X.prog X.w) X.A X.env X.xe) (hc:PT X c (TAt PK p)) (hb:PSs X body (TAs PK s)):PS X (.While c body [] pos) (TAs PK (whL p s n)):=(ZlH hp hc hb).imp λD σ H hz0=>by
 obtain ⟨pa,G₀,H₀,m,ρ,G,R,z⟩:=hz0
 let W:Nat->St->Hp->Prop:=λn σ H=>∃ m ρ G1,Sub G G1/\Rl PK pa G₀ H₀ m σ ρ G1 H/\(whL p s n ρ).ok m (Ko PK pa G₀ H₀ G D)
 refine ⟨W,⟨n,m,ρ,G,.refl,R,z⟩,?_⟩
 rintro n σ2 H2 ⟨m2,ρ2,G2,sb,R2,k2⟩
 cases n with
 | zero=>exact k2.elim
 | succ n =>
  unfold whL at k2
  refine TAt.then R2 k2 λm3 x G3 H3 s3 w3 R3 k3=>?_
  cases x with
  | false =>
   rw [if_neg Bool.false_ne_true] at k3 ⊢
   exact k3 σ2 G3 H3 (sb.trans s3.gs) R3
  | true =>
   rw [if_pos rfl] at k3 ⊢
   refine ⟨W n,λσ' H' h=>⟨n,by omega,h⟩,pa,G₀,H₀,m3,ρ2,G3,R3,Tr.ok_mono (Tr.ok_bind.mp k3) λm4 o ko=>?_⟩
   have again:∀ ρ5,(whL p s n ρ5).ok m4 (Ko PK pa G₀ H₀ G D)->∀ σ5 G5 H5,Sub G3 G5->Rl PK pa G₀ H₀ m4 σ5 ρ5 G5 H5->W n σ5 H5:=λρ5 k5 σ5 G5 H5 sb5 R5 =>
    ⟨m4,ρ5,G5,(sb.trans s3.gs).trans sb5,R5,k5⟩
   cases o with
   | next ρ5=>exact again ρ5 ko
   | cont ρ5=>exact again ρ5 ko
   | brk ρ5=>exact λσ5 G5 H5 sb5 R5=>ko σ5 G5 H5 ((sb.trans s3.gs).trans sb5) R5
   | ret r=>exact ko

noncomputable def blS:Sl->Sl
 | .own _=>.un
 | .dic _=>.un
 | s=>s
noncomputable def blk (n:Nat) (ix:List Nat) (ρ:List Sl):List Sl:=List.replicate n .un++ix.map λj=>blS ((ρ[j]?).getD .un)
theorem Rl.blk {pa:Addr} {G₀ H₀ G H:Hp} {m:Nat} {σ:St} {ρ:List Sl} (R:Rl PK pa G₀ H₀ m σ ρ G H) (n:Nat) (ix:List Nat):Rl PK pa G₀ H₀ m (bSt n ix σ) (blk n ix ρ) G H:=by
 have key:∀ (k:Nat) (s:Sl),(L2.blk n ix ρ)[k]?=some s->(∃ o,(bSt n ix σ)[k]?=some o/\SlOk pa H₀ G H o s)/\(∀ xs,s≠.own xs)/\∀ xs,s≠.dic xs:=λk s h=>by
  unfold L2.blk at h
  unfold bSt
  by_cases hk:k < n
  ·rw [List.getElem?_append_left (by simpa using hk),List.getElem?_replicate,if_pos hk] at h
   rw [List.getElem?_append_left (by simpa using hk),List.getElem?_replicate,if_pos hk]
   cases h
   exact ⟨⟨_,rfl,.un⟩,(λxs h=>by cases h),λxs h=>by cases h⟩
  ·rw [List.getElem?_append_right (by simpa using Nat.le_of_not_lt hk),List.length_replicate,List.getElem?_map] at h
   rw [List.getElem?_append_right (by simpa using Nat.le_of_not_lt hk),List.length_replicate,List.getElem?_map]
   cases hj:ix[k - n]? with
   | none=>rw [hj] at h; cases h
   | some j =>
    rw [hj] at h
    have h':blS ((ρ[j]?).getD .un)=s:=Option.some.inj h
    subst h'
    show (∃ o,some ((σ[j]?).getD none)=some o/\_)/\_
    cases hr:ρ[j]? with
    | none=>exact ⟨⟨_,rfl,.un⟩,(λxs h=>by cases h),λxs h=>by cases h⟩
    | some s' =>
     obtain ⟨o,h1,h2⟩:=R.sl j s' hr
     rw [h1]
     cases h2 with
     | un=>exact ⟨⟨_,rfl,.un⟩,(λxs h=>by cases h),λxs h=>by cases h⟩
     | d z=>exact ⟨⟨_,rfl,.d z⟩,(λxs h=>by cases h),λxs h=>by cases h⟩
     | own _ _ _ _=>exact ⟨⟨_,rfl,.un⟩,(λxs h=>by cases h),λxs h=>by cases h⟩
     | dic _ _ _ _=>exact ⟨⟨_,rfl,.un⟩,(λxs h=>by cases h),λxs h=>by cases h⟩
     | pen=>exact ⟨⟨_,rfl,.pen⟩,(λxs h=>by cases h),λxs h=>by cases h⟩
 refine ⟨R.wd,R.st,R.p0,λk s h=>(key k s h).1,?_,λk n' xs ys _ h1 _=>absurd rfl ((key k _ h1).2.1 xs),λk n' xs ys _ h1 _=>absurd rfl ((key k _ h1).2.2 xs)⟩
 unfold L2.blk bSt
 simp
noncomputable def Zhb (n:Nat) (g:PyData->List Sl->Option (List Sl)):Prop:=∀ x ρ ρ',g x ρ=some ρ'->ρ'.length=ρ.length/\∀ k,n<=k->ρ'[k]?=ρ[k]?
noncomputable def ZiL (n:Nat) (g:List PyData->List Sl->Option (List Sl)):Prop:=∀ x ρ ρ',g x ρ=some ρ'->ρ'.length=ρ.length/\∀ k,n<=k->ρ'[k]?=ρ[k]?
theorem Zbc {n k:Nat} (h:k < n):Zhb n (ZaU k):=λx ρ ρ' e=>by
 cases e
 exact ⟨List.length_set,λj hj=>List.getElem?_set_ne (by omega)⟩
theorem Zet {n:Nat}:ZiL n ZbA:=λx ρ ρ' e=>by
 cases x with
 | nil=>cases e; exact ⟨rfl,λ_ _=>rfl⟩
 | cons _ _=>cases e
theorem ZbR {n:Nat} {g:PyData->List Sl->Option (List Sl)} {gs:List PyData->List Sl->Option (List Sl)} (h1:Zhb n g) (h2:ZiL n gs):ZiL n (Zax g gs):=λx ρ ρ' e=>by
 cases x with
 | nil=>cases e
 | cons x xs =>
  have e':(g x ρ).bind (λρ'=>gs xs ρ')=some ρ':=e
  cases h:g x ρ with
  | none=>rw [h] at e'; cases e'
  | some ρ1 =>
   rw [h] at e'
   obtain ⟨a1,a2⟩:=h1 x ρ ρ1 h
   obtain ⟨b1,b2⟩:=h2 xs ρ1 ρ' e'
   exact ⟨b1.trans a1,λk hk=>(b2 k hk).trans (a2 k hk)⟩
theorem Zes {n:Nat} {gs:List PyData->List Sl->Option (List Sl)} (h2:ZiL n gs):Zhb n (ZbH gs):=λx ρ ρ' e=>by
 cases x with
 | tuple xs=>exact h2 xs ρ ρ' e
 | _=>cases e
noncomputable def Zdb (h:PyData->Tr PyData):List PyData->Tr (List PyData)
 | []=>.ret []
 | x::xs=>(h x).bind λy=>(Zdb h xs).bind λys=>.ret (y::ys)
noncomputable def aLc (is:List Sl->Tr (List PyData)) (n:Nat) (ix:List Nat) (g:PyData->List Sl->Option (List Sl)) (el:List Sl->Tr PyData):List Sl->Tr (List PyData):=λρ =>
 (is ρ).bind λxs=>if small xs.length=true then Zdb (λx=>(Tr.of (g x (blk n ix ρ))).bind el) xs else .fail
theorem Rl.weak {pa:Addr} {G₀ H₀ G H:Hp} {m:Nat} {σ:St} {ρ ρ':List Sl} (R:Rl PK pa G₀ H₀ m σ ρ' G H) (hl:ρ'.length=ρ.length) (h:∀ (k:Nat) (s:Sl),ρ[k]?=some s->s=.un\/ρ'[k]?=some s):Rl PK pa G₀ H₀ m σ ρ G H:=by
 refine ⟨R.wd,R.st,R.p0,λk s hk=>?_,hl.symm.trans R.len,λk n xs ys hkn h1 h2=>?_,λk n xs ys hkn h1 h2=>?_⟩
 ·rcases h k s hk with e | e
  ·subst e
   have hlt:k < σ.length:=by
    rw [<- R.len,hl]
    exact (List.getElem?_eq_some_iff.mp hk).1
   exact ⟨σ[k],by simp [hlt],.un⟩
  ·exact R.sl k s e
 ·rcases h k _ h1 with e | e
  ·cases e
  ·rcases h n _ h2 with e' | e'
   ·cases e'
   ·exact R.dj k n xs ys hkn e e'
 ·rcases h k _ h1 with e | e
  ·cases e
  ·rcases h n _ h2 with e' | e'
   ·cases e'
   ·exact R.dj2 k n xs ys hkn e e'
theorem Zkn {n:Nat} {ix:List Nat} {g:PyData->List Sl->Option (List Sl)} (hn:Zhb n g):∀ σ H Q,TAo PK (aLc is n ix g i) σ H Q->tLc (TAi PK is) n ix (λ_=>TAg PK g) (λ_=>TAe PK i) σ H Q:=by
 rintro σ H Q ⟨pa,G₀,H₀,m,ρ,G,R,z⟩
 refine ⟨pa,G₀,H₀,m,ρ,G,R,Tr.ok_mono (Tr.ok_bind.mp z) λm1 xs k J G1 H1 s1 w1 jo=>λB=>?_⟩
 obtain ⟨hs,k⟩:=Zf8 k
 have hs:xs.length<=sizeLine:=of_decide_eq_true hs
 let el:PyData->Tr PyData:=λx=>(Tr.of (g x (blk n ix ρ))).bind i
 let W:Nat->Nat->St->List V->Hp->Prop:=λk mm τ ys H2=>mm=xs.length - k/\k<=xs.length/\ys.length=k/\∃ m G2 ds,Sub G1 G2/\Stp pa G H G2 H2/\Rl PK pa G₀ H₀ m τ (blk n ix ρ) G2 H2 /\
  DnAll G2 ys ds/\(Zdb el (xs.drop k)).ok m λm' zs=>Ko1 PK pa m' G H (ds++zs) Q
 refine ⟨W,⟨xs.length,rfl,Nat.zero_le _,rfl,m1,G1,[],.refl,s1,(R.step s1 w1).blk n ix,.nil,k⟩,?_⟩
 rintro k mm τ ys H2 ⟨rfl,hk,hy,m2,G2,ds,sb,st2,R2,dn,k2⟩
 obtain ⟨j1,j2⟩:=jo m2 G2 H2 sb R2.wd
 by_cases hlt:k < xs.length
 ·have hx:xs[k]?=some xs[k]:=by simp [hlt]
  obtain ⟨jg,jy⟩:=j1 k _ hx
  refine .inr ⟨jg,by omega,λx H3 y=>?_⟩
  obtain ⟨G3,s3,w3,d3⟩:=jy x H3 y
  rw [List.drop_eq_getElem_cons hlt] at k2
  unfold Zdb at k2
  rw [Tr.ok_bind,Tr.ok_bind] at k2
  obtain ⟨ρ3,hg3,k3⟩:=Tr.ok_of k2
  refine ⟨pa,G₀,H₀,m2,_,G3,_,ρ3,R2.step s3 w3,d3,hg3,λτ4 R4=>?_⟩
  refine ⟨pa,G₀,H₀,m2,ρ3,G3,R4,Tr.ok_mono k3 λm5 yd k5=>?_⟩
  intro v G5 H5 s5 w5 d5
  have s35:=s3.trans s5 w3.some
  obtain ⟨pl,pk⟩:=hn _ _ _ hg3
  refine ⟨xs.length - (k+1),by omega,rfl,hlt,by rw [List.length_append,hy]; rfl,m5,G5,ds++[yd],sb.trans s35.gs,st2.trans s35 R2.wd.some,?_,(DnAll.mono s35.gs dn).snoc d5,?_⟩
  ·refine (R4.step s5 w5).weak pl λq sl hq=>?_
   by_cases hqn:q < n
   ·left
    unfold blk at hq
    rw [List.getElem?_append_left (by simpa using hqn),List.getElem?_replicate,if_pos hqn] at hq
    cases hq
    rfl
   ·right
    rw [pk q (Nat.le_of_not_lt hqn)]
    exact hq
  ·refine Tr.ok_mono (Tr.ok_bind.mp k5) λm6 zs k6=>?_
   rw [List.append_assoc]
   exact k6
 ·have e:k=xs.length:=by omega
  subst e
  refine .inl ⟨j2,λp v H' hp ev eH=>?_⟩
  subst ev eH
  rw [List.drop_length] at k2
  have k2':Ko1 PK pa m2 G H (ds++[]) Q:=k2
  rw [List.append_nil] at k2'
  exact (Ko1.later k2' st2 R2.wd.some).new R2.wd dn hp
theorem Zg6 {n:Nat} {ix:List Nat} {g:PyData->List Sl->Option (List Sl)} (h:PE X e (tLc (TAi PK is) n ix (λ_=>TAg PK g) (λ_=>TAe PK i))) (hn:Zhb n g):PE X e (TAo PK (aLc is n ix g i)):=h.imp (Zkn hn)
theorem ZjC {te te':TE} {g:TG} (h:∀ σ H Q,te' σ H Q->te σ H Q):∀ D σ H,Zlj te' g D σ H->Zlj te g D σ H:=λD σ H z=>h σ H _ z
noncomputable def finR:Ou->Tr Re
 | .next _=>.ret (.d .none)
 | .ret r=>.ret r
 | _=>.fail
noncomputable def ZcW (n k:Nat) (s:List Sl->Tr Ou):List Sl->Tr Re:=λas=>if decide (as.length=n)=true then (s (as++List.replicate k .un)).bind finR else .fail
theorem Rl.start {pa:Addr} {G H:Hp} {m:Nat} {N:List Str} {vs:List V} {as:List Sl} {k:Nat} (w:Wd PK pa m G H) (ar:ArsOk pa G vs as) (hk:N.length - vs.length=k):Rl PK pa G H m (L2.start N vs) (as++List.replicate k .un) G H:=by
 have key:∀ {vs:List V} {as:List Sl},ArsOk pa G vs as->∀ (q:Nat) (s:Sl),as[q]?=some s->(∃ o,(vs.map some)[q]?=some o/\SlOk pa H G H o s)/\(∀ xs,s≠.own xs)/\∀ xs,s≠.dic xs:=by
  intro vs as h
  induction h with
  | nil=>intro q s h; simp at h
  | cons h1 h2 ih =>
   intro q s h
   cases q with
   | zero =>
    simp at h
    subst h
    cases h1 with
    | d z=>exact ⟨⟨_,rfl,.d z⟩,(λxs h=>by cases h),λxs h=>by cases h⟩
    | pen=>exact ⟨⟨_,rfl,.pen⟩,(λxs h=>by cases h),λxs h=>by cases h⟩
   | succ q =>
    obtain ⟨⟨o,p1,p2⟩,p3⟩:=ih q s (by simpa using h)
    exact ⟨⟨o,by simpa using p1,p2⟩,p3⟩
 have hl:=ar.length
 have key2:∀ (q:Nat) (s:Sl),(as++List.replicate k .un)[q]?=some s->(∃ o,(L2.start N vs)[q]?=some o/\SlOk pa H G H o s)/\(∀ xs,s≠.own xs)/\∀ xs,s≠.dic xs:=λq s h=>by
  unfold L2.start
  by_cases hq:q < as.length
  ·rw [List.getElem?_append_left hq] at h
   rw [List.getElem?_append_left (by rw [List.length_map,hl]; exact hq)]
   exact key ar q s h
  ·rw [List.getElem?_append_right (by omega),List.getElem?_replicate] at h
   rw [List.getElem?_append_right (by rw [List.length_map]; omega),List.getElem?_replicate,List.length_map,hl]
   split at h
   ·rename_i hq2
    cases h
    rw [if_pos (by omega)]
    exact ⟨⟨_,rfl,.un⟩,(λxs h=>by cases h),λxs h=>by cases h⟩
   ·cases h
 refine ⟨w,.refl,w.some,λq s h=>(key2 q s h).1,?_,λq n xs ys _ h1 _=>absurd rfl ((key2 q _ h1).2.1 xs),λq n xs ys _ h1 _=>absurd rfl ((key2 q _ h1).2.2 xs)⟩
 unfold L2.start
 simp [hl,hk]
 omega
theorem ZaN {P:Program} {w:World} {K:PySem.W.Frag} {mg:Str->Option Value} {base:Heap} {x:Str} {N ps:List Str} {kk k:Nat} (D:Def K mg x st ps) (S:FnScope N ps (Zah st)) (hk:N.length - ps.length=k)
  (hbody:∀ (f:Addr) (cdv:Value) (A:Around) (outer:List Env) (sh:Shared) (H:Hp) (E:XK),Room kk (A.deeper (envOfC x (Zah st) sh.heap.objs.size f cdv)) ->
   PSs (Zmj CX0 P w K mg base N x (Zah st) f cdv A outer sh H E).nox (Zcp st) (TAs PK s)):ACal PK P w K mg base x (kk+1) ps (ZcW ps.length k s):=by
 have len:∀ as m Z,(ZcW ps.length k s as).ok m Z->as.length=ps.length:=λas m Z h=>by
  unfold ZcW at h
  exact of_decide_eq_true (Zf8 h).1
 refine ⟨D.ok S (λvs H Q E h=>h.1) λf cdv A outer sh H vs Q E hr hsp=>?_,len⟩
 obtain ⟨hv,pa,m,G,as,wd,ar,z⟩:=hsp
 refine ⟨_,hbody f cdv A outer sh H E hr,?_⟩
 unfold ZcW at z
 obtain ⟨_,z⟩:=Zf8 z
 refine ⟨pa,G,H,m,_,G,Rl.start wd ar (by rw [hv]; exact hk),Tr.ok_mono (Tr.ok_bind.mp z) λm1 o ko=>?_⟩
 cases o with
 | next ρ=>exact λσ G1 H1 sb R1=>ko .non G1 H1 R1.st R1.wd .non
 | ret r=>exact ko
 | brk ρ=>exact ko.elim
 | cont ρ=>exact ko.elim

theorem ZpM {tg l:Expr} {tl:TE} (hl:PE X l tl):PI X tg l (λσ H R=>tl σ H λx H1=>∃ a,x=.ref a/\((∃ xs,SqL X.K H1 a xs/\R (Itl X.K a) H1)\/(∃ xs,SqT X.K H1 a xs/\R (Itt X.K a) H1))):=by
 intro pins s σ H R I h
 refine thn (hl pins s σ H _ I h) λv s1 hz0=>?_
 obtain ⟨x,H1,I1,r1,q1⟩:=hz0
 obtain ⟨a,e,q⟩:=q1
 subst e
 cases r1
 rcases q with ⟨xs,hq,q⟩ | ⟨xs,hq,q⟩
 ·obtain ⟨its,rv,p,hz⟩:=I1.list hq
  refine wpAny_pyIter_list p.isList ?_
  refine ⟨s1.heap.objs.size,[s1.heap.objs.size],_,_,H1,rfl,I1.kept (t':=s1.toks) λb o e=>Heap.get?_push_of_some _ e,Zjx a _,⟨_,Heap.get?_push_size _ rfl,rfl,rfl⟩,λb hb=>?_,q⟩
  have e:b=s1.heap.objs.size:=by simpa using hb
  subst e
  exact I1.fpOk (Nat.le_refl _) (I1.hok.fresh (Nat.le_refl _))
 ·obtain ⟨its,rv,p,hz⟩:=I1.tuple hq
  refine wpAny_pyIter_tuple (show s1.heap.IsTuple a its.toArray from p) ?_
  refine ⟨s1.heap.objs.size,[s1.heap.objs.size],_,_,H1,rfl,I1.kept (t':=s1.toks) λb o e=>Heap.get?_push_of_some _ e,ZiN a _,⟨_,Heap.get?_push_size _ rfl,rfl,rfl⟩,λb hb=>?_,q⟩
  have e:b=s1.heap.objs.size:=by simpa using hb
  subst e
  exact I1.fpOk (Nat.le_refl _) (I1.hok.fresh (Nat.le_refl _))
theorem DnAll.get {H:Hp}:∀ {vs:List V} {ds:List PyData} (n:Nat) {d:PyData},DnAll H vs ds->ds[n]?=some d->∃ v,vs[n]?=some v/\Dn H v d
 | _,_,_,_,.nil,e=>by simp at e
 | _,_,0,_,.cons g t,e=>by simp at e; subst e; exact ⟨_,rfl,g⟩
 | _,_,n+1,_,.cons g t,e=>by
  obtain ⟨v,h1,h2⟩:=DnAll.get n t (by simpa using e)
  exact ⟨v,by simpa using h1,h2⟩
theorem ZlZ {K:PySem.W.Frag} {pa a:Addr} {G:Hp} {vs:List V} {xs:List PyData} (h:G a=some (.lst vs)) (d:DnAll G vs xs):JOk PK pa (Itl K a) G xs:=λm G2 H2 sb w=>by
 have hq:SqL K H2 a vs:=SqL.of (w.sub _ _ (sb _ _ h))
 refine ⟨λn x hx=>?_,vs,hq,by rw [d.length]; exact Nat.le_refl _⟩
 obtain ⟨v,hv,dv⟩:=d.get n hx
 refine ⟨⟨vs,v,hq,hv⟩,λy H3 hz0=>?_⟩
 obtain ⟨e,hy⟩:=hz0
 subst e
 have:=hy vs hq
 rw [hv] at this
 cases this
 exact ⟨G2,.refl,w,dv.mono sb⟩
theorem Zn5 {K:PySem.W.Frag} {pa a:Addr} {G:Hp} {vs:List V} {xs:List PyData} (h:G a=some (.tup vs)) (d:DnAll G vs xs):JOk PK pa (Itt K a) G xs:=λm G2 H2 sb w=>by
 have hq:SqT K H2 a vs:=SqT.of (w.sub _ _ (sb _ _ h))
 refine ⟨λn x hx=>?_,vs,hq,by rw [d.length]; exact Nat.le_refl _⟩
 obtain ⟨v,hv,dv⟩:=d.get n hx
 refine ⟨⟨vs,v,hq,hv⟩,λy H3 hz0=>?_⟩
 obtain ⟨e,hy⟩:=hz0
 subst e
 have:=hy vs hq
 rw [hv] at this
 cases this
 exact ⟨G2,.refl,w,dv.mono sb⟩
noncomputable def itD:PyData->Option (List PyData)
 | .list xs=>some xs
 | .tuple xs=>some xs
 | _=>none
@[simp] theorem itD_list (xs:List PyData):itD (.list xs)=some xs:=rfl
@[simp] theorem Zql (xs:List PyData):itD (.tuple xs)=some xs:=rfl
noncomputable def aIt (i:List Sl->Tr PyData):List Sl->Tr (List PyData):=λρ=>(i ρ).bind λx=>Tr.of (itD x)
theorem ZdT {tg l:Expr} (hl:PE X l (TAe PK i)):PI X tg l (TAi PK (aIt i)):=(ZpM hl).imp λσ H R0 hz0=>by
 obtain ⟨pa,G₀,H₀,m,ρ,G,R,z⟩:=hz0
 refine TAe.then R z λm1 x v G1 H1 s1 w1 R1 d1 q1=>?_
 obtain ⟨xs,hx,q1⟩:=Tr.ok_of q1
 cases d1 with
 | lst h1 h2=>cases hx; exact ⟨_,rfl,.inl ⟨_,SqL.of (w1.sub _ _ h1),q1 _ G1 H1 s1 w1 (ZlZ h1 h2)⟩⟩
 | tup h1 h2=>cases hx; exact ⟨_,rfl,.inr ⟨_,SqT.of (w1.sub _ _ h1),q1 _ G1 H1 s1 w1 (Zn5 h1 h2)⟩⟩
 | _=>cases hx
noncomputable def ZbM (lo hi:Int):List PyData:=(Zak lo (hi - lo).toNat).map PyData.int
theorem Zks {pa:Addr} {G:Hp} {lo:Int} {n:Nat}:JOk PK pa (Itr lo n) G ((Zak lo n).map PyData.int):=λm G2 H2 sb w=>by
 refine ⟨λk x hx=>?_,by show n<=_; rw [List.length_map,ZaR]; exact Nat.le_refl _⟩
 have hk:k < n:=by
  have:=(List.getElem?_eq_some_iff.mp hx).1
  rwa [List.length_map,ZaR] at this
 refine ⟨hk,λy H3 hz0=>?_⟩
 obtain ⟨e1,e2⟩:=hz0
 subst e1 e2
 have:x=.int (lo+k):=by
  unfold Zak at hx
  simp [hk] at hx
  exact hx.symm
 subst this
 exact ⟨G2,.refl,w,.int _⟩
noncomputable def inR (n:Int):Bool:=decide (-(2 ^ 62)<=n/\n < 2 ^ 62)
noncomputable def ZjT:List PyData->Option (List PyData)
 | [.int n]=>if inR n=true then some (ZbM 0 n) else none
 | _=>none
noncomputable def ZiP:List PyData->Option (List PyData)
 | [.int k,.int n]=>if (inR k && inR n)=true then some (ZbM k n) else none
 | _=>none
noncomputable def Zgt (is:List Sl->Tr (List PyData)):List Sl->Tr (List PyData):=λρ=>(is ρ).bind λxs=>Tr.of (ZjT xs)
noncomputable def ZoE (is:List Sl->Tr (List PyData)):List Sl->Tr (List PyData):=λρ=>(is ρ).bind λxs=>Tr.of (ZiP xs)
theorem ZjS {G:Hp} {vs:List V} {xs ys:List PyData} (d:DnAll G vs xs) (h:ZjT xs=some ys):∃ n:Int,vs=[.int n]/\-(2 ^ 62)<=n/\n < 2 ^ 62/\ys=ZbM 0 n:=by
 unfold ZjT at h
 split at h
 ·rename_i n
  split at h
  ·rename_i hn
   cases h
   cases d with
   | cons d1 d2 =>
    cases d2
    cases d1
    have:=of_decide_eq_true hn
    exact ⟨n,rfl,this.1,this.2,rfl⟩
  ·cases h
 ·cases h
theorem ZgC {G:Hp} {vs:List V} {xs ys:List PyData} (d:DnAll G vs xs) (h:ZiP xs=some ys):∃ k n:Int,vs=[.int k,.int n]/\(-(2 ^ 62)<=k/\k < 2 ^ 62/\-(2 ^ 62)<=n/\n < 2 ^ 62)/\ys=ZbM k n:=by
 unfold ZiP at h
 split at h
 ·rename_i k n
  split at h
  ·rename_i hn
   cases h
   cases d with
   | cons d1 d2 =>
    cases d2 with
    | cons d2 d3 =>
     cases d3
     cases d1
     cases d2
     rw [Bool.and_eq_true] at hn
     have h1:=of_decide_eq_true hn.1
     have h2:=of_decide_eq_true hn.2
     exact ⟨k,n,rfl,⟨h1.1,h1.2,h2.1,h2.2⟩,rfl⟩
  ·cases h
 ·cases h
theorem ZdA {tg e:Expr} (h:PI X tg e (Zqq (TAd PK is))):PI X tg e (TAi PK (Zgt is)):=h.imp λσ H R0 hz0=>by
 obtain ⟨pa,G₀,H₀,m,ρ,G,R,z⟩:=hz0
 refine TAd.then R z λm1 xs vs G1 H1 s1 w1 R1 d1 q1=>?_
 obtain ⟨ys,hy,q1⟩:=Tr.ok_of q1
 obtain ⟨n,e,h1,h2,rfl⟩:=ZjS d1 hy
 refine ⟨n,e,h1,h2,?_⟩
 have q:=q1 (Itr 0 n.toNat) G1 H1 s1 w1
 unfold ZbM at q
 rw [Int.sub_zero] at q
 exact q Zks
theorem ZoA {tg e:Expr} (h:PI X tg e (Zqp (TAd PK is))):PI X tg e (TAi PK (ZoE is)):=h.imp λσ H R0 hz0=>by
 obtain ⟨pa,G₀,H₀,m,ρ,G,R,z⟩:=hz0
 refine TAd.then R z λm1 xs vs G1 H1 s1 w1 R1 d1 q1=>?_
 obtain ⟨ys,hy,q1⟩:=Tr.ok_of q1
 obtain ⟨k,n,e,h1,rfl⟩:=ZgC d1 hy
 exact ⟨k,n,e,h1,q1 (Itr k (n - k).toNat) G1 H1 s1 w1 Zks⟩
end L2
set_option Elab.async false
set_option linter.all false
set_option maxRecDepth 100000
namespace L2
open PySem PySem.Spec PyProof.Rows
variable {PK:Pk} {X:Cx} {a b c e:Expr} {es:List Expr} {pos:Pos} {i j l:List Sl->Tr PyData} {is:List Sl->Tr (List PyData)}
noncomputable def fit (n:Int):Bool:=decide (n.natAbs < 2 ^ 8000)
noncomputable def ZbW:PyData->PyData->Option PyData
 | .int m,.int n=>some (.int (m+n))
 | .tuple xs,.tuple ys=>if (!xs.isEmpty && small (xs.length+ys.length))=true then some (.tuple (xs++ys)) else none
 | .list xs,.list ys=>if small (xs.length+ys.length)=true then some (.list (xs++ys)) else none
 | _,_=>none
noncomputable def ZnB (K:PySem.W.Frag):R2:=λx y H Q=>rI0 (λi j=>.int (i+j)) x y H Q\/ZpB K x y H Q\/rCat x y H Q
theorem op_addD:OpR X (binaryOp .Add) (ZnB X.K):=op_add.or (op_catT.or ZpY)
theorem ZaM {K:PySem.W.Frag}:Zfc (ZnB K) ZbW:=λPK pa m G H x y dx dy dz Q w hx hy hz k=>by
 unfold ZbW at hz
 split at hz
 ·cases hz; cases hx; cases hy
  exact .inl ⟨_,_,rfl,rfl,k.here w (.int _)⟩
 ·rename_i xs ys
  split at hz
  ·rename_i hc
   rw [Bool.and_eq_true] at hc
   have h1:xs.isEmpty=false:=by simpa using hc.1
   have h2:xs.length+ys.length<=sizeLine:=of_decide_eq_true hc.2
   cases hz
   cases hx with
   | tup a1 a2 =>
    cases hy with
    | tup b1 b2 =>
     refine .inr (.inl ⟨_,_,_,_,rfl,rfl,SqT.of (w.sub _ _ a1),SqT.of (w.sub _ _ b1),?_,by rw [a2.length,b2.length]; exact h2,λe=>?_,λe p hp=>k.tup w (a2.append b2) hp⟩)
     ·intro e
      rw [<- a2.isEmpty,e] at h1
      cases h1
     ·subst e
      cases b2
      refine k.here w ?_
      rw [List.append_nil]
      exact .tup a1 a2
  ·cases hz
 ·rename_i xs ys
  split at hz
  ·rename_i hc
   have h2:xs.length+ys.length<=sizeLine:=of_decide_eq_true hc
   cases hz
   cases hx with
   | lst a1 a2 =>
    cases hy with
    | lst b1 b2=>exact .inr (.inr ⟨_,_,_,_,rfl,rfl,w.sub _ _ a1,w.sub _ _ b1,by rw [a2.length,b2.length]; exact h2,λp hp=>k.lst w (a2.append b2) hp⟩)
  ·cases hz
 ·cases hz
noncomputable def ZdZ:PyData->PyData->Option PyData
 | .int m,.int n=>some (.int (m - n))
 | _,_=>none
theorem Zbh:Zfc (rI0 λi j=>.int (i - j)) ZdZ:=λPK pa m G H x y dx dy dz Q w hx hy hz k=>by
 unfold ZdZ at hz
 split at hz
 ·cases hz; cases hx; cases hy
  exact ⟨_,_,rfl,rfl,k.here w (.int _)⟩
 ·cases hz
theorem DnAll.rep {H:Hp} {vs:List V} {ds:List PyData} (h:DnAll H vs ds):∀ k:Nat,DnAll H (List.replicate k vs).flatten (List.replicate k ds).flatten
 | 0=>.nil
 | k+1=>by
  rw [List.replicate_succ,List.replicate_succ,List.flatten_cons,List.flatten_cons]
  exact h.append (h.rep k)
noncomputable def Zpz (K:PySem.W.Frag):R2:=λx y H Q=>rI CMulG (λi j=>.int (i * j)) x y H Q\/Zpy K x y H Q\/rRep x y H Q
theorem ZaG:OpR X (binaryOp .Mult) (Zpz X.K):=op_mulG.or (op_repT.or ZmT)
noncomputable def Za7:PyData->PyData->Option PyData
 | .int m,.int n=>if (fit m && fit n)=true then some (.int (m * n)) else none
 | .tuple xs,.int n=>if (decide (1 < n) && decide (n<=1000) && !xs.isEmpty && decide (xs.length<=1000))=true then some (.tuple (List.replicate n.toNat xs).flatten) else none
 | .list xs,.int n=>if (decide (-(2 ^ 63)<=n) && decide (n < 2 ^ 63) && small (xs.length * n.toNat))=true then some (.list (List.replicate n.toNat xs).flatten) else none
 | _,_=>none
theorem ZaP {K:PySem.W.Frag}:Zfc (Zpz K) Za7:=λPK pa m G H x y dx dy dz Q w hx hy hz k=>by
 unfold Za7 at hz
 split at hz
 ·split at hz
  ·rename_i hc
   rw [Bool.and_eq_true] at hc
   cases hz; cases hx; cases hy
   exact .inl ⟨_,_,rfl,rfl,⟨of_decide_eq_true hc.1,of_decide_eq_true hc.2⟩,k.here w (.int _)⟩
  ·cases hz
 ·split at hz
  ·rename_i hc
   simp only [Bool.and_eq_true,decide_eq_true_eq,Bool.not_eq_true'] at hc
   cases hz; cases hy
   cases hx with
   | tup a1 a2 =>
    refine .inr (.inl ⟨_,_,_,rfl,rfl,SqT.of (w.sub _ _ a1),hc.1.1.1,hc.1.1.2,?_,by rw [a2.length]; exact hc.2,λp hp=>k.tup w (a2.rep _) hp⟩)
    intro e
    have:=hc.1.2
    rw [<- a2.isEmpty,e] at this
    cases this
  ·cases hz
 ·split at hz
  ·rename_i hc
   simp only [Bool.and_eq_true,decide_eq_true_eq] at hc
   cases hz; cases hy
   cases hx with
   | lst a1 a2=>exact .inr (.inr ⟨_,_,_,rfl,rfl,w.sub _ _ a1,hc.1.1,hc.1.2,by rw [a2.length]; exact of_decide_eq_true hc.2,λp hp=>k.lst w (a2.rep _) hp⟩)
  ·cases hz
 ·cases hz
noncomputable def Zdj:PyData->PyData->Option PyData
 | .int m,.int n=>if (decide (n≠0) && fit n)=true then some (.int (m.fdiv n)) else none
 | _,_=>none
theorem ZcH:Zfc (rI ZqZ λi j=>.int (i.fdiv j)) Zdj:=λPK pa m G H x y dx dy dz Q w hx hy hz k=>by
 unfold Zdj at hz
 split at hz
 ·split at hz
  ·rename_i hc
   rw [Bool.and_eq_true] at hc
   cases hz; cases hx; cases hy
   exact ⟨_,_,rfl,rfl,⟨of_decide_eq_true hc.1,of_decide_eq_true hc.2⟩,k.here w (.int _)⟩
  ·cases hz
 ·cases hz
noncomputable def ZnU:PyData->PyData->Option PyData
 | .int m,.int n=>if decide (n≠0)=true then some (.int (m.fmod n)) else none
 | _,_=>none
theorem Zjs:Zfc (rI (λ_ j=>j≠0) λi j=>.int (i.fmod j)) ZnU:=λPK pa m G H x y dx dy dz Q w hx hy hz k=>by
 unfold ZnU at hz
 split at hz
 ·split at hz
  ·rename_i hc
   cases hz; cases hx; cases hy
   exact ⟨_,_,rfl,rfl,of_decide_eq_true hc,k.here w (.int _)⟩
  ·cases hz
 ·cases hz
noncomputable def ZpL:PyData->PyData->Option PyData
 | .int m,.int n=>if (decide (0<=n) && decide (n<=1000000) && decide (m.natAbs < 2 ^ 64))=true then some (.int (m ^ n.toNat)) else none
 | _,_=>none
theorem ZmA:Zfc (rI CPow λi j=>.int (i ^ j.toNat)) ZpL:=λPK pa m G H x y dx dy dz Q w hx hy hz k=>by
 unfold ZpL at hz
 split at hz
 ·split at hz
  ·rename_i hc
   simp only [Bool.and_eq_true,decide_eq_true_eq] at hc
   cases hz; cases hx; cases hy
   exact ⟨_,_,rfl,rfl,⟨hc.1.1,hc.1.2,hc.2⟩,k.here w (.int _)⟩
  ·cases hz
 ·cases hz
noncomputable def Zll (i:List Sl->Tr PyData):List Sl->Tr PyData:=λρ=>(i ρ).bind λx=>match x with
 | .int n=>.ret (.int (-n))
 | _=>.fail
theorem Ze5 (ha:PE X a (TAe PK i)):PE X (.UnaryOp .USub a pos) (TAe PK (Zll i)):=(pe_un Zo5 ha).imp λσ H Q hz0=>by
 obtain ⟨pa,G₀,H₀,m,ρ,G,R,z⟩:=hz0
 refine TAe.then R z λm1 x v G1 H1 s1 w1 R1 d1 q1=>?_
 cases d1 with
 | int n=>exact ⟨n,rfl,(Kn.later q1 s1 w1.some).here w1 (.int _)⟩
 | _=>exact q1.elim
noncomputable def Zgw (f:Int->Int->Bool):PyData->PyData->Option PyData
 | .int m,.int n=>some (.bool (f m n))
 | _,_=>none
theorem Zb4 {f:Int->Int->Bool}:Zfc (rI0 λi j=>.bl (f i j)) (Zgw f):=λPK pa m G H x y dx dy dz Q w hx hy hz k=>by
 unfold Zgw at hz
 split at hz
 ·cases hz; cases hx; cases hy
  exact ⟨_,_,rfl,rfl,k.here w (.bl _)⟩
 ·cases hz
noncomputable def eqD:PyData->PyData->Option PyData
 | .str m,.str n=>some (.bool (m == n))
 | x,y=>if (SeqAt.shaped x && SeqAt.shaped y)=true then some (.bool (PyData.eqv x y)) else none
noncomputable def neD:PyData->PyData->Option PyData
 | .str m,.str n=>some (.bool (!(m == n)))
 | x,y=>if (SeqAt.shaped x && SeqAt.shaped y)=true then some (.bool (!PyData.eqv x y)) else none
noncomputable def rEqD:R2:=λx y H Q=>rEq x y H Q\/∃ d e,Dn H x d/\Dn H y e/\SeqAt.shaped d=true/\SeqAt.shaped e=true/\Q (.bl (PyData.eqv d e)) H
noncomputable def rNeD:R2:=λx y H Q=>rNe x y H Q\/∃ d e,Dn H x d/\Dn H y e/\SeqAt.shaped d=true/\SeqAt.shaped e=true/\Q (.bl (!PyData.eqv d e)) H
theorem Zj8 {k:Nat} (hr:Room k X.A):OpR X (compareOp .Eq) rEqD:=op_eq.or (ZpX hr)
theorem Zdm {k:Nat} (hr:Room k X.A):OpR X (compareOp .NotEq) rNeD:=op_ne.or (ZpW hr)
theorem Znk:Zfc rEqD eqD:=λPK pa m G H x y dx dy dz Q w hx hy hz k=>by
 unfold eqD at hz
 split at hz
 ·cases hz; cases hx; cases hy
  exact .inl ⟨rfl,by rw [Zgh]; exact k.here w (.bl _)⟩
 ·split at hz
  ·rename_i hc
   rw [Bool.and_eq_true] at hc
   cases hz
   exact .inr ⟨_,_,hx.mono w.sub,hy.mono w.sub,hc.1,hc.2,k.here w (.bl _)⟩
  ·cases hz
theorem Zfd:Zfc rNeD neD:=λPK pa m G H x y dx dy dz Q w hx hy hz k=>by
 unfold neD at hz
 split at hz
 ·cases hz; cases hx; cases hy
  exact .inl ⟨rfl,by rw [Zgh]; exact k.here w (.bl _)⟩
 ·split at hz
  ·rename_i hc
   rw [Bool.and_eq_true] at hc
   cases hz
   exact .inr ⟨_,_,hx.mono w.sub,hy.mono w.sub,hc.1,hc.2,k.here w (.bl _)⟩
  ·cases hz
noncomputable def ixD:PyData->PyData->Option PyData
 | .list xs,.int n=>atI xs n
 | .tuple xs,.int n=>atI xs n
 | _,_=>none
theorem DnAll.at {H:Hp} {vs:List V} {ds:List PyData} {n:Int} {d:PyData} (h:DnAll H vs ds) (e:atI ds n=some d):∃ v,atI vs n=some v/\Dn H v d:=by
 unfold atI at e ⊢
 rw [<- h.length] at e
 cases hn:ixN vs.length n with
 | none=>rw [hn] at e; cases e
 | some j =>
  rw [hn] at e
  exact h.get j e
theorem ZaA {K:PySem.W.Frag}:Zfc (rIx K) ixD:=λPK pa m G H x y dx dy dz Q w hx hy hz k=>by
 unfold ixD at hz
 split at hz
 ·cases hy
  cases hx with
  | lst a1 a2 =>
   obtain ⟨v,h1,h2⟩:=a2.at hz
   exact .inl ⟨_,_,_,v,rfl,rfl,SqL.of (w.sub _ _ a1),h1,k.here w h2⟩
 ·cases hy
  cases hx with
  | tup a1 a2 =>
   obtain ⟨v,h1,h2⟩:=a2.at hz
   exact .inr (.inl ⟨_,_,_,v,rfl,rfl,SqT.of (w.sub _ _ a1),h1,k.here w h2⟩)
 ·cases hz

noncomputable def Zkk:List PyData->Option PyData
 | [.list xs]=>some (.int xs.length)
 | [.tuple xs]=>some (.int xs.length)
 | _=>none
theorem Zez {K:PySem.W.Frag}:VCl (λxs H Q=>∃ p ys,xs=[.ref p]/\(SqL K H p ys\/SqT K H p ys)/\Q (.int ys.length) H) Zkk:=λPK pa m G H vs ds d Q w hv hd k=>by
 unfold Zkk at hd
 split at hd
 ·cases hd
  cases hv with
  | cons h1 h2 =>
   cases h2
   cases h1 with
   | lst a1 a2=>exact ⟨_,_,rfl,.inl (SqL.of (w.sub _ _ a1)),by rw [a2.length]; exact k.here w (.int _)⟩
 ·cases hd
  cases hv with
  | cons h1 h2 =>
   cases h2
   cases h1 with
   | tup a1 a2=>exact ⟨_,_,rfl,.inr (SqT.of (w.sub _ _ a1)),by rw [a2.length]; exact k.here w (.int _)⟩
 ·cases hd
noncomputable def absI (n:Int):Int:=if n < 0 then -n else n
noncomputable def ZoC:List PyData->Option PyData
 | [.int n]=>some (.int (absI n))
 | _=>none
theorem Zh8:VCl (λxs H Q=>∃ i,xs=[.int i]/\Q (.int (if i < 0 then -i else i)) H) ZoC:=λPK pa m G H vs ds d Q w hv hd k=>by
 unfold ZoC at hd
 split at hd
 ·cases hd
  cases hv with
  | cons h1 h2=>cases h2; cases h1; exact ⟨_,rfl,k.here w (.int _)⟩
 ·cases hd
noncomputable def Zdi (m n:Int):Int:=if n > m then n else m
noncomputable def minI (m n:Int):Int:=if n < m then n else m
noncomputable def ZhG:List PyData->Option PyData
 | [.int m,.int n]=>some (.int (Zdi m n))
 | _=>none
theorem ZfM:VCl (λxs H Q=>∃ i j,xs=[.int i,.int j]/\Q (.int (if j > i then j else i)) H) ZhG:=λPK pa m G H vs ds d Q w hv hd k=>by
 unfold ZhG at hd
 split at hd
 ·cases hd
  cases hv with
  | cons h1 h2=>cases h2 with | cons h2 h3=>cases h3; cases h1; cases h2; exact ⟨_,_,rfl,k.here w (.int _)⟩
 ·cases hd
noncomputable def Zob:List PyData->Option PyData
 | [.int n]=>some (.int n)
 | [.bool n]=>some (.int (if n then 1 else 0))
 | _=>none
theorem Zjv:VCl (λxs H Q=>(∃ i,xs=[.int i]/\Q (.int i) H)\/∃ k,xs=[.bl k]/\Q (.int (if k then 1 else 0)) H) Zob:=λPK pa m G H vs ds d Q w hv hd k=>by
 unfold Zob at hd
 split at hd
 ·cases hd
  cases hv with
  | cons h1 h2=>cases h2; cases h1; exact .inl ⟨_,rfl,k.here w (.int _)⟩
 ·cases hd
  cases hv with
  | cons h1 h2=>cases h2; cases h1; exact .inr ⟨_,rfl,k.here w (.int _)⟩
 ·cases hd
noncomputable def Zli:List PyData->Option PyData
 | [.list xs]=>some (.tuple xs)
 | [.tuple xs]=>some (.tuple xs)
 | _=>none
theorem Zfr {K:PySem.W.Frag}:VCl (λxs H Q=>∃ p ys,xs=[.ref p]/\((SqL K H p ys/\∀ l,H l=none->Q (.ref l) (upd H l (.tup ys)))\/(SqT K H p ys/\Q (.ref p) H))) Zli:=λPK pa m G H vs ds d Q w hv hd k=>by
 unfold Zli at hd
 split at hd
 ·cases hd
  cases hv with
  | cons h1 h2 =>
   cases h2
   cases h1 with
   | lst a1 a2=>exact ⟨_,_,rfl,.inl ⟨SqL.of (w.sub _ _ a1),λp hp=>k.tup w a2 hp⟩⟩
 ·cases hd
  cases hv with
  | cons h1 h2 =>
   cases h2
   cases h1 with
   | tup a1 a2=>exact ⟨_,_,rfl,.inr ⟨SqT.of (w.sub _ _ a1),k.here w (.tup a1 a2)⟩⟩
 ·cases hd
noncomputable def ZoT:List PyData->Option (List PyData)
 | [.list xs]=>some xs
 | [.tuple xs]=>some xs
 | _=>none
theorem Zo2 {K:PySem.W.Frag}:VClo (λxs H Q=>∃ p ys,xs=[.ref p]/\(SqL K H p ys\/SqT K H p ys)/\∀ l,H l=none->Q (.ref l) (upd H l (.lst ys))) ZoT:=λPK pa m G H vs ds d Q w hv hd k=>by
 unfold ZoT at hd
 split at hd
 ·cases hd
  cases hv with
  | cons h1 h2 =>
   cases h2
   cases h1 with
   | lst a1 a2=>exact ⟨_,_,rfl,.inl (SqL.of (w.sub _ _ a1)),λp hp=>k.new w a2 hp⟩
 ·cases hd
  cases hv with
  | cons h1 h2 =>
   cases h2
   cases h1 with
   | tup a1 a2=>exact ⟨_,_,rfl,.inr (SqT.of (w.sub _ _ a1)),λp hp=>k.new w a2 hp⟩
 ·cases hd
noncomputable def Zfw (d:PyData):Bool:=!d.hasDict && d.showable && decide (d.depth<=32) && decide (d.shown.length<=sizeLine)
noncomputable def ZiQ:List PyData->Option PyData
 | [d]=>if Zfw d=true then some (.str d.shown) else none
 | _=>none
theorem Zju:VCl (λxs H Q=>∃ v d,xs=[v]/\Dn H v d/\d.hasDict=false/\d.showable=true/\d.depth<=32/\d.shown.length<=sizeLine/\Q (.str d.shown) H) ZiQ:=λPK pa m G H vs ds d Q w hv hd k=>by
 unfold ZiQ at hd
 split at hd
 ·split at hd
  ·rename_i hc
   unfold Zfw at hc
   simp only [Bool.and_eq_true,decide_eq_true_eq,Bool.not_eq_true'] at hc
   cases hd
   cases hv with
   | cons h1 h2=>cases h2; exact ⟨_,_,rfl,h1.mono w.sub,hc.1.1.1,hc.1.1.2,hc.1.2,hc.2,k.here w (.str _)⟩
  ·cases hd
 ·cases hd
noncomputable def tyD:PyData->String
 | .none=>"NoneType"
 | .bool _=>"bool"
 | .int _=>"int"
 | .str _=>"str"
 | .list _=>"list"
 | .tuple _=>"tuple"
 | .dict _=>"dict"
theorem Dn.ty {K:PySem.W.Frag} {G H:Hp} (sb:Sub G H) {v:V} {d:PyData} (h:Dn G v d):TyOf K H v (.type (tyD d)):=by
 cases h with
 | non=>exact .non
 | bl b=>exact .bl b
 | int i=>exact .int i
 | str x=>exact .str x
 | tup h _=>exact .tup (sb _ _ h)
 | lst h _=>exact .lst (sb _ _ h)
 | dct h _=>exact h.elim (λh=>.dK (sb _ _ h)) λ⟨o,h⟩=>.frzD (sb _ _ h)
noncomputable def Zn9 (T:String) (t:String):Bool:=decide (t=T) || (decide (T="int") && decide (t="bool"))
noncomputable def ZoI (T:String) (i:List Sl->Tr PyData):List Sl->Tr PyData:=λρ=>(i ρ).bind λx=>.ret (.bool (Zn9 T (tyD x)))
noncomputable def isiT (T:String):Prop:=T="int"\/T="bool"\/T="str"\/T="list"\/T="tuple"\/T="dict"
theorem Zn3 {K:PySem.W.Frag} {T:String} (h:isiT T) (d:PyData):PySem.W.kitOne K (.type (tyD d)) (.type T)=some (Zn9 T (tyD d)):=by
 rcases h with rfl | rfl | rfl | rfl | rfl | rfl <;> cases d <;> rfl
theorem Zg8 {T:String} {tc:TE} (hT:isiT T) (htc:tc=tC (.ty T)) (h:PE X e (tCB (λxs H Q=>∃ x T t b,xs=[x,.ty T]/\TyOf X.K H x t/\PySem.W.kitOne X.K t (.type T)=some b/\Q (.bl b) H) (Zej (TAe PK i) (Zej tc Zcb)))):PE X e (TAe PK (ZoI T i)):=h.imp λσ H Q hz0=>by
 obtain ⟨pa,G₀,H₀,m,ρ,G,R,z⟩:=hz0
 subst htc
 refine TAe.then R z λm1 x v G1 H1 s1 w1 R1 d1 q1=>?_
 exact ⟨v,T,_,_,rfl,d1.ty w1.sub,Zn3 hT x,(Kn.later q1 s1 w1.some).here w1 (.bl _)⟩
noncomputable def cutD (xs:List PyData) (lo hi:Option Int):List PyData:=(xs.drop (HT.sIx xs.length 0 lo)).take (HT.sIx xs.length xs.length hi - HT.sIx xs.length 0 lo)
theorem DnAll.take {H:Hp}:∀ {vs:List V} {ds:List PyData} (n:Nat),DnAll H vs ds->DnAll H (vs.take n) (ds.take n)
 | _,_,0,_=>.nil
 | _,_,_+1,.nil=>.nil
 | _,_,n+1,.cons r t=>.cons r (DnAll.take n t)
theorem DnAll.drop {H:Hp}:∀ {vs:List V} {ds:List PyData} (n:Nat),DnAll H vs ds->DnAll H (vs.drop n) (ds.drop n)
 | _,_,0,r=>r
 | _,_,_+1,.nil=>.nil
 | _,_,n+1,.cons r t=>DnAll.drop n t
theorem DnAll.cut {H:Hp} {vs:List V} {ds:List PyData} (h:DnAll H vs ds) (lo hi:Option Int):DnAll H (Zjq vs lo hi) (cutD ds lo hi):=by
 unfold Zjq cutD
 rw [h.length]
 exact (h.drop _).take _
noncomputable abbrev Ze7:=List Sl->Tr (Option Int)
noncomputable def aP0:Ze7:=λ_=>.ret none
noncomputable def aP1 (i:List Sl->Tr PyData):Ze7:=λρ=>(i ρ).bind λx=>match x with
 | .int n=>.ret (some n)
 | _=>.fail
noncomputable def TAp (PK:Pk) (i:Ze7):TO:=λσ H Q=>∃ pa G₀ H₀ m ρ G,Rl PK pa G₀ H₀ m σ ρ G H/\(i ρ).ok m λm' x=>∀ G' H',Stp pa G H G' H'->Wd PK pa m' G' H'->Q x H'
theorem PO.imp {e:Option Expr} {t t':TO} (h:PO X e t) (q:∀ σ H Q,t' σ H Q->t σ H Q):PO X e t':=λpins s σ H Q I z=>h pins s σ H Q I (q σ H Q z)
theorem Ze4:PO X none (TAp PK aP0):=po_none.imp λσ H Q hz0=>by
 obtain ⟨pa,G₀,H₀,m,ρ,G,R,z⟩:=hz0
 exact z G H .refl R.wd
theorem Ze3 (h:PE X e (TAe PK i)):PO X (some e) (TAp PK (aP1 i)):=(Zj0 h).imp λσ H Q hz0=>by
 obtain ⟨pa,G₀,H₀,m,ρ,G,R,z⟩:=hz0
 refine TAe.then R z λm1 x v G1 H1 s1 w1 R1 d1 q1=>?_
 cases d1 with
 | int n=>exact ⟨n,rfl,q1 G1 H1 s1 w1⟩
 | _=>exact q1.elim
theorem Zdv {prog:Program} {w:World} {A:Around} {E:Value->Shared->Prop} {s:Shared} {t sl:Addr} {items:Array Value} {vl vu:Value} {lo hi:Option Int} {Q:Value->Shared->Prop} (ht:IsTup s.heap t items) (hs:s.heap.IsSliceOf sl vl vu .none) (pl:IsPart vl lo) (pu:IsPart vu hi)
  (hw:HT.sIx items.size 0 lo=0/\HT.sIx items.size items.size hi=items.size) (h:Q (.ref t) s):wpAny (model prog w) A (getItem (.ref t) (.ref sl)) Q E s:=by
 obtain ⟨os,hos,hcs,hds⟩:=id hs
 have hTs:s.TypeIs (.ref sl) "slice":=⟨os,hos,hcs⟩
 unfold getItem
 try with_reducible refine wpAny_holding ?_
 first | refine wpAny_bind (wpAny_pure ?_) | skip
 refine wpAny_bind (wpAny_sequenceKey ht.typeIs (by decide) ?_)
 refine wpAny_bind (wpAny_callSpecial?_slot (name:=Str.ofString "__getitem__") ht.typeIs PyProof.Rows.slot_tuple_getitem
  (wpAny_call_entry PyProof.Rows.slot_tuple_getitem ht.typeIs entry_tuple_getitem ?_ (args_tuple_getitem _ _)))
 show wpAny _ _ (Builtin.Tuple.tupleItemsOf (.ref t) >>= _) _ _ s
 refine wpAny_bind (tupleItemsOf_ ht ?_)
 refine wpAny_bind (wpAny_typeOf hTs ?_)
 rw [if_pos (by decide)]
 refine wpAny_bind (HT.sliceApplied_gen hs pl pu ?_)
 have hyes:(((HT.sIx items.size 0 lo:Nat):Int) == 0 && (1:Int) == 1 && (HT.sIx items.size items.size hi - HT.sIx items.size 0 lo) == items.size)=true:=by
  rw [hw.1,hw.2]
  simp
 show wpAny _ _ (if (((HT.sIx items.size 0 lo:Nat):Int) == 0 && (1:Int) == 1 && (HT.sIx items.size items.size hi - HT.sIx items.size 0 lo) == items.size)=true then _ else _) _ _ s
 rw [if_pos hyes]
 refine wpAny_bind (m:=Builtin.Tuple.tupleIsExact (.ref t)) ?_
 unfold Builtin.Tuple.tupleIsExact
 refine wpAny_bind (wpAny_typeOf ht.typeIs ?_)
 refine wpAny_pure ?_
 rw [if_pos (by decide)]
 refine wpAny_bind (wpAny_rule ?_)
 exact wpAny_pure ⟨_,rfl,wpAny_pure h⟩
noncomputable def Zpx (K:PySem.W.Frag):V->Option Int->Option Int->Hp->VK->Prop:=λx lo hi H Q=>∃ a xs,x=.ref a/\SqT K H a xs/\(HT.sIx xs.length 0 lo=0/\HT.sIx xs.length xs.length hi=xs.length)/\Q (.ref a) H
theorem Znu:SlR X (Zpx X.K):=by
 intro pins s σ H x v vl vu lo hi sl Q I rx hs pl pu h
 obtain ⟨a,xs,rfl,hx,hw,q⟩:=h
 cases rx
 obtain ⟨its,r,ht,hz⟩:=I.tuple hx
 have hlen:its.toArray.size=xs.length:=by rw [List.size_toArray]; exact r.length.symm
 refine ⟨"tuple",_,PyProof.Rows.slot_tuple_getitem.lookup,ht.typeIs,?_⟩
 exact Zdv ht hs pl pu (by rw [hlen]; exact hw) ⟨.ref a,H,I,rfl,q⟩
noncomputable def rSlD (K:PySem.W.Frag):V->Option Int->Option Int->Hp->VK->Prop:=λx lo hi H Q=>rSlL K x lo hi H Q\/rSlT K x lo hi H Q\/Zpx K x lo hi H Q
theorem Zpj:SlR X (rSlD X.K):=sl_list.or (sl_tup.or Znu)
noncomputable def ZmH (x:PyData) (lo hi:Option Int):Option PyData:=match x with
 | .list xs=>some (.list (cutD xs lo hi))
 | .tuple xs=>some (.tuple (cutD xs lo hi))
 | _=>none
noncomputable def aSl (i:List Sl->Tr PyData) (p q:Ze7):List Sl->Tr PyData:=λρ=>(i ρ).bind λx=>(p ρ).bind λlo=>(q ρ).bind λhi=>Tr.of (ZmH x lo hi)
theorem TAp.then {p:Ze7} {σ:St} {H:Hp} {β:Type} {k:Option Int->Tr β} {Z:Nat->β->Prop} {Q:Option Int->Hp->Prop} {pa:Addr} {G₀ H₀ G:Hp} {m:Nat} {ρ:List Sl} (R:Rl PK pa G₀ H₀ m σ ρ G H) (h:((p ρ).bind k).ok m Z)
  (hq:∀ m1 x G1 H1,Stp pa G H G1 H1->Wd PK pa m1 G1 H1->Rl PK pa G₀ H₀ m1 σ ρ G1 H1->(k x).ok m1 Z->Q x H1):TAp PK p σ H Q:=by
 refine ⟨pa,G₀,H₀,m,ρ,G,R,Tr.ok_mono (Tr.ok_bind.mp h) λm1 x hx G1 H1 s1 w1=>?_⟩
 exact hq m1 x G1 H1 s1 w1 (R.step s1 w1) hx
theorem Zk8 {p q:Ze7} {lo hi:Option Expr} {p2:Pos} (he:PE X e (TAe PK i)) (hl:PO X lo (TAp PK p)) (hu:PO X hi (TAp PK q)):PE X (.Subscript e (.Slice lo hi none p2) pos) (TAe PK (aSl i p q)):=(Zik Zpj he hl hu).imp λσ H Q hz0=>by
 obtain ⟨pa,G₀,H₀,m,ρ,G,R,z⟩:=hz0
 refine TAe.then R z λm1 x v G1 H1 s1 w1 R1 d1 q1=>?_
 refine TAp.then R1 q1 λm2 lo G2 H2 s2 w2 R2 q2=>?_
 refine TAp.then R2 q2 λm3 hi G3 H3 s3 w3 R3 q3=>?_
 obtain ⟨d,hd,k⟩:=Tr.ok_of q3
 have s13:=(s1.trans s2 w1.some).trans s3 w2.some
 have k':=Kn.later k s13 w3.some
 have d3:=d1.mono (s2.gs.trans s3.gs)
 cases d3 with
 | lst a1 a2=>cases hd; exact .inl ⟨_,_,rfl,SqL.of (w3.sub _ _ a1),λp hp=>k'.lst w3 (a2.cut lo hi) hp⟩
 | @tup a xs ds a1 a2 =>
  cases hd
  by_cases hw:HT.sIx xs.length 0 lo=0/\HT.sIx xs.length xs.length hi=xs.length
  ·refine .inr (.inr ⟨_,_,rfl,SqT.of (w3.sub _ _ a1),hw,k'.here w3 ?_⟩)
   have e:cutD ds lo hi=ds:=by
    unfold cutD
    rw [<- a2.length,hw.1,hw.2]
    simp
    rw [a2.length]
    exact List.take_length
   rw [e]
   exact .tup a1 a2
  ·exact .inr (.inl ⟨_,_,rfl,SqT.of (w3.sub _ _ a1),hw,λp hp=>k'.tup w3 (a2.cut lo hi) hp⟩)
 | _=>cases hd
theorem DnAll.range {H:Hp} (lo:Int) (n:Nat):DnAll H (ZcX lo n) ((Zak lo n).map PyData.int):=by
 rw [ZjV]
 exact DnAll.ints _
noncomputable def ZjR (lo hi:Int):Bool:=inR lo && inR hi && decide ((hi - lo).toNat<=1000)
noncomputable def ZjQ:List PyData->Option (List PyData)
 | [.int lo,.int hi]=>if ZjR lo hi=true then some (ZbM lo hi) else none
 | _=>none
theorem ZjP {G:Hp} {vs:List V} {xs ys:List PyData} (d:DnAll G vs xs) (h:ZjQ xs=some ys):∃ k n:Int,vs=[.int k,.int n]/\(-(2 ^ 62)<=k/\k < 2 ^ 62/\-(2 ^ 62)<=n/\n < 2 ^ 62/\(n - k).toNat<=1000)/\ys=ZbM k n:=by
 unfold ZjQ at h
 split at h
 ·split at h
  ·rename_i hn
   cases h
   cases d with
   | cons d1 d2 =>
    cases d2 with
    | cons d2 d3 =>
     cases d3
     cases d1
     cases d2
     unfold ZjR at hn
     rw [Bool.and_eq_true,Bool.and_eq_true] at hn
     have h1:=of_decide_eq_true hn.1.1
     have h2:=of_decide_eq_true hn.1.2
     exact ⟨_,_,rfl,⟨h1.1,h1.2,h2.1,h2.2,of_decide_eq_true hn.2⟩,rfl⟩
  ·cases h
 ·cases h
noncomputable def tRngT (t:TA):TE:=tCB (λxs H Q=>∃ a lo hi,xs=[.ref a]/\H a=some (.rng lo hi)/\-(2 ^ 62)<=lo/\lo < 2 ^ 62/\-(2 ^ 62)<=hi/\hi < 2 ^ 62/\(hi - lo).toNat<=1000/\∀ p,H p=none->Q (.ref p) (upd H p (.tup (ZcX lo (hi - lo).toNat))))
 (Zej (tCB (λxs H Q=>∃ i j:Int,xs=[.int i,.int j]/\∀ p,H p=none->Q (.ref p) (upd H p (.rng i j))) t) Zcb)
noncomputable def ZoD (is:List Sl->Tr (List PyData)):List Sl->Tr PyData:=λρ=>(is ρ).bind λxs=>(Tr.of (ZjQ xs)).bind λys=>.ret (.tuple ys)
theorem ZoB (h:PE X e (tRngT (TAd PK is))):PE X e (TAe PK (ZoD is)):=h.imp λσ H Q hz0=>by
 obtain ⟨pa,G₀,H₀,m,ρ,G,R,z⟩:=hz0
 refine TAd.then R z λm1 xs vs G1 H1 s1 w1 R1 d1 q1=>?_
 rw [Tr.ok_bind] at q1
 obtain ⟨ys,hy,k⟩:=Tr.ok_of q1
 obtain ⟨lo,hi,rfl,⟨b1,b2,b3,b4,b5⟩,rfl⟩:=ZjP d1 hy
 refine ⟨lo,hi,rfl,λp hp=>?_⟩
 obtain ⟨w2,s2⟩:=w1.own (o:=.rng lo hi) hp
 refine ⟨p,lo,hi,rfl,ZaF,b1,b2,b3,b4,b5,λq hq=>?_⟩
 exact (Kn.later k (s1.trans s2 w1.some) w2.some).tup w2 (DnAll.range _ _) hq
noncomputable def ints?:List PyData->Option (List Int)
 | []=>some []
 | .int n::xs=>(ints? xs).bind λns=>some (n::ns)
 | _=>none
@[simp] theorem ints?_map:∀ ns:List Int,ints? (ns.map PyData.int)=some ns
 | []=>rfl
 | n::ns=>by rw [List.map_cons,ints?,ints?_map ns]; rfl
theorem DnAll.ints_inv {H:Hp} {vs:List V} {ds:List PyData} {ns:List Int} (a:DnAll H vs ds) (h:ints? ds=some ns):vs=ns.map V.int/\ds=ns.map PyData.int:=by
 induction vs generalizing ds ns with
 | nil=>cases a; cases h; exact ⟨rfl,rfl⟩
 | cons v vs ih =>
  cases a with
  | cons g t =>
   cases g with
   | int n =>
    unfold ints? at h
    rename_i ds
    cases e:ints? ds with
    | none=>rw [e] at h; cases h
    | some ms =>
     rw [e] at h
     cases h
     obtain ⟨h1,h2⟩:=ih t e
     exact ⟨by rw [h1]; rfl,by rw [h2]; rfl⟩
   | _=>unfold ints? at h; cases h
end L2
set_option Elab.async false
set_option linter.all false
set_option maxRecDepth 100000
namespace L2
open PySem PySem.Spec PyProof.Rows
section
variable {prog:Program} {w:World} {A:Around} {E:Value->Shared->Prop} {s:Shared}
noncomputable def ItAt (b:Bool) (h:Heap) (it a:Addr) (k:Nat):Prop:=match b with
 | true=>h.IsListIter it a k
 | false=>h.IsTupleIter it a k
noncomputable def SqAt (b:Bool) (h:Heap) (a:Addr) (items:Array Value):Prop:=match b with
 | true=>h.IsList a items
 | false=>h.IsTuple a items
theorem ItAt.at {b:Bool} {h h':Heap} {it a:Addr} {k:Nat} (x:ItAt b h it a k) (e:∀ o,h.get? it=some o->h'.get? it=some o):ItAt b h' it a k:=by
 cases b with
 | true=>exact Heap.IsListIter.at x e
 | false=>obtain ⟨o,ho,r⟩:=(show h.IsTupleIter it a k from x); exact ⟨o,e o ho,r⟩
theorem SqAt.at {b:Bool} {h h':Heap} {a:Addr} {items:Array Value} (x:SqAt b h a items) (e:∀ o,h.get? a=some o->h'.get? a=some o):SqAt b h' a items:=by
 cases b with
 | true=>exact Heap.IsList.at x e
 | false=>exact Heap.IsTuple.at x e
theorem ItAt.there {b:Bool} {h:Heap} {it a:Addr} {k:Nat} (x:ItAt b h it a k):∃ o,h.get? it=some o/\∀ v,o.data≠.cell v:=by
 cases b with
 | true=>obtain ⟨o,ho,_,hd⟩:=(show h.IsListIter it a k from x); exact ⟨o,ho,λv z=>by rw [hd] at z; cases z⟩
 | false=>obtain ⟨o,ho,_,hd⟩:=(show h.IsTupleIter it a k from x); exact ⟨o,ho,λv z=>by rw [hd] at z; cases z⟩

theorem ZeO {it l:Addr} {i:Nat} {items:Array Value} {x:Value} {Q:Value->Shared->Prop} (hit:s.heap.IsTupleIter it l i) (hl:s.heap.IsTuple l items) (hx:items[i]?=some x)
  (hQ:∀ h',h'.IsTupleIter it l (i+1)->Heap.SameBut it s.heap h'->Q x { s with heap:=h' }):wpAny (model prog w) A (Builtin.SmallTypes.nextOf (.ref it)) Q E s:=by
 obtain ⟨o,ho,hc,hd⟩:=id hit; obtain ⟨ol,hol,_,nl,hdl⟩:=hl
 unfold Builtin.SmallTypes.nextOf
 refine wpAny_bind (wpAny_callSpecial?_slot (name:=Str.ofString "__next__") hit.typeIs F.slot_tuple_iterator_next (wpAny_call_entry F.slot_tuple_iterator_next hit.typeIs F.entry_tuple_iterator_next ?_ (F.args_tuple_iterator_next_1 _)))
 show wpAny _ _ (field (.ref it) 0 >>= _) _ _ s; refine wpAny_bind (wpAny_field ho hd (x:=.ref l) rfl ?_)
 show wpAny _ _ (if (Value.ref l == Value.none)=true then _ else _) _ _ s; rw [if_neg (show ¬ ((Value.ref l == Value.none)=true) from Bool.false_ne_true)]
 show wpAny _ _ (field (.ref it) 1 >>= _) _ _ s; refine wpAny_bind (wpAny_field ho hd (x:=.int i 0) rfl ?_)
 show wpAny _ _ (seqItems? (.ref l) >>= _) _ _ s; refine wpAny_bind (wpAny_seqItems hol hdl ?_); simp only [Int.toNat_natCast,hx]
 refine wpAny_bind (wpAny_setField ho hd (by simp) (wpAny_pure ⟨x,rfl,wpAny_pure (hQ _ ⟨_,Heap.get?_update_self _ ho (Obj.isFreed_of_fields (Obj.data_mapFields hd _)),(Obj.cls_mapFields ..).trans hc,?_⟩ (Heap.SameBut.update ..))⟩))
 rw [Obj.data_mapFields hd]; simp [rawInt]
theorem Zfh {it l:Addr} {i:Nat} {items:Array Value} {Q:Value->Shared->Prop} (hh:A.handled=none) (hit:s.heap.IsTupleIter it l i) (hl:s.heap.IsTuple l items) (hx:items[i]?=none)
  (hE:∀ h' e,Heap.ExtBut it s.heap h'->(∃ o,h'.get? e=some o/\o.cls=.type "StopIteration")->E (.ref e) { s with heap:=h' }):wpAny (model prog w) A (Builtin.SmallTypes.nextOf (.ref it)) Q E s:=by
 obtain ⟨o,ho,hc,hd⟩:=id hit; obtain ⟨ol,hol,_,nl,hdl⟩:=hl
 unfold Builtin.SmallTypes.nextOf
 refine wpAny_bind (wpAny_callSpecial?_slot (name:=Str.ofString "__next__") hit.typeIs F.slot_tuple_iterator_next (wpAny_call_entry F.slot_tuple_iterator_next hit.typeIs F.entry_tuple_iterator_next ?_ (F.args_tuple_iterator_next_1 _)))
 show wpAny _ _ (field (.ref it) 0 >>= _) _ _ s; refine wpAny_bind (wpAny_field ho hd (x:=.ref l) rfl ?_)
 show wpAny _ _ (if (Value.ref l == Value.none)=true then _ else _) _ _ s; rw [if_neg (show ¬ ((Value.ref l == Value.none)=true) from Bool.false_ne_true)]
 show wpAny _ _ (field (.ref it) 1 >>= _) _ _ s; refine wpAny_bind (wpAny_field ho hd (x:=.int i 0) rfl ?_)
 show wpAny _ _ (seqItems? (.ref l) >>= _) _ _ s; refine wpAny_bind (wpAny_seqItems hol hdl ?_); simp only [Int.toNat_natCast,hx]
 refine wpAny_bind (wpAny_rule (wpAny_bind (wpAny_setField ho hd (by simp) ?_))); show wpAny _ _ (newExc (.type "StopIteration") [] >>= _) _ _ _
 refine wpAny_bind ?_; simp only [newExc,newTuple]; refine wpAny_bind (wpAny_newObj_type ?_ (by size_fits))
 refine wpAny_bind (m:=firstArgMember _ _) (wpAny_of_eq (a:=Value.none) (by first | rfl | (simp only [firstArgMember]; rfl)) ?_); refine wpAny_newObj_type ?_ (by size_fits); simp only [raiseNew]
 refine wpAny_bind (wpAny_handled ?_); first | rw [show A.in1.handled=none from hh] | rw [hh]
 refine wpAny_bind (wpAny_pure (wpAny_throw (hE _ _ (((Heap.SameBut.update ..).extBut.push _).push _) ⟨_,Heap.get?_push_size _ rfl,rfl⟩)))
theorem ZcK {b:Bool} {it l:Addr} {i:Nat} {items:Array Value} {x:Value} {Q:Value->Shared->Prop} (hit:ItAt b s.heap it l i) (hl:SqAt b s.heap l items) (hx:items[i]?=some x)
  (hQ:∀ h',ItAt b h' it l (i+1)->Heap.SameBut it s.heap h'->Q x { s with heap:=h' }):wpAny (model prog w) A (Builtin.SmallTypes.nextOf (.ref it)) Q E s:=by
 cases b with
 | true=>exact wpAny_nextOf_list_item hit hl hx hQ
 | false=>exact ZeO hit hl hx hQ
theorem Zd3 {b:Bool} {it l:Addr} {i:Nat} {items:Array Value} {Q:Value->Shared->Prop} (hh:A.handled=none) (hit:ItAt b s.heap it l i) (hl:SqAt b s.heap l items) (hx:items[i]?=none)
  (hE:∀ h' e,Heap.ExtBut it s.heap h'->(∃ o,h'.get? e=some o/\o.cls=.type "StopIteration")->E (.ref e) { s with heap:=h' }):wpAny (model prog w) A (Builtin.SmallTypes.nextOf (.ref it)) Q E s:=by
 cases b with
 | true=>exact wpAny_nextOf_list_end hh hit hl hx hE
 | false=>exact Zfh hh hit hl hx hE

theorem ItAt.bt {b:Bool} {h h':Heap} {it a c:Addr} {k:Nat} (x:ItAt b h it a k) (e:Heap.ExtBut c h h') (n:it≠c):ItAt b h' it a k:=x.at λo q=>e it o n q
theorem SqAt.bt {b:Bool} {h h':Heap} {a c:Addr} {items:Array Value} (x:SqAt b h a items) (e:Heap.ExtBut c h h') (n:a≠c):SqAt b h' a items:=x.at λo q=>e a o n q
theorem Zlm {b1 b2:Bool} {z TI TO i1 i2 l1 l2:Addr} {k1 k2:Nat} {xs ys:Array Value} {x y a b:Value} {Q:Value->Shared->Prop} (D:ZipApart z TI TO i1 i2 l1 l2)
  (hz:IsZip s.heap z TI TO .none) (hTI:IsPair s.heap TI (.ref i1) (.ref i2)) (hTO:IsPair s.heap TO a b) (h1:ItAt b1 s.heap i1 l1 k1) (h2:ItAt b2 s.heap i2 l2 k2) (hl1:SqAt b1 s.heap l1 xs) (hl2:SqAt b2 s.heap l2 ys) (hx:xs[k1]?=some x) (hy:ys[k2]?=some y)
  (hQ:∀ h',IsZip h' z TI TO (rawInt s.heap.objs.size)->IsPair h' TO x y->ItAt b1 h' i1 l1 (k1+1)->ItAt b2 h' i2 l2 (k2+1)->IsPair h' s.heap.objs.size x y ->
   (∀ c o,c≠z->c≠TO->c≠i1->c≠i2->s.heap.get? c=some o->h'.get? c=some o)->Q (.ref s.heap.objs.size) { s with heap:=h' }) :
  wpAny (model prog w) A (Builtin.«zip.__next__» ⟨[.ref z],[]⟩) (λfin s'=>∃ v,fin=.done (.ret v)/\Q v s') E s:=by
 show wpAny _ _ (field (.ref z) 2 >>= _) _ _ _; refine wpAny_bind (wpAny_field hz rfl (x:=.bool false) rfl ?_)
 show wpAny _ _ (field (.ref z) 3 >>= _) _ _ _; refine wpAny_bind (wpAny_field hz rfl (x:=.ref TI) rfl ?_); refine wpAny_bind (wpAny_seqItems hTI rfl ?_)
 show wpAny _ _ (Builtin.SmallTypes.ownedTupleIsFree (.ref z) >>= _) _ _ _; refine wpAny_bind ?_; unfold Builtin.SmallTypes.ownedTupleIsFree
 refine wpAny_bind (wpAny_field hz rfl (x:=.none) rfl (wpAny_pure ?_)); simp only [if_true]; refine wpAny_bind (wpAny_rule ?_); refine wpAny_bind (wpAny_field hz rfl (x:=.ref TO) rfl ?_)
 refine wpAny_bind (wpAny_setField_rec hz (by simp) λg1 hz1 e1=>?_); replace hz1:IsZip g1 z TI TO .ellipsis:=hz1
 refine wpAny_bind ?_; simp only [List.zipIdx_cons,List.zipIdx_nil,List.forIn_cons,List.forIn_nil]; refine wpAny_bind (wpAny_bind (wpAny_onRaise ?_))
 show wpAny _ _ (Builtin.SmallTypes.nextOf (.ref i1) >>= _) _ _ _; refine wpAny_bind (ZcK (h1.bt e1.extBut D.i1z) (hl1.bt e1.extBut D.l1z) hx λg2 t1 e2=>wpAny_pure ?_)
 have p2:IsPair g2 TO a b:=e2.extBut _ _ D.TOi1 (e1.extBut _ _ D.TOz hTO)
 refine wpAny_bind (wpAny_seqItems p2 rfl ?_); refine wpAny_bind (wpAny_updateSeq_pair p2 λg3 p3 e3=>?_); replace p3:IsPair g3 TO x b:=p3
 refine wpAny_bind (wpAny_letGo (wpAny_pure ?_)); refine wpAny_bind (wpAny_bind (wpAny_onRaise ?_))
 show wpAny _ _ (Builtin.SmallTypes.nextOf (.ref i2) >>= _) _ _ _
 refine wpAny_bind (ZcK (((h2.bt e1.extBut D.i2z).bt e2.extBut D.i12.symm).bt e3.extBut D.TOi2.symm) (((hl2.bt e1.extBut D.l2z).bt e2.extBut D.l2i1).bt e3.extBut D.l2TO) hy λg4 t2 e4=>wpAny_pure ?_)
 have p4:IsPair g4 TO x b:=e4.extBut _ _ D.TOi2 p3
 refine wpAny_bind (wpAny_seqItems p4 rfl ?_); refine wpAny_bind (wpAny_updateSeq_pair p4 λg5 p5 e5=>?_); replace p5:IsPair g5 TO x y:=p5
 refine wpAny_bind (wpAny_letGo (wpAny_pure (wpAny_pure ?_))); refine wpAny_bind (wpAny_seqItems p5 rfl ?_); refine wpAny_bind (wpAny_newTuple ?_)
 have hsz:g5.objs.size=s.heap.objs.size:=by rw [e5.1,e4.1,e3.1,e2.1,e1.1]
 have z5:IsZip g5 z TI TO .ellipsis:=e5.extBut _ _ D.TOz.symm (e4.extBut _ _ D.i2z.symm (e3.extBut _ _ D.TOz.symm (e2.extBut _ _ D.i1z.symm hz1)))
 have k5:∀ c o,c≠z->c≠TO->c≠i1->c≠i2->s.heap.get? c=some o->g5.get? c=some o:=λc o c1 c2 c3 c4 q=>e5.extBut _ _ c2 (e4.extBut _ _ c4 (e3.extBut _ _ c2 (e2.extBut _ _ c3 (e1.extBut _ _ c1 q))))
 have u1:ItAt b1 g5 i1 l1 (k1+1):=((t1.bt e3.extBut D.TOi1.symm).bt e4.extBut D.i12).bt e5.extBut D.TOi1.symm
 have u2:ItAt b2 g5 i2 l2 (k2+1):=t2.bt e5.extBut D.TOi2.symm
 have zlt:z < g5.objs.size:=Heap.lt_size z5
 show wpAny _ _ (Builtin.SmallTypes.ownedTupleHandOut (.ref z) (.ref g5.objs.size) >>= _) _ _ _; refine wpAny_bind ?_; unfold Builtin.SmallTypes.ownedTupleHandOut
 have z6:IsZip (g5.push { cls:=.type "tuple",data:=.seq #[x,y] }) z TI TO .ellipsis:=Heap.get?_push_of_some _ z5
 refine wpAny_bind (wpAny_setField_rec z6 (by simp) λg7 z7 e7=>?_); replace z7:IsZip g7 z TI TO (rawInt g5.objs.size):=z7
 refine wpAny_setField_rec z7 (by simp) λg8 z8 e8=>?_; replace z8:IsZip g8 z TI TO (rawInt g5.objs.size):=z8
 have up:∀ c o,c≠z->g5.get? c=some o->g8.get? c=some o:=λc o c1 q=>e8.extBut _ _ c1 (e7.extBut _ _ c1 (Heap.get?_push_of_some _ q))
 have t8:IsPair g8 g5.objs.size x y:=e8.extBut _ _ (Nat.ne_of_gt zlt) (e7.extBut _ _ (Nat.ne_of_gt zlt) (Heap.get?_push_size _ rfl))
 rw [hsz] at z8 t8
 refine wpAny_pure ⟨_,rfl,?_⟩; show Q (.ref g5.objs.size) _; rw [hsz]
 exact hQ g8 z8 (up _ _ D.TOz p5) (u1.at λo q=>up _ o D.i1z q) (u2.at λo q=>up _ o D.i2z q) t8 λc o c1 c2 c3 c4 q=>up c o c1 (k5 c o c1 c2 c3 c4 q)
theorem Znf {b1 b2:Bool} {z TI TO i1 i2 l1 l2:Addr} {k1 k2:Nat} {xs ys:Array Value} {a b:Value} {Q:Fin->Shared->Prop} (hh:A.handled=none) (D:ZipApart z TI TO i1 i2 l1 l2)
  (hz:IsZip s.heap z TI TO .none) (hTI:IsPair s.heap TI (.ref i1) (.ref i2)) (hTO:IsPair s.heap TO a b) (h1:ItAt b1 s.heap i1 l1 k1) (h2:ItAt b2 s.heap i2 l2 k2) (hl1:SqAt b1 s.heap l1 xs) (hl2:SqAt b2 s.heap l2 ys) (hend:xs[k1]?=none\/ys[k2]?=none)
  (hE:∀ h' e,(∀ c o,c≠z->c≠TO->c≠i1->c≠i2->s.heap.get? c=some o->h'.get? c=some o)->(∃ o,h'.get? e=some o/\o.cls=.type "StopIteration")->E (.ref e) { s with heap:=h' }) :
  wpAny (model prog w) A (Builtin.«zip.__next__» ⟨[.ref z],[]⟩) Q E s:=by
 show wpAny _ _ (field (.ref z) 2 >>= _) _ _ _; refine wpAny_bind (wpAny_field hz rfl (x:=.bool false) rfl ?_)
 show wpAny _ _ (field (.ref z) 3 >>= _) _ _ _; refine wpAny_bind (wpAny_field hz rfl (x:=.ref TI) rfl ?_); refine wpAny_bind (wpAny_seqItems hTI rfl ?_)
 show wpAny _ _ (Builtin.SmallTypes.ownedTupleIsFree (.ref z) >>= _) _ _ _; refine wpAny_bind ?_; unfold Builtin.SmallTypes.ownedTupleIsFree
 refine wpAny_bind (wpAny_field hz rfl (x:=.none) rfl (wpAny_pure ?_)); simp only [if_true]; refine wpAny_bind (wpAny_rule ?_); refine wpAny_bind (wpAny_field hz rfl (x:=.ref TO) rfl ?_)
 refine wpAny_bind (wpAny_setField_rec hz (by simp) λg1 hz1 e1=>?_); replace hz1:IsZip g1 z TI TO .ellipsis:=hz1
 refine wpAny_bind ?_; simp only [List.zipIdx_cons,List.zipIdx_nil,List.forIn_cons,List.forIn_nil]; refine wpAny_bind (wpAny_bind (wpAny_onRaise ?_))
 show wpAny _ _ (Builtin.SmallTypes.nextOf (.ref i1) >>= _) _ _ _
 cases hx:xs[k1]? with
 | none =>
  refine wpAny_bind (Zd3 hh (h1.bt e1.extBut D.i1z) (hl1.bt e1.extBut D.l1z) hx λg2 e e2 he=>?_)
  obtain ⟨oe,hoe,hce⟩:=he
  have z2:IsZip g2 z TI TO .ellipsis:=e2 _ _ D.i1z.symm hz1
  have ne:e≠z:=λq=>by subst q; rw [z2] at hoe; cases hoe; simp at hce
  exact wpAny_setField_rec z2 (by simp) λg3 _ e3=>hE g3 e (λc o c1 _ c3 _ q=>e3.extBut _ _ c1 (e2 _ _ c3 (e1.extBut _ _ c1 q))) ⟨oe,e3.extBut _ _ ne hoe,hce⟩
 | some x =>
  have hy:ys[k2]?=none:=by rcases hend with h | h; rw [hx] at h; cases h; exact h
  refine wpAny_bind (ZcK (h1.bt e1.extBut D.i1z) (hl1.bt e1.extBut D.l1z) hx λg2 t1 e2=>wpAny_pure ?_)
  have p2:IsPair g2 TO a b:=e2.extBut _ _ D.TOi1 (e1.extBut _ _ D.TOz hTO)
  refine wpAny_bind (wpAny_seqItems p2 rfl ?_); refine wpAny_bind (wpAny_updateSeq_pair p2 λg3 p3 e3=>?_)
  refine wpAny_bind (wpAny_letGo (wpAny_pure ?_)); refine wpAny_bind (wpAny_bind (wpAny_onRaise ?_))
  show wpAny _ _ (Builtin.SmallTypes.nextOf (.ref i2) >>= _) _ _ _
  refine wpAny_bind (Zd3 hh (((h2.bt e1.extBut D.i2z).bt e2.extBut D.i12.symm).bt e3.extBut D.TOi2.symm) (((hl2.bt e1.extBut D.l2z).bt e2.extBut D.l2i1).bt e3.extBut D.l2TO) hy λg4 e e4 he=>?_)
  obtain ⟨oe,hoe,hce⟩:=he
  have z4:IsZip g4 z TI TO .ellipsis:=e4 _ _ D.i2z.symm (e3.extBut _ _ D.TOz.symm (e2.extBut _ _ D.i1z.symm hz1))
  have ne:e≠z:=λq=>by subst q; rw [z4] at hoe; cases hoe; simp at hce
  exact wpAny_setField_rec z4 (by simp) λg5 _ e5=>hE g5 e (λc o c1 c2 c3 c4 q=>e5.extBut _ _ c1 (e4 _ _ c4 (e3.extBut _ _ c2 (e2.extBut _ _ c3 (e1.extBut _ _ c1 q))))) ⟨oe,e5.extBut _ _ ne hoe,hce⟩
noncomputable def ZdM (b:Bool) (l:Addr):Obj:=match b with
 | true=>{ cls:=.type "list_iterator",data:=.fields #[.ref l,.int 0 0] }
 | false=>{ cls:=.type "tuple_iterator",data:=.fields #[.ref l,.int 0 0] }
theorem ZbQ {b:Bool} {l:Addr} {items:Array Value} {Q:Value->Shared->Prop} (hl:SqAt b s.heap l items) (hQ:Q (.ref s.heap.objs.size) { s with heap:=s.heap.push (ZdM b l) }):wpAny (model prog w) A (pyIter (.ref l)) Q E s:=by
 cases b with
 | true=>exact wpAny_pyIter_list hl hQ
 | false=>exact wpAny_pyIter_tuple hl hQ
theorem SqAt.push {b:Bool} {h:Heap} {l:Addr} {items:Array Value} (x:SqAt b h l items) (o:Obj):SqAt b (h.push o) l items:=x.at λ_ q=>Heap.get?_push_of_some _ q
theorem Zdh {b:Bool} {h:Heap} {it l:Addr} (e:h.get? it=some (ZdM b l)):ItAt b h it l 0:=by
 cases b with
 | true=>exact ⟨_,e,rfl,rfl⟩
 | false=>exact ⟨_,e,rfl,rfl⟩
noncomputable abbrev zA (b1:Bool) (h:Heap) (l1:Addr):Heap:=h.push (ZdM b1 l1)
noncomputable abbrev zB (b1 b2:Bool) (h:Heap) (l1 l2:Addr):Heap:=(zA b1 h l1).push (ZdM b2 l2)
noncomputable abbrev zC (b1 b2:Bool) (h:Heap) (l1 l2:Addr):Heap:=(zB b1 b2 h l1 l2).push { cls:=.type "tuple",data:=.seq #[.ref h.objs.size,.ref (zA b1 h l1).objs.size] }
noncomputable abbrev zD (b1 b2:Bool) (h:Heap) (l1 l2:Addr):Heap:=(zC b1 b2 h l1 l2).push { cls:=.type "tuple",data:=.seq #[.none,.none] }
noncomputable abbrev zH (b1 b2:Bool) (h:Heap) (l1 l2:Addr):Heap:=(zD b1 b2 h l1 l2).push { cls:=.type "zip",data:=.fields #[.none,.bool false,.bool false,.ref (zB b1 b2 h l1 l2).objs.size,.ref (zC b1 b2 h l1 l2).objs.size] }
theorem Zke (b1 b2:Bool) (l1 l2:Addr) (xs ys:Array Value) :
  Meets (Builtin.«zip.__new__» ⟨[.type "zip",.ref l1,.ref l2],[]⟩) (λ_ R s=>SqAt b1 s.heap l1 xs/\SqAt b2 s.heap l2 ys/\R (.ok (.ret (.ref (zD b1 b2 s.heap l1 l2).objs.size))) { s with heap:=zH b1 b2 s.heap l1 l2 }) :=
 .of_wp λprog w A R s h=>by
  obtain ⟨hp,g,d,tk,os⟩:=s
  obtain ⟨hl1,hl2,h⟩:=h
  have hsub:=sub_zip
  have q1:SqAt b1 (Shared.heap ⟨hp,g,d,tk,os⟩) l1 xs:=hl1
  have q2:SqAt b2 (Shared.heap ⟨hp.push (ZdM b1 l1),g,d,tk,os⟩) l2 ys:=hl2.push _
  wp_walk using ZbQ q1,ZbQ q2
  exact ⟨_,rfl,h⟩
theorem Zmk {b1 b2:Bool} {l1 l2:Addr} {xs ys:Array Value} {Q:Value->Shared->Prop} (hl1:SqAt b1 s.heap l1 xs) (hl2:SqAt b2 s.heap l2 ys)
  (h:∀ h',IsZip h' (s.heap.objs.size+4) (s.heap.objs.size+2) (s.heap.objs.size+3) .none->IsPair h' (s.heap.objs.size+2) (.ref s.heap.objs.size) (.ref (s.heap.objs.size+1))->IsPair h' (s.heap.objs.size+3) .none .none ->
   ItAt b1 h' s.heap.objs.size l1 0->ItAt b2 h' (s.heap.objs.size+1) l2 0->(∀ c o,s.heap.get? c=some o->h'.get? c=some o)->Q (.ref (s.heap.objs.size+4)) { s with heap:=h' }) :
  wpAny (model prog w) A (call (.type "zip") [.ref l1,.ref l2]) Q E s:=by
 refine callType_new F.called_zip (by decide) (F.typeCall_zip_2 _ _) (F.newCall_zip_2 _ _) (λobj=>F.args_object_init_3 obj _ _) F.entry_zip_new (Zke b1 b2 l1 l2 xs ys) ⟨hl1,hl2,?_⟩
 have n1:(zA b1 s.heap l1).objs.size=s.heap.objs.size+1:=Heap.size_push ..
 have n2:(zB b1 b2 s.heap l1 l2).objs.size=s.heap.objs.size+2:=(Heap.size_push ..).trans (by rw [n1])
 have n3:(zC b1 b2 s.heap l1 l2).objs.size=s.heap.objs.size+3:=(Heap.size_push ..).trans (by rw [n2])
 have n4:(zD b1 b2 s.heap l1 l2).objs.size=s.heap.objs.size+4:=(Heap.size_push ..).trans (by rw [n3])
 have a5:IsZip (zH b1 b2 s.heap l1 l2) (zD b1 b2 s.heap l1 l2).objs.size (zB b1 b2 s.heap l1 l2).objs.size (zC b1 b2 s.heap l1 l2).objs.size .none:=Heap.get?_push_size _ rfl
 have a4:IsPair (zH b1 b2 s.heap l1 l2) (zC b1 b2 s.heap l1 l2).objs.size .none .none:=Heap.get?_push_of_some _ (Heap.get?_push_size _ rfl)
 have a3:IsPair (zH b1 b2 s.heap l1 l2) (zB b1 b2 s.heap l1 l2).objs.size (.ref s.heap.objs.size) (.ref (zA b1 s.heap l1).objs.size):=Heap.get?_push_of_some _ (Heap.get?_push_of_some _ (Heap.get?_push_size _ rfl))
 have a2:(zH b1 b2 s.heap l1 l2).get? (zA b1 s.heap l1).objs.size=some (ZdM b2 l2):=Heap.get?_push_of_some _ (Heap.get?_push_of_some _ (Heap.get?_push_of_some _ (Heap.get?_push_size _ (by cases b2 <;> rfl))))
 have a1:(zH b1 b2 s.heap l1 l2).get? s.heap.objs.size=some (ZdM b1 l1):=Heap.get?_push_of_some _ (Heap.get?_push_of_some _ (Heap.get?_push_of_some _ (Heap.get?_push_of_some _ (Heap.get?_push_size _ (by cases b1 <;> rfl)))))
 rw [n2,n3,n4] at a5
 rw [n3] at a4
 rw [n1,n2] at a3
 rw [n1] at a2
 show _/\_
 rw [n4]
 exact ⟨⟨_,a5,rfl⟩,h _ a5 a3 a4 (Zdh a1) (Zdh a2) λc o x=>Heap.get?_push_of_some _ (Heap.get?_push_of_some _ (Heap.get?_push_of_some _ (Heap.get?_push_of_some _ (Heap.get?_push_of_some _ x))))⟩
theorem ZeF {b1 b2:Bool} {z TI TO i1 i2 l1 l2:Addr} {k1 k2:Nat} {xs ys:Array Value} {x y a b:Value} {Q:Option Value->Shared->Prop} (D:ZipApart z TI TO i1 i2 l1 l2)
  (hz:IsZip s.heap z TI TO .none) (hTI:IsPair s.heap TI (.ref i1) (.ref i2)) (hTO:IsPair s.heap TO a b) (h1:ItAt b1 s.heap i1 l1 k1) (h2:ItAt b2 s.heap i2 l2 k2) (hl1:SqAt b1 s.heap l1 xs) (hl2:SqAt b2 s.heap l2 ys) (hx:xs[k1]?=some x) (hy:ys[k2]?=some y)
  (hQ:∀ h',IsZip h' z TI TO (rawInt s.heap.objs.size)->IsPair h' TO x y->ItAt b1 h' i1 l1 (k1+1)->ItAt b2 h' i2 l2 (k2+1)->IsPair h' s.heap.objs.size x y ->
   (∀ c o,c≠z->c≠TO->c≠i1->c≠i2->s.heap.get? c=some o->h'.get? c=some o)->Q (some (.ref s.heap.objs.size)) { s with heap:=h' }):wpAny (model prog w) A (pyNext (.ref z)) Q E s:=by
 have hT:s.TypeIs (.ref z) "zip":=⟨_,hz,rfl⟩
 unfold pyNext
 exact wpAny_bind (wpAny_attempt (wpAny_callSpecial?_slot (name:=Str.ofString "__next__") hT F.slot_zip_next (wpAny_call_entry F.slot_zip_next hT F.entry_zip_next (Zlm D hz hTI hTO h1 h2 hl1 hl2 hx hy λh' a1 a2 a3 a4 a5 a6=>wpAny_pure (hQ h' a1 a2 a3 a4 a5 a6)) (F.args_zip_next_1 _))))
theorem Zff {b1 b2:Bool} {z TI TO i1 i2 l1 l2:Addr} {k1 k2:Nat} {xs ys:Array Value} {a b:Value} {Q:Option Value->Shared->Prop} (hh:A.handled=none) (D:ZipApart z TI TO i1 i2 l1 l2)
  (hz:IsZip s.heap z TI TO .none) (hTI:IsPair s.heap TI (.ref i1) (.ref i2)) (hTO:IsPair s.heap TO a b) (h1:ItAt b1 s.heap i1 l1 k1) (h2:ItAt b2 s.heap i2 l2 k2) (hl1:SqAt b1 s.heap l1 xs) (hl2:SqAt b2 s.heap l2 ys) (hend:xs[k1]?=none\/ys[k2]?=none)
  (hQ:∀ h',(∀ c o,c≠z->c≠TO->c≠i1->c≠i2->s.heap.get? c=some o->h'.get? c=some o)->Q none { s with heap:=h' }):wpAny (model prog w) A (pyNext (.ref z)) Q E s:=by
 have hT:s.TypeIs (.ref z) "zip":=⟨_,hz,rfl⟩
 unfold pyNext
 refine wpAny_bind (wpAny_attempt (wpAny_callSpecial?_slot (name:=Str.ofString "__next__") hT F.slot_zip_next (wpAny_call_entry F.slot_zip_next hT F.entry_zip_next (Znf hh D hz hTI hTO h1 h2 hl1 hl2 hend λh' e hk he=>?_) (F.args_zip_next_1 _))))
 obtain ⟨o,ho,hc⟩:=he
 exact wpAny_bind (wpAny_isInstance (T:="StopIteration") (b:=true) ⟨o,ho,hc⟩ isSubtype_stop (wpAny_pure (hQ _ hk)))
end
section
variable {X:Cx} {pins:List (Addr×Obj)} {σ:St} {H:Hp} {s:Shared} {h':Heap}
theorem Inv.turns {t':Nat} {ch:List Addr} (I:Inv X pins σ H s) (k:∀ b o,b ∉ ch->s.heap.get? b=some o->h'.get? b=some o) (hf:∀ b∈ch,Zlh X pins H b):Inv X pins σ H { s with heap:=h',toks:=t' }:=by
 have nit:∀ b u,H b=some u->b ∉ ch:=λb u e z=>by rw [(hf b z).1] at e; cases e
 refine I.step (g':=s.gens) (d':=s.drawn) (ch:=ch) (λb hb=>?_) (λb o _ _ hc e _=>k b o hc e) (λb o _ _ hc e _=>⟨o.slots,k b o hc e⟩) (λ_ _ _ _ n=>n)
  (λb o hc e=>⟨o,k b o hc e⟩) (λ_ _ e=>e) (λ_ _ _ e=>e) (λb ps e=>⟨#[],by rw [e]; simp⟩) (λm hm=>?_) (λb u e=>?_) I.bare
 ·obtain ⟨_,f1,_,f3,f4,f5⟩:=hf b hb
  exact ⟨f3,f1,f4,f5⟩
 ·obtain ⟨o,es,ep,ho,r⟩:=hm
  exact ⟨o,es,ep,k _ o (λz=>(hf _ z).2.1 rfl) ho,r⟩
 ·refine (I.hok b u e).stay (λc v hc q=>k c v ?_ q) (λ_ q=>q) λ_ _ q=>q
  rcases hc with z | z
  ·rw [z]; exact nit b u e
  ·exact nit c _ z
theorem Inv.pair {T:Addr} {x y:V} {u v:Value} (I:Inv X pins σ H s) (hT:H T=none) (ho:IsPair s.heap T u v) (r1:RelV x u) (r2:RelV y v)
  (hL:T≠X.env.locals) (hs0:X.s₀.heap.objs.size<=T) (hc:∀ x c,X.env.cells.lookup x=some c->c≠T) (hp:∀ p∈X.pn++pins,p.1≠T):Inv X pins σ (upd H T (.tup [x,y])) s:=by
 have ne:∀ {b:Addr} {o:HO},H b=some o->b≠T:=λe=>ZaC e hT
 refine I.step (g':=s.gens) (d':=s.drawn) (t':=s.toks) (h':=s.heap) (ch:=[T]) (λb hb=>?_) (λb o _ _ _ e _=>e) (λb o _ _ _ e _=>⟨o.slots,e⟩) (λb o hb e n=>?_) (λb o _ e=>⟨o,e⟩)
  (λb xs e=>by rw [Zau (ne e)]; exact e) (λb o u e=>by rw [Zau (ne e)]; exact e) (λb ps e=>⟨#[],by rw [Zau (ne e),e]; simp⟩) (λm hm=>hm) (λb u e=>?_) I.bare
 ·have e:b=T:=by simpa using hb
  subst e
  exact ⟨.inr hs0,hL,hc,hp⟩
 ·have hb':b≠T:=by simpa using hb
  rw [Zau hb']
  exact n
 ·by_cases hb:b=T
  ·subst hb
   rw [ZaF] at e
   cases e
   exact ⟨by show 2<=sizeLine; decide,[_,_],.cons r1 (.cons r2 .nil),⟨_,ho,rfl,_,rfl⟩⟩
  ·rw [Zau hb] at e
   exact (I.hok b u e).stay (λc v _ q=>q) (λc q=>by rw [Zau (ne q)]; exact q) λc xs q=>by rw [Zau (ne q)]; exact q
end
noncomputable def hoB (b:Bool) (xs:List V):HO:=match b with
 | true=>.lst xs
 | false=>.tup xs
theorem Zbs {P:Program} {w:World} {H:Hp} {h:Heap} (ok:HOk P w H h) {b:Bool} {a:Addr} {xs:List V} (e:H a=some (hoB b xs)):∃ its:List Value,Vals xs its/\SqAt b h a its.toArray:=by
 cases b with
 | true=>obtain ⟨_,its,n,r,q⟩:=ok a _ e; exact ⟨its,r,⟨_,q,rfl,n,rfl⟩⟩
 | false=>obtain ⟨_,its,r,q⟩:=ok a _ e; exact ⟨its,r,q⟩
noncomputable def Itz (b1 b2:Bool) (l1 l2:Addr):It :=
 ⟨λi H=>∃ xs ys x y,H l1=some (hoB b1 xs)/\H l2=some (hoB b2 ys)/\xs[i]?=some x/\ys[i]?=some y,
  λi H v H'=>∃ xs ys x y p,H l1=some (hoB b1 xs)/\H l2=some (hoB b2 ys)/\xs[i]?=some x/\ys[i]?=some y/\H p=none/\v=.ref p/\H'=upd H p (.tup [x,y]),
  λi H=>∃ xs ys,H l1=some (hoB b1 xs)/\H l2=some (hoB b2 ys)/\(xs[i]?=none\/ys[i]?=none)⟩
noncomputable def ZSt (b1 b2:Bool) (z TI TO i1 i2 l1 l2:Addr) (i:Nat) (h:Heap):Prop :=
 IsZip h z TI TO .none/\IsPair h TI (.ref i1) (.ref i2)/\(∃ a b,IsPair h TO a b)/\ItAt b1 h i1 l1 i/\ItAt b2 h i2 l2 i
theorem Zlp {P:Program} {w:World} {K:PySem.W.Frag} {elts:List Expr} {x1:Nat} {pos:Pos} {b1 b2:Bool} {l1 l2:Addr} (z TI TO i1 i2:Addr)
  (d:TI≠z/\TO≠z/\i1≠z/\i2≠z/\TI≠TO/\TI≠i1/\TI≠i2/\TO≠i1/\TO≠i2/\i1≠i2) :
  Turn P w K (.Tuple elts x1 pos) (Itz b1 b2 l1 l2) [z,TI,TO,i1,i2] z (ZSt b1 b2 z TI TO i1 i2 l1 l2) where
 mem:=by simp
 obj:=λi h st b hb=>by
  obtain ⟨hz,hTI,⟨a,c,hTO⟩,h1,h2⟩:=st
  simp at hb
  rcases hb with rfl | rfl | rfl | rfl | rfl
  ·exact ⟨_,hz,λv q=>by cases q⟩
  ·exact ⟨_,hTI,λv q=>by cases q⟩
  ·exact ⟨_,hTO,λv q=>by cases q⟩
  ·exact h1.there
  ·exact h2.there
 keep:=λi h h' st k=>by
  obtain ⟨hz,hTI,⟨a,c,hTO⟩,h1,h2⟩:=st
  exact ⟨k _ (by simp) _ hz,k _ (by simp) _ hTI,⟨a,c,k _ (by simp) _ hTO⟩,h1.at λo e=>k _ (by simp) o e,h2.at λo e=>k _ (by simp) o e⟩
 item:=by
  intro X hP hw hK hc i pins s σ H E I hf st hg
  subst hP hw hK
  obtain ⟨xs,ys,x,y,e1,e2,hx,hy⟩:=hg
  obtain ⟨hz,hTI,⟨a,c,hTO⟩,h1,h2⟩:=st
  obtain ⟨us,r1,q1⟩:=Zbs I.hok e1
  obtain ⟨vs,r2,q2⟩:=Zbs I.hok e2
  obtain ⟨u,hu,ru⟩:=r1.get hx
  obtain ⟨v,hv,rv⟩:=r2.get hy
  have n1:∀ b∈[z,TI,TO,i1,i2],l1≠b/\l2≠b:=λb hb=>⟨ZaC e1 (hf b hb).1,ZaC e2 (hf b hb).1⟩
  obtain ⟨d1,d2,d3,d4,d5,d6,d7,d8,d9,d10⟩:=d
  have D:ZipApart z TI TO i1 i2 l1 l2:=⟨d1,d2,d3,d4,d5,d6,d7,d8,d9,d10,(n1 z (by simp)).1,(n1 TO (by simp)).1,(n1 i1 (by simp)).1,(n1 i2 (by simp)).1,(n1 z (by simp)).2,(n1 TO (by simp)).2,(n1 i1 (by simp)).2,(n1 i2 (by simp)).2⟩
  refine ZeF D hz hTI hTO h1 h2 q1 q2 (by simpa using hu) (by simpa using hv) λh' z' p' t1 t2 pr kk=>?_
  refine ⟨_,rfl,wpAny_letOwnedTupleGo_zip z' λh2' z2 sb=>?_⟩
  have lt:∀ {b:Addr} {o:Obj},s.heap.get? b=some o->s.heap.objs.size≠b:=λq=>Nat.ne_of_gt (Heap.lt_size q)
  have zlt:=lt hz
  have I1:Inv X pins σ H { s with heap:=h2' }:=I.turns (ch:=[z,TI,TO,i1,i2]) (t':=s.toks) (λb o hb e=>by
   simp at hb
   exact sb.extBut _ _ hb.1 (kk b o hb.1 hb.2.2.1 hb.2.2.2.1 hb.2.2.2.2 e)) hf
  have hTn:H s.heap.objs.size=none:=I.hok.fresh (Nat.le_refl _)
  have I2:=I1.pair (T:=s.heap.objs.size) (x:=x) (y:=y) hTn (sb.extBut _ _ zlt pr) ru rv (Nat.ne_of_gt I.lt) I.sz
   (λq cc e hq=>by obtain ⟨vv,zz⟩:=I.cell q cc e; exact absurd zz.lt (by rw [hq]; exact Nat.lt_irrefl _)) (λp hp hq=>absurd (Heap.lt_size (I.pin p hp).1) (by rw [hq]; exact Nat.lt_irrefl _))
  refine ⟨.ref s.heap.objs.size,_,I2,rfl,⟨xs,ys,x,y,_,e1,e2,hx,hy,hTn,rfl,rfl⟩,⟨z2,sb.extBut _ _ d1 (kk _ _ d1 d5 d6 d7 hTI),⟨u,v,sb.extBut _ _ d2 p'⟩,t1.at λo e=>sb.extBut _ _ d3 e,t2.at λo e=>sb.extBut _ _ d4 e⟩,λb hb=>?_⟩
  have hbn:b≠s.heap.objs.size:=by
   simp at hb
   obtain ⟨o1,g1,_⟩:=h1.there
   obtain ⟨o2,g2,_⟩:=h2.there
   rcases hb with rfl | rfl | rfl | rfl | rfl
   ·exact (lt hz).symm
   ·exact (lt hTI).symm
   ·exact (lt hTO).symm
   ·exact (lt g1).symm
   ·exact (lt g2).symm
  rw [Zau hbn]
  exact (hf b hb).1
 done:=by
  intro X hP hw hK hc i pins s σ H E I hf st hg
  subst hP hw hK
  obtain ⟨xs,ys,e1,e2,hend⟩:=hg
  obtain ⟨hz,hTI,⟨a,c,hTO⟩,h1,h2⟩:=st
  obtain ⟨us,r1,q1⟩:=Zbs I.hok e1
  obtain ⟨vs,r2,q2⟩:=Zbs I.hok e2
  have n1:∀ b∈[z,TI,TO,i1,i2],l1≠b/\l2≠b:=λb hb=>⟨ZaC e1 (hf b hb).1,ZaC e2 (hf b hb).1⟩
  obtain ⟨d1,d2,d3,d4,d5,d6,d7,d8,d9,d10⟩:=d
  have D:ZipApart z TI TO i1 i2 l1 l2:=⟨d1,d2,d3,d4,d5,d6,d7,d8,d9,d10,(n1 z (by simp)).1,(n1 TO (by simp)).1,(n1 i1 (by simp)).1,(n1 i2 (by simp)).1,(n1 z (by simp)).2,(n1 TO (by simp)).2,(n1 i1 (by simp)).2,(n1 i2 (by simp)).2⟩
  refine Zff (I.ok.hd hc) D hz hTI hTO h1 h2 q1 q2 (hend.imp (λq=>by simpa using r1.none_of q) (λq=>by simpa using r2.none_of q)) λh' kk=>⟨rfl,?_⟩
  exact I.turns (ch:=[z,TI,TO,i1,i2]) (t':=s.toks) (λb o hb e=>by
   simp at hb
   exact kk b o hb.1 hb.2.2.1 hb.2.2.2.1 hb.2.2.2.2 e) hf
 self:=λ_ _ _ _ _ st h=>wpAny_pyIter_zip st.1 h
end L2
set_option Elab.async false
set_option linter.all false
set_option maxRecDepth 100000
namespace L2
open PySem PySem.Spec PyProof.Rows
open AutoSeq1 (wpAny_loadPart')
section
variable {X:Cx} {tg:Expr} {PK:Pk} {a b:Expr} {i j:List Sl->Tr PyData} {p pos:Pos}
noncomputable def iZip (ta tb:TE):TI:=λσ H R=>ta σ H λx H1=>tb σ H1 λy H2=>∃ b1 b2 l1 l2 xs ys,x=.ref l1/\y=.ref l2/\H2 l1=some (hoB b1 xs)/\H2 l2=some (hoB b2 ys)/\R (Itz b1 b2 l1 l2) H2
theorem ZmP {elts:List Expr} {x1:Nat} {tpos:Pos} {ta tb:TE} (hc:X.calm=true) (hg:Gl X "zip") (hm:X.mg "zip"=none) (ha:PE X a ta) (hb:PE X b tb)
  (hs:starEach [a,b] X.env=[(false,eval a X.env),(false,eval b X.env)]:=by rfl) (hs2:starEach [b] X.env=[(false,eval b X.env)]:=by rfl):PI X (.Tuple elts x1 tpos) (.Call (.Name "zip" p) [a,b] [] pos) (iZip ta tb):=by
 intro pins s σ H R I h
 have hab:PA X [a,b] (Zej ta (Zej tb Zcb)):=ZaE ha (ZaE hb pa_nil (by rw [hs2]; rfl)) (by rw [hs,hs2])
 refine Call_ (Zef I hg hm boot_zip (PyProof.Rows.callWith_type1 (thn (hab pos pins s σ H (λvs H2=>∃ b1 b2 l1 l2 xs ys,vs=[.ref l1,.ref l2]/\H2 l1=some (hoB b1 xs)/\H2 l2=some (hoB b2 ys)/\R (Itz b1 b2 l1 l2) H2) I ?_) λus s1 ⟨vs,H1,I1,r1,q1⟩=>?_) (by rw [hs,hs2]) (by rw [hs2]; rfl)))
 ·refine (show ta σ H _ from ?_)
  have h':ta σ H λx H1=>tb σ H1 λy H2=>∃ b1 b2 l1 l2 xs ys,x=.ref l1/\y=.ref l2/\H2 l1=some (hoB b1 xs)/\H2 l2=some (hoB b2 ys)/\R (Itz b1 b2 l1 l2) H2:=h
  have e:(λ(x:V) (H1:Hp)=>tb σ H1 λy H2=>∃ b1 b2 l1 l2 xs ys,x=.ref l1/\y=.ref l2/\H2 l1=some (hoB b1 xs)/\H2 l2=some (hoB b2 ys)/\R (Itz b1 b2 l1 l2) H2) =
    λx H1=>Zej tb Zcb σ H1 λxs H2=>∃ b1 b2 l1 l2 us ys,x::xs=[.ref l1,.ref l2]/\H2 l1=some (hoB b1 us)/\H2 l2=some (hoB b2 ys)/\R (Itz b1 b2 l1 l2) H2:=by
   funext x H1
   show _=tb σ H1 _
   congr 1
   funext y H2
   show _=(∃ b1 b2 l1 l2 us ys,[x,y]=[.ref l1,.ref l2]/\H2 l1=some (hoB b1 us)/\H2 l2=some (hoB b2 ys)/\R (Itz b1 b2 l1 l2) H2)
   apply propext
   constructor
   ·rintro ⟨b1,b2,l1,l2,xs,ys,rfl,rfl,q⟩; exact ⟨b1,b2,l1,l2,xs,ys,rfl,q⟩
   ·rintro ⟨b1,b2,l1,l2,xs,ys,e,q⟩
    have e1:x=V.ref l1/\y=V.ref l2:=by simpa using e
    exact ⟨b1,b2,l1,l2,xs,ys,e1.1,e1.2,q⟩
  rw [e] at h'
  exact h'
 ·obtain ⟨b1,b2,l1,l2,xs,ys,rfl,e1,e2,q⟩:=q1
  obtain ⟨u1,u2,rfl,r1,r2⟩:=Zln r1
  cases r1
  cases r2
  obtain ⟨us,ru,q1⟩:=Zbs I1.hok e1
  obtain ⟨vs,rv,q2⟩:=Zbs I1.hok e2
  refine Zmk q1 q2 λh' z pTI pTO t1 t2 kk=>?_
  have I2:Inv X pins σ H1 { s1 with heap:=h' }:=I1.kept (t':=s1.toks) kk
  have na:∀ n k:Nat,n≠k->(s1.heap.objs.size+n:Nat)≠s1.heap.objs.size+k:=λn k h e=>h (by omega)
  refine wpAny_pyIter_zip z ⟨s1.heap.objs.size+4,[s1.heap.objs.size+4,s1.heap.objs.size+2,s1.heap.objs.size+3,s1.heap.objs.size,s1.heap.objs.size+1],_,_,H1,rfl,I2,Zlp _ _ _ _ _ ⟨na 2 4 (by decide),na 3 4 (by decide),na 0 4 (by decide),na 1 4 (by decide),na 2 3 (by decide),na 2 0 (by decide),na 2 1 (by decide),na 3 0 (by decide),na 3 1 (by decide),na 0 1 (by decide)⟩,⟨z,pTI,⟨_,_,pTO⟩,t1,t2⟩,λb hb=>?_,q⟩
  have hle:s1.heap.objs.size<=b:=by
   simp at hb
   rcases hb with rfl | rfl | rfl | rfl | rfl <;> first | exact Nat.le_add_right _ _ | exact Nat.le_refl _
  exact I1.fpOk hle (I1.hok.fresh hle)
noncomputable def Zgx (xs ys:List PyData):List PyData:=(xs.zip ys).map λ(x,y)=>.tuple [x,y]
theorem Ziu {G:Hp} {v:V} {x:PyData} {xs:List PyData} (d:Dn G v x) (h:itD x=some xs):∃ b a vs,v=.ref a/\G a=some (hoB b vs)/\DnAll G vs xs:=by
 cases d with
 | lst h1 h2=>cases h; exact ⟨true,_,_,rfl,h1,h2⟩
 | tup h1 h2=>cases h; exact ⟨false,_,_,rfl,h1,h2⟩
 | _=>cases h
theorem ZhJ {b:Bool} {xs ys:List V} (h:some (hoB b xs)=some (hoB b ys)):xs=ys:=by
 cases b <;> (cases h; rfl)
theorem Zn4 {pa:Addr} {G:Hp} {b1 b2:Bool} {l1 l2:Addr} {us vs:List V} {xs ys:List PyData} (h1:G l1=some (hoB b1 us)) (h2:G l2=some (hoB b2 vs)) (d1:DnAll G us xs) (d2:DnAll G vs ys):JOk PK pa (Itz b1 b2 l1 l2) G (Zgx xs ys):=λm G2 H2 sb w=>by
 have e1:H2 l1=some (hoB b1 us):=w.sub _ _ (sb _ _ h1)
 have e2:H2 l2=some (hoB b2 vs):=w.sub _ _ (sb _ _ h2)
 refine ⟨λn d hd=>?_,us,vs,e1,e2,?_⟩
 ·unfold Zgx at hd
  rw [List.getElem?_map] at hd
  cases hz:(xs.zip ys)[n]? with
  | none=>rw [hz] at hd; cases hd
  | some xy =>
   rw [hz] at hd
   cases hd
   have hxy:=List.getElem?_zip_eq_some.mp hz
   obtain ⟨u,hu,du⟩:=d1.get n hxy.1
   obtain ⟨v,hv,dv⟩:=d2.get n hxy.2
   refine ⟨⟨us,vs,u,v,e1,e2,hu,hv⟩,λx H3 hz0=>?_⟩
   obtain ⟨us',vs',u',v',p,f1,f2,hu',hv',hp,ex,eH⟩:=hz0
   rw [e1] at f1
   rw [e2] at f2
   have:=ZhJ f1
   have:=ZhJ f2
   subst us' vs'
   rw [hu] at hu'
   rw [hv] at hv'
   cases hu'
   cases hv'
   subst ex eH
   obtain ⟨w3,s3⟩:=w.new (o:=.tup [u,v]) hp
   exact ⟨_,s3,w3,.tup ZaF (.cons ((du.mono sb).mono s3.gs) (.cons ((dv.mono sb).mono s3.gs) .nil))⟩
 ·unfold Zgx
  rw [List.length_map,List.length_zip,d1.length.symm,d2.length.symm]
  rcases Nat.le_total us.length vs.length with hle | hle
  ·left
   rw [Nat.min_eq_left hle]
   simp
  ·right
   rw [Nat.min_eq_right hle]
   simp
noncomputable def aZip (i j:List Sl->Tr PyData):List Sl->Tr (List PyData):=λρ=>(i ρ).bind λx=>(j ρ).bind λy=>(Tr.of (itD x)).bind λxs=>(Tr.of (itD y)).bind λys=>.ret (Zgx xs ys)
theorem Znc {iter:Expr} (h:PI X tg iter (iZip (TAe PK i) (TAe PK j))):PI X tg iter (TAi PK (aZip i j)):=h.imp λσ H R0 hz0=>by
 obtain ⟨pa,G₀,H₀,m,ρ,G,R,z⟩:=hz0
 refine TAe.then R z λm1 x v G1 H1 s1 w1 R1 d1 q1=>?_
 refine TAe.then R1 q1 λm2 y u G2 H2 s2 w2 R2 d2 q2=>?_
 rw [Tr.ok_bind] at q2
 obtain ⟨xs,hx,q2⟩:=Tr.ok_of q2
 rw [Tr.ok_bind] at q2
 obtain ⟨ys,hy,q2⟩:=Tr.ok_of q2
 obtain ⟨b1,l1,us,rfl,e1,f1⟩:=Ziu (d1.mono s2.gs) hx
 obtain ⟨b2,l2,vs,rfl,e2,f2⟩:=Ziu d2 hy
 exact ⟨b1,b2,l1,l2,us,vs,rfl,rfl,w2.sub _ _ e1,w2.sub _ _ e2,q2 _ G2 H2 (s1.trans s2 w1.some) w2 (Zn4 e1 e2 f1 f2)⟩
end
theorem ZkL {prog:Program} {w:World} {A:Around} (hh:A.handled=none) (b:Bool) (it l:Addr) (hne:l≠it) (items:Array Value):Draws prog w A it [it,l] items.size (λi v=>items[i]?=some v) (λi h=>ItAt b h it l i/\SqAt b h l items) where
 live:=λ_ _ st=>let ⟨o,ho,_⟩:=st.1.there; ⟨o,ho⟩
 frame:=λ_ _ _ st hk=>⟨st.1.at λo e=>hk it (by simp) o e,st.2.at λo e=>hk l (by simp) o e⟩
 item:=λi s Q E hi st hQ=>ZcK st.1 st.2 (x:=items[i]) (by simp [hi]) λh' hit' hs'=>hQ _ h' s.toks (by simp [hi]) ⟨hit',st.2.bt hs'.extBut hne⟩ hs'
 done:=λs Q E st hE=>Zd3 hh st.1 st.2 (by simp) hE
theorem Zi1 (b:Bool) (l:Addr) (items:Array Value) :
  Meets (Builtin.«enumerate.__new__» ⟨[.type "enumerate",.ref l],[]⟩) (λ_ R s=>SqAt b s.heap l items /\
   R (.ok (.ret (.ref (s.heap.push (ZdM b l)).objs.size))) { s with heap:=(s.heap.push (ZdM b l)).push { cls:=.type "enumerate",data:=.fields #[.none,.bool false,.ref s.heap.objs.size,rawInt 0,.none,.none] } }) :=
 .of_wp λprog w A R s h=>by
  obtain ⟨hp,g,d,tk,os⟩:=s
  obtain ⟨hl,h⟩:=h
  have hsub:=sub_enumerate
  have q:SqAt b (Shared.heap ⟨hp,g,d,tk,os⟩) l items:=hl
  have ho:∃ ob,hp.get? l=some ob:=by
   cases b with
   | true=>obtain ⟨ob,e,_⟩:=hl; exact ⟨ob,e⟩
   | false=>obtain ⟨ob,e,_⟩:=hl; exact ⟨ob,e⟩
  obtain ⟨ob,ho⟩:=ho
  wp_walk using wpAny_loadPart' ho
  refine wpAny_stack_any λst=>wpAny_pure ?_
  split
  ·rename_i c _ _ _ _ _
   cases (c == Value.type "enumerate")
   ·wp_walk using wpAny_loadPart' ho,ZbQ q
    exact ⟨_,rfl,h⟩
   ·wp_walk using wpAny_loadPart' ho,ZbQ q
    exact ⟨_,rfl,h⟩
  ·wp_walk using wpAny_loadPart' ho,ZbQ q
   exact ⟨_,rfl,h⟩
section
variable {prog:Program} {w:World} {A:Around} {E:Value->Shared->Prop} {s:Shared}
theorem ZkW {b:Bool} {l:Addr} {items:Array Value} {Q:Value->Shared->Prop} (hl:SqAt b s.heap l items)
  (h:∀ h',IsEnum h' (s.heap.objs.size+1) s.heap.objs.size 0 .none->ItAt b h' s.heap.objs.size l 0->(∀ c o,s.heap.get? c=some o->h'.get? c=some o)->Q (.ref (s.heap.objs.size+1)) { s with heap:=h' }) :
  wpAny (model prog w) A (call (.type "enumerate") [.ref l]) Q E s:=by
 refine callType_new F.called_enumerate (by decide) (F.typeCall_enumerate_1 _) (F.newCall_enumerate_1 _) (λobj=>F.args_object_init_2 obj _) F.entry_enumerate_new (Zi1 b l items) ⟨hl,?_⟩
 have n1:(s.heap.push (ZdM b l)).objs.size=s.heap.objs.size+1:=Heap.size_push ..
 have a2:IsEnum ((s.heap.push (ZdM b l)).push { cls:=.type "enumerate",data:=.fields #[.none,.bool false,.ref s.heap.objs.size,rawInt 0,.none,.none] }) (s.heap.push (ZdM b l)).objs.size s.heap.objs.size 0 .none:=Heap.get?_push_size _ rfl
 have a1:((s.heap.push (ZdM b l)).push { cls:=.type "enumerate",data:=.fields #[.none,.bool false,.ref s.heap.objs.size,rawInt 0,.none,.none] }).get? s.heap.objs.size=some (ZdM b l):=Heap.get?_push_of_some _ (Heap.get?_push_size _ (by cases b <;> rfl))
 rw [n1] at a2
 show _/\_
 rw [n1]
 exact ⟨⟨_,a2,rfl⟩,h _ a2 (Zdh a1) λc o x=>Heap.get?_push_of_some _ (Heap.get?_push_of_some _ x)⟩
end
noncomputable def Ite (b:Bool) (l:Addr):It :=
 ⟨λi H=>∃ xs x,H l=some (hoB b xs)/\xs[i]?=some x,
  λi H v H'=>∃ xs x p,H l=some (hoB b xs)/\xs[i]?=some x/\H p=none/\v=.ref p/\H'=upd H p (.tup [.int i,x]),
  λi H=>∃ xs,H l=some (hoB b xs)/\xs.length=i⟩
theorem Zjy {P:Program} {w:World} {K:PySem.W.Frag} {elts:List Expr} {x1:Nat} {pos:Pos} {b:Bool} {l:Addr} (e it:Addr) (hne:e≠it) :
  Turn P w K (.Tuple elts x1 pos) (Ite b l) [e,it] e (λi h=>(∃ old,IsEnum h e it i old)/\ItAt b h it l i) where
 mem:=by simp
 obj:=λi h st c hb=>by
  obtain ⟨⟨old,he⟩,h1⟩:=st
  simp at hb
  rcases hb with rfl | rfl
  ·exact ⟨_,he,λv q=>by cases q⟩
  ·exact h1.there
 keep:=λi h h' st k=>by
  obtain ⟨⟨old,he⟩,h1⟩:=st
  exact ⟨⟨old,k _ (by simp) _ he⟩,h1.at λo q=>k _ (by simp) o q⟩
 item:=by
  intro X hP hw hK hc i pins s σ H E I hf st hg
  subst hP hw hK
  obtain ⟨xs,x,e1,hx⟩:=hg
  obtain ⟨⟨old,he⟩,h1⟩:=st
  obtain ⟨us,r1,q1⟩:=Zbs I.hok e1
  obtain ⟨u,hu,ru⟩:=r1.get hx
  have nl:∀ c∈[e,it],l≠c:=λc hc=>ZaC e1 (hf c hc).1
  have hlt:i < us.toArray.size:=by
   have:=(List.getElem?_eq_some_iff.mp hu).1
   simpa using this
  refine wpAny_pyNext_enum_itemD (ZkL (A:=X.A.in1) (show X.A.in1.handled=none from I.ok.hd hc) b it l (nl it (by simp)) us.toArray) he ⟨h1,q1⟩ hlt hne (by simp only [List.mem_cons,List.not_mem_nil,or_false,not_or]; exact ⟨hne,(nl e (by simp)).symm⟩) λx' h' tk hP' ho st' hT hsz kk=>?_
  have hxu:x'=u:=by
   have q:us[i]?=some x':=by simpa using hP'
   rw [hu] at q
   cases q
   rfl
  subst hxu
  refine ⟨_,rfl,wpAny_letOwnedTupleGo_enum ho λh2' z2 sb=>?_⟩
  have lt:∀ {c:Addr} {o:Obj},s.heap.get? c=some o->s.heap.objs.size≠c:=λq=>Nat.ne_of_gt (Heap.lt_size q)
  have I1:Inv X pins σ H { s with heap:=h2',toks:=tk+1 }:=I.turns (ch:=[e,it]) (λc o hb q=>by
   simp at hb
   exact sb.extBut _ _ hb.1 (kk c o hb.1 hb.2 q)) hf
  have hTn:H s.heap.objs.size=none:=I.hok.fresh (Nat.le_refl _)
  have I2:=I1.pair (T:=s.heap.objs.size) (x:=.int i) (y:=x) hTn (sb.extBut _ _ (lt he) hT) ⟨tk,rfl⟩ ru (Nat.ne_of_gt I.lt) I.sz
   (λq cc ee hq=>by obtain ⟨vv,zz⟩:=I.cell q cc ee; exact absurd zz.lt (by rw [hq]; exact Nat.lt_irrefl _)) (λp hp hq=>absurd (Heap.lt_size (I.pin p hp).1) (by rw [hq]; exact Nat.lt_irrefl _))
  refine ⟨.ref s.heap.objs.size,_,I2,rfl,⟨xs,x,_,e1,hx,hTn,rfl,rfl⟩,⟨⟨_,z2⟩,st'.1.at λo q=>sb.extBut _ _ (Ne.symm hne) q⟩,λc hb=>?_⟩
  have hbn:c≠s.heap.objs.size:=by
   simp at hb
   obtain ⟨o1,g1,_⟩:=h1.there
   rcases hb with rfl | rfl
   ·exact (lt he).symm
   ·exact (lt g1).symm
  rw [Zau hbn]
  exact (hf c hb).1
 done:=by
  intro X hP hw hK hc i pins s σ H E I hf st hg
  subst hP hw hK
  obtain ⟨xs,e1,hend⟩:=hg
  obtain ⟨⟨old,he⟩,h1⟩:=st
  obtain ⟨us,r1,q1⟩:=Zbs I.hok e1
  have nl:∀ c∈[e,it],l≠c:=λc hc=>ZaC e1 (hf c hc).1
  have hsz:us.toArray.size=i:=by rw [List.size_toArray,<- r1.length]; exact hend
  subst hsz
  refine wpAny_pyNext_enum_endD (ZkL (A:=X.A.in1) (show X.A.in1.handled=none from I.ok.hd hc) b it l (nl it (by simp)) us.toArray) he ⟨h1,q1⟩ λh' eb=>⟨rfl,?_⟩
  exact I.turns (ch:=[e,it]) (t':=s.toks) (λc o hb q=>by
   simp at hb
   exact eb c o hb.2 q) hf
 self:=λ_ _ _ _ _ st h=>by
  obtain ⟨⟨old,he⟩,_⟩:=st
  exact wpAny_pyIter_enum he h
section
variable {X:Cx} {tg:Expr} {PK:Pk} {a b:Expr} {i j:List Sl->Tr PyData} {p pos:Pos}
noncomputable def Zqr (ta:TE):TI:=λσ H R=>ta σ H λx H1=>∃ b l xs,x=.ref l/\H1 l=some (hoB b xs)/\R (Ite b l) H1
theorem Zf4 {elts:List Expr} {x1:Nat} {tpos:Pos} {ta:TE} (hc:X.calm=true) (hg:Gl X "enumerate") (hm:X.mg "enumerate"=none) (ha:PE X a ta)
  (hs:starEach [a] X.env=[(false,eval a X.env)]:=by rfl):PI X (.Tuple elts x1 tpos) (.Call (.Name "enumerate" p) [a] [] pos) (Zqr ta):=by
 intro pins s σ H R I h
 have hab:PA X [a] (Zej ta Zcb):=ZaE ha pa_nil (by rw [hs]; rfl)
 have h':Zej ta Zcb σ H λvs H1=>∃ x,vs=[x]/\∃ b l xs,x=.ref l/\H1 l=some (hoB b xs)/\R (Ite b l) H1:=by
  have e:(λ(x:V) (H1:Hp)=>∃ b l xs,x=.ref l/\H1 l=some (hoB b xs)/\R (Ite b l) H1)=λx H1=>Zcb σ H1 λxs H2=>∃ y,x::xs=[y]/\∃ b l xs,y=.ref l/\H2 l=some (hoB b xs)/\R (Ite b l) H2:=by
   funext x H1
   apply propext
   constructor
   ·exact λq=>⟨x,rfl,q⟩
   ·rintro ⟨y,e,q⟩
    have e':x=y:=by simpa using e
    subst e'
    exact q
  have h0:ta σ H λx H1=>∃ b l xs,x=.ref l/\H1 l=some (hoB b xs)/\R (Ite b l) H1:=h
  rw [e] at h0
  exact h0
 refine Call_ (Zef I hg hm boot_enumerate (PyProof.Rows.callWith_type1 (thn (hab pos pins s σ H _ I h') λus s1 hz0=>?_) (by rw [hs]; rfl) rfl))
 obtain ⟨vs,H1,I1,r1,q1⟩:=hz0
 obtain ⟨x,rfl,b,l,xs,rfl,e1,q⟩:=q1
 obtain ⟨u,rfl,ru⟩:=ZdY r1
 cases ru
 obtain ⟨us,ru,q1⟩:=Zbs I1.hok e1
 refine ZkW q1 λh' z t1 kk=>?_
 have I2:Inv X pins σ H1 { s1 with heap:=h' }:=I1.kept (t':=s1.toks) kk
 refine wpAny_pyIter_enum z ⟨s1.heap.objs.size+1,[s1.heap.objs.size+1,s1.heap.objs.size],_,_,H1,rfl,I2,Zjy _ _ (λq=>absurd (show (s1.heap.objs.size+1:Nat)=s1.heap.objs.size from q) (by omega)),⟨⟨_,z⟩,t1⟩,λc hb=>?_,q⟩
 have hle:s1.heap.objs.size<=c:=by
  simp at hb
  rcases hb with rfl | rfl <;> first | exact Nat.le_add_right _ _ | exact Nat.le_refl _
 exact I1.fpOk hle (I1.hok.fresh hle)
noncomputable def Zdy (xs:List PyData):List PyData:=(List.range xs.length).zipWith (λ(n:Nat) x=>.tuple [.int n,x]) xs
theorem Zl0 {pa:Addr} {G:Hp} {b:Bool} {l:Addr} {us:List V} {xs:List PyData} (h1:G l=some (hoB b us)) (d1:DnAll G us xs):JOk PK pa (Ite b l) G (Zdy xs):=λm G2 H2 sb w=>by
 have e1:H2 l=some (hoB b us):=w.sub _ _ (sb _ _ h1)
 have hlen:(Zdy xs).length=xs.length:=by unfold Zdy; simp
 refine ⟨λn d hd=>?_,us,e1,by rw [hlen,d1.length]⟩
 have hn:n < xs.length:=by rw [<- hlen]; exact (List.getElem?_eq_some_iff.mp hd).1
 have hd':d=.tuple [.int n,xs[n]]:=by
  unfold Zdy at hd
  rw [List.getElem?_zipWith] at hd
  simp [hn] at hd
  exact hd.symm
 subst hd'
 obtain ⟨u,hu,du⟩:=d1.get n (show xs[n]?=some xs[n] by simp [hn])
 refine ⟨⟨us,u,e1,hu⟩,λx H3 hz0=>?_⟩
 obtain ⟨us',u',p,f1,hu',hp,ex,eH⟩:=hz0
 rw [e1] at f1
 have:=ZhJ f1
 subst us'
 rw [hu] at hu'
 cases hu'
 subst ex eH
 obtain ⟨w3,s3⟩:=w.new (o:=.tup [.int n,u]) hp
 exact ⟨_,s3,w3,.tup ZaF (.cons (.int n) (.cons ((du.mono sb).mono s3.gs) .nil))⟩
noncomputable def Zji (i:List Sl->Tr PyData):List Sl->Tr (List PyData):=λρ=>(i ρ).bind λx=>(Tr.of (itD x)).bind λxs=>.ret (Zdy xs)
theorem Zgq {iter:Expr} (h:PI X tg iter (Zqr (TAe PK i))):PI X tg iter (TAi PK (Zji i)):=h.imp λσ H R0 hz0=>by
 obtain ⟨pa,G₀,H₀,m,ρ,G,R,z⟩:=hz0
 refine TAe.then R z λm1 x v G1 H1 s1 w1 R1 d1 q1=>?_
 rw [Tr.ok_bind] at q1
 obtain ⟨xs,hx,q1⟩:=Tr.ok_of q1
 obtain ⟨b1,l1,us,rfl,e1,f1⟩:=Ziu d1 hx
 exact ⟨b1,l1,us,rfl,w1.sub _ _ e1,q1 _ G1 H1 s1 w1 (Zl0 e1 f1)⟩
end
end L2
set_option Elab.async false
set_option linter.all false
set_option maxRecDepth 100000
namespace L2
open PySem PySem.Spec PyProof.Rows
section
variable {prog:Program} {w:World} {A:Around}
theorem Zhl (hh:A.handled=none) (b:Bool) (I ax:Addr) (hne:ax≠I) (items:Array Value):Walks prog w A I [I,ax] [I] items.size (λi v=>items[i]?=some v) (λi h=>ItAt b h I ax i/\SqAt b h ax items):=by
 cases b with
 | true=>exact Walks.list hh I ax hne items
 | false=>exact Walks.tuple hh I ax hne items
end
theorem ZdN {ns:List Int} {us:List Value} (r:Vals (ns.map V.int) us) {i:Nat} {v:Value} (h:us[i]?=some v):∃ t,v=.int ((ns[i]?).getD 0) t:=by
 have hi:i < us.length:=(List.getElem?_eq_some_iff.mp h).1
 have hl:us.length=ns.length:=by rw [<- r.length,List.length_map]
 obtain ⟨u,e1,e2⟩:=r.get (i:=i) (x:=V.int ns[i]) (by simp [show i < ns.length by omega])
 rw [h] at e1
 cases e1
 obtain ⟨t,e2⟩:=e2
 exact ⟨t,by simp [show i < ns.length by omega,e2]⟩
theorem Zhz (ns:List Int):preSum (λi=>(ns[i]?).getD 0) ns.length=ns.sum:=by
 have key:∀ k,k<=ns.length->preSum (λi=>(ns[i]?).getD 0) k=(ns.take k).sum:=by
  intro k
  induction k with
  | zero=>intro _; simp [preSum]
  | succ k ih =>
   intro hk
   rw [preSum,ih (by omega),List.take_add_one,List.sum_append]
   simp [show k < ns.length by omega]
 rw [key _ (Nat.le_refl _),List.take_length]
section
variable {X:Cx} {PK:Pk}
theorem Zcz (hc:X.calm=true):Zdk X (.builtin "sum") (λxs H Q=>∃ (b:Bool) (l:Addr) (ns:List Int),xs=[.ref l]/\H l=some (hoB b (ns.map V.int))/\Q (.int ns.sum) H):=by
 intro pins s σ H xs us Q I r h
 obtain ⟨b,l,ns,rfl,e1,q⟩:=h
 obtain ⟨u,rfl,ru⟩:=ZdY r
 cases ru
 obtain ⟨vs,rv,sq⟩:=Zbs I.hok e1
 have hlt:l < s.heap.objs.size:=I.hok.lt e1
 refine call_sum_walkG (ZbQ sq ?_)
 refine ⟨s.heap.objs.size,[s.heap.objs.size,l],[s.heap.objs.size],vs.toArray.size,_,_,λi=>(ns[i]?).getD 0,rfl,Zhl (A:=X.A.in1) (I.ok.hd hc) b _ l (Nat.ne_of_lt hlt) vs.toArray,
  ⟨Zdh (Heap.get?_push_size _ (by cases b <;> rfl)),sq.push _⟩,λc hc=>?_,λi v hv=>ZdN rv (by simpa using hv),λh' tk t' hk=>?_⟩
 ·rw [Heap.size_push]
  simp at hc
  rcases hc with rfl | rfl
  ·exact Nat.lt_succ_self _
  ·exact Nat.lt_succ_of_lt hlt
 ·refine ⟨.int ns.sum,H,I.kept (t':=tk) λc o e=>hk c o (λz=>?_) (Heap.get?_push_of_some _ e),⟨t',?_⟩,q⟩
  ·have:c=s.heap.objs.size:=by simpa using z
   subst this
   exact Nat.lt_irrefl _ (Heap.lt_size e)
  ·have e:vs.toArray.size=ns.length:=by rw [List.size_toArray,<- rv.length,List.length_map]
   rw [e,Zhz]
noncomputable def ZgL:List Int->Int
 | []=>0
 | [n]=>n
 | n::m::r=>Zdi (ZgL (m::r)) n
noncomputable def Zhk:List Int->Int
 | []=>0
 | [n]=>n
 | n::m::r=>minI (Zhk (m::r)) n
theorem Zcu:∀ {ns:List Int},ns≠[]->ZgL ns∈ns/\∀ m∈ns,m<=ZgL ns
 | [],h=>absurd rfl h
 | [n],_=>⟨by simp [ZgL],by simp [ZgL]⟩
 | n::m::r,_=>by
  obtain ⟨h1,h2⟩:=Zcu (ns:=m::r) (by simp)
  unfold ZgL Zdi
  split
  ·refine ⟨by simp,λk hk=>?_⟩
   rcases List.mem_cons.mp hk with rfl | hk
   ·exact Int.le_refl _
   ·have:=h2 k hk; omega
  ·refine ⟨List.mem_cons_of_mem _ h1,λk hk=>?_⟩
   rcases List.mem_cons.mp hk with rfl | hk
   ·omega
   ·exact h2 k hk
theorem ZeQ:∀ {ns:List Int},ns≠[]->Zhk ns∈ns/\∀ m∈ns,Zhk ns<=m
 | [],h=>absurd rfl h
 | [n],_=>⟨by simp [Zhk],by simp [Zhk]⟩
 | n::m::r,_=>by
  obtain ⟨h1,h2⟩:=ZeQ (ns:=m::r) (by simp)
  unfold Zhk minI
  split
  ·refine ⟨by simp,λk hk=>?_⟩
   rcases List.mem_cons.mp hk with rfl | hk
   ·exact Int.le_refl _
   ·have:=h2 k hk; omega
  ·refine ⟨List.mem_cons_of_mem _ h1,λk hk=>?_⟩
   rcases List.mem_cons.mp hk with rfl | hk
   ·omega
   ·exact h2 k hk
theorem Zk5 (f:Nat->Int):∀ k,argBest (λi j=>decide (f i > f j)) k<=k/\∀ j,j<=k->f j<=f (argBest (λi j=>decide (f i > f j)) k)
 | 0=>⟨Nat.le_refl _,λj hj=>by
  have:j=0:=by omega
  subst this
  exact Int.le_refl _⟩
 | k+1=>by
  obtain ⟨h1,h2⟩:=Zk5 f k
  unfold argBest
  by_cases hc:f (k+1) > f (argBest (λi j=>decide (f i > f j)) k)
  ·rw [if_pos (by simpa using hc)]
   refine ⟨Nat.le_refl _,λj hj=>?_⟩
   rcases Nat.lt_or_eq_of_le hj with h | h
   ·have:=h2 j (by omega); omega
   ·subst h; exact Int.le_refl _
  ·rw [if_neg (by simpa using hc)]
   refine ⟨by omega,λj hj=>?_⟩
   rcases Nat.lt_or_eq_of_le hj with h | h
   ·exact h2 j (by omega)
   ·subst h; omega
theorem Zk4 (f:Nat->Int):∀ k,argBest (λi j=>decide (f i < f j)) k<=k/\∀ j,j<=k->f (argBest (λi j=>decide (f i < f j)) k)<=f j
 | 0=>⟨Nat.le_refl _,λj hj=>by
  have:j=0:=by omega
  subst this
  exact Int.le_refl _⟩
 | k+1=>by
  obtain ⟨h1,h2⟩:=Zk4 f k
  unfold argBest
  by_cases hc:f (k+1) < f (argBest (λi j=>decide (f i < f j)) k)
  ·rw [if_pos (by simpa using hc)]
   refine ⟨Nat.le_refl _,λj hj=>?_⟩
   rcases Nat.lt_or_eq_of_le hj with h | h
   ·have:=h2 j (by omega); omega
   ·subst h; exact Int.le_refl _
  ·rw [if_neg (by simpa using hc)]
   refine ⟨by omega,λj hj=>?_⟩
   rcases Nat.lt_or_eq_of_le hj with h | h
   ·exact h2 j (by omega)
   ·subst h; omega
theorem ZeY (hc:X.calm=true):Zdk X (.builtin "max") (λxs H Q=>∃ (b:Bool) (l:Addr) (ns:List Int),xs=[.ref l]/\H l=some (hoB b (ns.map V.int))/\ns≠[]/\Q (.int (ZgL ns)) H):=by
 intro pins s σ H xs us Q I r h
 obtain ⟨b,l,ns,rfl,e1,hne,q⟩:=h
 obtain ⟨u,rfl,ru⟩:=ZdY r
 cases ru
 obtain ⟨vs,rv,sq⟩:=Zbs I.hok e1
 have hlt:l < s.heap.objs.size:=I.hok.lt e1
 have hsz:vs.toArray.size=ns.length:=by rw [List.size_toArray,<- rv.length,List.length_map]
 have hpos:0 < ns.length:=List.length_pos_iff.mpr hne
 refine call_max_walk (ZbQ sq ?_)
 refine ⟨s.heap.objs.size,[s.heap.objs.size,l],[s.heap.objs.size],vs.toArray.size,_,_,λi j=>decide ((ns[i]?).getD 0 > (ns[j]?).getD 0),rfl,Zhl (A:=X.A.in1) (I.ok.hd hc) b _ l (Nat.ne_of_lt hlt) vs.toArray,
  ⟨Zdh (Heap.get?_push_size _ (by cases b <;> rfl)),sq.push _⟩,λc hc=>?_,by omega,CmpOf.ints_gt (λi=>(ns[i]?).getD 0) (λi v hv=>ZdN rv (by simpa using hv)),λv h' tk hv hk=>?_⟩
 ·rw [Heap.size_push]
  simp at hc
  rcases hc with rfl | rfl
  ·exact Nat.lt_succ_self _
  ·exact Nat.lt_succ_of_lt hlt
 ·obtain ⟨t,rfl⟩:=ZdN rv (by rw [<- List.getElem?_toArray]; exact hv)
  obtain ⟨b1,b2⟩:=Zk5 (λi=>(ns[i]?).getD 0) (vs.toArray.size - 1)
  obtain ⟨m1,m2⟩:=Zcu hne
  refine ⟨.int (ZgL ns),H,I.kept (t':=tk) λc o e=>hk c o (λz=>?_) (Heap.get?_push_of_some _ e),⟨t,?_⟩,q⟩
  ·have:c=s.heap.objs.size:=by simpa using z
   subst this
   exact Nat.lt_irrefl _ (Heap.lt_size e)
  ·congr 1
   obtain ⟨i,hi,ei⟩:=List.getElem_of_mem m1
   have h1:=b2 i (by omega)
   simp only [hi,List.getElem?_eq_getElem,Option.getD_some,ei] at h1
   have hb:argBest (λi j=>decide ((ns[i]?).getD 0 > (ns[j]?).getD 0)) (vs.toArray.size - 1) < ns.length:=by omega
   have h2:=m2 _ (List.getElem_mem hb)
   simp only [hb,List.getElem?_eq_getElem,Option.getD_some] at h1 ⊢
   omega
theorem ZkV (hc:X.calm=true):Zdk X (.builtin "min") (λxs H Q=>∃ (b:Bool) (l:Addr) (ns:List Int),xs=[.ref l]/\H l=some (hoB b (ns.map V.int))/\ns≠[]/\Q (.int (Zhk ns)) H):=by
 intro pins s σ H xs us Q I r h
 obtain ⟨b,l,ns,rfl,e1,hne,q⟩:=h
 obtain ⟨u,rfl,ru⟩:=ZdY r
 cases ru
 obtain ⟨vs,rv,sq⟩:=Zbs I.hok e1
 have hlt:l < s.heap.objs.size:=I.hok.lt e1
 have hsz:vs.toArray.size=ns.length:=by rw [List.size_toArray,<- rv.length,List.length_map]
 have hpos:0 < ns.length:=List.length_pos_iff.mpr hne
 refine call_min_walk (ZbQ sq ?_)
 refine ⟨s.heap.objs.size,[s.heap.objs.size,l],[s.heap.objs.size],vs.toArray.size,_,_,λi j=>decide ((ns[i]?).getD 0 < (ns[j]?).getD 0),rfl,Zhl (A:=X.A.in1) (I.ok.hd hc) b _ l (Nat.ne_of_lt hlt) vs.toArray,
  ⟨Zdh (Heap.get?_push_size _ (by cases b <;> rfl)),sq.push _⟩,λc hc=>?_,by omega,CmpOf.ints_lt (λi=>(ns[i]?).getD 0) (λi v hv=>ZdN rv (by simpa using hv)),λv h' tk hv hk=>?_⟩
 ·rw [Heap.size_push]
  simp at hc
  rcases hc with rfl | rfl
  ·exact Nat.lt_succ_self _
  ·exact Nat.lt_succ_of_lt hlt
 ·obtain ⟨t,rfl⟩:=ZdN rv (by rw [<- List.getElem?_toArray]; exact hv)
  obtain ⟨b1,b2⟩:=Zk4 (λi=>(ns[i]?).getD 0) (vs.toArray.size - 1)
  obtain ⟨m1,m2⟩:=ZeQ hne
  refine ⟨.int (Zhk ns),H,I.kept (t':=tk) λc o e=>hk c o (λz=>?_) (Heap.get?_push_of_some _ e),⟨t,?_⟩,q⟩
  ·have:c=s.heap.objs.size:=by simpa using z
   subst this
   exact Nat.lt_irrefl _ (Heap.lt_size e)
  ·congr 1
   obtain ⟨i,hi,ei⟩:=List.getElem_of_mem m1
   have h1:=b2 i (by omega)
   simp only [hi,List.getElem?_eq_getElem,Option.getD_some,ei] at h1
   have hb:argBest (λi j=>decide ((ns[i]?).getD 0 < (ns[j]?).getD 0)) (vs.toArray.size - 1) < ns.length:=by omega
   have h2:=m2 _ (List.getElem_mem hb)
   simp only [hb,List.getElem?_eq_getElem,Option.getD_some] at h1 ⊢
   omega

noncomputable def bools?:List PyData->Option (List Bool)
 | []=>some []
 | .bool n::xs=>(bools? xs).bind λns=>some (n::ns)
 | _=>none
@[simp] theorem bools?_map:∀ ns:List Bool,bools? (ns.map PyData.bool)=some ns
 | []=>rfl
 | n::ns=>by rw [List.map_cons,bools?,bools?_map ns]; rfl
noncomputable def onL {α:Type} (p:List PyData->Option α) (f:α->Option PyData):List PyData->Option PyData
 | [x]=>(itD x).bind λxs=>(p xs).bind f
 | _=>none
noncomputable def Zhp:List PyData->Option PyData:=onL ints? λns=>some (.int ns.sum)
noncomputable def Zem:List PyData->Option PyData:=onL ints? λns=>if (!ns.isEmpty)=true then some (.int (ZgL ns)) else none
noncomputable def ZlS:List PyData->Option PyData:=onL ints? λns=>if (!ns.isEmpty)=true then some (.int (Zhk ns)) else none
theorem ZhD {α:Type} {p:List PyData->Option α} {f:α->Option PyData} {G:Hp} {vs:List V} {ds:List PyData} {d:PyData} (hv:DnAll G vs ds) (h:onL p f ds=some d):∃ b l us xs y,vs=[.ref l]/\G l=some (hoB b us)/\DnAll G us xs/\p xs=some y/\f y=some d:=by
 unfold onL at h
 split at h
 ·rename_i x
  cases hx:itD x with
  | none=>rw [hx] at h; cases h
  | some xs =>
   rw [hx] at h
   have h':(p xs).bind f=some d:=h
   cases hp:p xs with
   | none=>rw [hp] at h'; cases h'
   | some y =>
    rw [hp] at h'
    cases hv with
    | cons h1 h2 =>
     cases h2
     obtain ⟨b,l,us,rfl,e1,e2⟩:=Ziu h1 hx
     exact ⟨b,l,us,xs,y,rfl,e1,e2,hp,h'⟩
 ·cases h
theorem Zfs:VCl (λxs H Q=>∃ (b:Bool) (l:Addr) (ns:List Int),xs=[.ref l]/\H l=some (hoB b (ns.map V.int))/\Q (.int ns.sum) H) Zhp:=λPK pa m G H vs ds d Q w hv hd k=>by
 obtain ⟨b,l,us,xs,ns,rfl,e1,e2,hp,hf⟩:=ZhD hv hd
 obtain ⟨rfl,rfl⟩:=e2.ints_inv hp
 cases hf
 exact ⟨b,l,ns,rfl,w.sub _ _ e1,k.here w (.int _)⟩
theorem Zhm:VCl (λxs H Q=>∃ (b:Bool) (l:Addr) (ns:List Int),xs=[.ref l]/\H l=some (hoB b (ns.map V.int))/\ns≠[]/\Q (.int (ZgL ns)) H) Zem:=λPK pa m G H vs ds d Q w hv hd k=>by
 obtain ⟨b,l,us,xs,ns,rfl,e1,e2,hp,hf⟩:=ZhD hv hd
 obtain ⟨rfl,rfl⟩:=e2.ints_inv hp
 split at hf
 ·rename_i hc
  cases hf
  exact ⟨b,l,ns,rfl,w.sub _ _ e1,(λz=>by subst z; cases hc),k.here w (.int _)⟩
 ·cases hf
theorem Znl:VCl (λxs H Q=>∃ (b:Bool) (l:Addr) (ns:List Int),xs=[.ref l]/\H l=some (hoB b (ns.map V.int))/\ns≠[]/\Q (.int (Zhk ns)) H) ZlS:=λPK pa m G H vs ds d Q w hv hd k=>by
 obtain ⟨b,l,us,xs,ns,rfl,e1,e2,hp,hf⟩:=ZhD hv hd
 obtain ⟨rfl,rfl⟩:=e2.ints_inv hp
 split at hf
 ·rename_i hc
  cases hf
  exact ⟨b,l,ns,rfl,w.sub _ _ e1,(λz=>by subst z; cases hc),k.here w (.int _)⟩
 ·cases hf
variable {a b c e:Expr} {pos:Pos} {i j l:List Sl->Tr PyData}
noncomputable def ZiK (f g:PyData->PyData->Option PyData) (i j l:List Sl->Tr PyData):List Sl->Tr PyData:=λρ=>(i ρ).bind λx=>(j ρ).bind λy=>(Tr.of (f x y)).bind λz=>(Tr.of (toB z)).bind λk =>
 if k=true then (l ρ).bind λu=>Tr.of (g y u) else .ret (.bool false)
theorem Zi9 {r r':R2} {f g:PyData->PyData->Option PyData} (hv:Zfc r f) (hv':Zfc r' g):∀ σ H Q,TAe PK (ZiK f g i j l) σ H Q->ZmE r r' (TAe PK i) (TAe PK j) (TAe PK l) σ H Q:=by
 rintro σ H Q ⟨pa,G₀,H₀,m,ρ,G,R,q⟩
 refine TAe.then R q λm1 x v G1 H1 s1 w1 R1 d1 q1=>?_
 refine TAe.then R1 q1 λm2 y u G2 H2 s2 w2 R2 d2 q2=>?_
 rw [Tr.ok_bind] at q2
 obtain ⟨z,hz,q3⟩:=Tr.ok_of q2
 rw [Tr.ok_bind] at q3
 obtain ⟨k,hk,q5⟩:=Tr.ok_of q3
 have s12:=s1.trans s2 w1.some
 refine hv PK pa m2 G2 H2 v u x y z _ w2 (d1.mono s2.gs) d2 hz λzz G3 H3 s3 w3 d3=>?_
 cases d3 <;> simp only [toB] at hk <;> cases hk
 refine ⟨_,rfl,?_⟩
 have s13:=s12.trans s3 w2.some
 cases k with
 | true =>
  rw [if_pos rfl] at q5 ⊢
  refine TAe.then (R2.step s3 w3) q5 λm4 t vt G4 H4 s4 w4 R4 d4 q4=>?_
  obtain ⟨zz,hzz,q4⟩:=Tr.ok_of q4
  exact hv' PK pa m4 G4 H4 u vt y t zz Q w4 (d2.mono (s3.gs.trans s4.gs)) d4 hzz (Kn.later q4 (s13.trans s4 w3.some) w4.some)
 | false =>
  rw [if_neg Bool.false_ne_true] at q5 ⊢
  exact (Kn.later q5 s13 w3.some).here w3 (.bl false)
theorem Zmn {op op':CmpOp} {r r':R2} {f g:PyData->PyData->Option PyData} (ho:OpR X (compareOp op) r) (hv:Zfc r f) (ho':OpR X (compareOp op') r') (hv':Zfc r' g) (ha:PE X a (TAe PK i)) (hb:PE X b (TAe PK j)) (hc:PE X c (TAe PK l))
  (hm:lastMarks [op,op'] [b,c]=false:=by with_unfolding_all rfl):PT X (.Compare a [op,op'] [b,c] pos) (TAt PK (Zbr (ZiK f g i j l))) :=
 (ZlG ho ho' ha hb hc hm).imp λσ H Q z=>Zft (Zi9 hv hv') σ H Q (Zea σ H Q z)
theorem pip {op:Operator} {r:R2} (h:OpR X (inplaceOp op) r):PIp X op r:=h
noncomputable def Zl2:PyData->PyData->Option PyData
 | .int m,.int n=>some (.int (m+n))
 | _,_=>none
theorem Znj:Zfc (rI0 λi j=>.int (i+j)) Zl2:=λPK pa m G H x y dx dy dz Q w hx hy hz k=>by
 unfold Zl2 at hz
 split at hz
 ·cases hz; cases hx; cases hy
  exact ⟨_,_,rfl,rfl,k.here w (.int _)⟩
 ·cases hz
end
theorem Zp3 {PK:Pk} {is:List Sl->Tr (List PyData)}:∀ σ H Q,TAe PK (Zfo is) σ H Q->TAo PK is σ H Q:=by
 intro σ H Q z
 obtain ⟨pa,G₀,H₀,m,ρ,G,R,z⟩:=z
 exact ⟨pa,G₀,H₀,m,ρ,G,R,Tr.ok_mono (Tr.ok_bind.mp z) λm1 xs k=>Ko1.of k R.wd.some⟩
theorem Zg4 {PK:Pk} {X:Cx} {st:Stmt} {is:List Sl->Tr (List PyData)} {i:List Sl->Tr PyData} {n k:Nat} {ix:List Nat} {g:PyData->List Sl->Option (List Sl)} (h:PS X st (Zlj (tLc (TAi PK is) n ix (λ_=>TAg PK g) (λ_=>TAe PK i)) (ZgQ k))) (hn:Zhb n g):PS X st (TAs PK (ZbT k (Zfo (aLc is n ix g i)))) :=
 ZaD (h.imp (ZjC λσ H Q z=>Zkn hn σ H Q (Zp3 σ H Q z)))
end L2
set_option Elab.async false
set_option linter.all false
set_option maxRecDepth 100000
namespace L2
open PySem PySem.Spec PyProof.Rows
variable {ρ:List Sl} {s t:List Sl->Tr Ou} {i j l:List Sl->Tr PyData} {is:List Sl->Tr (List PyData)} {as:List Sl->Tr (List Sl)} {f:List Sl->Tr Re} {p q:List Sl->Tr Bool} {k n:Nat} {x y d:PyData} {xs ys:List PyData} {sl:Sl}
theorem ev_var0:Zae 0 (.d x::ρ)=.ret x:=rfl
theorem ev_varS:Zae (k+1) (sl::ρ)=Zae k ρ:=rfl
theorem ev_C:aC d ρ=.ret d:=rfl
noncomputable def Zby (g:PyData->PyData->Option PyData) (x y:PyData):Tr PyData:=Tr.of (g x y)
noncomputable def bin1 (g:PyData->PyData->Option PyData) (j:List Sl->Tr PyData) (ρ:List Sl) (x:PyData):Tr PyData:=(j ρ).bind (Zby g x)
theorem ev_bin {g:PyData->PyData->Option PyData}:Zal g i j ρ=(i ρ).bind (bin1 g j ρ):=rfl
theorem ev_bin1 {g:PyData->PyData->Option PyData}:bin1 g j ρ x=(j ρ).bind (Zby g x):=rfl
theorem ev_add (m n:Int):Zby ZbW (.int m) (.int n)=.ret (.int (m+n)):=rfl
theorem ev_addT (h1:xs.isEmpty=false) (h2:small (xs.length+ys.length)=true):Zby ZbW (.tuple xs) (.tuple ys)=.ret (.tuple (xs++ys)):=by
 simp [Zby,ZbW,h1,h2]
theorem ev_addL (h2:small (xs.length+ys.length)=true):Zby ZbW (.list xs) (.list ys)=.ret (.list (xs++ys)):=by
 simp [Zby,ZbW,h2]
theorem ev_sub (m n:Int):Zby ZdZ (.int m) (.int n)=.ret (.int (m - n)):=rfl
theorem ev_mul {m n:Int} (h1:fit m=true) (h2:fit n=true):Zby Za7 (.int m) (.int n)=.ret (.int (m * n)):=by
 simp [Zby,Za7,h1,h2]
theorem Zc3 {m n:Int} (h1:n≠0) (h2:fit n=true):Zby Zdj (.int m) (.int n)=.ret (.int (m.fdiv n)):=by
 simp [Zby,Zdj,h1,h2]
theorem ZkA {m n:Int} (h1:n≠0):Zby ZnU (.int m) (.int n)=.ret (.int (m.fmod n)):=by
 simp [Zby,ZnU,h1]
theorem ev_cmp {g:Int->Int->Bool} (m n:Int):Zby (Zgw g) (.int m) (.int n)=.ret (.bool (g m n)):=rfl
theorem ev_eqI (m n:Int):Zby eqD (.int m) (.int n)=.ret (.bool (m == n)):=rfl
theorem ev_neI (m n:Int):Zby neD (.int m) (.int n)=.ret (.bool (!(m == n))):=rfl
theorem ev_eqB (m n:Bool):Zby eqD (.bool m) (.bool n)=.ret (.bool (m == n)):=rfl
theorem ev_eqS (m n:Str):Zby eqD (.str m) (.str n)=.ret (.bool (m == n)):=rfl
theorem ev_neS (m n:Str):Zby neD (.str m) (.str n)=.ret (.bool (!(m == n))):=rfl
theorem Zqw (h1:SeqAt.shaped x=true) (h2:SeqAt.shaped y=true) (h3:∀ a b,¬ (x=.str a/\y=.str b)):Zby eqD x y=.ret (.bool (PyData.eqv x y)):=by
 unfold Zby eqD
 split
 ·exact absurd ⟨rfl,rfl⟩ (h3 _ _)
 ·rw [h1,h2]; rfl
theorem Zp6 (h1:SeqAt.shaped x=true) (h2:SeqAt.shaped y=true) (h3:∀ a b,¬ (x=.str a/\y=.str b)):Zby neD x y=.ret (.bool (!PyData.eqv x y)):=by
 unfold Zby neD
 split
 ·exact absurd ⟨rfl,rfl⟩ (h3 _ _)
 ·rw [h1,h2]; rfl
theorem Zqu (h1:SeqAt.shaped (.list xs)=true) (h2:SeqAt.shaped (.list ys)=true):Zby eqD (.list xs) (.list ys)=.ret (.bool (PyData.eqvAll xs ys)):=by
 rw [Zqw h1 h2 (λa b z=>by cases z.1)]
 simp only [PyData.eqv]
theorem ev_ixL (n:Int):Zby ixD (.list xs) (.int n)=Tr.of (atI xs n):=rfl
theorem ev_ixT (n:Int):Zby ixD (.tuple xs) (.int n)=Tr.of (atI xs n):=rfl
theorem ZcC {α:Type} {xs:List α} {n:Int} {v:α} (h0:0<=n) (h:xs[n.toNat]?=some v):atI xs n=some v:=by
 have e:(n.toNat:Int)=n:=Int.toNat_of_nonneg h0
 rw [<- e]
 exact Zb9 h
section
variable {α:Type} {a0 a1 a2 a3 a4 a5 a6 a7 a8:α} {r:List α}
theorem at_0:atI (a0::r) 0=some a0:=Zb9 (j:=0) rfl
theorem at_1:atI (a0::a1::r) 1=some a1:=Zb9 (j:=1) rfl
theorem at_2:atI (a0::a1::a2::r) 2=some a2:=Zb9 (j:=2) rfl
theorem at_3:atI (a0::a1::a2::a3::r) 3=some a3:=Zb9 (j:=3) rfl
theorem at_4:atI (a0::a1::a2::a3::a4::r) 4=some a4:=Zb9 (j:=4) rfl
theorem at_5:atI (a0::a1::a2::a3::a4::a5::r) 5=some a5:=Zb9 (j:=5) rfl
theorem at_6:atI (a0::a1::a2::a3::a4::a5::a6::r) 6=some a6:=Zb9 (j:=6) rfl
theorem at_7:atI (a0::a1::a2::a3::a4::a5::a6::a7::r) 7=some a7:=Zb9 (j:=7) rfl
theorem at_8:atI (a0::a1::a2::a3::a4::a5::a6::a7::a8::r) 8=some a8:=Zb9 (j:=8) rfl
end
noncomputable def neg1:PyData->Tr PyData
 | .int n=>.ret (.int (-n))
 | _=>.fail
theorem ev_neg:Zll i ρ=(i ρ).bind neg1:=by
 unfold Zll
 refine congrArg (Tr.bind (i ρ)) (funext λx=>?_)
 cases x <;> rfl
theorem ev_neg1 (n:Int):neg1 (.int n)=.ret (.int (-n)):=rfl
noncomputable def tst1 (x:PyData):Tr Bool:=Tr.of (toB x)
theorem ev_test:Zbr i ρ=(i ρ).bind tst1:=rfl
theorem ev_tst1 (b:Bool):tst1 (.bool b)=.ret b:=rfl
noncomputable def ZoQ (x:PyData):Tr Bool:=Tr.of (truD x)
theorem ev_tru:ZhZ i ρ=(i ρ).bind ZoQ:=rfl
theorem ev_truB (b:Bool):ZoQ (.bool b)=.ret b:=rfl
theorem ev_truI (n:Int):ZoQ (.int n)=.ret (n != 0):=rfl
theorem ev_truL:ZoQ (.list xs)=.ret (!xs.isEmpty):=rfl
theorem ev_truT:ZoQ (.tuple xs)=.ret (!xs.isEmpty):=rfl
theorem ev_truN:ZoQ .none=.ret false:=rfl
noncomputable def or1 (q:List Sl->Tr Bool) (ρ:List Sl) (b:Bool):Tr Bool:=if b=true then .ret true else q ρ
noncomputable def not1 (b:Bool):Tr Bool:=.ret (!b)
theorem ev_or:aOr p q ρ=(p ρ).bind (or1 q ρ):=rfl
theorem ev_not:Zh0 p ρ=(p ρ).bind not1:=rfl
theorem ev_or1t:or1 q ρ true=.ret true:=rfl
theorem ev_or1f:or1 q ρ false=q ρ:=rfl
theorem ev_not1 (b:Bool):not1 b=.ret (!b):=rfl
noncomputable def Zoy (j:List Sl->Tr PyData) (ρ:List Sl) (b:Bool):Tr PyData:=if b=true then j ρ else .ret (.bool false)
noncomputable def Zp5 (b:Bool):Tr PyData:=.ret (.bool (!b))
theorem ev_andV:Zmw i j ρ=(Zbr i ρ).bind (Zoy j ρ):=rfl
theorem ev_notV:ZoH i ρ=(Zbr i ρ).bind Zp5:=rfl
theorem ev_andV1t:Zoy j ρ true=j ρ:=rfl
theorem ev_andV1f:Zoy j ρ false=.ret (.bool false):=rfl
theorem ev_notV1 (b:Bool):Zp5 b=.ret (.bool (!b)):=rfl
noncomputable def if1 (i j:List Sl->Tr PyData) (ρ:List Sl) (b:Bool):Tr PyData:=if b=true then i ρ else j ρ
theorem ev_if:aIf p i j ρ=(p ρ).bind (if1 i j ρ):=rfl
theorem ev_if1t:if1 i j ρ true=i ρ:=rfl
theorem ev_if1f:if1 i j ρ false=j ρ:=rfl
noncomputable def ch4 (g:PyData->PyData->Option PyData) (l:List Sl->Tr PyData) (ρ:List Sl) (y:PyData) (k:Bool):Tr PyData:=if k=true then (l ρ).bind (Zby g y) else .ret (.bool false)
noncomputable def ch3 (g:PyData->PyData->Option PyData) (l:List Sl->Tr PyData) (ρ:List Sl) (y z:PyData):Tr PyData:=(tst1 z).bind (ch4 g l ρ y)
noncomputable def ch2 (f g:PyData->PyData->Option PyData) (l:List Sl->Tr PyData) (ρ:List Sl) (x y:PyData):Tr PyData:=(Zby f x y).bind (ch3 g l ρ y)
noncomputable def ch1 (f g:PyData->PyData->Option PyData) (j l:List Sl->Tr PyData) (ρ:List Sl) (x:PyData):Tr PyData:=(j ρ).bind (ch2 f g l ρ x)
theorem ev_chain {f g:PyData->PyData->Option PyData}:ZiK f g i j l ρ=(i ρ).bind (ch1 f g j l ρ):=rfl
theorem ev_ch1 {f g:PyData->PyData->Option PyData}:ch1 f g j l ρ x=(j ρ).bind (ch2 f g l ρ x):=rfl
theorem ev_ch2 {f g:PyData->PyData->Option PyData}:ch2 f g l ρ x y=(Zby f x y).bind (ch3 g l ρ y):=rfl
theorem ev_ch3 {g:PyData->PyData->Option PyData} (b:Bool):ch3 g l ρ y (.bool b)=ch4 g l ρ y b:=rfl
theorem ev_ch4t {g:PyData->PyData->Option PyData}:ch4 g l ρ y true=(l ρ).bind (Zby g y):=rfl
theorem ev_ch4f {g:PyData->PyData->Option PyData}:ch4 g l ρ y false=.ret (.bool false):=rfl
noncomputable def Zoo (x:PyData) (xs:List PyData):Tr (List PyData):=.ret (x::xs)
noncomputable def ZqG (is:List Sl->Tr (List PyData)) (ρ:List Sl) (x:PyData):Tr (List PyData):=(is ρ).bind (Zoo x)
theorem ev_nil:Zbb ρ=.ret []:=rfl
theorem ev_cons:Zan i is ρ=(i ρ).bind (ZqG is ρ):=rfl
theorem ev_cons1:ZqG is ρ x=(is ρ).bind (Zoo x):=rfl
theorem ev_cons2:Zoo x xs=.ret (x::xs):=rfl
noncomputable def tup1 (xs:List PyData):Tr PyData:=if small xs.length=true then .ret (.tuple xs) else .fail
theorem ev_tup:Zha is ρ=(is ρ).bind tup1:=rfl
theorem ev_tup1 (h:small xs.length=true):tup1 xs=.ret (.tuple xs):=by unfold tup1; rw [if_pos h]
noncomputable def lst1 (xs:List PyData):Tr PyData:=.ret (.list xs)
theorem ev_lst:Zfo is ρ=(is ρ).bind lst1:=rfl
theorem ev_lst1:lst1 xs=.ret (.list xs):=rfl
noncomputable def lo1 (xs:List PyData):Tr (List PyData):=if small xs.length=true then .ret xs else .fail
theorem ev_lo:aLo is ρ=(is ρ).bind lo1:=rfl
theorem ev_lo1 (h:small xs.length=true):lo1 xs=.ret xs:=by unfold lo1; rw [if_pos h]
theorem small_le {n:Nat} (h:n<=10000):small n=true:=decide_eq_true (Nat.le_trans h (by decide))
noncomputable def cb1 (g:List PyData->Option PyData) (xs:List PyData):Tr PyData:=Tr.of (g xs)
noncomputable def cbo1 (g:List PyData->Option (List PyData)) (xs:List PyData):Tr (List PyData):=Tr.of (g xs)
theorem ev_cb {g:List PyData->Option PyData}:aCB g is ρ=(is ρ).bind (cb1 g):=rfl
theorem ev_cbo {g:List PyData->Option (List PyData)}:aCBo g is ρ=(is ρ).bind (cbo1 g):=rfl
theorem ev_lenL:cb1 Zkk [.list xs]=.ret (.int xs.length):=rfl
theorem ev_lenT:cb1 Zkk [.tuple xs]=.ret (.int xs.length):=rfl
theorem ev_abs (n:Int):cb1 ZoC [.int n]=.ret (.int (absI n)):=rfl
theorem ev_max2 (m n:Int):cb1 ZhG [.int m,.int n]=.ret (.int (Zdi m n)):=rfl
theorem ev_intI (n:Int):cb1 Zob [.int n]=.ret (.int n):=rfl
theorem ev_intB (b:Bool):cb1 Zob [.bool b]=.ret (.int (if b then 1 else 0)):=rfl
theorem ev_tupL:cb1 Zli [.list xs]=.ret (.tuple xs):=rfl
theorem ev_tupT:cb1 Zli [.tuple xs]=.ret (.tuple xs):=rfl
theorem ev_lstL:cbo1 ZoT [.list xs]=.ret xs:=rfl
theorem ev_lstT:cbo1 ZoT [.tuple xs]=.ret xs:=rfl
theorem Zof (h:Zfw x=true):cb1 ZiQ [x]=.ret (.str x.shown):=by
 simp [cb1,ZiQ,h]
theorem ev_sumL (ns:List Int):cb1 Zhp [.list (ns.map .int)]=.ret (.int ns.sum):=by
 unfold cb1 Zhp onL
 simp
theorem ev_sumT (ns:List Int):cb1 Zhp [.tuple (ns.map .int)]=.ret (.int ns.sum):=by
 unfold cb1 Zhp onL
 simp
theorem ev_maxL (ns:List Int) (h:ns.isEmpty=false):cb1 Zem [.list (ns.map .int)]=.ret (.int (ZgL ns)):=by
 have h':ns≠[]:=λz=>by subst z; cases h
 unfold cb1 Zem onL
 simp [h']
noncomputable def isi1 (T:String) (x:PyData):Tr PyData:=.ret (.bool (Zn9 T (tyD x)))
theorem ev_isi {T:String}:ZoI T i ρ=(i ρ).bind (isi1 T):=rfl
theorem ev_isi1 {T:String}:isi1 T x=.ret (.bool (Zn9 T (tyD x))):=rfl
noncomputable def sl3 (x:PyData) (lo:Option Int) (hi:Option Int):Tr PyData:=Tr.of (ZmH x lo hi)
noncomputable def sl2 (q:Ze7) (ρ:List Sl) (x:PyData) (lo:Option Int):Tr PyData:=(q ρ).bind (sl3 x lo)
noncomputable def sl1 (p q:Ze7) (ρ:List Sl) (x:PyData):Tr PyData:=(p ρ).bind (sl2 q ρ x)
theorem ev_sl {p q:Ze7}:aSl i p q ρ=(i ρ).bind (sl1 p q ρ):=rfl
theorem ev_sl1 {p q:Ze7}:sl1 p q ρ x=(p ρ).bind (sl2 q ρ x):=rfl
theorem ev_sl2 {q:Ze7} {lo:Option Int}:sl2 q ρ x lo=(q ρ).bind (sl3 x lo):=rfl
theorem ev_sl3L {lo hi:Option Int}:sl3 (.list xs) lo hi=.ret (.list (cutD xs lo hi)):=rfl
theorem ev_sl3T {lo hi:Option Int}:sl3 (.tuple xs) lo hi=.ret (.tuple (cutD xs lo hi)):=rfl
theorem ev_p0:aP0 ρ=.ret none:=rfl
noncomputable def pa1:PyData->Tr (Option Int)
 | .int n=>.ret (some n)
 | _=>.fail
theorem ev_p1:aP1 i ρ=(i ρ).bind pa1:=by
 unfold aP1
 refine congrArg (Tr.bind (i ρ)) (funext λx=>?_)
 cases x <;> rfl
theorem ev_pa1 (n:Int):pa1 (.int n)=.ret (some n):=rfl
noncomputable def Znm (xs:List PyData):Tr PyData:=(Tr.of (ZjQ xs)).bind λys=>.ret (.tuple ys)
theorem ev_tupR:ZoD is ρ=(is ρ).bind Znm:=rfl
theorem ev_tupR1 {lo hi:Int} (h:ZjR lo hi=true):Znm [.int lo,.int hi]=.ret (.tuple (ZbM lo hi)):=by
 simp [Znm,ZjQ,h]
theorem ev_aaNil:ZaI ρ=.ret []:=rfl
noncomputable def aa2 (x:Sl) (xs:List Sl):Tr (List Sl):=.ret (x::xs)
noncomputable def aa1 (as:List Sl->Tr (List Sl)) (ρ:List Sl) (x:PyData):Tr (List Sl):=(as ρ).bind (aa2 (.d x))
theorem ev_aaCons:Zaf i as ρ=(i ρ).bind (aa1 as ρ):=rfl
theorem ev_aa1:aa1 as ρ x=(as ρ).bind (aa2 (.d x)):=rfl
theorem ev_aa2 {xs:List Sl}:aa2 sl xs=.ret (sl::xs):=rfl
noncomputable def ZiU:Nat->List Sl->Tr Unit
 | 0,.pen::_=>.ret ()
 | k+1,_::ρ=>ZiU k ρ
 | _,_=>.fail
theorem ev_pen0:ZiU 0 (.pen::ρ)=.ret ():=rfl
theorem ev_penS:ZiU (k+1) (sl::ρ)=ZiU k ρ:=rfl
noncomputable def aap (as:List Sl->Tr (List Sl)) (ρ:List Sl) (_:Unit):Tr (List Sl):=(as ρ).bind (aa2 .pen)
theorem ev_aaPen:Zcq k as ρ=(ZiU k ρ).bind (aap as ρ):=by
 have key:∀ (k:Nat) (σ:List Sl) (as:List Sl->Tr (List Sl)) (ρ:List Sl),(match σ[k]? with | some Sl.pen=>(as ρ).bind λxs=>Tr.ret (Sl.pen::xs) | _=>Tr.fail)=(ZiU k σ).bind (aap as ρ):=by
  intro k
  induction k with
  | zero =>
   intro σ as ρ
   cases σ with
   | nil=>rfl
   | cons s r=>cases s <;> rfl
  | succ k ih =>
   intro σ as ρ
   cases σ with
   | nil=>rfl
   | cons s r=>exact ih r as ρ
 exact key k ρ as ρ
theorem ev_aap (u:Unit):aap as ρ u=(as ρ).bind (aa2 .pen):=rfl
theorem ev_call:ZaJ f as ρ=(as ρ).bind f:=rfl
noncomputable def re1 (r:Re):Tr PyData:=.ret r.val
theorem ev_re:aRe f ρ=(f ρ).bind re1:=rfl
theorem ev_re1 (r:Re):re1 r=.ret r.val:=rfl
theorem ev_def {as:List Sl} (h:as.length=n):ZcW n k s as=(s (as++List.replicate k .un)).bind finR:=by
 unfold ZcW
 rw [if_pos (decide_eq_true h)]
theorem ev_finN:finR (.next ρ)=.ret (.d .none):=rfl
theorem ev_finR (r:Re):finR (.ret r)=.ret r:=rfl
noncomputable def Zpm (t:List Sl->Tr Ou):Ou->Tr Ou
 | .next ρ=>t ρ
 | o=>.ret o
theorem ev_seq:ZaV s t ρ=(s ρ).bind (Zpm t):=by
 unfold ZaV
 refine congrArg (Tr.bind (s ρ)) (funext λo=>?_)
 cases o <;> rfl
theorem ev_seqN:Zpm t (.next ρ)=t ρ:=rfl
theorem ev_seqR (r:Re):Zpm t (.ret r)=.ret (.ret r):=rfl
theorem ev_seqB:Zpm t (.brk ρ)=.ret (.brk ρ):=rfl
theorem ev_seqC:Zpm t (.cont ρ)=.ret (.cont ρ):=rfl
theorem ev_skip:ZcF ρ=.ret (.next ρ):=rfl
noncomputable def ifs1 (s t:List Sl->Tr Ou) (ρ:List Sl) (b:Bool):Tr Ou:=if b=true then s ρ else t ρ
theorem ev_ifs:ZfL p s t ρ=(p ρ).bind (ifs1 s t ρ):=rfl
theorem ev_ifst:ifs1 s t ρ true=s ρ:=rfl
theorem ev_ifsf:ifs1 s t ρ false=t ρ:=rfl
noncomputable def ret1 (x:PyData):Tr Ou:=.ret (.ret (.d x))
theorem ev_ret:ZcU i ρ=(i ρ).bind ret1:=rfl
theorem ev_ret1:ret1 x=.ret (.ret (.d x)):=rfl
noncomputable def Zpv (xs:List PyData):Tr Ou:=.ret (.ret (.own xs))
theorem ev_retO:ZoG is ρ=(is ρ).bind Zpv:=rfl
theorem ev_retO1:Zpv xs=.ret (.ret (.own xs)):=rfl
noncomputable def Zpu (r:Re):Tr Ou:=.ret (.ret r)
theorem ev_retR:ZoF f ρ=(f ρ).bind Zpu:=rfl
theorem ev_retR1 (r:Re):Zpu r=.ret (.ret r):=rfl
theorem ev_retVd:Zgu 0 (.d x::ρ)=.ret (.ret (.d x)):=rfl
theorem ev_retVo:Zgu 0 (.own xs::ρ)=.ret (.ret (.own xs)):=rfl
theorem ev_retVs:Zgu (k+1) (sl::ρ)=Zgu k ρ:=rfl
noncomputable def set1 (k:Nat) (ρ:List Sl) (x:PyData):Tr Ou:=.ret (.next (ρ.set k (.d x)))
theorem ev_set:ZbT k i ρ=(i ρ).bind (set1 k ρ):=rfl
theorem ev_set1:set1 k ρ x=.ret (.next (ρ.set k (.d x))):=rfl
noncomputable def Zpl (k:Nat) (ρ:List Sl) (x:List PyData):Tr Ou:=.ret (.next (ρ.set k (.own x)))
theorem ev_setO:Zjh k is ρ=(is ρ).bind (Zpl k ρ):=rfl
theorem ev_setO1:Zpl k ρ xs=.ret (.next (ρ.set k (.own xs))):=rfl
theorem ls_0 {α:Type} {a b:α} {r:List α}:(a::r).set 0 b=b::r:=rfl
theorem ls_S {α:Type} {a b:α} {r:List α}:(a::r).set (k+1) b=a::r.set k b:=rfl
noncomputable def aug2 (g:PyData->PyData->Option PyData) (k:Nat) (ρ:List Sl) (x y:PyData):Tr Ou:=(Zby g x y).bind (set1 k ρ)
noncomputable def aug1 (g:PyData->PyData->Option PyData) (k:Nat) (i:List Sl->Tr PyData) (ρ:List Sl) (x:PyData):Tr Ou:=(i ρ).bind (aug2 g k ρ x)
theorem ev_aug {g:PyData->PyData->Option PyData}:aAug g k i ρ=(Zae k ρ).bind (aug1 g k i ρ):=rfl
theorem ev_aug1 {g:PyData->PyData->Option PyData}:aug1 g k i ρ x=(i ρ).bind (aug2 g k ρ x):=rfl
theorem ev_aug2 {g:PyData->PyData->Option PyData}:aug2 g k ρ x y=(Zby g x y).bind (set1 k ρ):=rfl
theorem ev_iadd (m n:Int):Zby Zl2 (.int m) (.int n)=.ret (.int (m+n)):=rfl
noncomputable def Zf7:Nat->List Sl->Tr (List PyData)
 | 0,.own xs::_=>.ret xs
 | k+1,_::ρ=>Zf7 k ρ
 | _,_=>.fail
theorem ev_own0:Zf7 0 (.own xs::ρ)=.ret xs:=rfl
theorem ev_ownS:Zf7 (k+1) (sl::ρ)=Zf7 k ρ:=rfl
theorem Zil {β:Type} {g:List PyData->Tr β}:∀ (k:Nat) (σ:List Sl),(match σ[k]? with | some (Sl.own xs)=>g xs | _=>Tr.fail)=(Zf7 k σ).bind g
 | 0,[]=>rfl
 | 0,s::r=>by cases s <;> rfl
 | k+1,[]=>rfl
 | k+1,s::r=>Zil k r
noncomputable def app2 (k:Nat) (ρ:List Sl) (xs:List PyData) (x:PyData):Tr Ou:=if small (xs.length+1)=true then .ret (.next (ρ.set k (.own (xs++[x])))) else .fail
noncomputable def app1 (k:Nat) (i:List Sl->Tr PyData) (ρ:List Sl) (xs:List PyData):Tr Ou:=(i ρ).bind (app2 k ρ xs)
theorem ev_app:ZoY k i ρ=(Zf7 k ρ).bind (app1 k i ρ):=Zil k ρ
theorem ev_app1:app1 k i ρ xs=(i ρ).bind (app2 k ρ xs):=rfl
theorem ev_app2 (h:small (xs.length+1)=true):app2 k ρ xs x=.ret (.next (ρ.set k (.own (xs++[x])))):=by unfold app2; rw [if_pos h]
noncomputable def rev1 (k:Nat) (ρ:List Sl) (xs:List PyData):Tr Ou:=.ret (.next (ρ.set k (.own xs.reverse)))
theorem ev_rev:aRev k ρ=(Zf7 k ρ).bind (rev1 k ρ):=Zil k ρ
theorem ev_rev1:rev1 k ρ xs=.ret (.next (ρ.set k (.own xs.reverse))):=rfl
theorem ev_fz:aFz k s ρ=s (fz k ρ):=rfl
theorem fz_o:fz 0 (.own xs::ρ)=.d (.list xs)::ρ:=rfl
theorem fz_d:fz 0 (.d x::ρ)=.d x::ρ:=rfl
theorem fz_p:fz 0 (.pen::ρ)=.pen::ρ:=rfl
theorem fz_u:fz 0 (.un::ρ)=.un::ρ:=rfl
theorem fz_S:fz (k+1) (sl::ρ)=sl::fz k ρ:=by
 unfold fz
 rw [List.getElem?_cons_succ]
 cases h:ρ[k]? with
 | none=>rfl
 | some s=>cases s <;> rfl
noncomputable def nx1 (ρ:List Sl):Tr Ou:=.ret (.next ρ)
noncomputable def asg1 (g:PyData->List Sl->Option (List Sl)) (ρ:List Sl) (x:PyData):Tr Ou:=(Tr.of (g x ρ)).bind nx1
theorem ev_asg {g:PyData->List Sl->Option (List Sl)}:ZoK g i ρ=(i ρ).bind (asg1 g ρ):=rfl
theorem ev_asg1 {g:PyData->List Sl->Option (List Sl)}:asg1 g ρ x=(Tr.of (g x ρ)).bind nx1:=rfl
theorem ev_nx1:nx1 ρ=.ret (.next ρ):=rfl
theorem g_set:ZaU k x ρ=some (ρ.set k (.d x)):=rfl
theorem g_tup {gs:List PyData->List Sl->Option (List Sl)}:ZbH gs (.tuple xs) ρ=gs xs ρ:=rfl
theorem g_nil:ZbA [] ρ=some ρ:=rfl
theorem g_cons {g:PyData->List Sl->Option (List Sl)} {gs:List PyData->List Sl->Option (List Sl)}:Zax g gs (x::xs) ρ=(g x ρ).bind (gs xs):=rfl
theorem g_some {α β:Type} {a:α} {g:α->Option β}:(some a).bind g=g a:=rfl
noncomputable def par1 (k n:Nat) (ρ:List Sl):List PyData->Tr Ou
 | [x,y]=>.ret (.next ((ρ.set k (.d x)).set n (.d y)))
 | _=>.fail
theorem ev_par:Zmr k n is ρ=(is ρ).bind (par1 k n ρ):=by
 unfold Zmr
 refine congrArg (Tr.bind (is ρ)) (funext λxs=>?_)
 match xs with
 | []=>rfl
 | [_]=>rfl
 | [_,_]=>rfl
 | _::_::_::_=>rfl
theorem ev_par1:par1 k n ρ [x,y]=.ret (.next ((ρ.set k (.d x)).set n (.d y))):=rfl
noncomputable def it1 (x:PyData):Tr (List PyData):=Tr.of (itD x)
theorem ev_it:aIt i ρ=(i ρ).bind it1:=rfl
theorem ev_it1L:it1 (.list xs)=.ret xs:=rfl
theorem ev_it1T:it1 (.tuple xs)=.ret xs:=rfl
noncomputable def Zlk (xs:List PyData):Tr (List PyData):=Tr.of (ZjT xs)
noncomputable def ZoR (xs:List PyData):Tr (List PyData):=Tr.of (ZiP xs)
theorem ev_rng1:Zgt is ρ=(is ρ).bind Zlk:=rfl
theorem ev_rng2:ZoE is ρ=(is ρ).bind ZoR:=rfl
theorem Zc2 {n:Int} (h1:-1000000000000<=n) (h2:n<=1000000000000):inR n=true:=decide_eq_true (by omega)
theorem ZeW {n:Int} (h:inR n=true):Zlk [.int n]=.ret (ZbM 0 n):=by
 simp [Zlk,ZjT,h]
theorem ZmX {m n:Int} (h1:inR m=true) (h2:inR n=true):ZoR [.int m,.int n]=.ret (ZbM m n):=by
 simp [ZoR,ZiP,h1,h2]
noncomputable def zip3 (xs:List PyData) (ys:List PyData):Tr (List PyData):=.ret (Zgx xs ys)
noncomputable def zip2 (y:PyData) (xs:List PyData):Tr (List PyData):=(it1 y).bind (zip3 xs)
noncomputable def zip1 (x y:PyData):Tr (List PyData):=(it1 x).bind (zip2 y)
noncomputable def zip0 (j:List Sl->Tr PyData) (ρ:List Sl) (x:PyData):Tr (List PyData):=(j ρ).bind (zip1 x)
theorem ev_zip:aZip i j ρ=(i ρ).bind (zip0 j ρ):=rfl
theorem ev_zip0:zip0 j ρ x=(j ρ).bind (zip1 x):=rfl
theorem ev_zip1:zip1 x y=(it1 x).bind (zip2 y):=rfl
theorem ev_zip2:zip2 y xs=(it1 y).bind (zip3 xs):=rfl
theorem ev_zip3:zip3 xs ys=.ret (Zgx xs ys):=rfl
noncomputable def enu2 (xs:List PyData):Tr (List PyData):=.ret (Zdy xs)
noncomputable def enu1 (x:PyData):Tr (List PyData):=(it1 x).bind enu2
theorem ev_enum:Zji i ρ=(i ρ).bind enu1:=rfl
theorem ev_enu1:enu1 x=(it1 x).bind enu2:=rfl
theorem ev_enu2:enu2 xs=.ret (Zdy xs):=rfl
noncomputable def for1 (g:PyData->List Sl->Option (List Sl)) (s:List Sl->Tr Ou) (ρ:List Sl) (xs:List PyData):Tr Ou:=Zdw g s xs ρ
theorem ev_for {g:PyData->List Sl->Option (List Sl)}:Zh1 is g s ρ=(is ρ).bind (for1 g s ρ):=rfl
theorem ev_for1 {g:PyData->List Sl->Option (List Sl)}:for1 g s ρ xs=Zdw g s xs ρ:=rfl
noncomputable def ZoU (g:PyData->List Sl->Option (List Sl)) (s:List Sl->Tr Ou) (xs:List PyData):Ou->Tr Ou
 | .next ρ=>Zdw g s xs ρ
 | .cont ρ=>Zdw g s xs ρ
 | .brk ρ=>.ret (.next ρ)
 | .ret r=>.ret (.ret r)
noncomputable def ZoV (g:PyData->List Sl->Option (List Sl)) (s:List Sl->Tr Ou) (xs:List PyData) (ρ:List Sl):Tr Ou:=(s ρ).bind (ZoU g s xs)
theorem for_nil {g:PyData->List Sl->Option (List Sl)}:Zdw g s [] ρ=.ret (.next ρ):=rfl
theorem ZbP {g:PyData->List Sl->Option (List Sl)}:Zdw g s (x::xs) ρ=(Tr.of (g x ρ)).bind (ZoV g s xs):=by
 rw [Zdw]
 refine congrArg (Tr.bind (Tr.of (g x ρ))) (funext λρ1=>?_)
 unfold ZoV
 refine congrArg (Tr.bind (s ρ1)) (funext λo=>?_)
 cases o <;> rfl
theorem ev_for2 {g:PyData->List Sl->Option (List Sl)}:ZoV g s xs ρ=(s ρ).bind (ZoU g s xs):=rfl
theorem ev_for3n {g:PyData->List Sl->Option (List Sl)}:ZoU g s xs (.next ρ)=Zdw g s xs ρ:=rfl
theorem ev_for3c {g:PyData->List Sl->Option (List Sl)}:ZoU g s xs (.cont ρ)=Zdw g s xs ρ:=rfl
theorem ev_for3b {g:PyData->List Sl->Option (List Sl)}:ZoU g s xs (.brk ρ)=.ret (.next ρ):=rfl
theorem ev_for3r {g:PyData->List Sl->Option (List Sl)} (r:Re):ZoU g s xs (.ret r)=.ret (.ret r):=rfl
noncomputable def lc2 (g:PyData->List Sl->Option (List Sl)) (el:List Sl->Tr PyData) (τ:List Sl) (x:PyData):Tr PyData:=(Tr.of (g x τ)).bind el
noncomputable def lc1 (n:Nat) (ix:List Nat) (g:PyData->List Sl->Option (List Sl)) (el:List Sl->Tr PyData) (ρ:List Sl) (xs:List PyData):Tr (List PyData):=if small xs.length=true then Zdb (lc2 g el (blk n ix ρ)) xs else .fail
theorem ev_lc {ix:List Nat} {g:PyData->List Sl->Option (List Sl)}:aLc is n ix g i ρ=(is ρ).bind (lc1 n ix g i ρ):=rfl
theorem ev_lc1 {ix:List Nat} {g:PyData->List Sl->Option (List Sl)} (h:small xs.length=true):lc1 n ix g i ρ xs=Zdb (lc2 g i (blk n ix ρ)) xs:=by unfold lc1; rw [if_pos h]
theorem ev_lc2 {τ:List Sl} {g:PyData->List Sl->Option (List Sl)}:lc2 g i τ x=(Tr.of (g x τ)).bind i:=rfl
theorem Ziq {h:PyData->Tr PyData} {n:Nat} {P:PyData->Prop}:∀ {xs:List PyData},(∀ x∈xs,(h x).all n P)->(Zdb h xs).all (xs.length * n) λys=>ys.length=xs.length/\∀ y∈ys,P y
 | [],_=>⟨rfl,λy hy=>by cases hy⟩
 | x::xs,hx=>by
  have e:(x::xs).length * n=n+(xs.length * n+0):=by rw [List.length_cons,Nat.succ_mul]; omega
  rw [e,Zdb]
  refine Tr.all_bind (hx x (by simp)) λy hy=>Tr.all_bind (Ziq λz hz=>hx z (List.mem_cons_of_mem _ hz)) λys hys=>?_
  exact ⟨by simp [hys.1],λz hz=>by
   rcases List.mem_cons.mp hz with rfl | hz
   ·exact hy
   ·exact hys.2 z hz⟩
theorem Zkz {g:PyData->List Sl->Option (List Sl)} {n:Nat} (I:List PyData->List Sl->Prop) {Q:Ou->Prop} :
  ∀ {xs pre:List PyData} {ρ:List Sl},I pre ρ->(∀ pre x post ρ,pre++x::post=pre++x::post->I pre ρ->x∈xs->∃ ρ1,g x ρ=some ρ1/\(s ρ1).all n λo=>∃ ρ2,o=.next ρ2/\I (pre++[x]) ρ2)->(∀ ρ,I (pre++xs) ρ->Q (.next ρ))->(Zdw g s xs ρ).all (xs.length * n) Q
 | [],pre,ρ,h0,_,hq=>hq ρ (by rw [List.append_nil]; exact h0)
 | x::xs,pre,ρ,h0,ht,hq=>by
  obtain ⟨ρ1,e,ha⟩:=ht pre x xs ρ rfl h0 (by simp)
  have en:(x::xs).length * n=n+xs.length * n:=by rw [List.length_cons,Nat.succ_mul]; omega
  rw [en,ZbP,e,Tr.of_some,Tr.ret_bind]
  unfold ZoV
  refine Tr.all_bind ha λo ⟨ρ2,eo,h2⟩=>?_
  subst eo
  rw [ev_for3n]
  exact Zkz I h2 (λpre y post ρ e h hy=>ht pre y post ρ e h (List.mem_cons_of_mem _ hy)) (λρ h=>hq ρ (by rw [List.append_assoc] at h; exact h))
theorem Zmg {α:Type} {w:Int} {k:Int->Tr α} {n:Nat} {P:α->Prop} (h1:0 < w) (h2:w < 1073741824) (h:∀ r,0<=r->r < w->(k r).all n P):(Tr.draw w k).all (n+1) P:=⟨h1,h2,h⟩
end L2
namespace L2
open PySem PySem.Spec PyProof.Rows
noncomputable def mt2 (y:PyData) (ys:List PyData):Tr (List PyData):=.ret (y::ys)
noncomputable def mt1 (h:PyData->Tr PyData) (xs:List PyData) (y:PyData):Tr (List PyData):=(Zdb h xs).bind (mt2 y)
theorem mt_nil {h:PyData->Tr PyData}:Zdb h []=.ret []:=rfl
theorem mt_cons {h:PyData->Tr PyData} {x:PyData} {xs:List PyData}:Zdb h (x::xs)=(h x).bind (mt1 h xs):=rfl
theorem mt_1 {h:PyData->Tr PyData} {y:PyData} {xs:List PyData}:mt1 h xs y=(Zdb h xs).bind (mt2 y):=rfl
theorem mt_2 {y:PyData} {ys:List PyData}:mt2 y ys=.ret (y::ys):=rfl
theorem pick {α:Type} {xs:List α} {r:Int} (h0:0<=r) (h1:r < xs.length):∃ v,atI xs r=some v/\v∈xs:=by
 have h:r.toNat < xs.length:=by omega
 exact ⟨xs[r.toNat],ZcC h0 (by simp [h]),List.getElem_mem h⟩
theorem list7 {α:Type} {xs:List α} (h:xs.length=7):∃ a b c d e f g,xs=[a,b,c,d,e,f,g]:=by
 rcases xs with _ | ⟨a,_ | ⟨b,_ | ⟨c,_ | ⟨d,_ | ⟨e,_ | ⟨f,_ | ⟨g,_ | ⟨k,xs⟩⟩⟩⟩⟩⟩⟩⟩
 ·cases h
 ·cases h
 ·cases h
 ·cases h
 ·cases h
 ·cases h
 ·cases h
 ·exact ⟨a,b,c,d,e,f,g,rfl⟩
 ·exact absurd h (by simp)
end L2
namespace L2
open PySem
@[irreducible] noncomputable def Al {α:Type} (t:Tr α) (n:Nat) (P:α->Prop):Prop:=t.all n P
section
variable {α β:Type} {t:Tr α} {n n' N:Nat} {P:α->Prop} {P':β->Prop}
theorem Al.of (h:t.all n P):Al t n P:=by unfold Al; exact h
theorem Al.out (h:Al t n P):t.all n P:=by unfold Al at h; exact h
theorem ZcE {a:α} (h:P a):Al (.ret a) n P:=.of h
theorem Zck {w:Int} {k:Int->Tr α} (h1:0 < w) (h2:w < 1073741824) (hN:n+1<=N) (h:∀ r,0<=r->r < w->Al (k r) n P):Al (.draw w k) N P:=.of (Tr.all_mono (Zmg h1 h2 λr a b=>(h r a b).out) hN λ_ h=>h)
theorem ZcO {f:α->Tr β} (h:Al t n P) (hN:n+n'<=N) (hf:∀ a,P a->Al (f a) n' P'):Al (t.bind f) N P':=.of (Tr.all_mono (Tr.all_bind h.out λa ha=>(hf a ha).out) hN λ_ h=>h)
theorem Zk7 {Q:α->Prop} (h:Al t n P) (hN:n<=N) (hq:∀ a,P a->Q a):Al t N Q:=.of (Tr.all_mono h.out hN hq)
theorem ZqR {g:PyData->List Sl->Option (List Sl)} {s:List Sl->Tr Ou} {xs:List PyData} {ρ:List Sl} {Q:Ou->Prop} (I:List Sl->Prop) (h0:I ρ) (hN:xs.length * n<=N) (ht:∀ x ρ,x∈xs->I ρ->∃ ρ1,g x ρ=some ρ1/\Al (s ρ1) n λo=>∃ ρ2,o=.next ρ2/\I ρ2) (hq:∀ ρ,I ρ->Q (.next ρ)):Al (Zdw g s xs ρ) N Q :=
 .of (Tr.all_mono (Zkz (λ_ ρ=>I ρ) (pre:=[]) h0 (λpre x post ρ _ h hx=>let ⟨ρ1,e,a⟩:=ht x ρ hx h; ⟨ρ1,e,a.out⟩) λρ h=>hq ρ h) hN λ_ h=>h)
theorem ZqQ {h:PyData->Tr PyData} {P:PyData->Prop} {xs:List PyData} {Q:List PyData->Prop} (hN:xs.length * n<=N) (hx:∀ x∈xs,Al (h x) n P) (hq:∀ ys,ys.length=xs.length->(∀ y∈ys,P y)->Q ys):Al (Zdb h xs) N Q :=
 .of (Tr.all_mono (Ziq λx m=>(hx x m).out) hN λys ⟨a,b⟩=>hq ys a b)
end
noncomputable def Zi6 (lo hi:Int) (x:PyData):Prop:=∃ z:Int,x=.int z/\lo<=z/\z<=hi
theorem ZeV {lo hi:Int}:∀ {xs:List PyData},(∀ x∈xs,Zi6 lo hi x)->∃ ns:List Int,xs=ns.map PyData.int/\∀ n∈ns,lo<=n/\n<=hi
 | [],_=>⟨[],rfl,λn hn=>by cases hn⟩
 | x::xs,h=>by
  obtain ⟨ns,e,hn⟩:=ZeV (xs:=xs) λy hy=>h y (List.mem_cons_of_mem _ hy)
  obtain ⟨z,rfl,h1,h2⟩:=h x (by simp)
  exact ⟨z::ns,by rw [e]; rfl,λn hn'=>by
   rcases List.mem_cons.mp hn' with rfl | hn'
   ·exact ⟨h1,h2⟩
   ·exact hn n hn'⟩
theorem Za4 {lo hi:Int}:(ZbM lo hi).length=(hi - lo).toNat:=by unfold ZbM; rw [List.length_map,ZaR]
theorem ZnE {xs:List PyData} {lo hi r:Int} (h:∀ x∈xs,Zi6 lo hi x) (h0:0<=r) (h1:r < xs.length):∃ z:Int,atI xs r=some (.int z)/\lo<=z/\z<=hi:=by
 obtain ⟨v,e,m⟩:=pick h0 h1
 obtain ⟨z,rfl,a,b⟩:=h v m
 exact ⟨z,e,a,b⟩
end L2
set_option Elab.async false
set_option linter.all false
set_option maxRecDepth 100000
namespace L2
open PySem PySem.Spec PyProof.Rows
variable {PK:Pk} {X:Cx} {a b c e:Expr} {es:List Expr} {pos:Pos} {i j l:List Sl->Tr PyData} {is:List Sl->Tr (List PyData)} {p q:List Sl->Tr Bool} {st:Stmt}
noncomputable def Zod:PyData->Bool
 | .none=>true
 | .bool _=>true
 | .int _=>true
 | .str _=>true
 | _=>false
end L2
set_option Elab.async false
set_option linter.all false
set_option maxRecDepth 100000
namespace L2
open PySem PySem.Spec PyProof.Rows
variable {PK:Pk} {X:Cx} {a b c e:Expr} {es:List Expr} {pos:Pos} {i j l:List Sl->Tr PyData} {as:List Sl->Tr (List Sl)}
structure PkLow (PK:Pk):Prop where
 low:∀ {o o':HO} {G G':Hp} {m m':Nat},PK.is o G m->Sub G G'->PK.is o' G' m'->PK.is o' G m'
inductive ArB (pa:Addr) (G H:Hp):V->Sl->Prop
 | ok {v:V} {s:Sl}:ArOk pa G v s->ArB pa G H v s
 | own {p:Addr} {vs:List V} {xs:List PyData}:H p=some (.lst vs)->G p=none->pa≠p->DnAll G vs xs->ArB pa G H (.ref p) (.d (.list xs))
inductive ArsB (pa:Addr) (G H:Hp):List V->List Sl->Prop
 | nil:ArsB pa G H [] []
 | cons {v:V} {vs:List V} {s:Sl} {ss:List Sl}:ArB pa G H v s->ArsB pa G H vs ss->ArsB pa G H (v::vs) (s::ss)
theorem ArB.step {pa:Addr} {G H G' H':Hp} {v:V} {s:Sl} (h:ArB pa G H v s) (st:Stp pa G H G' H'):ArB pa G' H' v s:=by
 cases h with
 | ok h=>exact .ok (h.mono st.gs)
 | @own p vs xs h1 h2 h3 h4 =>
  refine .own (st.hk _ _ h1 (Ne.symm h3)) ?_ h3 (DnAll.mono st.gs h4)
  cases e:G' p with
  | none=>rfl
  | some u =>
   rcases st.gn p u e with z | z
   ·rw [h2] at z; cases z
   ·rw [h1] at z; cases z
theorem ArsB.ok {pa:Addr} {m:Nat} {G H:Hp}:∀ {vs:List V} {ss:List Sl} {G1:Hp},Sub G G1->Wd PK pa m G1 H->ArsB pa G H vs ss->∃ G2,Sub G1 G2/\Wd PK pa m G2 H/\ArsOk pa G2 vs ss
 | _,_,G1,_,w,.nil=>⟨G1,λ_ _ h=>h,w,.nil⟩
 | _,_,G1,sb,w,.cons h t=>by
  obtain ⟨G2,s2,w2,t2⟩:=ArsB.ok sb w t
  cases h with
  | ok h=>exact ⟨G2,s2,w2,.cons (h.mono (sb.trans s2)) t2⟩
  | @own p vs xs h1 h2 h3 h4 =>
   cases e:G2 p with
   | none =>
    have s3:Sub G2 (upd G2 p (.lst vs)):=Sub.new e
    exact ⟨upd G2 p (.lst vs),s2.trans s3,w2.freeze h1 e h3,.cons (.d (.lst ZaF (DnAll.mono ((sb.trans s2).trans s3) h4))) (ArsOk.mono s3 t2)⟩
   | some u =>
    have:=w2.sub p u e
    rw [h1] at this
    cases this
    exact ⟨G2,s2,w2,.cons (.d (.lst e (DnAll.mono (sb.trans s2) h4))) t2⟩
noncomputable def TAb (PK:Pk) (i:List Sl->Tr (List Sl)):TA:=λσ H Q=>∃ pa G₀ H₀ m ρ G,Rl PK pa G₀ H₀ m σ ρ G H/\(i ρ).ok m λm' as=>∀ vs G' H',Stp pa G H G' H'->Wd PK pa m' G' H'->ArsB pa G' H' vs as->Q vs H'
theorem TAb.then {σ:St} {H:Hp} {β:Type} {k:List Sl->Tr β} {Z:Nat->β->Prop} {Q:List V->Hp->Prop} {pa:Addr} {G₀ H₀ G:Hp} {m:Nat} {ρ:List Sl} (R:Rl PK pa G₀ H₀ m σ ρ G H) (h:((as ρ).bind k).ok m Z)
  (hq:∀ m1 xs vs G1 H1,Stp pa G H G1 H1->Wd PK pa m1 G1 H1->Rl PK pa G₀ H₀ m1 σ ρ G1 H1->ArsB pa G1 H1 vs xs->(k xs).ok m1 Z->Q vs H1):TAb PK as σ H Q:=by
 refine ⟨pa,G₀,H₀,m,ρ,G,R,Tr.ok_mono (Tr.ok_bind.mp h) λm1 x hx v G1 H1 s1 w1 d1=>?_⟩
 exact hq m1 x v G1 H1 s1 w1 (R.step s1 w1) d1 hx
theorem ZiJ:PA X [] (TAb PK ZaI):=pa_nil.imp λσ H Q hz0=>by
 obtain ⟨pa,G₀,H₀,m,ρ,G,R,z⟩:=hz0
 exact z [] G H .refl R.wd .nil
noncomputable def Ze6 (k:Nat) (as:List Sl->Tr (List Sl)):List Sl->Tr (List Sl):=λρ=>match ρ[k]? with
 | some (.own xs)=>(as ρ).bind λys=>.ret (.d (.list xs)::ys)
 | some (.d x)=>(as ρ).bind λys=>.ret (.d x::ys)
 | _=>.fail
theorem Zgs {k:Nat} (ha:PE X e (Zjp k)) (hr:PA X es (TAb PK as)) (hs:starEach (e::es) X.env=(false,eval e X.env)::starEach es X.env:=by rfl):PA X (e::es) (TAb PK (Ze6 k as)):=(ZaE ha hr hs).imp λσ H Q hz0=>by
 obtain ⟨pa,G₀,H₀,m,ρ,G,R,z⟩:=hz0
 unfold Ze6 at z
 split at z
 ·rename_i xs hk
  obtain ⟨o,h1,h2⟩:=R.sl k _ hk
  cases h2 with
  | @own p vs _ a1 a2 a3 a4 =>
   have hne:pa≠p:=λe=>by
    obtain ⟨u,hu⟩:=R.p0
    rw [e,a3] at hu; cases hu
   refine ⟨_,h1,?_⟩
   refine TAb.then R z λm2 ys ws G2 H2 s2 w2 R2 d2 q2=>?_
   exact q2 _ _ _ s2 w2 (.cons ((ArB.own a1 a2 hne a4).step s2) d2)
 ·rename_i x hk
  obtain ⟨o,h1,h2⟩:=R.sl k _ hk
  cases h2 with
  | d d1 =>
   refine ⟨_,h1,?_⟩
   refine TAb.then R z λm2 ys ws G2 H2 s2 w2 R2 d2 q2=>?_
   exact q2 _ _ _ s2 w2 (.cons (.ok (.d (d1.mono s2.gs))) d2)
 ·exact z.elim
theorem Dn.flat_any {G G':Hp} {v:V} {x:PyData} (h:Dn G v x) (f:Zod x=true):Dn G' v x:=by
 cases h with
 | non=>exact .non
 | bl b=>exact .bl b
 | int i=>exact .int i
 | str s=>exact .str s
 | _=>cases f
variable {ρ:List Sl} {k:Nat} {xs:List PyData} {x:PyData} {sl:Sl} {f:List Sl->Tr Re}
noncomputable def ZeS:Nat->List Sl->Tr PyData
 | 0,.own xs::_=>.ret (.list xs)
 | 0,.d x::_=>.ret x
 | k+1,_::ρ=>ZeS k ρ
 | _,_=>.fail
theorem ev_len0o:ZeS 0 (.own xs::ρ)=.ret (.list xs):=rfl
theorem ev_len0d:ZeS 0 (.d x::ρ)=.ret x:=rfl
theorem ev_lenS:ZeS (k+1) (sl::ρ)=ZeS k ρ:=rfl
theorem ev_lend:Ze6 k as ρ=(ZeS k ρ).bind (aa1 as ρ):=by
 have key:∀ (k:Nat) (σ:List Sl) (as:List Sl->Tr (List Sl)) (ρ:List Sl),(match σ[k]? with | some (.own xs)=>(as ρ).bind λys=>Tr.ret (Sl.d (.list xs)::ys) | some (.d x)=>(as ρ).bind λys=>Tr.ret (Sl.d x::ys) | _=>Tr.fail)=(ZeS k σ).bind (aa1 as ρ):=by
  intro k
  induction k with
  | zero =>
   intro σ as ρ
   cases σ with
   | nil=>rfl
   | cons s r=>cases s <;> rfl
  | succ k ih =>
   intro σ as ρ
   cases σ with
   | nil=>rfl
   | cons s r=>exact ih r as ρ
 exact key k ρ as ρ
end L2
set_option Elab.async false
set_option linter.all false
set_option maxRecDepth 100000
namespace L2
open PySem PySem.Spec PyProof.Rows
theorem Zfl {prog:Program} {w:World} {A:Around} {R:Result->Shared->Prop} {s:Shared} {elt target iter cnd:Expr} {scope:Scope} {pos:Pos} {it acc:Value} {env:Env} (J:Nat->Shared->Prop)
  (step:∀ k s0,J k s0->wpAny (model prog w) A (pyNext it) (λgot s1=>match got with
   | none=>R (.ok .next) s1
   | some v=>wpAny (model prog w) A (letOwnedTupleGo target it v) (λ_ s2=>wpAny (model prog w) A (assign target env v) (λ_ s3=>wpAny (model prog w) A (isTrue cnd env (eval cnd env)) (λok s3'=>if ok=true then wpAny (model prog w) A (eval elt env) (λy s4 =>
     wpAny (model prog w) A (call (.builtin "list.append") [acc,y]) (λ_ s5=>∃ j,j < k/\J j s5) (λ_ _=>False) s4) (λ_ _=>False) s3' else ∃ j,j < k/\J j s3') (λ_ _=>False) s3) (λ_ _=>False) s2) (λ_ _=>False) s1) (λ_ _=>False) s0)
  (k:Nat) (h:J k s):codeAny (model prog w) A (.compLoop (.ListComp elt [⟨target,iter,[cnd],0⟩] scope pos) 0 it acc env) R s:=by
 refine codeAny_loop rfl J (λk0 s0 hJ=>?_) k h
 show wpAny _ _ ((compTurn (.ListComp elt [⟨target,iter,[cnd],0⟩] scope pos) 0 it acc env).onRaise (λx=>do noteFrame x env; theTreesLotGoes x)) _ _ s0
 apply wpAny_noted
 rw [compTurn_list]
 refine wpAny_bind (wpAny_standAt (wpAny_bind (wpAny_mono (step k0 s0 hJ) (λgot s1 h1=>?_) λ_ _ z=>z.elim)))
 cases got with
 | none=>exact wpAny_pure h1
 | some v =>
  refine wpAny_bind (wpAny_mono h1 (λ_ s2 h2=>?_) λ_ _ z=>z.elim)
  refine wpAny_bind (wpAny_mono h2 (λ_ s3 h3=>?_) λ_ _ z=>z.elim)
  refine wpAny_bind (wpAny_mono (wpAny_tests_one h3) (λok s3' h3'=>?_) λ_ _ z=>z.elim)
  cases ok with
  | false=>exact wpAny_pure ⟨rfl,h3'⟩
  | true =>
   refine wpAny_bind (wpAny_bind (wpAny_mono h3' (λy s4 h4=>?_) λ_ _ z=>z.elim))
   exact wpAny_bind (wpAny_mono h4 (λ_ s5 h5=>wpAny_pure (wpAny_pure ⟨rfl,h5⟩)) λ_ _ z=>z.elim)

noncomputable def Znp (wi:TI) (n:Nat) (ix:List Nat) (g:Blk->TG) (tc:Blk->TT) (te:Blk->TE):TE:=λσ H Q=>wi σ H λJ H1=>∀ b:Blk,∃ W:Nat->Nat->St->List V->Hp->Prop,(∃ m,W 0 m (bSt n ix σ) [] H1)/\∀ i m τ ys H2,W i m τ ys H2 ->
 (J.stop i H2/\∀ p v H',H2 p=none->v=V.ref p->H'=upd H2 p (.lst ys)->Q v H') \/
 (J.go i H2/\ys.length < sizeLine/\∀ x H3,J.yld i H2 x H3->g b x τ H3 λτ2 H4=>tc b τ2 H4 λok H4'=>if ok=true then te b τ2 H4' λy H5=>∃ m',m' < m/\W (i+1) m' τ2 (ys++[y]) H5 else ∃ m',m' < m/\W (i+1) m' τ2 ys H4')

section
variable {X:Cx} {pins:List (Addr×Obj)} {σ:St} {H:Hp} {s:Shared}
theorem Zi3 {elt target iter cnd:Expr} {scope:Scope} {pos:Pos} {Nx ts:List Str} {ix:List Nat} {g:Blk->TG} {tc:Blk->TT} {te:Blk->TE} {cl:List (Str×Addr)} {s2:Shared} {itv:Value} {R:Value->Addr->Result->Shared->Prop}
  {E:Value->Shared->Prop} {Q:VK}
  (hc:X.calm=true) (hg:∀ b,PG (cxC X (bN Nx ts ix) scope b) target (g b)) (hcn:∀ b,PT (cxC X (bN Nx ts ix) scope b) cnd (tc b)) (he:∀ b,PE (cxC X (bN Nx ts ix) scope b) elt (te b))
  (hNx:X.N=Nx) (ok:BlkOk Nx X.env.scope scope ix) (cl1:∀ x c,cl.lookup x=some c->X.env.cells.lookup x=some c) (cl2:∀ y∈scope.names,y.2=.free->∃ c,cl.lookup y.1=some c)
  (h2:PIE X pins σ target (λJ H1=>∀ b:Blk,∃ W:Nat->Nat->St->List V->Hp->Prop,(∃ m,W 0 m (bSt ts.length ix σ) [] H1)/\∀ i m τ ys H2,W i m τ ys H2 ->
   (J.stop i H2/\∀ p v H',H2 p=none->v=V.ref p->H'=upd H2 p (.lst ys)->Q v H') \/
   (J.go i H2/\ys.length < sizeLine/\∀ x H3,J.yld i H2 x H3->g b x τ H3 λτ2 H4=>tc b τ2 H4 λok H4'=>if ok=true then te b τ2 H4' λy H5=>∃ m',m' < m/\W (i+1) m' τ2 (ys++[y]) H5 else ∃ m',m' < m/\W (i+1) m' τ2 ys H4')) itv s2)
  (hR:∀ (D C:Addr) (H':Hp) (s':Shared) (v:V),Inv X pins σ H' s'->v=.ref D->Q v H'->(∃ m,s'.heap.Ns C m)->H' C=none->C≠X.env.locals->X.s₀.heap.objs.size<=C->(∀ x c,X.env.cells.lookup x=some c->c≠C)->(∀ p∈X.pn++pins,p.1≠C) ->
   R (.ref D) C (.ok .next) s') :
  wpAny (model X.prog X.w) X.A (newList []) (λacc s₃=>wpAny (model X.prog X.w) X.A (newFunctionEnv scope X.env.globals cl [] X.env.qual none .none (some X.env)) (λcenv s₄ =>
   codeAny (model X.prog X.w) X.A (.compStart (.ListComp elt [⟨target,iter,[cnd],0⟩] scope pos) 0 itv acc { cenv with scope:=relabel scope X.env }) (R acc cenv.locals) s₄) E s₃) E s2:=by
 obtain ⟨it,fp,tn,J,H1,e,I2,T,st2,f2,q2⟩:=h2
 subst e
 refine wpAny_newObj_type (ZdC ?_)
 dsimp only
 generalize hG:s2.heap.push { cls:=.type "list",dict:=none,data:=.seq ([]:List Value).toArray }=G
 have hGs:G.objs.size=s2.heap.objs.size+1:=by rw [<- hG,Heap.size_push]
 have hfs:∀ b∈fp,b < s2.heap.objs.size:=λb hb=>let ⟨o,e,_⟩:=T.obj _ _ st2 b hb; Heap.lt_size e
 have kpG:∀ b o,G.get? b=some o->(pushCells (G.push { cls:=.type "dict",data:=.dict #[] }) scope.names).get? b=some o:=λb o e=>pushCells_keeps _ _ _ _ (Heap.get?_push_of_some _ e)
 have hns3:(pushCells (G.push { cls:=.type "dict",data:=.dict #[] }) scope.names).Ns G.objs.size (λ_=>none):=(Heap.Ns.new G (.type "dict")).keeps (pushCells_keeps _ _)
 obtain ⟨sp1,sp2,sp4,sp3⟩:=ZfF scope.names (G.push { cls:=.type "dict",data:=.dict #[] }) cl
 rw [Heap.size_push] at sp1 sp2 sp3 sp4
 generalize hh3:pushCells (G.push { cls:=.type "dict",data:=.dict #[] }) scope.names=h3 at kpG hns3 sp1 ⊢
 have kp:∀ b o,s2.heap.get? b=some o->h3.get? b=some o:=λb o e=>kpG b o (by rw [<- hG]; exact Heap.get?_push_of_some _ e)
 have hD3:h3.get? s2.heap.objs.size=some { cls:=.type "list",data:=.seq ([]:List Value).toArray }:=kpG _ _ (by rw [<- hG]; exact Heap.get?_push_size _ rfl)
 have clB:∀ x c,cl.lookup x=some c->c < G.objs.size+1:=λx c e=>by
  obtain ⟨v,q⟩:=I2.cell x c (cl1 x c e)
  exact Nat.lt_succ_of_lt (Nat.lt_of_lt_of_le q.lt (by rw [hGs]; exact Nat.le_succ _))
 have csI:=sp3 clB λx y c e1 e2=>I2.ok.inj x y c (cl1 x c e1) (cl1 y c e2)
 have cs1:∀ x c,(cellsFrom (G.objs.size+1) scope.names cl).lookup x=some c->X.env.cells.lookup x=some c\/(G.objs.size < c/\h3.IsCell c none/\(x,NameKind.cell)∈scope.names):=λx c e=>by
  rcases sp1 x c e with z | ⟨z1,z2,z3⟩
  ·exact .inl (cl1 x c z)
  ·exact .inr ⟨by omega,z2,z3⟩
 have cs2:∀ y∈scope.names,(y.2=.free\/y.2=.cell)->∃ c,(cellsFrom (G.objs.size+1) scope.names cl).lookup y.1=some c:=λy hy hk=>by
  refine sp2 y.1 ?_
  rcases hk with z | z
  ·exact .inr (cl2 y hy z)
  ·exact .inl (by rw [<- z]; exact hy)
 have csA:∀ x c,(x,NameKind.cell)∈scope.names->(cellsFrom (G.objs.size+1) scope.names cl).lookup x=some c->G.objs.size<=c:=λx c e1 e2=>Nat.le_of_succ_le (sp4 x c e1 e2)
 generalize hcs:cellsFrom (G.objs.size+1) scope.names cl=cs at csI cs1 cs2 csA ⊢
 generalize hCe:G.objs.size=C at hns3 cs1 csA ⊢
 have hC:s2.heap.objs.size<=C:=by omega
 have hDC:s2.heap.objs.size≠C:=by omega
 let B:Blk:=⟨cs,C,s2,H1,fp,X.pn++pins⟩
 have I3:Inv (cxC X (bN Nx ts ix) scope B) [] (bSt ts.length ix σ) H1 { s2 with heap:=h3 }:=ZgP I2 hNx ok cs1 csI cs2 csA f2 hfs hC kp hns3
 have fC:H1 s2.heap.objs.size=none:=I2.hok.fresh (Nat.le_refl _)
 have cellIn:∀ x c,cs.lookup x=some c->c≠s2.heap.objs.size:=λx c e=>by
  rcases cs1 x c e with z | ⟨z,_,_⟩
  ·obtain ⟨v,q⟩:=I2.cell x c z
   exact Nat.ne_of_lt q.lt
  ·exact Nat.ne_of_gt (Nat.lt_of_le_of_lt hC z)
 have pinIn:∀ p∈X.pn++pins,p.1 < s2.heap.objs.size:=λp hp=>Heap.lt_size (I2.pin p hp).1
 have nofrs:s2.heap.objs.size ∉ frs X.stack:=λhb=>by
  rcases List.mem_cons.mp (I2.stkSub _ hb) with z | z
  ·exact absurd I2.lt (by rw [<- z]; exact Nat.lt_irrefl _)
  ·exact I2.nofs (Nat.le_refl _) z
 -- a state with the list at its place,pinned
 have pinD:∀ {τ:St} {H':Hp} {s':Shared} {ob:Obj},Inv (cxC X (bN Nx ts ix) scope B) [] τ H' s'->s'.heap.get? s2.heap.objs.size=some ob->H' s2.heap.objs.size=none->(∀ v,ob.data≠.cell v)->Inv (cxC X (bN Nx ts ix) scope B) [(s2.heap.objs.size,ob)] τ H' s' :=
  λ{τ H' s' ob} I' ho hn hd=>I'.pins_of λp hp=>by
   have e:p=(s2.heap.objs.size,ob):=by simpa using hp
   subst e
   exact ⟨ho,hn,hDC,nofrs,hd⟩
 obtain ⟨W,⟨m0,w0⟩,turn⟩:=q2 B
 have stat:∀ {H':Hp} {ob:Obj},(∀ b∈fp,H' b=none)->∀ b∈fp,Zlh (cxC X (bN Nx ts ix) scope B) [(s2.heap.objs.size,ob)] H' b:=λ{H' ob} hn b hb=>by
  refine ⟨hn b hb,Nat.ne_of_lt (Nat.lt_of_lt_of_le (hfs b hb) hC),λz=>?_,.inl hb,λx c e=>by
   rcases cs1 x c e with z | ⟨z,_,_⟩
   ·exact (f2 b hb).2.2.2.2.1 x c z
   ·exact Nat.ne_of_gt (Nat.lt_of_lt_of_le (hfs b hb) (Nat.le_trans hC (Nat.le_of_lt z))),λp hp=>?_⟩
  ·rcases List.mem_cons.mp (I2.stkSub _ z) with q | q
   ·exact (f2 b hb).2.1 q
   ·exact (f2 b hb).2.2.1 q
  ·rcases List.mem_append.mp hp with z | z
   ·exact (f2 b hb).2.2.2.2.2 p z
   ·have e:p=(s2.heap.objs.size,ob):=by simpa using z
    subst e
    exact Nat.ne_of_gt (hfs b hb)
 have loop:∀ s4:Shared,s4={ s2 with heap:=h3 } ->
   codeAny (model X.prog X.w) X.A (.compLoop (.ListComp elt [⟨target,iter,[cnd],0⟩] scope pos) 0 (.ref it) (.ref s2.heap.objs.size) (compEnvC scope cs C X.env)) (R (.ref s2.heap.objs.size) C) s4:=by
  rintro s4 rfl
  refine Zfl (λk s'=>∃ i τ ys its n H',Inv (cxC X (bN Nx ts ix) scope B) [(s2.heap.objs.size,({ cls:=.type "list",data:=.seq (List.toArray its) n }:Obj))] τ H' s'/\tn i s'.heap/\(∀ b∈fp,H' b=none)/\Vals ys its/\ys.length<=sizeLine/\W i k τ ys H') ?_ m0
   ⟨0,_,[],[],_,H1,pinD I3 hD3 fC (λv z=>by cases z),T.keep _ _ _ st2 λb hb o e=>kp b o e,λb hb=>(f2 b hb).1,.nil,Nat.zero_le _,w0⟩
  rintro k s5 ⟨i,τ,ys,its,n,H5,I5,st5,fr5,rv,hz,w5⟩
  rcases turn i k τ ys H5 w5 with ⟨stop,qn⟩ | ⟨go,hlt,step⟩
  ·refine thn (T.done (cxC X (bN Nx ts ix) scope B) rfl rfl rfl hc i _ s5 τ H5 _ I5 (stat fr5) st5 stop) λgot s6 hz0=>?_
   obtain ⟨hr,I6⟩:=hz0
   subst hr
   obtain ⟨ho,hn,_,_,_⟩:=I6.pin (s2.heap.objs.size,({ cls:=.type "list",data:=.seq (List.toArray its) n }:Obj)) (List.mem_append_right _ (by simp))
   have I7:Inv X pins σ H5 s6:=I2.call' (ch:=fp) (H':=H5) (by exact I6.os) I6.base I6.hok I6.bare λb hb=>⟨(f2 b hb).2.2.2.1,(f2 b hb).2.1,(f2 b hb).2.2.2.2.1,(f2 b hb).2.2.2.2.2⟩
   have hs0:X.s₀.heap.objs.size<=s2.heap.objs.size:=I2.sz
   have I8:=I7.track hn ho rv hz (Nat.ne_of_gt I2.lt) hs0 (λx c e z=>by
    obtain ⟨v,q⟩:=I2.cell x c e
    exact absurd q.lt (by rw [z]; exact Nat.lt_irrefl _)) (λp hp=>Nat.ne_of_lt (pinIn p hp))
   obtain ⟨m6,hm6,_⟩:=I6.loc
   refine hR _ C _ s6 _ I8 rfl (qn _ _ _ hn rfl rfl) ⟨m6,hm6⟩ ?_ (λz=>?_) (Nat.le_trans hs0 hC) (λx c e z=>?_) λp hp=>Nat.ne_of_lt (Nat.lt_of_lt_of_le (pinIn p hp) hC)
   ·rw [Zau (Ne.symm hDC)]
    exact I6.free
   ·exact absurd (Nat.lt_of_lt_of_le I2.lt hC) (by rw [z]; exact Nat.lt_irrefl _)
   ·obtain ⟨v,q⟩:=I2.cell x c e
    exact absurd (Nat.lt_of_lt_of_le q.lt hC) (by rw [z]; exact Nat.lt_irrefl _)
  ·refine thn (T.item (cxC X (bN Nx ts ix) scope B) rfl rfl rfl hc i _ s5 τ H5 _ I5 (stat fr5) st5 go) λgot s6 hz0=>?_
   obtain ⟨u,hr,h6⟩:=hz0
   subst hr
   refine thn h6 λ_ s7 hz0=>?_
   obtain ⟨x,H7,I7,r7,y7,st7,fr7⟩:=hz0
   have I7':=I7.pinned (stat fr7) (T.obj _ _ st7)
   refine thn (hg B _ s7 τ H7 x u _ I7' r7 (step x H7 y7)) λ_ s8 hz0=>?_
   obtain ⟨τ8,H8,I8,q8⟩:=hz0
   refine thn (hcn B _ s8 τ8 H8 _ I8 q8) λokk s8' hz0=>?_
   obtain ⟨H8',I8',q8'⟩:=hz0
   cases okk with
   | false =>
    obtain ⟨m',hm',w9⟩:=q8'
    obtain ⟨ho,hn,_,_,_⟩:=I8'.pin (s2.heap.objs.size,({ cls:=.type "list",data:=.seq (List.toArray its) n }:Obj)) (List.mem_append_right _ (List.mem_append_left _ (by simp)))
    have I9':Inv (cxC X (bN Nx ts ix) scope B) [] τ8 H8' s8':=I8'.pins_of λp hp=>absurd hp (by simp)
    refine ⟨m',hm',i+1,τ8,ys,its,n,H8',pinD I9' ho hn (λv z=>by cases z),?_,λb hb=>?_,rv,hz,w9⟩
    ·refine T.keep _ _ _ st7 λb hb o e=>?_
     exact (I8'.pin (b,o) (List.mem_append_right _ (List.mem_append_right _ (Zbz hb e)))).1
    ·obtain ⟨o,e,d⟩:=T.obj _ _ st7 b hb
     exact (I8'.pin (b,o) (List.mem_append_right _ (List.mem_append_right _ (Zbz hb e)))).2.1
   | true =>
   refine thn (he B _ s8' τ8 H8' _ I8' q8') λy s9 hz0=>?_
   obtain ⟨vy,H9,I9,r9,m',hm',w9⟩:=hz0
   obtain ⟨ho,hn,_,_,_⟩:=I9.pin (s2.heap.objs.size,({ cls:=.type "list",data:=.seq (List.toArray its) n }:Obj)) (List.mem_append_right _ (List.mem_append_left _ (by simp)))
   have lenv:=rv.length
   refine wpAny_list_append_plain (l:=s2.heap.objs.size) ⟨n,ho⟩ (λh' hpl hsb=>?_) (by rw [List.size_toArray]; omega)
   obtain ⟨n',ho'⟩:=hpl
   have eobj:(its.toArray.push y)=List.toArray (its++[y]):=by simp
   rw [eobj] at ho'
   have I9':Inv (cxC X (bN Nx ts ix) scope B) [] τ8 H9 s9:=I9.pins_of λp hp=>absurd hp (by simp)
   have I10:Inv (cxC X (bN Nx ts ix) scope B) [] τ8 H9 { s9 with heap:=h' }:=I9'.turned (it:=s2.heap.objs.size) (t':=s9.toks) (λb o hb e=>(hsb.2 b hb).trans e) hn hDC (.inr (Nat.le_refl _)) cellIn (λp hp=>by
    have hp':p∈(X.pn++pins)++[]:=hp
    rw [List.append_nil] at hp'
    exact Nat.ne_of_lt (pinIn p hp'))
   refine ⟨m',hm',i+1,τ8,ys++[vy],its++[y],n',H9,pinD I10 ho' hn (λv z=>by cases z),?_,λb hb=>?_,rv.append (.cons r9 .nil),by rw [List.length_append]; show ys.length+1<=_; omega,w9⟩
   ·refine T.keep _ _ _ st7 λb hb o e=>?_
    have q:=(I9.pin (b,o) (List.mem_append_right _ (List.mem_append_right _ (Zbz hb e)))).1
    exact (hsb.2 b (Nat.ne_of_lt (hfs b hb))).trans q
   ·obtain ⟨o,e,d⟩:=T.obj _ _ st7 b hb
    exact (I9.pin (b,o) (List.mem_append_right _ (List.mem_append_right _ (Zbz hb e)))).2.1
 exact codeAny_compStart_list (loop _ rfl) (T.self X.A 0 _ _ _ (T.keep _ _ _ st2 λb hb o e=>kp b o e) (loop _ rfl))

theorem ZnF {elt target iter cnd:Expr} {scope:Scope} {pos:Pos} {wi:TI} {g:Blk->TG} {tc:Blk->TT} {te:Blk->TE} (Nx:List Str) (ts:List Str) (ix:List Nat)
  (hc:X.calm=true) (hi:PI X target iter wi) (hg:∀ b,PG (cxC X (bN Nx ts ix) scope b) target (g b)) (hcn:∀ b,PT (cxC X (bN Nx ts ix) scope b) cnd (tc b)) (he:∀ b,PE (cxC X (bN Nx ts ix) scope b) elt (te b))
  (hNx:X.N=Nx) (ok:BlkOk Nx X.env.scope scope ix) (hs:∀ x,foldedSetIterable iter X.env x=pure x:=by intro _; rfl) :
  PE X (.ListComp elt [⟨target,iter,[cnd],0⟩] scope pos) (Znp wi ts.length ix g tc te):=by
 intro pins s σ H Q I h
 obtain ⟨cl,hcl,cl1,cl2⟩:=Zd7 (scope:=scope) (env:=X.env) λy hy hf=>I.ok.has y.1 (ok.frees y hy hf)
 rw [eval_ListComp]
 refine wpAny_comprehension_free (use:=none) rfl hs hcl ok.kind ok.locs (thn (hi pins s σ H _ I h) λv s1 h1=>thn h1 λitv s2 h2=>?_)
 refine Zi3 (R:=λacc C=>compPost (model X.prog X.w) X.A X.xe none (EP X pins σ Q) acc C) hc hg hcn he hNx ok cl1 cl2 h2 ?_
 rintro D C H' s' v I' rfl q ⟨m,hm⟩ hn hL h0 hcl' hp
 exact ⟨m,hm,λh' hsb=>⟨.ref D,H',I'.turned (it:=C) (t':=s'.toks) (λb o hb e=>(hsb.2 b hb).trans e) hn hL (.inr h0) hcl' hp,rfl,q⟩⟩

end
section
variable {PK:Pk} {X:Cx} {e:Expr} {st:Stmt} {i:List Sl->Tr PyData} {is:List Sl->Tr (List PyData)} {p:List Sl->Tr Bool}
noncomputable def Zp8 (y:Option PyData) (ys:List PyData):Tr (List PyData):=.ret (match y with
 | some y=>y::ys
 | none=>ys)
noncomputable def Zkg (h:PyData->Tr (Option PyData)):List PyData->Tr (List PyData)
 | []=>.ret []
 | x::xs=>(h x).bind λy=>(Zkg h xs).bind (Zp8 y)
noncomputable def ifE (p:List Sl->Tr Bool) (i:List Sl->Tr PyData) (τ:List Sl):Tr (Option PyData):=(p τ).bind λok=>if ok=true then (i τ).bind λy=>.ret (some y) else .ret none
noncomputable def Zms (is:List Sl->Tr (List PyData)) (n:Nat) (ix:List Nat) (g:PyData->List Sl->Option (List Sl)) (p:List Sl->Tr Bool) (el:List Sl->Tr PyData):List Sl->Tr (List PyData):=λρ =>
 (is ρ).bind λxs=>if small xs.length=true then Zkg (λx=>(Tr.of (g x (blk n ix ρ))).bind (ifE p el)) xs else .fail
theorem Zkm {n:Nat} {ix:List Nat} {g:PyData->List Sl->Option (List Sl)} (hn:Zhb n g):∀ σ H Q,TAo PK (Zms is n ix g p i) σ H Q->Znp (TAi PK is) n ix (λ_=>TAg PK g) (λ_=>TAt PK p) (λ_=>TAe PK i) σ H Q:=by
 rintro σ H Q ⟨pa,G₀,H₀,m,ρ,G,R,z⟩
 refine ⟨pa,G₀,H₀,m,ρ,G,R,Tr.ok_mono (Tr.ok_bind.mp z) λm1 xs k J G1 H1 s1 w1 jo=>λB=>?_⟩
 obtain ⟨hs,k⟩:=Zf8 k
 have hs:xs.length<=sizeLine:=of_decide_eq_true hs
 let el:PyData->Tr (Option PyData):=λx=>(Tr.of (g x (blk n ix ρ))).bind (ifE p i)
 let W:Nat->Nat->St->List V->Hp->Prop:=λk mm τ ys H2=>mm=xs.length - k/\k<=xs.length/\ys.length<=k/\∃ m G2 ds,Sub G1 G2/\Stp pa G H G2 H2/\Rl PK pa G₀ H₀ m τ (blk n ix ρ) G2 H2 /\
  DnAll G2 ys ds/\(Zkg el (xs.drop k)).ok m λm' zs=>Ko1 PK pa m' G H (ds++zs) Q
 refine ⟨W,⟨xs.length,rfl,Nat.zero_le _,Nat.le_refl _,m1,G1,[],.refl,s1,(R.step s1 w1).blk n ix,.nil,k⟩,?_⟩
 rintro k mm τ ys H2 ⟨rfl,hk,hy,m2,G2,ds,sb,st2,R2,dn,k2⟩
 obtain ⟨j1,j2⟩:=jo m2 G2 H2 sb R2.wd
 by_cases hlt:k < xs.length
 ·have hx:xs[k]?=some xs[k]:=by simp [hlt]
  obtain ⟨jg,jy⟩:=j1 k _ hx
  refine .inr ⟨jg,by omega,λx H3 y=>?_⟩
  obtain ⟨G3,s3,w3,d3⟩:=jy x H3 y
  rw [List.drop_eq_getElem_cons hlt] at k2
  unfold Zkg at k2
  rw [Tr.ok_bind,Tr.ok_bind] at k2
  obtain ⟨ρ3,hg3,k3⟩:=Tr.ok_of k2
  refine ⟨pa,G₀,H₀,m2,_,G3,_,ρ3,R2.step s3 w3,d3,hg3,λτ4 R4=>?_⟩
  obtain ⟨pl,pk⟩:=hn _ _ _ hg3
  have hback:∀ (q:Nat) (sl:Sl),(blk n ix ρ)[q]?=some sl->sl=.un\/ρ3[q]?=some sl:=λq sl hq=>by
   by_cases hqn:q < n
   ·left
    unfold blk at hq
    rw [List.getElem?_append_left (by simpa using hqn),List.getElem?_replicate,if_pos hqn] at hq
    cases hq
    rfl
   ·right
    rw [pk q (Nat.le_of_not_lt hqn)]
    exact hq
  unfold ifE at k3
  rw [Tr.ok_bind] at k3
  refine ⟨pa,G₀,H₀,m2,ρ3,G3,R4,Tr.ok_mono k3 λm4 ok k4 G4 H4 s4 w4=>?_⟩
  have R4':=R4.step s4 w4
  have s34:=s3.trans s4 w3.some
  cases ok with
  | false =>
   have k4':((Zkg el (xs.drop (k+1))).bind (Zp8 none)).ok m4 λm' zs=>Ko1 PK pa m' G H (ds++zs) Q:=k4
   refine ⟨xs.length - (k+1),by omega,rfl,hlt,by omega,m4,G4,ds,sb.trans s34.gs,st2.trans s34 R2.wd.some,R4'.weak pl hback,DnAll.mono s34.gs dn,?_⟩
   exact Tr.ok_mono (Tr.ok_bind.mp k4') λm6 zs k6=>k6
  | true =>
   have k4':((i ρ3).bind λy=>.ret (some y)).ok m4 λm' y=>((Zkg el (xs.drop (k+1))).bind (Zp8 y)).ok m' λm' zs=>Ko1 PK pa m' G H (ds++zs) Q:=k4
   rw [Tr.ok_bind] at k4'
   refine ⟨pa,G₀,H₀,m4,ρ3,G4,R4',Tr.ok_mono k4' λm5 yd k5=>?_⟩
   intro v G5 H5 s5 w5 d5
   have s35:=s34.trans s5 w4.some
   refine ⟨xs.length - (k+1),by omega,rfl,hlt,by rw [List.length_append]; show ys.length+1<=_; omega,m5,G5,ds++[yd],sb.trans s35.gs,st2.trans s35 R2.wd.some,(R4'.step s5 w5).weak pl hback,(DnAll.mono s35.gs dn).snoc d5,?_⟩
   have k5':((Zkg el (xs.drop (k+1))).bind (Zp8 (some yd))).ok m5 λm' zs=>Ko1 PK pa m' G H (ds++zs) Q:=k5
   refine Tr.ok_mono (Tr.ok_bind.mp k5') λm6 zs k6=>?_
   rw [List.append_assoc]
   exact k6
 ·have e:k=xs.length:=by omega
  subst e
  refine .inl ⟨j2,λp v H' hp ev eH=>?_⟩
  subst ev eH
  rw [List.drop_length] at k2
  have k2':Ko1 PK pa m2 G H (ds++[]) Q:=k2
  rw [List.append_nil] at k2'
  exact (Ko1.later k2' st2 R2.wd.some).new R2.wd dn hp
theorem Zox {n:Nat} {ix:List Nat} {g:PyData->List Sl->Option (List Sl)} (h:PE X e (Znp (TAi PK is) n ix (λ_=>TAg PK g) (λ_=>TAt PK p) (λ_=>TAe PK i))) (hn:Zhb n g):PE X e (TAo PK (Zms is n ix g p i)):=h.imp (Zkm hn)
end
end L2
set_option Elab.async false
set_option linter.all false
set_option maxRecDepth 100000
namespace L2
open PySem PySem.Spec PyProof.Rows
section
variable {X:Cx}
section
variable {ρ:List Sl} {is:List Sl->Tr (List PyData)} {n:Nat} {i:List Sl->Tr PyData} {p:List Sl->Tr Bool} {xs:List PyData} {x:PyData}
noncomputable def Zqd (g:PyData->List Sl->Option (List Sl)) (p:List Sl->Tr Bool) (el:List Sl->Tr PyData) (τ:List Sl) (x:PyData):Tr (Option PyData):=(Tr.of (g x τ)).bind (ifE p el)
noncomputable def lci1 (n:Nat) (ix:List Nat) (g:PyData->List Sl->Option (List Sl)) (p:List Sl->Tr Bool) (el:List Sl->Tr PyData) (ρ:List Sl) (xs:List PyData):Tr (List PyData):=if small xs.length=true then Zkg (Zqd g p el (blk n ix ρ)) xs else .fail
theorem ev_lcif {ix:List Nat} {g:PyData->List Sl->Option (List Sl)}:Zms is n ix g p i ρ=(is ρ).bind (lci1 n ix g p i ρ):=rfl
theorem ev_lci1 {ix:List Nat} {g:PyData->List Sl->Option (List Sl)} (h:small xs.length=true):lci1 n ix g p i ρ xs=Zkg (Zqd g p i (blk n ix ρ)) xs:=by unfold lci1; rw [if_pos h]
theorem ev_lci2 {τ:List Sl} {g:PyData->List Sl->Option (List Sl)}:Zqd g p i τ x=(Tr.of (g x τ)).bind (ifE p i):=rfl
noncomputable def if3 (y:PyData):Tr (Option PyData):=.ret (some y)
noncomputable def if2 (i:List Sl->Tr PyData) (τ:List Sl) (b:Bool):Tr (Option PyData):=if b=true then (i τ).bind if3 else .ret none
theorem ev_ifE {τ:List Sl}:ifE p i τ=(p τ).bind (if2 i τ):=rfl
theorem ev_if2t {τ:List Sl}:if2 i τ true=(i τ).bind if3:=rfl
theorem ev_if2f {τ:List Sl}:if2 i τ false=.ret none:=rfl
theorem ev_if3:if3 x=.ret (some x):=rfl
end
end
end L2
set_option Elab.async false
set_option linter.all false
set_option maxRecDepth 100000
namespace L2
open PySem PySem.Spec PyProof.Rows
section
variable {PK:Pk} {X:Cx} {e:Expr} {as:List Sl->Tr (List Sl)}
noncomputable def slD:List Sl->Option (List PyData)
 | []=>some []
 | .d x::r=>(slD r).bind λxs=>some (x::xs)
 | _=>none
theorem ArsOk.slD {pa:Addr} {G:Hp} {vs:List V} {ss:List Sl} {ds:List PyData} (a:ArsOk pa G vs ss) (h:L2.slD ss=some ds):DnAll G vs ds:=by
 induction a generalizing ds with
 | nil=>cases h; exact .nil
 | cons h0 t ih =>
  cases h0 with
  | d h1 =>
   unfold L2.slD at h
   cases e:L2.slD _ with
   | none=>rw [e] at h; cases h
   | some xs =>
    rw [e] at h
    cases h
    exact .cons h1 (ih e)
  | pen=>cases h
noncomputable def fl1 (d:PyData):Tr PyData:=if Zod d=true then .ret d else .fail
noncomputable def ZoX (f:List PyData->Option PyData) (as:List Sl->Tr (List Sl)):List Sl->Tr PyData:=λρ=>(as ρ).bind λss=>(Tr.of ((slD ss).bind f)).bind fl1
theorem ZiI {r:List V->Hp->VK->Prop} {f:List PyData->Option PyData} (L:PkLow PK) (h:PE X e (tCB r (TAb PK as))) (hv:VCl r f):PE X e (TAe PK (ZoX f as)):=h.imp λσ H Q hz0=>by
 obtain ⟨pa,G₀,H₀,m,ρ,G,R,z⟩:=hz0
 refine TAb.then R z λm1 ss vs G1 H1 s1 w1 R1 d1 q1=>?_
 obtain ⟨d,hd,q1⟩:=Tr.ok_of (Tr.ok_bind.mp q1)
 obtain ⟨G2,s2,w2,d2⟩:=ArsB.ok (λ_ _ h=>h) w1 d1
 cases e:slD ss with
 | none=>rw [e] at hd; cases hd
 | some ds =>
  rw [e] at hd
  unfold fl1 at q1
  obtain ⟨hf,k⟩:=Zf8 (c:=Zod d) q1
  refine hv PK pa m1 G2 H1 vs ds d Q w2 (ArsOk.slD d2 e) hd ?_
  intro v G3 H3 s3 w3 d3
  have s13:Stp pa G1 H1 G1 H3:=⟨λ_ _ h=>h,λ_ _ h=>.inl h,s3.hk⟩
  obtain ⟨o1,e1,p1⟩:=w1.pen
  obtain ⟨o3,e3,p3⟩:=w3.pen
  have w13:Wd PK pa m1 G1 H3:=⟨λb o h=>s3.hk b o (w1.sub b o h) (λz=>by subst z; rw [w1.gpa] at h; cases h),w1.gpa,o3,e3,L.low p1 (s2.trans s3.gs) p3⟩
  exact k v G1 H3 (s1.trans s13 w1.some) w13 (Dn.flat_any d3 hf)
end
section
variable {ρ:List Sl} {as:List Sl->Tr (List Sl)} {f:List PyData->Option PyData} {x:PyData} {xs:List PyData} {i j:List Sl->Tr PyData} {k:Nat} {p:List Sl->Tr Bool} {s:List Sl->Tr Ou}
noncomputable def cbf2 (f:List PyData->Option PyData) (ss:List Sl):Tr PyData:=(Tr.of ((slD ss).bind f)).bind fl1
theorem ev_cbF:ZoX f as ρ=(as ρ).bind (cbf2 f):=rfl
theorem ev_cbf1:cbf2 f [.d x]=(cb1 f [x]).bind fl1:=rfl
theorem ev_fl1I (n:Int):fl1 (.int n)=.ret (.int n):=rfl
noncomputable def Zpk (k:Nat) (ρ:List Sl) (x:PyData) (xs:List PyData):PyData->Tr Ou
 | .int y=>(Tr.of (ixN xs.length y)).bind λt=>.ret (.next (ρ.set k (.own (xs.set t x))))
 | _=>.fail
noncomputable def six2 (k:Nat) (n:List Sl->Tr PyData) (ρ:List Sl) (x:PyData) (xs:List PyData):Tr Ou:=(n ρ).bind (Zpk k ρ x xs)
noncomputable def six1 (k:Nat) (n:List Sl->Tr PyData) (ρ:List Sl) (x:PyData):Tr Ou:=(Zf7 k ρ).bind (six2 k n ρ x)
theorem ev_six:ZfK k j i ρ=(i ρ).bind (six1 k j ρ):=by
 unfold ZfK
 refine congrArg (Tr.bind (i ρ)) (funext λx=>?_)
 rw [six1,<- Zil k ρ]
 cases ρ[k]? with
 | none=>rfl
 | some sl =>
  cases sl with
  | own xs =>
   show ((j ρ).bind _:Tr Ou)=(j ρ).bind (Zpk k ρ x xs)
   refine congrArg (Tr.bind (j ρ)) (funext λy=>?_)
   cases y <;> rfl
  | _=>rfl
theorem ev_six1 {n:List Sl->Tr PyData}:six1 k n ρ x=(Zf7 k ρ).bind (six2 k n ρ x):=rfl
theorem ev_six2 {n:List Sl->Tr PyData}:six2 k n ρ x xs=(n ρ).bind (Zpk k ρ x xs):=rfl
theorem ZhM {y:Int} {t:Nat} (h:ixN xs.length y=some t):Zpk k ρ x xs (.int y)=.ret (.next (ρ.set k (.own (xs.set t x)))):=by
 simp only [Zpk,h]
 rfl
end
end L2
set_option Elab.async false
set_option linter.all false
set_option maxRecDepth 100000
namespace L2
open PySem PySem.Spec PyProof.Rows
open AutoSeq1 (wpAny_loadPart')
noncomputable def Itd (hi:Int) (n:Nat):It:=⟨λi _=>i < n,λi H x H'=>H'=H/\x=.int (hi - i),λi _=>n<=i⟩
theorem Zhn {P:Program} {w:World} {K:PySem.W.Frag} {tg:Expr} (it:Addr) (hi:Int) (n:Nat):Turn P w K tg (Itd hi n) [it] it (λi h=>IsRangeIter h it (hi+(i:Nat) * (-1)) ((n:Int) - (i:Nat)) (-1)) where
 mem:=by simp
 obj:=λi h st b hb=>by
  have e:b=it:=by simpa using hb
  subst e
  exact ⟨_,st,λv z=>by
   have z':Data.fields _=Data.cell v:=z
   cases z'⟩
 keep:=λi h h' st k=>k it (by simp) _ st
 item:=by
  intro X hP hw hK hc i pins s σ H E I hf st hg
  subst hP hw hK
  obtain ⟨f0,f1,f2,f3,f4,f5⟩:=hf it (by simp)
  have W:=Walks.range (prog:=X.prog) (w:=X.w) (I.ok.hd hc) it hi (-1) n
  refine W.item i s _ _ hg st λv h' tk hv st' kk=>?_
  obtain ⟨t,rfl⟩:=hv
  have I1:Inv X pins σ H { s with heap:=h',toks:=tk }:=I.turned (λb o hb e=>kk b o (by simpa using hb) e) f0 f1 f3 f4 f5
  refine ⟨_,rfl,Zkx (s:={ s with heap:=h',toks:=tk }) (n:="range_iterator") st' rfl rfl (by decide) ⟨.int (hi - i),H,I1,⟨t,?_⟩,⟨rfl,rfl⟩,st',λb hb=>(hf b hb).1⟩⟩
  have e:hi+(i:Int) * -1=hi - i:=by omega
  rw [e]
 done:=by
  intro X hP hw hK hc i pins s σ H E I hf st hg
  subst hP hw hK
  obtain ⟨f0,f1,f2,f3,f4,f5⟩:=hf it (by simp)
  exact wpAny_pyNext_range_end (I.ok.hd hc) st (by have:n<=i:=hg; omega) λh' eb=>⟨rfl,I.turned (t':=s.toks) (λb o hb e=>eb b o hb e) f0 f1 f3 f4 f5⟩
 self:=λ_ _ _ _ _ st h=>wpAny_pyIter_rangeiter st h

theorem Zi0 (r:Addr) (a b c:Int) (t u v:Tok) (hs:¬ (!(Builtin.Range.rangeFitsLong a && Builtin.Range.rangeFitsLong b && Builtin.Range.rangeFitsLong c && Builtin.Range.rangeFitsLong (-c) && Builtin.Range.rangeFitsLong (a - c) && Builtin.Range.rangeFitsLong (Builtin.Range.rangeSize a b c)))=true) :
  Meets (Builtin.«range.__reversed__» ⟨[.ref r],[]⟩) (λ_ R s=>s.heap.get? r=some { cls:=.type "range",dict:=none,data:=.fields #[.int a t,.int b u,.int c v],slots:=#[] } /\
   R (.ok (.ret (.ref s.heap.objs.size))) { s with heap:=s.heap.push { cls:=.type "range_iterator",data:=.fields #[rawInt (a+(Builtin.Range.rangeSize a b c - 1) * c),rawInt (Builtin.Range.rangeSize a b c),rawInt (-c)] },toks:=s.toks }) :=
 .of_wp λprog w A R s h=>by
  obtain ⟨hp,g,d,tk,os⟩:=s
  obtain ⟨hl,h⟩:=h
  have hs':=hs
  rw [Bool.not_eq_true',Bool.not_eq_false] at hs'
  wp_walk
  rw [if_pos hs']
  exact ⟨_,rfl,h⟩
theorem ZbO {n:Int} (h1:-(2 ^ 63)<=n) (h2:n < 2 ^ 63):Builtin.Range.rangeFitsLong n=true:=by
 unfold Builtin.Range.rangeFitsLong
 simp
 omega
section
variable {prog:Program} {w:World} {A:Around} {E:Value->Shared->Prop} {s:Shared}
theorem ZkR {r:Addr} {a b:Int} {t u v:Tok} {Q₁:Value->Shared->Prop} (hr:IsRange s.heap r a b 1 t u v) (ha:-(2 ^ 62)<=a) (ha':a < 2 ^ 62) (hb:-(2 ^ 62)<=b) (hb':b < 2 ^ 62)
  (h:Q₁ (.ref s.heap.objs.size) { s with heap:=s.heap.push { cls:=.type "range_iterator",data:=.fields #[rawInt (a+(Builtin.Range.rangeSize a b 1 - 1) * 1),rawInt (Builtin.Range.rangeSize a b 1),rawInt (-1)] } }) :
  codeAny (model prog w) A (.call (.builtin "reversed.__new__") ⟨[.type "reversed",.ref r],[]⟩) (wants Q₁ E) s:=by
 have hT:s.TypeIs (.ref r) "range":=⟨_,hr,rfl⟩
 refine codeAny_of_tree ?_
 show wpAny _ A.in1 (do checkBuiltinCall "reversed.__new__" ⟨[.type "reversed",.ref r],[]⟩; again (.builtin "reversed.__new__" ⟨[.type "reversed",.ref r],[]⟩)) _ _ s
 refine wpAny_bind (wpAny_of_eq (F.newCall_reversed_1 _) (wpAny_pure ⟨plainId_quiet F.plain_reversed_new _,codeAny_builtin F.entry_reversed_new ?_⟩))
 rw [Around.under_plainId F.plain_reversed_new _]
 unfold Builtin.«reversed.__new__»
 refine wpAny_bind (wpAny_of_eq (newClass_reversed _) ?_)
 try dsimp only
 refine wpAny_bind (wpAny_of_eq (a:=()) (by first | rfl | kernel_rfl) ?_)
 refine wpAny_bind (wpAny_of_eq (a:=()) (by first | rfl | kernel_rfl) ?_)
 try dsimp only
 refine wpAny_bind (wpAny_specialOf hT F.slot_range_reversed.lookup ?_)
 try dsimp only
 refine wpAny_bind (wpAny_of_eq (F.slot_range_reversed.bind _) ?_)
 try dsimp only
 first
 | rw [if_neg (show ¬ ((Value.builtin "range.__reversed__" == Value.none)=true) from Bool.false_ne_true)]
 | (show wpAny _ _ (if (Value.builtin "range.__reversed__" == Value.none)=true then _ else _) _ _ _; rw [if_neg (show ¬ ((Value.builtin "range.__reversed__" == Value.none)=true) from Bool.false_ne_true)])
 refine wpAny_bind (wpAny_rule ?_)
 have hsz:Builtin.Range.rangeSize a b 1=if a < b then b - a else 0:=rangeSize_one a b
 refine wpAny_bind (m:=runValue (.call (.builtin "range.__reversed__") ⟨[.ref r],[]⟩)) (show wpAny _ _ (call (.builtin "range.__reversed__") [.ref r]) _ _ _ from
  call_meets F.slot_range_reversed hT F.entry_range_reversed (F.args_range_reversed_1 _) (Zi0 r a b 1 t u v ?_) ⟨hr,?_⟩)
 ·rw [Bool.not_eq_true',Bool.not_eq_false,ZbO (by omega) (by omega),ZbO (by omega) (by omega),ZbO (by decide) (by decide),ZbO (by decide) (by decide),ZbO (n:=a - 1) (by omega) (by omega),ZbO (n:=Builtin.Range.rangeSize a b 1) (by rw [hsz]; split <;> omega) (by rw [hsz]; split <;> omega)]
  rfl
 ·first
  | exact wpAny_pure h
  | exact wpAny_bind (wpAny_pure (wpAny_pure h))
theorem ZeA:isSubtype (.type "range_iterator") (.type "reversed")=pure false:=by rw [isSubtype_type]; kernel_rfl
theorem ZkU {r:Addr} {a b:Int} {t u v:Tok} {Q:Value->Shared->Prop} (hr:IsRange s.heap r a b 1 t u v) (ha:-(2 ^ 62)<=a) (ha':a < 2 ^ 62) (hb:-(2 ^ 62)<=b) (hb':b < 2 ^ 62)
  (h:Q (.ref s.heap.objs.size) { s with heap:=s.heap.push { cls:=.type "range_iterator",data:=.fields #[rawInt (a+(Builtin.Range.rangeSize a b 1 - 1) * 1),rawInt (Builtin.Range.rangeSize a b 1),rawInt (-1)] } }):wpAny (model prog w) A (call (.type "reversed") [.ref r]) Q E s:=by
 refine callType_other (U:="range_iterator") (Q₁:=λobj s₁=>obj=.ref s.heap.objs.size/\s₁={ s with heap:=s.heap.push { cls:=.type "range_iterator",data:=.fields #[rawInt (a+(Builtin.Range.rangeSize a b 1 - 1) * 1),rawInt (Builtin.Range.rangeSize a b 1),rawInt (-1)] } }) (by decide +kernel) F.create_reversed ⟨_,_,F.mro_reversed⟩ F.made_reversed ZeA (F.typeCall_reversed_1 _) (ZkR hr ha ha' hb hb' ⟨rfl,rfl⟩) ?_
 rintro obj s₁ ⟨rfl,rfl⟩
 exact ⟨⟨_,Heap.get?_push_size _ rfl,rfl⟩,h⟩
end
theorem ZgH:Manifest.owners.lookup (String.ofList ['d','e','s','r','e','v','e','r'].reverse)=some Manifest.sig_reversed:=by kernel_rfl
theorem ZfQ:Slot "reversed" "__init__" "object.__init__" :=
 .of (owner:="object") (n:="__init__") (by rw [typeLookup_type,builtinLookup_eq_fast]; kernel_rfl) (by decide +kernel) (by decide +kernel) (by decide +kernel)
  (by first | exact .inl (by decide +kernel) | exact .inr (by decide +kernel)) (by rw [isSubtype_type]; kernel_rfl)
theorem slot_rev_next:Slot "reversed" "__next__" "reversed.__next__" :=
 .of (owner:="reversed") (n:="__next__") (by rw [typeLookup_type,builtinLookup_eq_fast]; kernel_rfl) (by decide +kernel) (by decide +kernel) (by decide +kernel)
  (by first | exact .inl (by decide +kernel) | exact .inr (by decide +kernel)) (by rw [isSubtype_type]; kernel_rfl)
theorem Zdo:entryFor table "reversed.__next__"=some Builtin.«reversed.__next__»:=entryFor_of_tree (by kernel_rfl)
theorem Zc7 (a:Value):argsOk "reversed.__next__" ⟨[a],[]⟩:=by
 unfold argsOk; rw [signature?_of (id:="reversed.__next__") (n:=['_','_','t','x','e','n','_','_']) (o:=['d','e','s','r','e','v','e','r']) (by kernel_rfl) ZgH]; kernel_rfl
theorem ZdF:Slot "reversed" "__iter__" "reversed.__iter__" :=
 .of (owner:="reversed") (n:="__iter__") (by rw [typeLookup_type,builtinLookup_eq_fast]; kernel_rfl) (by decide +kernel) (by decide +kernel) (by decide +kernel)
  (by first | exact .inl (by decide +kernel) | exact .inr (by decide +kernel)) (by rw [isSubtype_type]; kernel_rfl)
theorem Ze2 (a:Value):argsOk "reversed.__iter__" ⟨[a],[]⟩:=by
 unfold argsOk; rw [signature?_of (id:="reversed.__iter__") (n:=['_','_','r','e','t','i','_','_']) (o:=['d','e','s','r','e','v','e','r']) (by kernel_rfl) ZgH]; kernel_rfl
theorem Zfk:entryFor table "reversed.__iter__"=some Builtin.«dict_keyiterator.__iter__» :=
 entryFor_alias (id':="dict_keyiterator.__iter__") (by kernel_rfl) (by first | rfl | decide +kernel | (unfold String.splitOn; simp +decide [String.splitOnAux])) (by decide +kernel) (by kernel_rfl)
theorem Zja:TypeCalled "reversed" "reversed.__new__" "object.__init__" :=
 ⟨by decide +kernel,by decide +kernel,⟨_,_,F.mro_reversed⟩,F.made_reversed,by decide +kernel,by rw [isSubtype_type]; kernel_rfl,ZfQ⟩
theorem Zfg:typeLookup (.type "tuple") "__reversed__"=pure none:=by rw [typeLookup_type,builtinLookup_eq_fast]; kernel_rfl
theorem ZiZ (l:Addr) (items:Array Value) (hfit:(items.size:Int) < 2 ^ 63) :
  Meets (Builtin.«reversed.__new__» ⟨[.type "reversed",.ref l],[]⟩) (λ_ R s=>IsTup s.heap l items /\
   R (.ok (.ret (.ref s.heap.objs.size))) { s with heap:=s.heap.push { cls:=.type "reversed",data:=.fields #[.ref l,rawInt ((items.size:Int) - 1)] },toks:=s.toks+1+1 }) :=
 .of_wp λprog w A R s h=>by
  obtain ⟨hp,g,d,tk,os⟩:=s
  obtain ⟨hl,h⟩:=h
  have hl':(Shared.mk hp g d tk os).heap.IsTuple l items:=hl
  unfold Builtin.«reversed.__new__»
  refine wpAny_bind (wpAny_of_eq (newClass_reversed _) ?_)
  try dsimp only
  refine wpAny_bind (wpAny_of_eq (a:=()) (by first | rfl | kernel_rfl) ?_)
  refine wpAny_bind (wpAny_of_eq (a:=()) (by first | rfl | kernel_rfl) ?_)
  try dsimp only
  refine wpAny_bind (wpAny_specialOf hl'.typeIs Zfg ?_)
  try dsimp only
  refine wpAny_bind ?_
  show wpAny _ _ (isInstance (Value.ref l) (.type "dict") >>= _) _ _ _
  refine wpAny_bind (wpAny_isInstance (T:="tuple") (b:=false) hl'.typeIs (by rw [isSubtype_type]; kernel_rfl) ?_)
  show wpAny _ _ (specialOf (Value.ref l) "__getitem__" >>= _) _ _ _
  refine wpAny_bind (wpAny_specialOf hl'.typeIs F.slot_tuple_getitem.lookup ?_)
  refine wpAny_pure ?_
  show wpAny _ _ (call (Value.builtin "len") [Value.ref l] >>= _) _ _ _
  refine wpAny_bind (len_tuple hl hfit ?_)
  refine wpAny_bind (wpAny_of_eq (a:=some (items.size:Int)) rfl ?_)
  show wpAny _ _ (newObj (.type "reversed") (.fields #[.ref l,rawInt ((items.size:Int) - 1)]) >>= _) _ _ _
  refine wpAny_bind (wpAny_newObj_type ?_)
  exact wpAny_pure ⟨_,rfl,h⟩
noncomputable def IsTRev (h:Heap) (a l:Addr) (i:Int):Prop:=∃ o,h.get? a=some o/\o.cls=.type "reversed"/\o.data=.fields #[.ref l,rawInt i]
theorem IsTRev.at {h h':Heap} {a l:Addr} {i:Int} (x:IsTRev h a l i) (e:∀ o,h.get? a=some o->h'.get? a=some o):IsTRev h' a l i:=let ⟨o,ho,r⟩:=x; ⟨o,e _ ho,r⟩
section
variable {prog:Program} {w:World} {A:Around} {E:Value->Shared->Prop} {s:Shared}
theorem ZkT {l:Addr} {items:Array Value} {Q:Value->Shared->Prop} (hl:IsTup s.heap l items) (hfit:(items.size:Int) < 2 ^ 63)
  (h:Q (.ref s.heap.objs.size) { s with heap:=s.heap.push { cls:=.type "reversed",data:=.fields #[.ref l,rawInt ((items.size:Int) - 1)] },toks:=s.toks+1+1 }) :
  wpAny (model prog w) A (call (.type "reversed") [.ref l]) Q E s :=
 callType_new Zja (by decide) (F.typeCall_reversed_1 _) (F.newCall_reversed_1 _) (λobj=>F.args_object_init_2 obj _) F.entry_reversed_new (ZiZ l items hfit) ⟨hl,⟨_,Heap.get?_push_size _ rfl,rfl⟩,h⟩
theorem Zel {it l:Addr} {i:Nat} {items:Array Value} {x:Value} {Q:Option Value->Shared->Prop} (hit:IsTRev s.heap it l (i:Int)) (hl:IsTup s.heap l items) (hne:l≠it) (hx:items[i]?=some x) (hfit:(items.size:Int) < 2 ^ 63)
  (hQ:∀ h',IsTRev h' it l ((i:Int) - 1)->Heap.SameBut it s.heap h'->Q (some x) { s with heap:=h',toks:=s.toks+1 }):wpAny (model prog w) A (pyNext (.ref it)) Q E s:=by
 obtain ⟨o,ho,hc,hd⟩:=id hit
 have hT:s.TypeIs (.ref it) "reversed":=⟨o,ho,hc⟩
 have hl':s.heap.IsTuple l items:=hl
 have hlt:i < items.size:=(Array.getElem?_eq_some_iff.mp hx).1
 unfold pyNext
 refine wpAny_bind (wpAny_attempt (wpAny_callSpecial?_slot (name:=Str.ofString "__next__") hT slot_rev_next
  (wpAny_call_entry slot_rev_next hT Zdo ?_ (Zc7 _))))
 unfold Builtin.«reversed.__next__»
 refine wpAny_bind (wpAny_of_eq (a:=(Value.ref it,[])) rfl ?_)
 try dsimp only
 refine wpAny_bind (wpAny_field ho hd (x:=.ref l) rfl ?_)
 refine wpAny_bind (wpAny_field ho hd (x:=rawInt (i:Int)) rfl ?_)
 show wpAny _ _ (if (i:Int) < 0 then _ else _) _ _ s
 rw [if_neg (by omega)]
 refine wpAny_bind (wpAny_specialOf hl'.typeIs F.slot_tuple_getitem.lookup ?_)
 show wpAny _ _ (mkInt (i:Int) >>= _) _ _ s
 refine wpAny_bind (wpAny_mkInt ?_)
 refine wpAny_bind (wpAny_attempt (getItem_tuple (j:=i) (x:=x) hl (by omega) (by omega) ?_ hx ?_))
 ·unfold seqIndex?
  simp
  omega
 ·dsimp only
  refine wpAny_bind (wpAny_field ho hd (x:=rawInt (i:Int)) rfl ?_)
  show wpAny _ _ (setField (.ref it) 1 (rawInt ((i:Int) - 1)) >>= _) _ _ _
  refine wpAny_bind (wpAny_setField ho hd (by simp) ?_)
  refine wpAny_pure ⟨x,rfl,wpAny_pure (hQ _ ?_ (Heap.SameBut.update ..))⟩
  exact ⟨_,Heap.get?_update_self _ ho (Obj.isFreed_of_fields (Obj.data_mapFields hd _)),(Obj.cls_mapFields ..).trans hc,by
   rw [Obj.data_mapFields hd]; simp⟩
theorem ZeG {it l:Addr} {Q:Option Value->Shared->Prop} (hh:A.handled=none) (hit:IsTRev s.heap it l (-1))
  (hQ:∀ h',Heap.ExtBut it s.heap h'->Q none { s with heap:=h' }):wpAny (model prog w) A (pyNext (.ref it)) Q E s:=by
 obtain ⟨o,ho,hc,hd⟩:=id hit
 have hT:s.TypeIs (.ref it) "reversed":=⟨o,ho,hc⟩
 unfold pyNext
 refine wpAny_bind (wpAny_attempt (wpAny_callSpecial?_slot (name:=Str.ofString "__next__") hT slot_rev_next
  (wpAny_call_entry slot_rev_next hT Zdo ?_ (Zc7 _))))
 unfold Builtin.«reversed.__next__»
 refine wpAny_bind (wpAny_of_eq (a:=(Value.ref it,[])) rfl ?_)
 try dsimp only
 refine wpAny_bind (wpAny_field ho hd (x:=.ref l) rfl ?_)
 refine wpAny_bind (wpAny_field ho hd (x:=rawInt (-1)) rfl ?_)
 show wpAny _ _ (if (-1:Int) < 0 then _ else _) _ _ s
 rw [if_pos (by decide)]
 refine wpAny_bind (wpAny_rule ?_)
 refine wpAny_bind ?_
 show wpAny _ _ (setField (.ref it) 1 (rawInt (-1)) >>= _) _ _ _
 refine wpAny_bind (wpAny_setField ho hd (by simp) ?_)
 have ho2:=Heap.get?_update_self (Obj.mapFields λx_1=>x_1.setIfInBounds 1 (rawInt (-1))) ho (Obj.isFreed_of_fields (Obj.data_mapFields hd _))
 refine wpAny_setField ho2 (Obj.data_mapFields hd _) (by simp) ?_
 have eb:Heap.ExtBut it s.heap ((s.heap.update it (Obj.mapFields λx_1=>x_1.setIfInBounds 1 (rawInt (-1)))).update it (Obj.mapFields λx_1=>x_1.setIfInBounds 0 Value.none)):=λb o' hb e=>(Heap.SameBut.update _ _ _).extBut b o' hb ((Heap.SameBut.update _ _ _).extBut b o' hb e)
 show wpAny _ _ (newExc (.type "StopIteration") [] >>= _ >>= _) _ _ _
 refine wpAny_bind ?_
 refine wpAny_bind ?_
 simp only [newExc,newTuple]
 refine wpAny_bind (wpAny_newObj_type ?_ (by size_fits))
 refine wpAny_bind (m:=firstArgMember _ _) (wpAny_of_eq (a:=Value.none) (by first | rfl | (simp only [firstArgMember]; rfl)) ?_)
 refine wpAny_newObj_type ?_ (by size_fits)
 simp only [raiseNew]
 refine wpAny_bind (wpAny_handled ?_)
 first | rw [show A.in1.handled=none from hh] | rw [hh]
 refine wpAny_bind (wpAny_pure (wpAny_throw ?_))
 refine wpAny_bind (wpAny_isInstance (T:="StopIteration") (b:=true) ⟨_,Heap.get?_push_size _ rfl,rfl⟩ isSubtype_stop ?_)
 exact wpAny_pure (hQ _ ((eb.push _).push _))
theorem ZeH {it l:Addr} {i:Int} {Q:Value->Shared->Prop} (hit:IsTRev s.heap it l i) (h:Q (.ref it) s):wpAny (model prog w) A (pyIter (.ref it)) Q E s:=by
 obtain ⟨o,ho,hc,hd⟩:=id hit
 have hT:s.TypeIs (.ref it) "reversed":=⟨o,ho,hc⟩
 refine wpAny_pyIter_slot hT ZdF (wpAny_call_entry ZdF hT Zfk ?_ (Ze2 _))
 show wpAny _ _ (ret (.ref it)) _ _ s
 exact wpAny_pure ⟨_,rfl,"reversed",_,hT,slot_rev_next.lookup,h⟩
end
noncomputable def Itv (b:Bool) (l:Addr) (n:Nat):It :=
 ⟨λi H=>i < n/\∃ xs,H l=some (hoB b xs)/\xs.length=n,λi H x H'=>H'=H/\∃ xs,H l=some (hoB b xs)/\xs[n - 1 - i]?=some x,λi _=>i=n⟩
noncomputable def RvAt (b:Bool) (h:Heap) (it l:Addr) (i:Int):Prop:=match b with
 | true=>h.IsRevIter it l i
 | false=>IsTRev h it l i
theorem RvAt.there {b:Bool} {h:Heap} {it l:Addr} {i:Int} (x:RvAt b h it l i):∃ o n vs,h.get? it=some o/\o.cls=.type n/\o.data=.fields vs/\["enumerate","zip","dict_itemiterator","dict_reverseitemiterator","odict_iterator","itertools.zip_longest","itertools.pairwise"].contains n=false:=by
 cases b with
 | true=>obtain ⟨o,h1,h2,h3⟩:=x; exact ⟨o,_,_,h1,h2,h3,by decide⟩
 | false=>obtain ⟨o,h1,h2,h3⟩:=x; exact ⟨o,_,_,h1,h2,h3,by decide⟩
theorem RvAt.at {b:Bool} {h h':Heap} {it l:Addr} {i:Int} (x:RvAt b h it l i) (e:∀ o,h.get? it=some o->h'.get? it=some o):RvAt b h' it l i:=by
 cases b with
 | true=>exact Heap.IsRevIter.at x e
 | false=>exact IsTRev.at x e
theorem Zib {P:Program} {w:World} {K:PySem.W.Frag} {tg:Expr} {b:Bool} {l:Addr} {n:Nat} (it:Addr) (hn:(n:Int) < 2 ^ 63):Turn P w K tg (Itv b l n) [it] it (λi h=>RvAt b h it l ((n:Int) - 1 - (i:Nat))) where
 mem:=by simp
 obj:=λi h st c hb=>by
  have e:c=it:=by simpa using hb
  subst e
  obtain ⟨o,_,_,h1,_,h3,_⟩:=st.there
  exact ⟨o,h1,λv z=>by rw [h3] at z; cases z⟩
 keep:=λi h h' st k=>st.at λo e=>k it (by simp) o e
 item:=by
  intro X hP hw hK hc i pins s σ H E I hf st hg
  subst hP hw hK
  obtain ⟨hi,xs,e1,hlen⟩:=hg
  obtain ⟨us,r1,q1⟩:=Zbs I.hok e1
  obtain ⟨f0,f1,f2,f3,f4,f5⟩:=hf it (by simp)
  have hxl:n - 1 - i < xs.length:=by omega
  have hx:xs[n - 1 - i]?=some xs[n - 1 - i]:=List.getElem?_eq_getElem hxl
  obtain ⟨u,hu,ru⟩:=r1.get hx
  have ne:l≠it:=ZaC e1 f0
  have ei:(n:Int) - 1 - (i:Nat)=((n - 1 - i:Nat):Int):=by omega
  have ei2:((n - 1 - i:Nat):Int) - 1=(n:Int) - 1 - ((i+1:Nat):Int):=by omega
  rw [ei] at st
  have usz:us.toArray.size=n:=by rw [List.size_toArray,<- r1.length]; exact hlen
  have fin:∀ (h':Heap) (tk:Nat),RvAt b h' it l ((n:Int) - 1 - ((i+1:Nat):Int))->Heap.SameBut it s.heap h'->∃ u',some u=some u'/\wpAny (model X.prog X.w) X.A (letOwnedTupleGo tg (.ref it) u') (λ_ s2=>∃ x H',Inv X pins σ H' s2/\RelV x u'/\(Itv b l n).yld i H x H'/\RvAt b s2.heap it l ((n:Int) - 1 - ((i+1:Nat):Int))/\∀ b∈[it],H' b=none) E { s with heap:=h',toks:=tk }:=λh' tk st' sb=>by
   have I1:Inv X pins σ H { s with heap:=h',toks:=tk }:=I.turned (λb o hb e=>(sb.2 b hb).trans e) f0 f1 f3 f4 f5
   obtain ⟨o,nm,vs,g1,g2,g3,g4⟩:=st'.there
   exact ⟨u,rfl,Zkx (s:={ s with heap:=h',toks:=tk }) g1 g2 g3 g4 ⟨_,H,I1,ru,⟨rfl,xs,e1,hx⟩,st',λb hb=>(hf b hb).1⟩⟩
  cases b with
  | true =>
   refine wpAny_pyNext_rev_item (i:=n - 1 - i) st q1 (x:=u) (by simpa using hu) λh' st' sb=>?_
   rw [ei2] at st'
   exact fin h' s.toks st' sb
  | false =>
   refine Zel (i:=n - 1 - i) st q1 ne (x:=u) (by simpa using hu) (by rw [usz]; exact hn) λh' st' sb=>?_
   rw [ei2] at st'
   exact fin h' (s.toks+1) st' sb
 done:=by
  intro X hP hw hK hc i pins s σ H E I hf st hg
  subst hP hw hK
  obtain ⟨f0,f1,f2,f3,f4,f5⟩:=hf it (by simp)
  have hi:i=n:=hg
  subst hi
  have e:(i:Int) - 1 - (i:Nat)=-1:=by omega
  rw [e] at st
  cases b with
  | true=>exact wpAny_pyNext_rev_end (I.ok.hd hc) st λh' eb=>⟨rfl,I.turned (t':=s.toks) (λb o hb e=>eb b o hb e) f0 f1 f3 f4 f5⟩
  | false=>exact ZeG (I.ok.hd hc) st λh' eb=>⟨rfl,I.turned (t':=s.toks) (λb o hb e=>eb b o hb e) f0 f1 f3 f4 f5⟩
 self:=λ_ _ _ _ _ st h=>by
  cases b with
  | true=>exact wpAny_pyIter_revIter st h
  | false=>exact ZeH st h
section
variable {X:Cx} {tg:Expr} {PK:Pk} {a b:Expr} {i j:List Sl->Tr PyData} {p pos:Pos}
noncomputable def iRev (ta:TE):TI:=λσ H R=>ta σ H λx H1=>(∃ b l xs,x=.ref l/\H1 l=some (hoB b xs)/\R (Itv b l xs.length) H1) \/
 (∃ l lo hi,x=.ref l/\H1 l=some (.rng lo hi)/\-(2 ^ 62)<=lo/\lo < 2 ^ 62/\-(2 ^ 62)<=hi/\hi < 2 ^ 62/\R (Itd (lo+(hi - lo).toNat - 1) (hi - lo).toNat) H1)
theorem ZpN {ta:TE} (hg:Gl X "reversed") (hm:X.mg "reversed"=none) (ha:PE X a ta)
  (hs:starEach [a] X.env=[(false,eval a X.env)]:=by rfl):PI X tg (.Call (.Name "reversed" p) [a] [] pos) (iRev ta):=by
 intro pins s σ H R I h
 have hab:PA X [a] (Zej ta Zcb):=ZaE ha pa_nil (by rw [hs]; rfl)
 have h':Zej ta Zcb σ H λvs H1=>∃ x,vs=[x]/\((∃ b l xs,x=.ref l/\H1 l=some (hoB b xs)/\R (Itv b l xs.length) H1) \/
   (∃ l lo hi,x=.ref l/\H1 l=some (.rng lo hi)/\-(2 ^ 62)<=lo/\lo < 2 ^ 62/\-(2 ^ 62)<=hi/\hi < 2 ^ 62/\R (Itd (lo+(hi - lo).toNat - 1) (hi - lo).toNat) H1)):=by
  have h0:ta σ H λx H1=>(∃ b l xs,x=.ref l/\H1 l=some (hoB b xs)/\R (Itv b l xs.length) H1) \/
   (∃ l lo hi,x=.ref l/\H1 l=some (.rng lo hi)/\-(2 ^ 62)<=lo/\lo < 2 ^ 62/\-(2 ^ 62)<=hi/\hi < 2 ^ 62/\R (Itd (lo+(hi - lo).toNat - 1) (hi - lo).toNat) H1):=h
  refine cast (congrArg (ta σ H) ?_) h0
  funext x H1
  apply propext
  constructor
  ·exact λq=>⟨x,rfl,q⟩
  ·rintro ⟨y,e,q⟩
   have e':x=y:=by simpa using e
   subst e'
   exact q
 refine Call_ (Zef I hg hm boot_reversed (PyProof.Rows.callWith_type1 (thn (hab pos pins s σ H _ I h') λus s1 hz0=>?_) (by rw [hs]; rfl) rfl))
 obtain ⟨vs,H1,I1,r1,q1⟩:=hz0
 obtain ⟨x,rfl,q1⟩:=q1
 obtain ⟨u,rfl,ru⟩:=ZdY r1
 have fp:∀ c∈[s1.heap.objs.size],Zlh X pins H1 c:=λc hb=>by
  have e:c=s1.heap.objs.size:=by simpa using hb
  subst e
  exact I1.fpOk (Nat.le_refl _) (I1.hok.fresh (Nat.le_refl _))
 have hn:=Zee
 rcases q1 with ⟨b,l,xs,rfl,e1,q⟩ | ⟨l,lo,hi,rfl,e1,b1,b2,b3,b4,q⟩
 ·cases ru
  obtain ⟨us,r2,q2⟩:=Zbs I1.hok e1
  have usz:us.toArray.size=xs.length:=by rw [List.size_toArray,<- r2.length]
  have hz:xs.length<=sizeLine:=by
   cases b with
   | true=>exact (I1.hok _ _ e1).1
   | false=>exact (I1.hok _ _ e1).1
  cases b with
  | true =>
   refine call_reversed_list q2 (wpAny_pyIter_revIter ⟨_,Heap.get?_push_size _ rfl,rfl,rfl⟩ ?_)
   refine ⟨_,_,_,_,H1,rfl,I1.kept (t':=s1.toks) λb o e=>Heap.get?_push_of_some _ e,Zib (b:=true) (l:=l) (n:=xs.length) s1.heap.objs.size (by omega),?_,fp,q⟩
   refine ⟨_,Heap.get?_push_size _ rfl,rfl,?_⟩
   rw [usz]
   show Data.fields #[_,rawInt ((xs.length:Int) - 1)]=Data.fields #[_,rawInt ((xs.length:Int) - 1 - ((0:Nat):Int))]
   simp
  | false =>
   refine ZkT q2 (by rw [usz]; omega) (ZeH ⟨_,Heap.get?_push_size _ rfl,rfl,rfl⟩ ?_)
   refine ⟨_,_,_,_,H1,rfl,I1.kept (t':=s1.toks+1+1) λb o e=>Heap.get?_push_of_some _ e,Zib (b:=false) (l:=l) (n:=xs.length) s1.heap.objs.size (by omega),?_,fp,q⟩
   refine ⟨_,Heap.get?_push_size _ rfl,rfl,?_⟩
   rw [usz]
   show Data.fields #[_,rawInt ((xs.length:Int) - 1)]=Data.fields #[_,rawInt ((xs.length:Int) - 1 - ((0:Nat):Int))]
   simp
 ·cases ru
  obtain ⟨t,u,v,e⟩:=I1.hok _ _ e1
  have hsz:Builtin.Range.rangeSize lo hi 1=((hi - lo).toNat:Int):=by rw [rangeSize_one]; split <;> omega
  refine ZkU e b1 b2 b3 b4 (wpAny_pyIter_rangeiter (Heap.get?_push_size _ rfl) ?_)
  refine ⟨_,_,_,_,H1,rfl,I1.kept (t':=s1.toks) λb o e=>Heap.get?_push_of_some _ e,Zhn s1.heap.objs.size (lo+(hi - lo).toNat - 1) (hi - lo).toNat,?_,fp,q⟩
  rw [hsz]
  have e1:lo+(((hi - lo).toNat:Int) - 1) * 1=lo+(hi - lo).toNat - 1+((0:Nat):Int) * (-1):=by simp; omega
  have e2:((hi - lo).toNat:Int)=((hi - lo).toNat:Int) - ((0:Nat):Int):=by simp
  rw [e1]
  show IsRangeIter _ _ _ (((hi - lo).toNat:Int) - ((0:Nat):Int)) (-1)
  rw [<- e2]
  exact Heap.get?_push_size _ rfl
end
end L2
set_option Elab.async false
set_option linter.all false
set_option maxRecDepth 100000
namespace L2
open PySem PySem.Spec PyProof.Rows
section
variable {X:Cx} {tg:Expr} {PK:Pk} {e:Expr} {i j:List Sl->Tr PyData} {is:List Sl->Tr (List PyData)} {p pos:Pos}
theorem ZlY {pa:Addr} {G:Hp} {lo:Int} {n:Nat}:JOk PK pa (Itd (lo+n - 1) n) G ((Zak lo n).map PyData.int).reverse:=λm G2 H2 sb w=>by
 have hl:((Zak lo n).map PyData.int).length=n:=by rw [List.length_map,ZaR]
 refine ⟨λk x hx=>?_,by show n<=_; rw [List.length_reverse,hl]; exact Nat.le_refl _⟩
 have hk:k < n:=by
  have:=(List.getElem?_eq_some_iff.mp hx).1
  rwa [List.length_reverse,hl] at this
 refine ⟨hk,λy H3 hz0=>?_⟩
 obtain ⟨e1,e2⟩:=hz0
 subst e1 e2
 have:x=.int (lo+n - 1 - k):=by
  rw [List.getElem?_reverse (by rw [hl]; exact hk),hl] at hx
  unfold Zak at hx
  rw [List.map_map,List.getElem?_map,List.getElem?_range (by omega)] at hx
  cases hx
  show PyData.int (lo+((n - 1 - k:Nat):Int))=_
  congr 1
  omega
 subst this
 exact ⟨G2,.refl,w,.int _⟩
noncomputable def Zla (is:List Sl->Tr (List PyData)):List Sl->Tr (List PyData):=λρ=>(is ρ).bind λxs=>(Tr.of (ZiP xs)).bind λys=>.ret ys.reverse
noncomputable def tRg2 (t:TA):TE:=tCB (λxs H Q=>∃ i j:Int,xs=[.int i,.int j]/\∀ p,H p=none->Q (.ref p) (upd H p (.rng i j))) t
theorem Zmp {iter:Expr} (h:PI X tg iter (iRev (tRg2 (TAd PK is)))):PI X tg iter (TAi PK (Zla is)):=h.imp λσ H R0 hz0=>by
 obtain ⟨pa,G₀,H₀,m,ρ,G,R,z⟩:=hz0
 refine TAd.then R z λm1 xs vs G1 H1 s1 w1 R1 d1 q1=>?_
 rw [Tr.ok_bind] at q1
 obtain ⟨ys,hy,q1⟩:=Tr.ok_of q1
 obtain ⟨k,n,e,⟨h1,h2,h3,h4⟩,rfl⟩:=ZgC d1 hy
 refine ⟨k,n,e,λp hp=>?_⟩
 obtain ⟨w2,s2⟩:=w1.own (o:=.rng k n) hp
 refine .inr ⟨p,k,n,rfl,ZaF,h1,h2,h3,h4,?_⟩
 exact q1 (Itd (k+(n - k).toNat - 1) (n - k).toNat) G1 _ (s1.trans s2 w1.some) w2 ZlY
end
section
variable {X:Cx} {PK:Pk} {i n:List Sl->Tr PyData}
end
section
variable {prog:Program} {w:World} {A:Around} {E:Value->Shared->Prop} {s:Shared}
end
section
variable {X:Cx} {PK:Pk} {e st:Expr} {te ts:TE} {i j:List Sl->Tr PyData} {p2 pos:Pos}
end
end L2
set_option Elab.async false
set_option linter.all false
set_option maxRecDepth 100000
namespace L2
open PySem PySem.Spec PyProof.Rows
noncomputable abbrev Zhj (h0 h:Heap):Prop:=∀ c o,h0.get? c=some o->h.get? c=some o
noncomputable def CmpH (prog:Program) (w:World) (A:Around) (h0:Heap) (P:Nat->Value->Prop) (bt:Nat->Nat->Bool):Prop :=
 ∀ i j vi vj (s:Shared) (Q:Value->Shared->Prop) (E:Value->Shared->Prop),j < i->Zhj h0 s.heap->P i vi->P j vj->Q (.bool (bt i j)) s->wpAny (model prog w) A (richCompare .Lt vi vj) Q E s
theorem ZfJ (bt:Nat->Nat->Bool):∀ j,argBest bt j<=j
 | 0=>Nat.le_refl _
 | j+1=>by
  have:=ZfJ bt j
  unfold argBest
  split <;> omega
section
variable {prog:Program} {w:World} {A:Around} {R:Result->Shared->Prop} {I S:Addr} {fp wr:List Addr} {n:Nat} {P:Nat->Value->Prop} {St:Nat->Heap->Prop} {h0:Heap}
theorem ZdJ:(toString "min"++toString ".loop":String)="min.loop":=by decide
theorem ZiX (W:Walks prog w A.in1 I fp wr n P St) (bt:Nat->Nat->Bool) (hcmp:CmpH prog w A.in1 h0 P bt) (hSf:S ∉ fp) (h0w:∀ c o,h0.get? c=some o->c ∉ wr/\c≠S) :
  ∀ (k j:Nat) (s:Shared) (vb:Value) (c:Nat),n - (j+1)=k->j+1<=n->Zhj h0 s.heap->St (j+1) s.heap->P (argBest bt j) vb ->
  s.heap.get? S=some { cls:=.type "list",data:=.seq #[vb,vb] c } ->
  (∀ v h' tk,P (argBest bt (n - 1)) v->(∀ b o,b ∉ wr->b≠S->s.heap.get? b=some o->h'.get? b=some o)->R (.ok (.ret v)) { s with heap:=h',toks:=tk }) ->
  codeAny (model prog w) A (.builtin "min.loop" ⟨[.ref I,.none,.ref S],[]⟩) R s:=by
 have hSw:S ∉ wr:=λh=>hSf (W.sub _ h)
 intro k
 induction k with
 | zero =>
  intro j s vb c hk hj kp hst hPb hS hR
  have hin:j+1=n:=by omega
  refine codeAny_builtin F.entry_min_loop (by
   rw [Around.under_plainId F.plain_min_loop _]
   show wpAny _ A.in1 (seqItems? (.ref S) >>= _) _ _ s
   refine wpAny_bind (wpAny_seqItems hS rfl ?_)
   show wpAny _ A.in1 (tryCatch (pyNext (.ref I)) _ >>= _) _ _ s
   refine wpAny_bind (wpAny_tryCatch (W.done s _ _ (hin ▸ hst) λh' tk hk'=>?_))
   have hS':=hk' S _ hSw hS
   show wpAny _ A.in1 (updateSeq S (λ_=>#[]) >>= _) _ _ _
   refine wpAny_bind (wpAny_updateSeq hS' rfl (wpAny_bind (wpAny_letGo (wpAny_pure ?_))))
   exact hR vb _ tk (by rw [<- hin]; exact hPb) λb o hbw hbS e=>(Heap.get?_update_other _ _ (Ne.symm hbS)).trans (hk' b o hbw e))
 | succ k ih =>
  intro j s vb c hk hj kp hst hPb hS hR
  have hlt:j+1 < n:=by omega
  refine codeAny_builtin F.entry_min_loop (by
   rw [Around.under_plainId F.plain_min_loop _]
   show wpAny _ A.in1 (seqItems? (.ref S) >>= _) _ _ s
   refine wpAny_bind (wpAny_seqItems hS rfl ?_)
   show wpAny _ A.in1 (tryCatch (pyNext (.ref I)) _ >>= _) _ _ s
   refine wpAny_bind (wpAny_tryCatch (W.item (j+1) s _ _ hlt hst λv h' tk hP hst' hk'=>?_))
   have hS':=hk' S _ hSw hS
   have kp':Zhj h0 h':=λc o e=>hk' c o (h0w c o e).1 (kp c o e)
   show wpAny _ A.in1 (tryCatch (holding [v,v] (richCompare .Lt v vb >>= _)) _ >>= _) _ _ _
   refine wpAny_bind (wpAny_tryCatch (wpAny_holding (wpAny_bind (hcmp (j+1) (argBest bt j) v vb _ _ _ (Nat.lt_succ_of_le (ZfJ bt j)) kp' hP hPb (wpAny_bind (wpAny_holding (wpAny_truthy_bool (wpAny_bind (wpAny_letGo (wpAny_pure ?_))))))))))
   cases hb:bt (j+1) (argBest bt j) with
   | true =>
    simp only [if_true]
    refine wpAny_bind (wpAny_updateSeq hS' rfl (wpAny_bind (wpAny_letGo ?_)))
    rw [ZdJ]
    refine wpAny_pure ⟨plainId_quiet F.plain_min_loop _,ih (j+1) _ v _ (by omega) hlt (λc o e=>(Heap.get?_update_other _ _ (Ne.symm (h0w c o e).2)).trans (kp' c o e)) (W.frame _ _ _ hst' λb hbf o e=>?_) (by simp only [argBest,hb,if_true]; exact hP) (Heap.get?_update_self _ hS' rfl)
     λv' h'' tk'' hP' hk''=>hR v' h'' tk'' hP' λb o hbw hbS e=>hk'' b o hbw hbS ((Heap.get?_update_other _ _ (Ne.symm hbS)).trans (hk' b o hbw e))⟩
    exact (Heap.get?_update_other _ _ (λh:S=b=>hSf (by rw [h]; exact hbf))).trans e
   | false =>
    simp only [Bool.false_eq_true,if_false]
    refine wpAny_bind (wpAny_letGo ?_)
    rw [ZdJ]
    exact wpAny_pure ⟨plainId_quiet F.plain_min_loop _,ih (j+1) _ vb c (by omega) hlt kp' hst' (by simp only [argBest,hb,Bool.false_eq_true,if_false]; exact hPb) hS' λv' h'' tk'' hP' hk'' =>
     hR v' h'' tk'' hP' λb o hbw hbS e=>hk'' b o hbw hbS (hk' b o hbw e)⟩)
theorem ZiY (W:Walks prog w A.in1 I fp wr n P St) (bt:Nat->Nat->Bool) (hcmp:CmpH prog w A.in1 h0 P bt) (hSf:S ∉ fp) (h0w:∀ c o,h0.get? c=some o->c ∉ wr/\c≠S) (hn:0 < n) {s:Shared} {c:Nat} (kp:Zhj h0 s.heap) (hst:St 0 s.heap)
  (hS:s.heap.get? S=some { cls:=.type "list",data:=.seq #[] c })
  (hR:∀ v h' tk,P (argBest bt (n - 1)) v->(∀ b o,b ∉ wr->b≠S->s.heap.get? b=some o->h'.get? b=some o)->R (.ok (.ret v)) { s with heap:=h',toks:=tk }) :
  codeAny (model prog w) A (.builtin "min.loop" ⟨[.ref I,.none,.ref S],[]⟩) R s:=by
 have hSw:S ∉ wr:=λh=>hSf (W.sub _ h)
 refine codeAny_builtin F.entry_min_loop (by
  rw [Around.under_plainId F.plain_min_loop _]
  show wpAny _ A.in1 (seqItems? (.ref S) >>= _) _ _ s
  refine wpAny_bind (wpAny_seqItems hS rfl ?_)
  show wpAny _ A.in1 (tryCatch (pyNext (.ref I)) _ >>= _) _ _ s
  refine wpAny_bind (wpAny_tryCatch (W.item 0 s _ _ hn hst λv h' tk hP hst' hk'=>?_))
  have hS':=hk' S _ hSw hS
  have kp':Zhj h0 h':=λc o e=>hk' c o (h0w c o e).1 (kp c o e)
  show wpAny _ A.in1 (updateSeq S (λ_=>#[v,v]) >>= _) _ _ _
  refine wpAny_bind (wpAny_updateSeq hS' rfl ?_)
  rw [ZdJ]
  refine wpAny_pure ⟨plainId_quiet F.plain_min_loop _,ZiX W bt hcmp hSf h0w _ 0 _ v _ rfl hn (λc o e=>(Heap.get?_update_other _ _ (Ne.symm (h0w c o e).2)).trans (kp' c o e)) (W.frame _ _ _ hst' λb hbf o e=>?_) hP (Heap.get?_update_self _ hS' rfl)
   λv' h'' tk'' hP' hk''=>hR v' h'' tk'' hP' λb o hbw hbS e=>hk'' b o hbw hbS ((Heap.get?_update_other _ _ (Ne.symm hbS)).trans (hk' b o hbw e))⟩
  exact (Heap.get?_update_other _ _ (λh:S=b=>hSf (by rw [h]; exact hbf))).trans e)
end
section
variable {prog:Program} {w:World} {A:Around} {E:Value->Shared->Prop} {s:Shared}
theorem Zkd {a b:Value} {Q:Value->Shared->Prop} {c:Bool} (hh:A.handled=none) (hcmp:∀ (s':Shared) (Q:Value->Shared->Prop) (E:Value->Shared->Prop),Zhj s.heap s'.heap->Q (.bool c) s'->wpAny (model prog w) A.in1 (richCompare .Lt b a) Q E s')
  (h:∀ h' tk,Zhj s.heap h'->Q (if c=true then b else a) { s with heap:=h',toks:=tk }):wpAny (model prog w) A (call (.builtin "min") [a,b]) Q E s:=by
 refine call_function_tree F.kind_min F.plain_min F.entry_min (F.args_min2 _ _) (by
  show wpAny _ A.in1 (Builtin.Builtins.bindParams "min" ["key","default"] 0 ⟨[],[]⟩ >>= _) _ _ s
  refine wpAny_bind (wpAny_of_eq (a:=[none,none]) rfl ?_)
  show wpAny _ A.in1 (newTuple [a,b] >>= _) _ _ s
  refine wpAny_bind (wpAny_newObj_type ?_)
  have hT:(s.heap.push { cls:=.type "tuple",data:=.seq #[a,b] }).IsTuple s.heap.objs.size #[a,b]:=⟨_,Heap.get?_push_size _ rfl,rfl,0,rfl⟩
  have hsz:(s.heap.push { cls:=.type "tuple",data:=.seq #[a,b] }).objs.size=s.heap.objs.size+1:=Heap.size_push ..
  have hgk:Zhj s.heap (s.heap.push { cls:=.type "tuple",data:=.seq #[a,b] }):=λc o e=>Heap.get?_push_of_some _ e
  generalize (s.heap.push { cls:=.type "tuple",data:=.seq #[a,b] })=g at hT hsz hgk ⊢
  refine wpAny_bind (wpAny_pyIter_tuple hT (wpAny_bind (wpAny_newObj_type ?_)))
  rw [ZdJ]
  have hlt:∀ {c:Nat} {o:Obj},s.heap.get? c=some o->c < s.heap.objs.size:=λe=>Heap.lt_size e
  have hsz2:∀ ob:Obj,(g.push ob).objs.size=s.heap.objs.size+2:=λob=>by rw [Heap.size_push,hsz]
  have W:=Walks.tuple (prog:=prog) (w:=w) (A:=A.in1) hh g.objs.size s.heap.objs.size (by rw [hsz]; exact Nat.ne_of_lt (Nat.lt_succ_self _)) #[a,b]
  refine wpAny_pure ⟨plainId_quiet F.plain_min_loop _,ZiY (A:=A) (h0:=s.heap) W (λi j=>if i=1/\j=0 then c else false) ?_ ?_ ?_ (show 0 < 2 by decide) ?_ ⟨?_,?_⟩ (Heap.get?_push_size _ rfl) ?_⟩
  ·intro i j vi vj s' Q' E' hji kp hi hj hq
   have hi2:i < 2:=by
    have:=(Array.getElem?_eq_some_iff.mp hi).1
    simpa using this
   have e1:i=1:=by omega
   have e2:j=0:=by omega
   subst e1 e2
   have e3:b=vi:=by simpa using hi
   have e4:a=vj:=by simpa using hj
   subst e3 e4
   exact hcmp s' Q' E' kp (by simpa using hq)
  ·intro hm
   have hm':(g.push { cls:=.type "tuple_iterator",data:=.fields #[.ref s.heap.objs.size,.int 0 0] }).objs.size∈[g.objs.size,s.heap.objs.size]:=hm
   rw [hsz2,hsz] at hm'
   simp at hm'
  ·intro (c:Nat) o e
   have hc:=hlt e
   refine ⟨λhm=>?_,?_⟩
   ·have hm':c=g.objs.size:=by simpa using hm
    rw [hm',hsz] at hc
    omega
   ·show c≠(g.push { cls:=.type "tuple_iterator",data:=.fields #[.ref s.heap.objs.size,.int 0 0] }).objs.size
    rw [hsz2]
    omega
  ·exact λc o e=>Heap.get?_push_of_some _ (Heap.get?_push_of_some _ (hgk c o e))
  ·exact ⟨_,Heap.get?_push_of_some _ (Heap.get?_push_size _ rfl),rfl,rfl⟩
  ·exact hT.at λo e=>Heap.get?_push_of_some _ (Heap.get?_push_of_some _ e)
  ·intro v h' tk hP hk
   have hv:v=if c=true then b else a:=by
    cases c with
    | true =>
     have e:argBest (λi j=>if i=1/\j=0 then true else false) ((#[a,b]:Array Value).size - 1)=1:=rfl
     rw [e] at hP
     simpa using hP.symm
    | false =>
     have e:argBest (λi j=>if i=1/\j=0 then false else false) ((#[a,b]:Array Value).size - 1)=0:=rfl
     rw [e] at hP
     simpa using hP.symm
   rw [hv]
   refine h h' tk λ(c:Nat) o e=>hk c o (λhm=>?_) ?_ (Heap.get?_push_of_some _ (Heap.get?_push_of_some _ (hgk c o e)))
   ·have hc:=hlt e
    have hm':c=g.objs.size:=by simpa using hm
    rw [hm',hsz] at hc
    omega
   ·have hc:=hlt e
    show c≠(g.push { cls:=.type "tuple_iterator",data:=.fields #[.ref s.heap.objs.size,.int 0 0] }).objs.size
    rw [hsz2]
    omega)
end
end L2
namespace L2
open PySem PySem.Spec PyProof.Rows
section
variable {X:Cx}
noncomputable def ZmO:List V->Hp->VK->Prop:=λxs H Q=>∃ a b ns ms,xs=[.ref a,.ref b]/\H a=some (.tup (ns.map V.int))/\H b=some (.tup (ms.map V.int))/\Q (if HT.lexLt ms ns=true then .ref b else .ref a) H
theorem ZfH {k:Nat} (hr:Room k X.A) (hc:X.calm=true):Zdk X (.builtin "min") ZmO:=by
 intro pins s σ H xs us Q I r h
 obtain ⟨a,b,ns,ms,rfl,ha,hb,q⟩:=h
 obtain ⟨u,w',rfl,ru,rw'⟩:=Zln r
 cases ru
 cases rw'
 obtain ⟨u1,r1,p1⟩:=Zbs (b:=false) I.hok ha
 obtain ⟨u2,r2,p2⟩:=Zbs (b:=false) I.hok hb
 have i1:IntsAre u1.toArray.toList ns:=ZfD r1
 have i2:IntsAre u2.toArray.toList ms:=ZfD r2
 refine Zkd (c:=HT.lexLt ms ns) (I.ok.hd hc) (λs' Q' E' kp hq=>?_) λh' tk kp=>⟨_,H,I.kept kp,?_,q⟩
 ·have q1:IsTup s'.heap a u1.toArray:=SqAt.at (b:=false) p1 λo e=>kp a o e
  have q2:IsTup s'.heap b u2.toArray:=SqAt.at (b:=false) p2 λo e=>kp b o e
  exact HT.lt_tupInts q2 q1 i2 i1 (show X.A.units+1 < cLine from by have:=hr.units; omega) hq
 ·cases HT.lexLt ms ns
  ·exact rfl
  ·exact rfl
noncomputable def ZgJ:List PyData->Option PyData
 | [.tuple xs,.tuple ys]=>(ints? xs).bind λns=>(ints? ys).bind λms=>some (if HT.lexLt ms ns=true then .tuple (ms.map PyData.int) else .tuple (ns.map PyData.int))
 | _=>none
theorem Zh7:VCl ZmO ZgJ:=λPK pa m G H vs ds d Q w hv hd k=>by
 unfold ZgJ at hd
 split at hd
 ·rename_i xs ys
  cases e1:ints? xs with
  | none=>rw [e1] at hd; cases hd
  | some ns =>
   cases e2:ints? ys with
   | none=>rw [e1,e2] at hd; cases hd
   | some ms =>
    rw [e1,e2] at hd
    have hd':(if HT.lexLt ms ns=true then PyData.tuple (ms.map PyData.int) else .tuple (ns.map PyData.int))=d:=Option.some.inj hd
    cases hv with
    | cons h1 h2 =>
     cases h2 with
     | cons h2 h3 =>
      cases h3
      cases h1 with
      | @tup a us _ a1 a2 =>
       cases h2 with
       | @tup b ws _ b1 b2 =>
        obtain ⟨rfl,rfl⟩:=a2.ints_inv e1
        obtain ⟨rfl,rfl⟩:=b2.ints_inv e2
        refine ⟨a,b,ns,ms,rfl,w.sub _ _ a1,w.sub _ _ b1,?_⟩
        subst hd'
        cases hl:HT.lexLt ms ns
        ·rw [hl] at k
         exact k.here w (.tup a1 (DnAll.ints _))
        ·rw [hl] at k
         exact k.here w (.tup b1 (DnAll.ints _))
 ·cases hd
end
end L2
namespace L2
open PySem PySem.Spec PyProof.Rows
section
variable {X:Cx} {PK:Pk} {e:Expr} {is:List Sl->Tr (List PyData)}
end
end L2
set_option Elab.async false
set_option linter.all false
set_option maxRecDepth 100000
namespace L2
open PySem PySem.Spec PyProof.Rows
section
variable {prog:Program} {w:World} {A:Around} {E:Value->Shared->Prop} {s:Shared}
end
noncomputable def bestT:List (List Int)->List Int
 | []=>[]
 | x::r=>r.foldl (λb y=>if HT.lexLt y b=true then y else b) x
section
variable {X:Cx}
noncomputable def tups?:List PyData->Option (List (List Int))
 | []=>some []
 | .tuple x::xs=>(ints? x).bind λns=>(tups? xs).bind λr=>some (ns::r)
 | _=>none
noncomputable def min1T:List PyData->Option PyData
 | [.list xs]=>(tups? xs).bind λnss=>if nss.isEmpty=true then none else some (.tuple ((bestT nss).map PyData.int))
 | _=>none
end
end L2
namespace L2
open PySem PySem.Spec PyProof.Rows
section
variable {X:Cx} {PK:Pk} {a b:Expr} {pos:Pos} {j:List Sl->Tr PyData}
noncomputable def ixO (xs:List PyData):PyData->Tr PyData
 | .int i=>Tr.of (atI xs i)
 | _=>.fail
noncomputable def Zmt (k:Nat) (j:List Sl->Tr PyData):List Sl->Tr PyData:=λρ=>(j ρ).bind λy=>match ρ[k]? with
 | some (.own xs)=>ixO xs y
 | some (.d (.list xs))=>ixO xs y
 | _=>.fail
theorem ZqN {G:Hp} {vs:List V} {xs:List PyData} {i:Int} {d:PyData} (h:DnAll G vs xs) (e:atI xs i=some d):∃ v,atI vs i=some v/\Dn G v d:=by
 unfold atI at e ⊢
 rw [h.length]
 cases hi:ixN xs.length i with
 | none=>rw [hi] at e; cases e
 | some n =>
  rw [hi] at e
  exact h.get n e
theorem Zge {α β:Type}:∀ {t:Tr α} {m:Nat} {Z:Nat->β->Prop},(t.bind λ_=>(Tr.fail:Tr β)).ok m Z->False
 | .ret a,m,Z,h=>h
 | .draw n k,m,Z,h=>Zge (t:=k 0) (h.2.2.2 0 (Int.le_refl _) h.2.1)
 | .fail,m,Z,h=>h
theorem Zg7 {k:Nat} (hb:PE X b (TAe PK j)) (ha:PE X a (Zjp k)) (hs:Zh2 b):PE X (.Subscript a b pos) (TAe PK (Zmt k j)):=(ZlM ix_list ha hb hs).imp λσ H Q hz0=>by
 obtain ⟨pa,G₀,H₀,m,ρ,G,R,z⟩:=hz0
 have key:∀ xs:List PyData,(∃ (sl:Sl),ρ[k]?=some sl/\(sl=.own xs\/sl=.d (.list xs)))->((j ρ).bind λy=>ixO xs y).ok m (λm1 x=>Kn PK pa m1 G H x Q)->tOp (rIxL X.K) (Zjp k) (TAe PK j) σ H Q:=λxs ⟨sl,hsl,hx⟩ z=>by
  obtain ⟨o,h1,h2⟩:=R.sl k _ hsl
  have hp:∃ p,o=some (.ref p):=by
   rcases hx with rfl | rfl
   ·cases h2; exact ⟨_,rfl⟩
   ·cases h2 with
    | d q=>cases q; exact ⟨_,rfl⟩
  obtain ⟨p,rfl⟩:=hp
  refine ⟨_,h1,?_⟩
  refine TAe.then R z λm1 y u G1 H1 s1 w1 R1 d1 q1=>?_
  obtain ⟨o',h1',h2'⟩:=R1.sl k _ hsl
  rw [h1] at h1'
  cases h1'
  have hl:∃ vs,H1 p=some (.lst vs)/\DnAll G1 vs xs:=by
   rcases hx with rfl | rfl
   ·cases h2' with
    | own a1 a2 a3 a4=>exact ⟨_,a1,a4⟩
   ·cases h2' with
    | d q=>cases q with
     | lst b1 b2=>exact ⟨_,w1.sub _ _ b1,b2⟩
  obtain ⟨vs,e1,e2⟩:=hl
  cases d1 with
  | int i =>
   obtain ⟨d,hd,kq⟩:=Tr.ok_of q1
   obtain ⟨v,hv,dv⟩:=ZqN e2 hd
   exact ⟨p,vs,i,v,rfl,rfl,SqL.of e1,hv,kq v G1 H1 s1 w1 dv⟩
  | _=>exact q1.elim
 unfold Zmt at z
 cases hk:ρ[k]? with
 | none=>rw [hk] at z; exact (Zge (t:=j ρ) z).elim
 | some sl =>
  rw [hk] at z
  cases sl with
  | own xs=>exact key xs ⟨_,hk,.inl rfl⟩ z
  | d x =>
   cases x with
   | list xs=>exact key xs ⟨_,hk,.inr rfl⟩ z
   | _=>exact (Zge (t:=j ρ) z).elim
  | _=>exact (Zge (t:=j ρ) z).elim
end
end L2
set_option Elab.async false
set_option linter.all false
set_option maxRecDepth 100000
namespace L2
open PySem PySem.Spec PyProof.Rows
section
variable {prog:Program} {w:World} {A:Around} {E:Value->Shared->Prop} {s:Shared}
theorem Zoq {t b:Addr} {ws:List Value} {Q:Value->Shared->Prop} (ht:IsTup s.heap t ([]:List Value).toArray) (hb:IsTup s.heap b ws.toArray) (h1:Q (.ref b) s):wpAny (model prog w) A (binaryOp .Add (.ref t) (.ref b)) Q E s:=by
 obtain ⟨⟨cls,dd,data,sl⟩,ho,hc,n,hd⟩:=id ht
 obtain ⟨⟨cls2,dd2,data2,sl2⟩,ho2,hc2,n2,hd2⟩:=id hb
 simp only at hc hd hc2 hd2
 subst hc hd hc2 hd2
 exact concat_meets ⟨_,ho,rfl⟩ ⟨_,ho2,rfl⟩ noFill_tuple_add seq_tuple_add PySem.F.slot_tuple_add PySem.F.entry_tuple_add (PySem.F.args_tuple_add_2 _ _) (tuple_addW0 t b _ ws.toArray n n2 dd dd2 sl sl2 rfl) ⟨ho,ho2,h1⟩
end
section
variable {X:Cx}
noncomputable def ZpC (K:PySem.W.Frag):R2:=λx y H Q=>∃ a b ys,x=.ref a/\y=.ref b/\SqT K H a []/\SqT K H b ys/\Q (.ref b) H
theorem ZnN:OpR X (binaryOp .Add) (ZpC X.K):=by
 intro pins s σ H x y v u Q I rx ry h
 obtain ⟨a,b,ys,rfl,rfl,ha,hb,q⟩:=h
 cases rx
 cases ry
 obtain ⟨its,r1,p1,_⟩:=I.tuple ha
 obtain ⟨its2,r2,p2,_⟩:=I.tuple hb
 cases r1
 exact Zoq p1 p2 ⟨.ref b,H,I,rfl,q⟩
noncomputable def ZoW:PyData->PyData->Option PyData
 | .tuple [],.tuple ys=>some (.tuple ys)
 | x,y=>ZbW x y
noncomputable def ZpD (K:PySem.W.Frag):R2:=λx y H Q=>ZnB K x y H Q\/ZpC K x y H Q
theorem Zj9:OpR X (binaryOp .Add) (ZpD X.K):=op_addD.or ZnN
theorem Zjt {K:PySem.W.Frag}:Zfc (ZpD K) ZoW:=λPK pa m G H x y dx dy dz Q w hx hy hz k=>by
 unfold ZoW at hz
 split at hz
 ·cases hz
  cases hx with
  | tup a1 a2 =>
   cases a2
   cases hy with
   | tup b1 b2=>exact .inr ⟨_,_,_,rfl,rfl,SqT.of (w.sub _ _ a1),SqT.of (w.sub _ _ b1),k.here w (.tup b1 b2)⟩
 ·exact .inl (ZaM PK pa m G H x y _ _ dz Q w hx hy hz k)
theorem ev_addE0 {ys:List PyData}:Zby ZoW (.tuple []) (.tuple ys)=.ret (.tuple ys):=rfl
theorem ev_addE1 {x:PyData} {xs ys:List PyData} (h:small ((x::xs).length+ys.length)=true):Zby ZoW (.tuple (x::xs)) (.tuple ys)=.ret (.tuple (x::xs++ys)):=by
 show Tr.of (ZbW (.tuple (x::xs)) (.tuple ys))=_
 unfold ZbW
 simp only [List.isEmpty_cons,Bool.not_false,Bool.true_and,h,if_true]
 rfl
end
end L2
set_option Elab.async false
set_option linter.all false
set_option maxRecDepth 100000
namespace L2
open PySem PySem.Spec PyProof.Rows
section
variable {PK:Pk} {X:Cx} {a b:Expr} {pos:Pos} {i j:List Sl->Tr PyData}
noncomputable def ZoL (r:R2) (f:PyData->PyData->Option (List PyData)):Prop:=∀ (PK:Pk) (pa:Addr) (m:Nat) (G H:Hp) (x y:V) (dx dy:PyData) (dz:List PyData) (Q:VK),Wd PK pa m G H->Dn G x dx->Dn G y dy->f dx dy=some dz->Ko1 PK pa m G H dz Q->r x y H Q
noncomputable def Zmv (f:PyData->PyData->Option (List PyData)) (i j:List Sl->Tr PyData):List Sl->Tr (List PyData):=λρ=>(i ρ).bind λx=>(j ρ).bind λy=>Tr.of (f x y)
theorem Zjj {r:R2} {f:PyData->PyData->Option (List PyData)} (hv:ZoL r f):∀ σ H Q,TAo PK (Zmv f i j) σ H Q->tOp r (TAe PK i) (TAe PK j) σ H Q:=by
 rintro σ H Q ⟨pa,G₀,H₀,m,ρ,G,R,q⟩
 refine TAe.then R q λm1 x v G1 H1 s1 w1 R1 d1 q1=>?_
 refine TAe.then R1 q1 λm2 y u G2 H2 s2 w2 R2 d2 q2=>?_
 obtain ⟨z,hz,k⟩:=Tr.ok_of q2
 exact hv PK pa m2 G2 H2 v u x y z Q w2 (d1.mono s2.gs) d2 hz (Ko1.later k (s1.trans s2 w1.some) w2.some)
theorem ao_op {op:Operator} {r:R2} {f:PyData->PyData->Option (List PyData)} (ho:OpR X (binaryOp op) r) (hv:ZoL r f) (ha:PE X a (TAe PK i)) (hb:PE X b (TAe PK j)):PE X (.BinOp a op b pos) (TAo PK (Zmv f i j)) :=
 (ZbJ ho ha hb).imp (Zjj hv)
noncomputable def ZoS:PyData->PyData->Option (List PyData)
 | .list xs,.int k=>if (decide (-1000<=k) && decide (k<=1000) && decide (xs.length<=1000))=true then some (List.replicate k.toNat xs).flatten else none
 | _,_=>none
theorem Zm3 {G:Hp}:∀ {vs:List V} {ds:List PyData} {us:List V} {es:List PyData},DnAll G vs ds->DnAll G us es->DnAll G (vs++us) (ds++es)
 | _,_,_,_,.nil,h=>h
 | _,_,_,_,.cons a b,h=>.cons a (Zm3 b h)
theorem Zm2 {G:Hp} {vs:List V} {ds:List PyData} (h:DnAll G vs ds):∀ k:Nat,DnAll G (List.replicate k vs).flatten (List.replicate k ds).flatten
 | 0=>.nil
 | k+1=>by
  rw [List.replicate_succ,List.replicate_succ,List.flatten_cons,List.flatten_cons]
  exact Zm3 h (Zm2 h k)
theorem Zni:ZoL rRep ZoS:=λPK pa m G H x y dx dy dz Q w hx hy hz k=>by
 unfold ZoS at hz
 split at hz
 ·split at hz
  ·rename_i hc
   cases hz
   simp only [Bool.and_eq_true,decide_eq_true_eq] at hc
   cases hx with
   | lst a1 a2 =>
    cases hy
    refine ⟨_,_,_,rfl,rfl,w.sub _ _ a1,by omega,by omega,?_,λp hp=>?_⟩
    ·rw [a2.length]
     have h0:∀ z:Int,z<=1000->z.toNat<=1000:=λz hz=>by omega
     exact Nat.le_trans (Nat.mul_le_mul hc.2 (h0 _ hc.1.2)) (show 1000 * 1000<=sizeLine by decide)
    ·exact k.new w (Zm2 a2 _) hp
  ·cases hz
 ·cases hz
noncomputable def Zk3 (f:PyData->PyData->Option (List PyData)) (x y:PyData):Tr (List PyData):=Tr.of (f x y)
noncomputable def ZqI (f:PyData->PyData->Option (List PyData)) (j:List Sl->Tr PyData) (ρ:List Sl) (x:PyData):Tr (List PyData):=(j ρ).bind (Zk3 f x)
theorem Zoh {f:PyData->PyData->Option (List PyData)} {ρ:List Sl}:Zmv f i j ρ=(i ρ).bind (ZqI f j ρ):=rfl
theorem Zl9 {f:PyData->PyData->Option (List PyData)} {ρ:List Sl} {x:PyData}:ZqI f j ρ x=(j ρ).bind (Zk3 f x):=rfl
theorem Znz {xs:List PyData} {k:Int} (h:(decide (-1000<=k) && decide (k<=1000) && decide (xs.length<=1000))=true):Zk3 ZoS (.list xs) (.int k)=.ret (List.replicate k.toNat xs).flatten:=by
 simp only [Zk3,ZoS,h,if_true]
 rfl
end
theorem ZdL {α:Type} {n:Nat}:∀ {us:List α},us.length=n+1->∃ (a:α) (t:List α),us=a::t/\t.length=n
 | a::t,h=>⟨a,t,rfl,Nat.succ.inj h⟩
theorem ZlV {α:Type} {us:List α} (h:us.length=0):us=[]:=List.eq_nil_of_length_eq_zero h
theorem len1 {α:Type} {us:List α} (h:us.length=1):∃ a,us=[a]:=by
 obtain ⟨a,t,rfl,h2⟩:=ZdL h
 exact ⟨a,by rw [ZlV h2]⟩
theorem len2 {α:Type} {us:List α} (h:us.length=2):∃ a0 a1,us=[a0,a1]:=by
 obtain ⟨a0,t,rfl,h2⟩:=ZdL h
 obtain ⟨a1,rfl⟩:=len1 h2
 exact ⟨a0,a1,rfl⟩
theorem len3 {α:Type} {us:List α} (h:us.length=3):∃ a0 a1 a2,us=[a0,a1,a2]:=by
 obtain ⟨a0,t,rfl,h2⟩:=ZdL h
 obtain ⟨a1,a2,rfl⟩:=len2 h2
 exact ⟨a0,a1,a2,rfl⟩
theorem len4 {α:Type} {us:List α} (h:us.length=4):∃ a0 a1 a2 a3,us=[a0,a1,a2,a3]:=by
 obtain ⟨a0,t,rfl,h2⟩:=ZdL h
 obtain ⟨a1,a2,a3,rfl⟩:=len3 h2
 exact ⟨a0,a1,a2,a3,rfl⟩
theorem len5 {α:Type} {us:List α} (h:us.length=5):∃ a0 a1 a2 a3 a4,us=[a0,a1,a2,a3,a4]:=by
 obtain ⟨a0,t,rfl,h2⟩:=ZdL h
 obtain ⟨a1,a2,a3,a4,rfl⟩:=len4 h2
 exact ⟨a0,a1,a2,a3,a4,rfl⟩
end L2
set_option Elab.async false
set_option linter.all false
set_option maxRecDepth 100000
namespace L2
open PySem PySem.Spec PyProof.Rows
section
variable {PK:Pk} {X:Cx} {pos:Pos} {n:Nat} {is:List Sl->Tr (List PyData)} {s t:List Sl->Tr Ou}
end
end L2
set_option Elab.async false
set_option linter.all false
set_option maxRecDepth 100000
namespace L2
open PySem PySem.Spec PyProof.Rows
section
variable {PK:Pk} {X:Cx} {a b c d e:Expr} {pos:Pos} {i j l n:List Sl->Tr PyData}
end
end L2
set_option Elab.async false
set_option linter.all false
set_option maxRecDepth 100000
set_option exponentiation.threshold 9000
namespace Tw
open PySem L2
noncomputable def nb (k:Nat) (n:Int):Prop:=n.natAbs < 2 ^ k
theorem Zap {k:Nat} {n:Int} (h:nb k n) (hk:k<=8000):fit n=true:=decide_eq_true (Nat.lt_of_lt_of_le h (Nat.pow_le_pow_right (by decide) hk))
theorem Zar {k l:Nat} {n:Int} (h:nb k n) (hk:k<=l):nb l n:=Nat.lt_of_lt_of_le h (Nat.pow_le_pow_right (by decide) hk)
theorem Za3 {k l:Nat} {m n:Int} (h:nb k m) (h':nb l n):nb (k+l) (m * n):=by
 unfold nb at *
 rw [Int.natAbs_mul,Nat.pow_add]
 exact Nat.mul_lt_mul'' h h'
theorem ZbY {k l:Nat} {m n:Int} (h:nb k m) (h':nb l n):nb (max k l+1) (m+n):=by
 have h1:=Zar h (Nat.le_max_left k l)
 have h2:=Zar h' (Nat.le_max_right k l)
 unfold nb at *
 rw [Nat.pow_succ,Nat.mul_two]
 exact Nat.lt_of_le_of_lt (Int.natAbs_add_le m n) (Nat.add_lt_add h1 h2)
theorem ZfA {k:Nat} {n:Int} (h:nb k n):nb k (-n):=by
 unfold nb at *
 omega
theorem ZcS {k l:Nat} {m n:Int} (h:nb k m) (h':nb l n):nb (max k l+1) (m - n):=by
 rw [Int.sub_eq_add_neg]
 exact ZbY h (ZfA h')
theorem Zbk {k:Nat} {n:Int} (h1:-(2 ^ k:Nat) < n) (h2:n < (2 ^ k:Nat)):nb k n:=by
 unfold nb
 omega
theorem ZgI {k:Nat} {c:Prop} [Decidable c] {m n:Int} (h:nb k m) (h':nb k n):nb k (if c then m else n):=by split <;> assumption
noncomputable def ws (f:Int->Int):Nat->List Int->Int
 | _,[]=>0
 | k,w::l=>w * f k+ws f (k+1) l
theorem ZoZ {f:Int->Int} {a b:Nat} (hf:∀ x:Int,0<=x->nb b (f x)):∀ {l:List Int} {k:Nat},(∀ w∈l,nb a w)->nb (a+b+l.length) (ws f k l)
 | [],k,h=>by unfold ws nb; exact Nat.pos_of_ne_zero (by simp)
 | w::l,k,h=>by
  unfold ws
  have h1:=Za3 (h w (by simp)) (hf k (by omega))
  have h2:=ZoZ hf (l:=l) (k:=k+1) λv hv=>h v (List.mem_cons_of_mem _ hv)
  refine Zar (ZbY h1 h2) ?_
  rw [List.length_cons]
  omega
theorem ZdB {f g:Int->Int}:∀ {l:List Int} {k:Nat},(∀ x:Int,0<=x->f x=g x)->ws f k l=ws g k l
 | [],k,h=>rfl
 | w::l,k,h=>by
  unfold ws
  rw [h k (by omega),ZdB h]
theorem ZmG {a:Nat}:∀ {l:List Int},(∀ w∈l,nb a w)->nb (a+l.length) l.sum
 | [],h=>by unfold nb; simp; exact Nat.pos_of_ne_zero (by simp)
 | w::l,h=>by
  rw [List.sum_cons]
  refine Zar (ZbY (h w (by simp)) (ZmG (l:=l) λv hv=>h v (List.mem_cons_of_mem _ hv))) ?_
  rw [List.length_cons]
  omega
structure Shp where
 top:Int
 depth:Int
 start:Int
 piece:Int
 keep:Int
 lack:Int
 lost:Int
 back:Int
 late:Int
noncomputable def Shp.l (s:Shp):List Int:=[s.top,s.depth,s.start,s.piece,s.keep,s.lack,s.lost,s.back,s.late]
@[irreducible] noncomputable def Shp.d (s:Shp):PyData:=.tuple (s.l.map PyData.int)
structure Shp.Ok (s:Shp):Prop where
 t0:0<=s.top
 d0:0<=s.depth
 td:s.top+s.depth<=100
 start0:0<=s.start
 start:nb 45 s.start
 piece:nb 45 s.piece
 keep:nb 45 s.keep
 lack:nb 45 s.lack
 lost:nb 45 s.lost
 back:nb 45 s.back
 late:nb 45 s.late
theorem shp_0 (s:Shp):Zby ixD s.d (.int 0)=.ret (.int s.top):=by unfold Shp.d; rw [ev_ixT]; exact congrArg Tr.of at_0
theorem shp_1 (s:Shp):Zby ixD s.d (.int 1)=.ret (.int s.depth):=by unfold Shp.d; rw [ev_ixT]; exact congrArg Tr.of at_1
theorem shp_2 (s:Shp):Zby ixD s.d (.int 2)=.ret (.int s.start):=by unfold Shp.d; rw [ev_ixT]; exact congrArg Tr.of at_2
theorem shp_3 (s:Shp):Zby ixD s.d (.int 3)=.ret (.int s.piece):=by unfold Shp.d; rw [ev_ixT]; exact congrArg Tr.of at_3
theorem shp_4 (s:Shp):Zby ixD s.d (.int 4)=.ret (.int s.keep):=by unfold Shp.d; rw [ev_ixT]; exact congrArg Tr.of at_4
theorem shp_5 (s:Shp):Zby ixD s.d (.int 5)=.ret (.int s.lack):=by unfold Shp.d; rw [ev_ixT]; exact congrArg Tr.of at_5
theorem shp_6 (s:Shp):Zby ixD s.d (.int 6)=.ret (.int s.lost):=by unfold Shp.d; rw [ev_ixT]; exact congrArg Tr.of at_6
theorem shp_7 (s:Shp):Zby ixD s.d (.int 7)=.ret (.int s.back):=by unfold Shp.d; rw [ev_ixT]; exact congrArg Tr.of at_7
theorem shp_8 (s:Shp):Zby ixD s.d (.int 8)=.ret (.int s.late):=by unfold Shp.d; rw [ev_ixT]; exact congrArg Tr.of at_8
section
variable (s:Shp)
noncomputable def Shp.nx (y f:Int):Int:=Zdi (y - f) (-s.depth)
noncomputable def Shp.day (y f:Int):Int:=(if s.nx y f > 0 then s.keep * s.nx y f else s.lack * -s.nx y f)+s.lost * (s.nx y f - (y - f))
noncomputable def Shp.ord (x y:Int):Int:=if y<=x then 0 else s.start+s.piece * (y - x)
noncomputable def Shp.wg (day:List Int) (y:Int) (ahead:Int->Int) (sc:Int):Int:=ws (λf=>sc * s.day y f+ahead (s.nx y f)) 0 day
noncomputable def Shp.sm (day:List Int) (ahead:Int->Int) (sc:Int) (y:Int):Int:=sc * day.sum * s.piece * y+s.wg day y ahead sc
end
noncomputable def Shp.n (s:Shp):Nat:=(s.top+1 - -s.depth).toNat
noncomputable def Shp.row (s:Shp) (f:Int->Int):List Int:=(Zak (-s.depth) s.n).map f
noncomputable def lI (l:List Int):PyData:=.list (l.map PyData.int)
noncomputable def tI (l:List Int):PyData:=.tuple (l.map PyData.int)
theorem Shp.Ok.n_eq {s:Shp} (h:s.Ok):(s.n:Int)=s.top+s.depth+1:=by have:=h.t0; have:=h.d0; unfold Shp.n; omega
theorem Zhu (s:Shp) (f:Int->Int):(s.row f).length=s.n:=by unfold Shp.row; rw [List.length_map,ZaR]
theorem ZeD {s:Shp} {f:Int->Int} {x:Int} (h1:-s.depth<=x) (h2:x<=s.top):(s.row f)[(x+s.depth).toNat]?=some (f x):=by
 unfold Shp.row Zak
 rw [List.map_map,List.getElem?_map,List.getElem?_range (by unfold Shp.n; omega)]
 show some (f (-s.depth+((x+s.depth).toNat:Int)))=_
 congr 2
 omega
theorem Zhv {s:Shp} {f:Int->Int} {x:Int} (h1:-s.depth<=x) (h2:x<=s.top):atI ((s.row f).map PyData.int) (x+s.depth)=some (.int (f x)) :=
 ZcC (by omega) (by rw [List.getElem?_map,ZeD h1 h2]; rfl)
theorem Zga (s:Shp) (y f:Int):-s.depth<=s.nx y f:=by unfold Shp.nx Zdi; split <;> omega
theorem Zf9 {s:Shp} (h:s.Ok) {y f:Int} (hy:y<=s.top) (hf:0<=f):s.nx y f<=s.top:=by have:=h.t0; have:=h.d0; unfold Shp.nx Zdi; split <;> omega
end Tw
set_option Elab.async false
set_option linter.all false
set_option maxRecDepth 100000
namespace L2
open PySem PySem.Spec PyProof.Rows
variable {ρ:List Sl} {s t:List Sl->Tr Ou} {i j l:List Sl->Tr PyData} {is:List Sl->Tr (List PyData)} {k n:Nat} {x y d:PyData} {xs ys:List PyData} {sl:Sl}
theorem rb2 {α β:Type} {a:α} {f:α->Tr β}:(Tr.ret a).bind f=f a:=Eq.trans (Tr.ret_bind a f) (Eq.refl _)
noncomputable def rvi2 (xs:List PyData):Tr (List PyData):=.ret xs.reverse
theorem ev_rvi2:rvi2 xs=.ret xs.reverse:=rfl
noncomputable def rvr2 (xs:List PyData):Tr (List PyData):=(ZoR xs).bind rvi2
theorem ev_revR2:Zla is ρ=(is ρ).bind rvr2:=rfl
theorem ev_rvr2:rvr2 xs=(ZoR xs).bind rvi2:=rfl
noncomputable def ext2 (k:Nat) (ρ:List Sl) (xs:List PyData):PyData->Tr Ou
 | .list ys=>if small (xs.length+ys.length)=true then .ret (.next (ρ.set k (.own (xs++ys)))) else .fail
 | _=>.fail
theorem ev_min2T (a b c d:Int):cb1 ZgJ [.tuple [.int a,.int b],.tuple [.int c,.int d]]=.ret (if c < a\/c=a/\d < b then .tuple [.int c,.int d] else .tuple [.int a,.int b]):=by
 have h1:ints? [PyData.int a,.int b]=some [a,b]:=ints?_map [a,b]
 have h2:ints? [PyData.int c,.int d]=some [c,d]:=ints?_map [c,d]
 unfold cb1 ZgJ
 simp only [h1,h2]
 show Tr.of (some _)=_
 rw [Tr.of_some]
 have e:HT.lexLt [c,d] [a,b]=true ↔ (c < a\/c=a/\d < b):=by
  simp only [HT.lexLt_cons,HT.lexLt_nil_nil]
  by_cases hca:c=a
  ·subst hca
   by_cases hdb:d=b
   ·simp [hdb]
   ·simp [hdb]
  ·simp [hca]
 by_cases hc:(c < a\/c=a/\d < b)
 ·rw [if_pos (e.mpr hc),if_pos hc]; rfl
 ·rw [if_neg (λz=>hc (e.mp z)),if_neg hc]; rfl
theorem ZnV (ns:List Int) (h:ns≠[]):cb1 ZlS [.list (ns.map PyData.int)]=.ret (.int (Zhk ns)):=by
 unfold cb1 ZlS onL
 simp [h]
theorem ZnY (ns:List Int) (h:ns≠[]):cb1 Zem [.list (ns.map PyData.int)]=.ret (.int (ZgL ns)):=by
 unfold cb1 Zem onL
 simp [h]
noncomputable def Zn6:Nat->List Sl->PyData->Tr PyData
 | 0,.own xs::_,y=>ixO xs y
 | 0,.d (.list xs)::_,y=>ixO xs y
 | k+1,_::ρ,y=>Zn6 k ρ y
 | _,_,_=>.fail
theorem ev_ixO:Zmt k j ρ=(j ρ).bind (Zn6 k ρ):=by
 have key:∀ (k:Nat) (σ:List Sl) (y:PyData),(match σ[k]? with | some (Sl.own xs)=>ixO xs y | some (Sl.d (.list xs))=>ixO xs y | _=>Tr.fail)=Zn6 k σ y:=by
  intro k
  induction k with
  | zero =>
   intro σ y
   cases σ with
   | nil=>rfl
   | cons s r =>
    cases s with
    | d x=>cases x <;> rfl
    | _=>rfl
  | succ k ih =>
   intro σ y
   cases σ with
   | nil=>rfl
   | cons s r=>exact ih r y
 unfold Zmt
 exact congrArg (Tr.bind (j ρ)) (funext λy=>key k ρ y)
theorem ev_ixo0 (n:Int):Zn6 0 (.own xs::ρ) (.int n)=Tr.of (atI xs n):=rfl
theorem ev_ixo0d (n:Int):Zn6 0 (.d (.list xs)::ρ) (.int n)=Tr.of (atI xs n):=rfl
theorem ev_ixoS:Zn6 (k+1) (sl::ρ) y=Zn6 k ρ y:=rfl
theorem al_ex {α:Type} {t:Tr α} {P:α->Prop} (h:Al t 0 P):∃ a,t=.ret a/\P a:=by
 have h':=h.out
 cases t with
 | ret a=>exact ⟨a,rfl,h'⟩
 | draw w k=>exact h'.elim
 | fail=>exact h'.elim
theorem ZqS {α:Type} {t:Tr α} {a:α} (h:Al t 0 λb=>b=a):t=.ret a:=by
 obtain ⟨b,e,rfl⟩:=al_ex h
 exact e
theorem Zix {s:List Sl->Tr Ou} {g:PyData->List Sl->Option (List Sl)} {n:Nat} {full:List PyData} (I:List PyData->List Sl->Prop) {Q:Ou->Prop} (ht:∀ pre x post ρ,full=pre++x::post->I pre ρ->∃ ρ1,g x ρ=some ρ1/\(s ρ1).all n λo=>∃ ρ2,o=.next ρ2/\I (pre++[x]) ρ2) (hq:∀ ρ,I full ρ->Q (.next ρ)) :
  ∀ {xs pre:List PyData} {ρ:List Sl},full=pre++xs->I pre ρ->(Zdw g s xs ρ).all (xs.length * n) Q
 | [],pre,ρ,e,h0=>hq ρ (by rw [e,List.append_nil]; exact h0)
 | x::xs,pre,ρ,e0,h0=>by
  obtain ⟨ρ1,e,ha⟩:=ht pre x xs ρ e0 h0
  have en:(x::xs).length * n=n+xs.length * n:=by rw [List.length_cons,Nat.succ_mul]; omega
  rw [en,ZbP,e,Tr.of_some,Tr.ret_bind]
  unfold ZoV
  refine Tr.all_bind ha λo ⟨ρ2,eo,h2⟩=>?_
  subst eo
  rw [ev_for3n]
  exact Zix I ht hq (by rw [e0,List.append_assoc]; rfl) h2
theorem ZhW {n N:Nat} {g:PyData->List Sl->Option (List Sl)} {s:List Sl->Tr Ou} {xs:List PyData} {ρ:List Sl} {Q:Ou->Prop} (I:List PyData->List Sl->Prop) (h0:I [] ρ) (hN:xs.length * n<=N) (ht:∀ pre x post ρ,xs=pre++x::post->I pre ρ->∃ ρ1,g x ρ=some ρ1/\Al (s ρ1) n λo=>∃ ρ2,o=.next ρ2/\I (pre++[x]) ρ2) (hq:∀ ρ,I xs ρ->Q (.next ρ)):Al (Zdw g s xs ρ) N Q :=
 .of (Tr.all_mono (Zix (full:=xs) I (λpre x post ρ e h=>let ⟨ρ1,e,a⟩:=ht pre x post ρ e h; ⟨ρ1,e,a.out⟩) hq (pre:=[]) rfl h0) hN λ_ h=>h)
theorem Zf1 {lo hi:Int} {pre post:List PyData} {x:PyData} (h:ZbM lo hi=pre++x::post):x=.int (lo+pre.length)/\(pre.length:Int) < hi - lo:=by
 have h1:(ZbM lo hi)[pre.length]?=some x:=by rw [h]; simp
 have hl:pre.length < (ZbM lo hi).length:=(List.getElem?_eq_some_iff.mp h1).1
 rw [Za4] at hl
 unfold ZbM Zak at h1
 rw [List.map_map,List.getElem?_map,List.getElem?_range (by omega)] at h1
 refine ⟨?_,by omega⟩
 cases h1
 rfl
theorem Zlz {lo hi:Int} {pre post:List PyData} {x:PyData} (h:(ZbM lo hi).reverse=pre++x::post):x=.int (hi - 1 - pre.length)/\(pre.length:Int) < hi - lo:=by
 have h1:((ZbM lo hi).reverse)[pre.length]?=some x:=by rw [h]; simp
 have hl:pre.length < ((ZbM lo hi).reverse).length:=(List.getElem?_eq_some_iff.mp h1).1
 rw [List.length_reverse,Za4] at hl
 rw [List.getElem?_reverse (by rw [Za4]; exact hl),Za4] at h1
 unfold ZbM Zak at h1
 rw [List.map_map,List.getElem?_map,List.getElem?_range (by omega)] at h1
 refine ⟨?_,by omega⟩
 cases h1
 show PyData.int (lo+(((hi - lo).toNat - 1 - pre.length:Nat):Int))=_
 congr 1
 omega
theorem ZlT {h:PyData->Tr PyData} {f:Int->PyData} {lo hi:Int} (hx:∀ z:Int,lo<=z->z < hi->h (.int z)=.ret (f z)):Zdb h (ZbM lo hi)=.ret ((Zak lo (hi - lo).toNat).map f):=by
 have key:∀ l:List Int,(∀ z∈l,lo<=z/\z < hi)->Zdb h (l.map PyData.int)=.ret (l.map f):=by
  intro l
  induction l with
  | nil=>intro _; rfl
  | cons z l ih =>
   intro hz
   have hh:=hz z (by simp)
   rw [List.map_cons,Zdb,hx z hh.1 hh.2,Tr.ret_bind,ih λy hy=>hz y (List.mem_cons_of_mem _ hy)]
   rfl
 unfold ZbM
 refine key _ λz hz=>?_
 have:=Zd1 hz
 omega
theorem Zmb {xs:List PyData} {pre post:List PyData} {x:PyData} (h:Zdy xs=pre++x::post):∃ y,xs[pre.length]?=some y/\x=.tuple [.int pre.length,y]:=by
 have h1:(Zdy xs)[pre.length]?=some x:=by rw [h]; simp
 unfold Zdy at h1
 rw [List.getElem?_zipWith] at h1
 cases hx:xs[pre.length]? with
 | none=>rw [hx] at h1; simp at h1
 | some y =>
  have hl:pre.length < xs.length:=(List.getElem?_eq_some_iff.mp hx).1
  rw [hx,List.getElem?_range hl] at h1
  simp at h1
  exact ⟨y,rfl,h1.symm⟩
theorem ZkC (xs:List PyData):(Zdy xs).length=xs.length:=by unfold Zdy; simp
end L2
set_option Elab.async false
set_option linter.all false
set_option maxRecDepth 100000
namespace Tw
open PySem L2
noncomputable def bst (g:Int->Int) (top:Int):Nat->Int×Int
 | 0=>(g top,top)
 | n+1=>if (bst g top n).1 < g (top - ((n+1:Nat):Int)) then bst g top n else (g (top - ((n+1:Nat):Int)),top - ((n+1:Nat):Int))
theorem Zgl (g:Int->Int) (top:Int):∀ n:Nat,top - n<=(bst g top n).2/\(bst g top n).2<=top/\g (bst g top n).2=(bst g top n).1
 | 0=>by unfold bst; simp
 | n+1=>by
  have ih:=Zgl g top n
  unfold bst
  split
  ·exact ⟨by omega,ih.2.1,ih.2.2⟩
  ·exact ⟨Int.le_refl _,by omega,rfl⟩
theorem ZhT (g:Int->Int) (top:Int):∀ (n:Nat) (y:Int),top - n<=y->y<=top->(bst g top n).1<=g y
 | 0,y,h1,h2=>by
  have:y=top:=by omega
  subst this
  unfold bst
  exact Int.le_refl _
 | n+1,y,h1,h2=>by
  by_cases hy:y=top - ((n+1:Nat):Int)
  ·unfold bst
   split
   ·subst hy; omega
   ·subst hy; exact Int.le_refl _
  ·have ih:=ZhT g top n y (by omega) h2
   unfold bst
   split
   ·exact ih
   ·omega
noncomputable def pck (g:Int->Int) (top K x:Int):Int×Int :=
 match (top - x).toNat with
 | 0=>(g x,x)
 | n+1=>if K+(bst g top n).1 < g x then (K+(bst g top n).1,(bst g top n).2) else (g x,x)
noncomputable def cst (g:Int->Int) (top K P x:Int):Int:=(pck g top K x).1 - P * x
noncomputable def lvl (g:Int->Int) (top K x:Int):Int:=(pck g top K x).2
theorem Zdt (g:Int->Int) (top K:Int):pck g top K top=(g top,top):=by
 unfold pck
 rw [Int.sub_self]
 rfl
theorem ZeL (g:Int->Int) (top K:Int) (n:Nat):pck g top K (top - ((n+1:Nat):Int))=if K+(bst g top n).1 < g (top - ((n+1:Nat):Int)) then (K+(bst g top n).1,(bst g top n).2) else (g (top - ((n+1:Nat):Int)),top - ((n+1:Nat):Int)):=by
 unfold pck
 have e:(top - (top - ((n+1:Nat):Int))).toNat=n+1:=by omega
 rw [e]
theorem ZmR {g:Int->Int} {top K x:Int} (hx:x<=top):(pck g top K x).1<=g x/\∀ y,x < y->y<=top->(pck g top K x).1<=K+g y:=by
 by_cases ht:x=top
 ·subst ht
  rw [Zdt]
  exact ⟨Int.le_refl _,λy h1 h2=>by omega⟩
 ·obtain ⟨n,hn⟩:∃ n:Nat,x=top - ((n+1:Nat):Int):=⟨(top - x - 1).toNat,by omega⟩
  subst hn
  rw [ZeL]
  split
  ·rename_i hc
   exact ⟨by dsimp only; omega,λy h1 h2=>by have:=ZhT g top n y (by omega) h2; dsimp only; omega⟩
  ·rename_i hc
   exact ⟨Int.le_refl _,λy h1 h2=>by have:=ZhT g top n y (by omega) h2; dsimp only; omega⟩
theorem Zj5 {g:Int->Int} {top K x:Int} (hx:x<=top):x<=(pck g top K x).2/\(pck g top K x).2<=top/\(((pck g top K x).2=x/\(pck g top K x).1=g x)\/(x < (pck g top K x).2/\(pck g top K x).1=K+g (pck g top K x).2/\(pck g top K x).1 < g x)):=by
 by_cases ht:x=top
 ·subst ht
  rw [Zdt]
  exact ⟨Int.le_refl _,Int.le_refl _,.inl ⟨rfl,rfl⟩⟩
 ·obtain ⟨n,hn⟩:∃ n:Nat,x=top - ((n+1:Nat):Int):=⟨(top - x - 1).toNat,by omega⟩
  subst hn
  rw [ZeL]
  have hb:=Zgl g top n
  split
  ·rename_i hc
   exact ⟨by dsimp only; omega,hb.2.1,.inr ⟨by dsimp only; omega,by dsimp only; rw [hb.2.2],hc⟩⟩
  ·exact ⟨Int.le_refl _,by dsimp only; omega,.inl ⟨rfl,rfl⟩⟩
theorem Zj6 {g g':Int->Int} {top K x:Int} (h:∀ y,x<=y->y<=top->g y=g' y) (hx:x<=top):pck g top K x=pck g' top K x:=by
 have key:∀ n:Nat,x<=top - n->bst g top n=bst g' top n:=by
  intro n
  induction n with
  | zero=>intro hn; unfold bst; rw [h top (by omega) (by omega)]
  | succ n ih =>
   intro hn
   unfold bst
   rw [ih (by omega),h _ hn (by omega)]
 by_cases ht:x=top
 ·subst ht
  rw [Zdt,Zdt,h x (by omega) (by omega)]
 ·obtain ⟨n,hn⟩:∃ n:Nat,x=top - ((n+1:Nat):Int):=⟨(top - x - 1).toNat,by omega⟩
  subst hn
  rw [ZeL,ZeL,key n (by omega),h _ (by omega) (by omega)]
structure DayB (l:List Int):Prop where
 len:l.length<=16
 nb:∀ w∈l,nb 30 w
 w0:∀ w∈l,0<=w
 pos:0 < l.sum
theorem ZfE {s:Shp} (h:s.Ok) {y f:Int} (hy:nb 20 y) (hf:nb 40 f):nb 100 (s.day y f):=by
 have hd:nb 7 s.depth:=by have:=h.t0; have:=h.d0; have:=h.td; exact Zbk (by show -128 < _; omega) (by show _ < 128; omega)
 have hn:nb 50 (s.nx y f):=by
  unfold Shp.nx Zdi
  exact ZgI (Zar (ZfA hd) (by decide)) (Zar (ZcS hy hf) (by decide))
 unfold Shp.day
 refine Zar (ZbY (ZgI (k:=95) (Za3 h.keep hn) (Za3 h.lack (ZfA hn))) (Za3 h.lost (ZcS hn (ZcS hy hf)))) (by decide)
noncomputable def Bd (s:Shp) (b:Nat) (f:Int->Int):Prop:=∀ x,-s.depth<=x->x<=s.top->nb b (f x)
theorem wg_nb {s:Shp} (h:s.Ok) {day:List Int} (hd:DayB day) {y:Int} (y1:-s.depth<=y) (y2:y<=s.top) {A:Int->Int} {b:Nat} (hA:Bd s b A) {sc:Int} (hs:nb b sc):nb (b+150) (s.wg day y A sc):=by
 have:=h.t0
 have:=h.d0
 have:=h.td
 have hlen:=hd.len
 have hy:nb 20 y:=Zbk (by show -1048576 < _; omega) (by show _ < 1048576; omega)
 have key:∀ (l:List Int) (k:Nat),(∀ w∈l,nb 30 w)->k+l.length<=16->nb (30+(b+101)+l.length) (ws (λf=>sc * s.day y f+A (s.nx y f)) k l):=by
  intro l
  induction l with
  | nil=>intro k _ _; unfold ws nb; exact Nat.pos_of_ne_zero (by simp)
  | cons w l ih =>
   intro k hw hk
   rw [List.length_cons] at hk ⊢
   have hf:nb 40 (k:Int):=Zbk (by show -1099511627776 < _; omega) (by show _ < 1099511627776; omega)
   have b1:=ZbY (Za3 hs (ZfE h hy hf)) (hA _ (Zga s y k) (Zf9 h y2 (show (0:Int)<=k by omega)))
   have h1:=Za3 (hw w (by simp)) b1
   have h2:=ih (k+1) (λv hv=>hw v (List.mem_cons_of_mem _ hv)) (by omega)
   unfold ws
   exact Zar (ZbY h1 h2) (by omega)
 exact Zar (key day 0 hd.nb (by omega)) (by omega)
theorem ZbU {day:List Int} (hd:DayB day):nb 46 day.sum:=Zar (ZmG hd.nb) (by have:=hd.len; omega)
theorem sm_nb {s:Shp} (h:s.Ok) {day:List Int} (hd:DayB day) {A:Int->Int} {b:Nat} (hA:Bd s b A) {sc:Int} (hs:nb b sc):Bd s (b+151) (s.sm day A sc):=λy y1 y2=>by
 have:=h.t0
 have:=h.d0
 have:=h.td
 have hy:nb 20 y:=Zbk (by show -1048576 < _; omega) (by show _ < 1048576; omega)
 unfold Shp.sm
 exact Zar (ZbY (Za3 (Za3 (Za3 hs (ZbU hd)) h.piece) hy) (wg_nb h hd y1 y2 hA hs)) (by omega)
end Tw
set_option Elab.async false
set_option linter.all false
set_option maxRecDepth 100000
namespace Tw
open PySem L2
noncomputable abbrev rng (lo hi:Int):List Int:=Zak lo (hi - lo).toNat
variable {α:Type}
theorem Zd2 (lo:Int) (a b:Nat):Zak lo (a+b)=Zak lo a++Zak (lo+a) b:=by
 unfold Zak
 rw [List.range_add,List.map_append,List.map_map]
 congr 1
 apply List.map_congr_left
 intro k _
 show lo+((a+k:Nat):Int)=lo+(a:Int)+(k:Int)
 omega
noncomputable def f3 (lo a b c:Int) (t:Int->Int->Int->Option α):Option α:=(rng lo a).findSome? λu=>(rng (u+1) b).findSome? λv=>(rng (v+1) c).findSome? λw=>t u v w
end Tw
set_option Elab.async false
set_option linter.all false
set_option maxRecDepth 100000
namespace Tw
open PySem L2
noncomputable def enu:Nat->List Int->List PyData
 | _,[]=>[]
 | k,n::ns=>.tuple [.int k,.int n]::enu (k+1) ns
theorem ZkE:∀ (ns:List Int) (k:Nat),(List.range' k (ns.map PyData.int).length).zipWith (λ(n:Nat) x=>PyData.tuple [.int n,x]) (ns.map PyData.int)=enu k ns
 | [],k=>rfl
 | n::ns,k=>by
  rw [List.map_cons,List.length_cons,List.range'_succ,List.zipWith_cons_cons,ZkE ns (k+1)]
  rfl
theorem ZkF (ns:List Int):Zdy (ns.map PyData.int)=enu 0 ns:=by
 unfold Zdy
 rw [List.range_eq_range',ZkE]
theorem ZkD:∀ (ns:List Int) (k:Nat),(enu k ns).length=ns.length
 | [],k=>rfl
 | n::ns,k=>by rw [enu,List.length_cons,List.length_cons,ZkD ns]
noncomputable def snF:Nat->List Int->List Int
 | _,[]=>[]
 | k,n::ns=>if n > 0 then (k:Int)::snF (k+1) ns else snF (k+1) ns
theorem ZjJ:∀ {ns:List Int} {k:Nat},(∃ n∈ns,n > 0)->snF k ns≠[]
 | [],k,h=>by obtain ⟨n,h,_⟩:=h; cases h
 | n::ns,k,h=>by
  unfold snF
  split
  ·simp
  ·rename_i hn
   obtain ⟨m,hm,hp⟩:=h
   rcases List.mem_cons.mp hm with rfl | hm
   ·exact absurd hp hn
   ·exact ZjJ ⟨m,hm,hp⟩
noncomputable def great (ls:List Int):Int:=ZgL (snF 0 ls)
structure DayOk (most:Nat) (ls:List Int):Prop where
 len:ls.length<=most
 pos:∃ n∈ls,n > 0
 le:∀ n∈ls,0<=n/\n<=1001
theorem Zpg {ls:List Int} (h:∀ n∈ls,0<=n):∀ n∈ls,n<=ls.sum:=by
 induction ls with
 | nil=>intro n hn; cases hn
 | cons a l ih =>
  intro n hn
  have h0:0<=l.sum:=by
   clear ih hn
   have h':∀ n∈l,0<=n:=λm hm=>h m (List.mem_cons_of_mem _ hm)
   clear h
   induction l with
   | nil=>decide
   | cons b l ih2 =>
    rw [List.sum_cons]
    have:=h' b (by simp)
    have:=ih2 λm hm=>h' m (List.mem_cons_of_mem _ hm)
    omega
  have ha:=h a (by simp)
  rw [List.sum_cons]
  rcases List.mem_cons.mp hn with rfl | hn
  ·omega
  ·have:=ih (λm hm=>h m (List.mem_cons_of_mem _ hm)) n hn
   omega
theorem DayOk.B {m:Nat} {ls:List Int} (h:DayOk m ls) (hm:m<=16):DayB ls:=by
 refine ⟨Nat.le_trans h.len hm,λw hw=>?_,λw hw=>(h.le w hw).1,?_⟩
 ·have:=h.le w hw
  exact Zbk (by show -1073741824 < _; omega) (by show _ < 1073741824; omega)
 ·obtain ⟨n,hn,hp⟩:=h.pos
  have:=Zpg (λn hn=>(h.le n hn).1) n hn
  omega
structure Shp.Dr (s:Shp):Prop where
 t0:0<=s.top
 d0:0<=s.depth
 td:s.top+s.depth<=39
 p:∀ n∈[s.start,s.piece,s.keep,s.lack,s.lost,s.back,s.late],0<=n/\n<=1000000
theorem Shp.Dr.ok {s:Shp} (h:s.Dr):s.Ok:=by
 have hp:=h.p
 simp only [List.mem_cons,List.not_mem_nil,or_false,forall_eq_or_imp,forall_eq] at hp
 obtain ⟨h1,h2,h3,h4,h5,h6,h7⟩:=hp
 have k:∀ n:Int,0<=n/\n<=1000000->nb 45 n:=λn hn=>Zbk (by show -35184372088832 < _; omega) (by show _ < 35184372088832; omega)
 exact ⟨h.t0,h.d0,by have:=h.td; omega,h1.1,k _ h1,k _ h2,k _ h3,k _ h4,k _ h5,k _ h6,k _ h7⟩
theorem ZmI {a b c d e f g h i:Int}:PyData.tuple [.int a,.int b,.int c,.int d,.int e,.int f,.int g,.int h,.int i]=(Shp.mk a b c d e f g h i).d:=by
 unfold Shp.d
 rfl
theorem Zl1 (l:List Int):it1 (tI l)=.ret (l.map PyData.int):=rfl
theorem Zqk (l:List Int):it1 (lI l)=.ret (l.map PyData.int):=rfl
theorem Zfu (l:List Int):cb1 Zhp [tI l]=.ret (.int l.sum):=ev_sumT l
end Tw
set_option Elab.async false
set_option linter.all false
set_option maxRecDepth 100000
set_option exponentiation.threshold 9000
namespace Tw
open PySem L2
structure Rp (d:PyData) (k n:Nat):Prop where
 hd:d.hasDict=false
 sh:d.showable=true
 dp:d.depth<=k
 ln:d.shown.length<=n
theorem rp_ok {d:PyData} {k n:Nat} (h:Rp d k n) (hk:k<=32) (hn:n<=10000000):Zfw d=true:=by
 unfold Zfw
 rw [h.hd,h.sh,decide_eq_true (Nat.le_trans h.dp hk),decide_eq_true (Nat.le_trans h.ln (Nat.le_trans hn (by rw [sizeLine_eq]; decide)))]
 rfl
theorem ZfZ {d:PyData} {k n k' n':Nat} (h:Rp d k n) (hk:k<=k') (hn:n<=n'):Rp d k' n':=⟨h.hd,h.sh,Nat.le_trans h.dp hk,Nat.le_trans h.ln hn⟩
theorem Zps {i:Int} (h:nb 1900 i):Rp (.int i) 0 1901:=by
 have h1:=ZcR [i] λn hn=>by simp at hn; subst hn; exact h
 have h2:=(ZdG [i] λn hn=>by simp at hn; subst hn; exact h).1
 refine ⟨rfl,?_,Nat.zero_le _,?_⟩
 ·simp only [List.map_cons,List.map_nil,PyData.showableAll,Bool.and_true] at h1
  exact h1
 ·simp only [List.map_cons,List.map_nil,PyData.shownAll,List.sum_cons,List.sum_nil,List.length_cons,List.length_nil] at h2
  omega
theorem ZmN {k n:Nat}:∀ {xs:List PyData},(∀ x∈xs,Rp x k n)->PyData.hasDictAll xs=false/\PyData.showableAll xs=true/\PyData.depthAll xs<=k/\((PyData.shownAll xs).map (·.length)).sum<=xs.length * n/\(PyData.shownAll xs).length=xs.length
 | [],_=>⟨rfl,rfl,Nat.zero_le _,by simp [PyData.shownAll],rfl⟩
 | x::xs,h=>by
  obtain ⟨h1,h2,h3,h4,h5⟩:=ZmN (xs:=xs) λy hy=>h y (List.mem_cons_of_mem _ hy)
  have hx:=h x (by simp)
  refine ⟨?_,?_,?_,?_,?_⟩
  ·rw [PyData.hasDictAll,hx.hd,h1]; rfl
  ·rw [PyData.showableAll,hx.sh,h2]; rfl
  ·rw [PyData.depthAll]; have:=hx.dp; omega
  ·rw [PyData.shownAll,List.map_cons,List.sum_cons,List.length_cons,Nat.succ_mul]; have:=hx.ln; omega
  ·rw [PyData.shownAll,List.length_cons,List.length_cons,h5]
theorem ZmM {xs:List PyData} {k n:Nat} (h:∀ x∈xs,Rp x k n):Rp (.tuple xs) (k+1) (xs.length * n+2 * xs.length+10):=by
 obtain ⟨h1,h2,h3,h4,h5⟩:=ZmN h
 have c3:=tupleText_len_le (PyData.shownAll xs)
 refine ⟨?_,?_,?_,?_⟩
 ·rw [PyData.hasDict,h1]
 ·rw [PyData.showable,h2]
 ·rw [PyData.depth]; omega
 ·rw [PyData.shown]; omega
theorem Zpq {l:List Int} {m:Nat} (h:∀ n∈l,nb 1900 n) (hl:l.length<=m):Rp (tI l) 1 (m * 1903+10):=by
 refine ZfZ (ZmM (k:=0) (n:=1901) λx hx=>?_) (Nat.le_refl _) ?_
 ·obtain ⟨i,hi,rfl⟩:=List.mem_map.mp hx
  exact Zps (h i hi)
 ·rw [List.length_map]
  have:l.length * 1903<=m * 1903:=Nat.mul_le_mul_right _ hl
  omega
theorem Zpr {s:Shp} (h:s.Ok):Rp s.d 1 20000:=by
 have e:s.d=tI s.l:=by unfold Shp.d; rfl
 rw [e]
 refine ZfZ (Zpq (m:=9) (λn hn=>?_) (Nat.le_refl _)) (Nat.le_refl _) (by decide)
 have:=h.t0
 have:=h.d0
 have:=h.td
 unfold Shp.l at hn
 simp only [List.mem_cons,List.not_mem_nil,or_false] at hn
 have k:∀ n:Int,nb 45 n->nb 1900 n:=λn hn=>Zar hn (by decide)
 have k1:nb 1900 s.top:=k _ (Zbk (by show -35184372088832 < _; omega) (by show _ < 35184372088832; omega))
 have k2:nb 1900 s.depth:=k _ (Zbk (by show -35184372088832 < _; omega) (by show _ < 35184372088832; omega))
 rcases hn with rfl | rfl | rfl | rfl | rfl | rfl | rfl | rfl | rfl
 ·exact k1
 ·exact k2
 ·exact k _ h.start
 ·exact k _ h.piece
 ·exact k _ h.keep
 ·exact k _ h.lack
 ·exact k _ h.lost
 ·exact k _ h.back
 ·exact k _ h.late
theorem Zpt {l:List Int} (h:DayB l):Rp (tI l) 1 40000:=ZfZ (Zpq (m:=16) (λn hn=>Zar (h.nb n hn) (by decide)) h.len) (Nat.le_refl _) (by decide)
theorem Zlt (x:Str):(x == x)=true:=by simp
end Tw
set_option Elab.async false
set_option linter.all false
set_option maxRecDepth 100000
set_option exponentiation.threshold 9000
namespace Tw
open PySem L2
theorem euclid {p:List Sl->Tr Bool} {s:List Sl->Tr Ou} {E:Nat->Nat->List Sl} (hp:∀ a b:Nat,p (E a b)=.ret (decide (b≠0))) (hs:∀ a b:Nat,b≠0->s (E a b)=.ret (.next (E b (a % b)))) :
  ∀ n k a b:Nat,b < 2 ^ n->whL p s (2 * n+1+k) (E a b)=.ret (.next (E (Nat.gcd a b) 0)):=by
 have stop:∀ k a:Nat,whL p s (k+1) (E a 0)=.ret (.next (E a 0)):=λk a=>by
  rw [whL,hp,Tr.ret_bind]
  rfl
 have go:∀ k a b:Nat,b≠0->whL p s (k+1) (E a b)=whL p s k (E b (a % b)):=λk a b hb=>by
  rw [whL,hp,Tr.ret_bind,decide_eq_true hb,if_pos rfl,hs a b hb,Tr.ret_bind]
 intro n
 induction n with
 | zero =>
  intro k a b hb
  have e:b=0:=by simp at hb; exact hb
  subst e
  rw [Nat.gcd_zero_right,Nat.add_comm (2 * 0+1) k]
  exact stop k a
 | succ n ih =>
  intro k a b hb
  by_cases h0:b=0
  ·subst h0
   have e:2 * (n+1)+1+k=(2 * (n+1)+k)+1:=by omega
   rw [Nat.gcd_zero_right,e]
   exact stop _ a
  ·have e:2 * (n+1)+1+k=(2 * n+2+k)+1:=by omega
   rw [e,go _ a b h0]
   have hr:a % b < b:=Nat.mod_lt _ (Nat.pos_of_ne_zero h0)
   by_cases h1:a % b=0
   ·rw [h1]
    have e2:2 * n+2+k=(2 * n+1+k)+1:=by omega
    have eg:Nat.gcd a b=b:=by rw [Nat.gcd_comm,Nat.gcd_rec,h1,Nat.gcd_zero_left]
    rw [e2,eg]
    exact stop _ b
   ·have e2:2 * n+2+k=(2 * n+1+k)+1:=by omega
    rw [e2,go _ b (a % b) h1]
    have hlt:b % (a % b) < 2 ^ n:=by
     have h2:b % (a % b) < a % b:=Nat.mod_lt _ (Nat.pos_of_ne_zero h1)
     have h3:b % (a % b)+a % b<=b:=by
      have h4:=Nat.div_add_mod b (a % b)
      have h5:1<=b / (a % b):=(Nat.le_div_iff_mul_le (Nat.pos_of_ne_zero h1)).mpr (by omega)
      have h6:a % b<=(a % b) * (b / (a % b)):=Nat.le_mul_of_pos_right _ h5
      omega
     rw [Nat.pow_succ] at hb
     omega
    rw [ih k (a % b) (b % (a % b)) hlt]
    have eg:Nat.gcd a b=Nat.gcd (a % b) (b % (a % b)):=by
     rw [Nat.gcd_comm a b,Nat.gcd_rec b a,Nat.gcd_rec (a % b) b,Nat.gcd_comm]
    rw [eg]
theorem Zgd (a b:Nat):(a:Int).fmod (b:Int)=((a % b:Nat):Int):=by
 rw [Int.fmod_eq_emod_of_nonneg _ (Int.natCast_nonneg b)]
 rfl
theorem ZhY (n:Int):absI n=(n.natAbs:Int):=by
 unfold absI
 split <;> omega
noncomputable def shD (t b:Int):PyData:=.tuple [.int (Gc.lowT t b),.int (Gc.lowB t b)]
theorem ZmV {t b:Int} {k l:Nat} (ht:nb k t) (hb:nb l b) (h0:b≠0):nb k (Gc.lowT t b)/\nb l (Gc.lowB t b):=by
 obtain ⟨h1,h2⟩:=Gc.low_le (t:=t) h0
 exact ⟨Nat.lt_of_le_of_lt h1 ht,Nat.lt_of_le_of_lt h2 hb⟩
theorem Zm6 {t b:Int} {l:Nat} (hb:nb l b) (h0:b≠0):nb l (Gc.den t b):=by
 unfold nb
 rw [Gc.den_abs]
 exact Nat.lt_of_le_of_lt (Nat.gcd_le_right _ (by omega)) hb
noncomputable def pr (p:Int×Int):List Int:=[p.1,p.2]
end Tw
set_option Elab.async false
set_option linter.all false
set_option maxRecDepth 100000
namespace L2
open PySem PySem.Spec PyProof.Rows
variable {PK:Pk} {X:Cx} {st:Stmt} {i n:List Sl->Tr PyData}
noncomputable def ZpA (K:PySem.W.Frag):V->V->Hp->VK->Prop:=λx y H Q=>∃ p xs i v,x=.ref p/\y=.int i/\SqL K H p xs/\0<=i/\atI xs i=some v/\Q v H
theorem Ziv:PGet X (ZpA X.K):=by
 intro pins s σ H x y v u Q I rx ry h
 obtain ⟨p,xs,i,z,rfl,rfl,hq,h0,he,q⟩:=h
 cases rx
 obtain ⟨t,rfl⟩:=ry
 obtain ⟨its,r,pl,hz⟩:=I.list hq
 obtain ⟨j,h1,h2,h3,h4,h5⟩:=Zgn he
 obtain ⟨w,ew,rw'⟩:=r.get h2
 have hl:=r.length
 have hn:=Zee
 have fin:EP X pins σ Q w s:=⟨z,H,I,rw',q⟩
 have hj:i.toNat=j:=by
  rw [seqIndex_of h0 h5] at h1
  exact Option.some.inj h1
 exact wpAny_getItem_list pl.isList h0 (by omega) (by rw [hj]; simpa using ew) fin
noncomputable def ZnQ (xs:List PyData):PyData->Option (Nat×Int)
 | .int y=>if 0<=y then (match xs[y.toNat]? with | some (.int a)=>some (y.toNat,a) | _=>none) else none
 | _=>none
noncomputable def Zqo:PyData->Option Int
 | .int b=>some b
 | _=>none
noncomputable def Ze8 (g:Int->Int->Int) (k:Nat) (n i:List Sl->Tr PyData):List Sl->Tr Ou:=λρ=>match ρ[k]? with
 | some (.own xs)=>(n ρ).bind λy=>(Tr.of (ZnQ xs y)).bind λja=>(i ρ).bind λz=>(Tr.of (Zqo z)).bind λb=>.ret (.next (ρ.set k (.own (xs.set ja.1 (.int (g ja.2 b))))))
 | _=>.fail
theorem ZiH {k:Nat} {g:Int->Int->Int} (h:PS X st (Zpe (Zjp k) (TAe PK n) (TAe PK i) (ZpA X.K) (ipI g) ZnA)):PS X st (TAs PK (Ze8 g k n i)):=h.imp λD σ H hz0=>by
 obtain ⟨pa,G₀,H₀,m,ρ,G,R,z⟩:=hz0
 unfold Ze8 at z
 split at z
 ·rename_i xs hx
  obtain ⟨o,h1,h2⟩:=R.sl k _ hx
  cases h2 with
  | @own p vs _ a1 a2 a3 a4 =>
   refine ⟨_,h1,?_⟩
   refine TAe.then R z λm1 y v G1 H1 s1 w1 R1 d1 q1=>?_
   rw [Tr.ok_bind] at q1
   obtain ⟨ja,hja,q1⟩:=Tr.ok_of q1
   cases d1 with
   | int y =>
    have hy:∃ a,0<=y/\xs[y.toNat]?=some (.int a)/\ja=(y.toNat,a):=by
     have hja:(if 0<=y then (match xs[y.toNat]? with | some (.int a)=>some (y.toNat,a) | _=>none) else none)=some ja:=hja
     by_cases h0:0<=y
     ·rw [if_pos h0] at hja
      cases e:xs[y.toNat]? with
      | none=>rw [e] at hja; cases hja
      | some u =>
       rw [e] at hja
       cases u with
       | int a=>cases hja; exact ⟨a,h0,rfl,rfl⟩
       | _=>cases hja
     ·rw [if_neg h0] at hja; cases hja
    obtain ⟨a,h0,hat,rfl⟩:=hy
    obtain ⟨o,h1',h2⟩:=R1.sl k _ hx
    rw [h1] at h1'
    cases h1'
    cases h2 with
    | @own _ vs1 _ b1 b2 b3 b4 =>
     obtain ⟨va,hva,da⟩:=DnAll.get y.toNat b4 hat
     cases da
     refine ⟨p,vs1,y,.int a,rfl,rfl,SqL.of b1,h0,ZcC h0 hva,?_⟩
     refine TAe.then R1 q1 λm2 z2 u G2 H2 s2 w2 R2 d2 q2=>?_
     rw [Tr.ok_bind] at q2
     obtain ⟨b,hb,q2⟩:=Tr.ok_of q2
     cases d2 with
     | int b' =>
      cases hb
      obtain ⟨o,h1',h2⟩:=R2.sl k _ hx
      rw [h1] at h1'
      cases h1'
      cases h2 with
      | @own _ vs2 _ c1 c2 c3 c4 =>
       have hlt:y.toNat < xs.length:=(List.getElem?_eq_some_iff.mp hat).1
       refine ⟨a,b,rfl,rfl,p,vs2,y,y.toNat,rfl,rfl,c1,?_,?_⟩
       ·unfold ixN
        rw [if_pos h0,if_pos (by rw [c4.length]; omega)]
       ·exact q2 σ G2 _ (s1.gs.trans s2.gs) (R2.change hx h1 (c4.set y.toNat (.int _)))
     | _=>cases hb
   | _=>cases hja
 ·exact z.elim
variable {ρ:List Sl} {k:Nat} {g:Int->Int->Int} {xs:List PyData} {sl:Sl}
noncomputable def ag3 (g:Int->Int->Int) (k:Nat) (xs:List PyData) (ρ:List Sl) (ja:Nat×Int) (b:Int):Tr Ou:=.ret (.next (ρ.set k (.own (xs.set ja.1 (.int (g ja.2 b))))))
noncomputable def ag2 (g:Int->Int->Int) (k:Nat) (xs:List PyData) (ρ:List Sl) (ja:Nat×Int) (z:PyData):Tr Ou:=(Tr.of (Zqo z)).bind (ag3 g k xs ρ ja)
noncomputable def ag1 (g:Int->Int->Int) (k:Nat) (i:List Sl->Tr PyData) (xs:List PyData) (ρ:List Sl) (ja:Nat×Int):Tr Ou:=(i ρ).bind (ag2 g k xs ρ ja)
noncomputable def ag0 (g:Int->Int->Int) (k:Nat) (i:List Sl->Tr PyData) (xs:List PyData) (ρ:List Sl) (y:PyData):Tr Ou:=(Tr.of (ZnQ xs y)).bind (ag1 g k i xs ρ)
theorem Ziy (h:ρ[k]?=some (.own xs)):Ze8 g k n i ρ=(n ρ).bind (ag0 g k i xs ρ):=by
 unfold Ze8
 rw [h]
 rfl
theorem Zm0 {y:Int} {a:Int} (h0:0<=y) (h:xs[y.toNat]?=some (.int a)):ag0 g k i xs ρ (.int y)=ag1 g k i xs ρ (y.toNat,a):=by
 have e:ZnQ xs (.int y)=some (y.toNat,a):=by
  show (if 0<=y then (match xs[y.toNat]? with | some (.int a)=>some (y.toNat,a) | _=>none) else none)=_
  rw [if_pos h0,h]
 unfold ag0
 rw [e]
 rfl
theorem ZmZ {ja:Nat×Int}:ag1 g k i xs ρ ja=(i ρ).bind (ag2 g k xs ρ ja):=rfl
theorem ZmY {ja:Nat×Int} (b:Int):ag2 g k xs ρ ja (.int b)=.ret (.next (ρ.set k (.own (xs.set ja.1 (.int (g ja.2 b)))))):=rfl
end L2
set_option Elab.async false
set_option linter.all false
set_option maxRecDepth 100000
namespace L2
open PySem PySem.Spec PyProof.Rows
variable {PK:Pk} {X:Cx} {e:Expr} {pos:Pos} {is:List Sl->Tr (List PyData)} {st:Stmt} {s:List Sl->Tr Ou}
noncomputable def rem (H:Hp) (p:Addr):Hp:=λb=>if b=p then none else H b
theorem ZjU {H:Hp} {p b:Addr} (h:b≠p):rem H p b=H b:=if_neg h
theorem ZlD {H:Hp} {p:Addr}:rem H p p=none:=if_pos rfl
theorem ZlC {H:Hp} {p b:Addr} {o:HO} (h:rem H p b=some o):H b=some o:=by
 unfold rem at h
 split at h
 ·cases h
 ·exact h
noncomputable def aSpO (PK:Pk) (f:List Sl->Tr Re):Sp:=λvs H Q _=>∃ p us xs pa m G,vs=[.ref p]/\H p=some (.lst us)/\G p=none/\p≠pa/\Wd PK pa m G H/\DnAll G us xs/\(f [.own xs]).ok m λm' r=>Kr PK pa m' G (rem H p) r Q
noncomputable def ZoP (PK:Pk) (P:Program) (w:World) (K:PySem.W.Frag) (mg:Str->Option Value) (base:Heap) (x:Str) (k:Nat) (y:Str) (f:List Sl->Tr Re):Prop:=Callee P w K mg base x k [y] (aSpO PK f)
theorem Zmq {P:Program} {w:World} {K:PySem.W.Frag} {mg:Str->Option Value} {base:Heap} {x y:Str} {N:List Str} {kk k:Nat} (D:Def K mg x st [y]) (S:FnScope N [y] (Zah st)) (hk:N.length - 1=k) (hN:1<=N.length)
  (hbody:∀ (f:Addr) (cdv:Value) (A:Around) (outer:List Env) (sh:Shared) (H:Hp) (E:XK),Room kk (A.deeper (envOfC x (Zah st) sh.heap.objs.size f cdv)) ->
   PSs (Zmj CX0 P w K mg base N x (Zah st) f cdv A outer sh H E).nox (Zcp st) (TAs PK s)):ZoP PK P w K mg base x (kk+1) y (ZcW 1 k s):=by
 refine D.ok S (λvs H Q E h=>?_) λf cdv A outer sh H vs Q E hr hsp=>?_
 ·obtain ⟨p,us,xs,pa,m,G,rfl,_⟩:=h
  rfl
 ·obtain ⟨p,us,xs,pa,m,G,rfl,h1,h2,h3,wd,dn,z⟩:=hsp
  refine ⟨_,hbody f cdv A outer sh H E hr,?_⟩
  unfold ZcW at z
  obtain ⟨_,z⟩:=Zf8 z
  have R:Rl PK pa G (rem H p) m (L2.start N [.ref p]) ([.own xs]++List.replicate k .un) G H:=by
   obtain ⟨o,ho,hpk⟩:=wd.pen
   have hs:∀ (q:Nat) (sl:Sl),([Sl.own xs]++List.replicate k .un)[q]?=some sl->(q=0/\sl=.own xs)\/(1<=q/\q < k+1/\sl=.un):=λq sl h=>by
    cases q with
    | zero=>simp at h; exact .inl ⟨rfl,h.symm⟩
    | succ q =>
     simp only [List.cons_append,List.nil_append,List.getElem?_cons_succ,List.getElem?_replicate] at h
     split at h
     ·cases h
      exact .inr ⟨by omega,by omega,rfl⟩
     ·cases h
   refine ⟨wd,⟨λ_ _ h=>h,λ_ _ h=>.inl h,λb o h _=>ZlC h⟩,⟨o,by rw [ZjU (Ne.symm h3)]; exact ho⟩,λq sl h=>?_,?_,λq n xs ys hn q1 q2=>?_,λq n xs ys hn q1 q2=>?_⟩
   ·rcases hs q sl h with ⟨rfl,rfl⟩ | ⟨a,b,rfl⟩
    ·exact ⟨_,rfl,.own h1 h2 ZlD dn⟩
    ·unfold L2.start
     refine ⟨none,?_,.un⟩
     rw [List.getElem?_append_right (by simpa using a),List.getElem?_replicate,if_pos (by simp; omega)]
   ·unfold L2.start
    simp
    omega
   ·rcases hs q _ q1 with ⟨rfl,_⟩ | ⟨_,_,z⟩
    ·rcases hs n _ q2 with ⟨rfl,_⟩ | ⟨_,_,z⟩
     ·exact absurd rfl hn
     ·cases z
    ·cases z
   ·rcases hs q _ q1 with ⟨_,z⟩ | ⟨_,_,z⟩ <;> cases z
  refine ⟨pa,G,rem H p,m,_,G,R,Tr.ok_mono (Tr.ok_bind.mp z) λm1 o ko=>?_⟩
  cases o with
  | next ρ=>exact λσ G1 H1 sb R1=>ko .non G1 H1 R1.st R1.wd .non
  | ret r=>exact ko
  | brk ρ=>exact ko.elim
  | cont ρ=>exact ko.elim
noncomputable def cO (f:List Sl->Tr Re) (xs:List PyData):Tr Re:=f [.own xs]
noncomputable def Zlc (f:List Sl->Tr Re) (is:List Sl->Tr (List PyData)):List Sl->Tr Re:=λρ=>(is ρ).bind (cO f)
theorem Zl8 {f:List Sl->Tr Re} {ρ:List Sl}:Zlc f is ρ=(is ρ).bind (cO f):=rfl
theorem ev_cO {f:List Sl->Tr Re} {xs:List PyData}:cO f xs=f [.own xs]:=rfl
theorem Zmo {x y:Str} {k:Nat} {f:List Sl->Tr Re} {pp:Pos} (C:ZoP PK X.prog X.w X.K X.mg X.base x k y f) (hr:Room k X.A) (hg:Gl X x) (ha:PE X e (TAo PK is))
  (hdb:(x == ("__debug__":Str))=false:=by decide)
  (hs:starEach [e] X.env=(false,eval e X.env)::starEach [] X.env:=by rfl) (hpl:(backTo pos (starEach [] X.env)).any (·.1)=false:=by rfl):PE X (.Call (.Name x pp) [e] [] pos) (TAr PK (Zlc f is)) :=
 (Zeu C hr hg (ZaE ha pa_nil hs) hdb hs hpl).imp λσ H Q hz0=>by
  obtain ⟨pa,G₀,H₀,m,ρ,G,R,z⟩:=hz0
  refine ⟨pa,G₀,H₀,m,ρ,G,R,Tr.ok_mono (Tr.ok_bind.mp z) λm1 xs q1=>?_⟩
  intro p vs G' H' s1 w1 hp hgp hl dn
  obtain ⟨o,ho,_⟩:=R.wd.pen
  have hne:p≠pa:=λe=>by rw [e,ho] at hp; cases hp
  refine ⟨p,vs,xs,pa,m1,G',rfl,hl,hgp,hne,w1,dn,Tr.ok_mono q1 λm2 r k=>?_⟩
  refine Kr.later k ⟨s1.gs,s1.gn,λb o h n=>?_⟩ ?_
  ·have hb:b≠p:=λe=>by rw [e,hp] at h; cases h
   rw [ZjU hb]
   exact s1.hk b o h n
  ·obtain ⟨o',ho',_⟩:=w1.pen
   exact ⟨o',by rw [ZjU (Ne.symm hne)]; exact ho'⟩
end L2
set_option Elab.async false
set_option linter.all false
set_option maxRecDepth 100000
namespace Bar
noncomputable abbrev Col:=Nat->Int
noncomputable def lap (f:Col->Int):List Col->(List Col->Int)->Int
 | [],_=>0
 | c::cs,g=>f c * g cs - lap f cs λr=>g (c::r)
theorem ZhH (f:Col->Int) (m:Int):∀ (cs:List Col) (g h:List Col->Int),lap f cs (λr=>m * g r - h r)=m * lap f cs g - lap f cs h
 | [],g,h=>by simp [lap]
 | c::cs,g,h=>by
  rw [lap,lap,lap,ZhH f m cs (λr=>g (c::r)) λr=>h (c::r)]
  grind
theorem Zit (f:Col->Int):∀ cs:List Col,lap f cs (λ_=>0)=0
 | []=>rfl
 | c::cs=>by rw [lap,Zit f cs]; simp
theorem Zgc (f h:Col->Int):∀ (cs:List Col) (g:List Col->Int),lap f cs (λr=>lap h r g)=-lap h cs λr=>lap f r g
 | [],g=>by simp [lap]
 | c::cs,g=>by
  have ih:=Zgc f h cs λr=>g (c::r)
  have e1:(λr=>lap h (c::r) g)=λr=>h c * g r - lap h r λq=>g (c::q):=rfl
  have e2:(λr=>lap f (c::r) g)=λr=>f c * g r - lap f r λq=>g (c::q):=rfl
  rw [lap,lap,e1,e2,ZhH,ZhH,ih]
  grind
noncomputable def D:Nat->List Col->Int
 | 0,_=>1
 | k+1,cs=>lap (λc=>c k) cs (D k)
theorem ZqY:∀ {k r:Nat},r < k->∀ cs:List Col,lap (λc=>c r) cs (D k)=0
 | 0,r,h,_=>by cases h
 | k+1,r,h,cs=>by
  have e:lap (λc=>c r) cs (D (k+1))=lap (λc=>c r) cs λq=>lap (λc=>c k) q (D k):=rfl
  rw [e]
  by_cases hr:r=k
  ·subst hr
   have:=Zgc (λc=>c r) (λc=>c r) cs (D r)
   omega
  ·rw [Zgc]
   have ez:(λq=>lap (λc=>c r) q (D k))=λ_=>(0:Int):=funext λq=>ZqY (by omega) q
   rw [ez,Zit]
   rfl
variable (A:Nat->Nat->Int)
noncomputable def col (l:Nat):Col:=λr=>A r l
noncomputable def R:Nat->List Col
 | 0=>[]
 | k+1=>col A k::R k
noncomputable def sumTo (f:Nat->Int):Nat->Int
 | 0=>0
 | n+1=>sumTo f n+f n
theorem Zcr {f g:Nat->Int}:∀ {n:Nat},(∀ l,l < n->f l=g l)->sumTo f n=sumTo g n
 | 0,_=>rfl
 | n+1,h=>by rw [sumTo,sumTo,Zcr λl hl=>h l (by omega),h n (by omega)]
theorem Zcn (f g h:Nat->Int) (a b:Int):∀ n:Nat,sumTo (λl=>f l * (a * g l - b * h l)) n=a * sumTo (λl=>f l * g l) n - b * sumTo (λl=>f l * h l) n
 | 0=>by simp [sumTo]
 | n+1=>by
  rw [sumTo,sumTo,sumTo,Zcn f g h a b n]
  grind
theorem ZdD {f:Nat->Int} {n:Nat} (h:∀ l,l < n->f l=0):sumTo f n=0:=by
 rw [Zcr (g:=λ_=>0) h]
 induction n with
 | zero=>rfl
 | succ n ih=>rw [sumTo,ih λl hl=>h l (by omega)]; rfl
noncomputable def coN:Nat->(List Col->Int)->Nat->Int
 | 0,_,_=>0
 | k+1,g,l=>if l=k then g (R A k) else -coN k (λcs=>g (col A k::cs)) l
theorem Zqe (f:Col->Int):∀ (k:Nat) (g:List Col->Int),lap f (R A k) g=sumTo (λl=>f (col A l) * coN A k g l) k
 | 0,g=>rfl
 | k+1,g=>by
  have e1:sumTo (λl=>f (col A l) * coN A (k+1) g l) k=-sumTo (λl=>f (col A l) * coN A k (λcs=>g (col A k::cs)) l) k:=by
   have:∀ n,n<=k->sumTo (λl=>f (col A l) * coN A (k+1) g l) n=-sumTo (λl=>f (col A l) * coN A k (λcs=>g (col A k::cs)) l) n:=by
    intro n
    induction n with
    | zero=>intro _; rfl
    | succ n ih =>
     intro hn
     rw [sumTo,sumTo,ih (by omega)]
     have e:coN A (k+1) g n=-coN A k (λcs=>g (col A k::cs)) n:=by rw [coN,if_neg (by omega)]
     rw [e]
     grind
   exact this k (Nat.le_refl _)
  have e2:coN A (k+1) g k=g (R A k):=by rw [coN,if_pos rfl]
  rw [R,lap,Zqe f k,sumTo,e1,e2]
  omega
noncomputable def d (k:Nat):Int:=D k (R A k)
noncomputable def sol (k:Nat) (a:Col):Nat->Int:=coN A k λcs=>D k (a::cs)
noncomputable def F (k:Nat) (i:Nat) (a:Col):Int:=d A k * a i - sumTo (λl=>A i l * sol A k a l) k
theorem Zn2 (k i:Nat) (a:Col):lap (λc=>c i) (a::R A k) (D k)=F A k i a:=by
 rw [lap,Zqe]
 unfold F d sol col
 rw [Int.mul_comm]
theorem cramer {k r:Nat} (h:r < k) (a:Col):sumTo (λl=>A r l * sol A k a l) k=d A k * a r:=by
 have:=Zn2 A k r a
 rw [ZqY h] at this
 unfold F at this
 omega
theorem ZiD (k:Nat):d A (k+1)=F A k k (col A k):=by
 rw [<- Zn2]
 rfl
theorem ZiC:d A 0=1:=rfl
theorem sole:∀ {k:Nat},(∀ j,j<=k->d A j≠0)->∀ {z:Nat->Int},(∀ r,r < k->sumTo (λl=>A r l * z l) k=0)->∀ l,l < k->z l=0
 | 0,_,z,_,l,hl=>by cases hl
 | k+1,hd,z,hz,l,hl=>by
  have ih:∀ z:Nat->Int,(∀ r,r < k->sumTo (λl=>A r l * z l) k=0)->∀ l,l < k->z l=0:=λz=>sole (k:=k) (λj hj=>hd j (by omega)) (z:=z)
  have dk:=hd k (by omega)
  have dk1:=hd (k+1) (by omega)
  -- d k times z,beside what the last of z asks of the first k
  have key:∀ l,l < k->1 * (d A k * z l - (-z k) * sol A k (col A k) l)=0:=by
   intro l hl
   have:=ih (λl=>d A k * z l - (-z k) * sol A k (col A k) l) (λr hr=>by
    rw [Zcn,cramer A hr]
    have h1:=hz r (by omega)
    rw [sumTo] at h1
    have e:sumTo (λl=>A r l * z l) k=-(A r k * z k):=by omega
    rw [e]
    show d A k * -(A r k * z k) - -z k * (d A k * A r k)=0
    grind) l hl
   simpa using this
  have hk:z k=0:=by
   have h1:=hz k (by omega)
   rw [sumTo] at h1
   have e1:sumTo (λl=>A k l * (d A k * z l - (-z k) * sol A k (col A k) l)) k=0:=ZdD λl hl=>by
    have:=key l hl
    rw [Int.one_mul] at this
    rw [this,Int.mul_zero]
   rw [Zcn] at e1
   have e2:=ZiD A k
   unfold F at e2
   have e3:sumTo (λl=>A k l * z l) k=-(A k k * z k):=by omega
   rw [e3] at e1
   have e4:col A k k=A k k:=rfl
   rw [e4] at e2
   generalize sumTo (λl=>A k l * sol A k (col A k) l) k=S at *
   have e5:z k * d A (k+1)=0:=by
    rw [e2]
    grind
   rcases Int.mul_eq_zero.mp e5 with q | q
   ·exact q
   ·exact absurd q dk1
  by_cases hlk:l=k
  ·rw [hlk]; exact hk
  ·have:=key l (by omega)
   rw [hk] at this
   have e:d A k * z l=0:=by
    rw [Int.one_mul] at this
    simpa using this
   rcases Int.mul_eq_zero.mp e with q | q
   ·exact absurd q dk
   ·exact q
end Bar
set_option Elab.async false
set_option linter.all false
set_option maxRecDepth 100000
namespace Bar
variable (A:Nat->Nat->Int)
theorem step {k:Nat} (hd:∀ j,j<=k+1->d A j≠0) (a:Col):sol A (k+1) a k=F A k k a/\∀ l,l < k->d A k * sol A (k+1) a l=d A (k+1) * sol A k a l - F A k k a * sol A k (col A k) l:=by
 have dk:=hd k (by omega)
 have e0:=ZiD A k
 have eF:F A k k a=d A k * a k - sumTo (λl=>A k l * sol A k a l) k:=rfl
 have eC:F A k k (col A k)=d A k * A k k - sumTo (λl=>A k l * sol A k (col A k) l) k:=rfl
 rw [eC] at e0
 have low:∀ r,r < k+1->sumTo (λl=>A r l * (d A k * sol A (k+1) a l - 1 * (d A (k+1) * sol A k a l - F A k k a * sol A k (col A k) l))) k+A r k * (d A k * sol A (k+1) a k - d A k * F A k k a)=0:=by
  intro r hr
  rw [Zcn,Zcn]
  have c1:=cramer A hr a
  rw [sumTo] at c1
  have c1':sumTo (λl=>A r l * sol A (k+1) a l) k=d A (k+1) * a r - A r k * sol A (k+1) a k:=by omega
  rw [c1']
  by_cases hk:r=k
  ·subst hk
   have q1:sumTo (λl=>A r l * sol A r a l) r=d A r * a r - F A r r a:=by omega
   have q2:sumTo (λl=>A r l * sol A r (col A r) l) r=d A r * A r r - d A (r+1):=by omega
   rw [q1,q2]
   grind
  ·have q1:=cramer A (show r < k by omega) a
   have q2:=cramer A (show r < k by omega) (col A k)
   have q2':col A k r=A r k:=rfl
   rw [q2'] at q2
   rw [q1,q2]
   grind
 have z:=sole A hd (z:=λl=>if l=k then d A k * sol A (k+1) a k - d A k * F A k k a else d A k * sol A (k+1) a l - 1 * (d A (k+1) * sol A k a l - F A k k a * sol A k (col A k) l)) (λr hr=>by
  rw [sumTo,if_pos rfl]
  rw [Zcr (g:=λl=>A r l * (d A k * sol A (k+1) a l - 1 * (d A (k+1) * sol A k a l - F A k k a * sol A k (col A k) l))) λl hl=>by rw [if_neg (by omega)]]
  exact low r hr)
 constructor
 ·have:=z k (by omega)
  rw [if_pos rfl] at this
  have e:d A k * (sol A (k+1) a k - F A k k a)=0:=by rw [Int.mul_sub]; exact this
  rcases Int.mul_eq_zero.mp e with q | q
  ·exact absurd q dk
  ·omega
 ·intro l hl
  have:=z l (by omega)
  rw [if_neg (by omega)] at this
  omega
noncomputable def M (k i:Nat) (a:Col):Int:=if i < k then sol A k a i else F A k i a
theorem ZqV (i:Nat) (a:Col):M A 0 i a=a i:=by
 unfold M F
 rw [if_neg (by omega),ZiC,sumTo]
 omega
theorem Zlg (k:Nat):M A k k (col A k)=d A (k+1):=by
 unfold M
 rw [if_neg (by omega),ZiD]
theorem M_row {k:Nat} (hd:∀ j,j<=k+1->d A j≠0) (a:Col):M A (k+1) k a=M A k k a:=by
 unfold M
 rw [if_pos (by omega),if_neg (by omega)]
 exact (step A hd a).1
theorem ZqW {k:Nat} (hd:∀ j,j<=k+1->d A j≠0) (a:Col) {i:Nat} (hi:i≠k):d A k * M A (k+1) i a=M A k k (col A k) * M A k i a - M A k i (col A k) * M A k k a:=by
 obtain ⟨s1,s2⟩:=step A hd a
 rw [Zlg]
 unfold M
 by_cases h:i < k
 ·rw [if_pos (by omega),if_pos h,if_pos h,if_neg (by omega),s2 i h,Int.mul_comm (sol A k (col A k) i)]
 ·rw [if_neg (by omega),if_neg h,if_neg h,if_neg (by omega)]
  have e1:F A (k+1) i a=d A (k+1) * a i - (sumTo (λl=>A i l * sol A (k+1) a l) k+A i k * sol A (k+1) a k):=rfl
  have e2:F A k i a=d A k * a i - sumTo (λl=>A i l * sol A k a l) k:=rfl
  have e3:F A k i (col A k)=d A k * A i k - sumTo (λl=>A i l * sol A k (col A k) l) k:=rfl
  have e4:d A k * sumTo (λl=>A i l * sol A (k+1) a l) k=d A (k+1) * sumTo (λl=>A i l * sol A k a l) k - F A k k a * sumTo (λl=>A i l * sol A k (col A k) l) k:=by
   have q1:=Zcn (λl=>A i l) (sol A (k+1) a) (λ_=>0) (d A k) 0 k
   have q2:=Zcn (λl=>A i l) (sol A k a) (sol A k (col A k)) (d A (k+1)) (F A k k a) k
   rw [<- q2]
   have q3:d A k * sumTo (λl=>A i l * sol A (k+1) a l) k=sumTo (λl=>A i l * (d A k * sol A (k+1) a l - 0 * 0)) k:=by rw [q1]; omega
   rw [q3]
   refine Zcr λl hl=>?_
   rw [<- s2 l hl]
   simp
  rw [e1,e2,e3,s1]
  generalize sumTo (λl=>A i l * sol A (k+1) a l) k=S1 at *
  generalize sumTo (λl=>A i l * sol A k a l) k=S2 at *
  generalize sumTo (λl=>A i l * sol A k (col A k) l) k=S3 at *
  have e5:d A k * (d A (k+1) * a i - (S1+A i k * F A k k a))=d A k * d A (k+1) * a i - d A k * S1 - d A k * (A i k * F A k k a):=by grind
  rw [e5,e4]
  grind
theorem M_end {n r:Nat} (h:r < n) (a:Col):sumTo (λl=>A r l * M A n l a) n=d A n * a r:=by
 rw [<- cramer A h a]
 refine Zcr λl hl=>?_
 unfold M
 rw [if_pos hl]
end Bar
set_option Elab.async false
set_option linter.all false
set_option maxRecDepth 100000
namespace Bar
variable (A:Nat->Nat->Int)
noncomputable def unit (k:Nat):Col:=λr=>if r=k then 1 else 0
theorem ZqX {k:Nat} (hd:∀ j,j<=k->d A j≠0):F A k k (unit k)=d A k:=by
 have z:=sole A hd (z:=sol A k (unit k)) (λr hr=>by
  rw [cramer A hr]
  unfold unit
  rw [if_neg (by omega),Int.mul_zero])
 unfold F
 rw [ZdD λl hl=>by rw [z l hl,Int.mul_zero]]
 unfold unit
 rw [if_pos rfl]
 omega
theorem Zlu (k:Nat):sol A (k+1) (unit k) k=F A k k (unit k):=by
 unfold sol
 rw [coN,if_pos rfl]
 exact Zn2 A k k (unit k)
theorem ZjD {p v:Nat->Int} {V:Int} (hV:0<=V) (v0:v 0=0):∀ {m:Nat},(∀ l,l < m+1->0<=p l)->(∀ l,l < m+1->v l<=V)->sumTo (λl=>p l * v l) (m+1)<=(sumTo p (m+1) - p 0) * V
 | 0,hp,hv=>by
  show 0+p 0 * v 0<=(0+p 0 - p 0) * V
  rw [v0]
  simp
 | m+1,hp,hv=>by
  have ih:=ZjD (p:=p) (v:=v) hV v0 (m:=m) (λl hl=>hp l (by omega)) λl hl=>hv l (by omega)
  have h1:=Int.mul_le_mul_of_nonneg_left (hv (m+1) (by omega)) (hp (m+1) (by omega))
  have e1:sumTo (λl=>p l * v l) (m+1+1)=sumTo (λl=>p l * v l) (m+1)+p (m+1) * v (m+1):=rfl
  have e2:sumTo p (m+1+1)=sumTo p (m+1)+p (m+1):=rfl
  have e3:(sumTo p (m+1)+p (m+1) - p 0) * V=(sumTo p (m+1) - p 0) * V+p (m+1) * V:=by grind
  rw [e1,e2,e3]
  omega
theorem ZjE (f:Nat->Int):∀ n:Nat,sumTo (λl=>-f l) n=-sumTo f n
 | 0=>rfl
 | n+1=>by rw [sumTo,sumTo,ZjE f n]; omega
theorem ZfP {p:Nat->Int}:∀ {m n:Nat},m<=n->(∀ l,l < n->0<=p l)->sumTo p m<=sumTo p n
 | m,0,h,_=>by
  have:m=0:=by omega
  subst this
  exact Int.le_refl _
 | m,n+1,h,hp=>by
  by_cases e:m=n+1
  ·subst e; exact Int.le_refl _
  ·have:=ZfP (p:=p) (m:=m) (n:=n) (by omega) λl hl=>hp l (by omega)
   have:=hp n (by omega)
   rw [sumTo]
   omega
theorem argmax (v:Nat->Int):∀ k:Nat,∃ i,i<=k/\∀ l,l<=k->v l<=v i
 | 0=>⟨0,Nat.le_refl _,λl hl=>by
  have e:l=0:=by omega
  rw [e]
  exact Int.le_refl _⟩
 | k+1=>by
  obtain ⟨i,hi,h⟩:=argmax v k
  by_cases hc:v i<=v (k+1)
  ·refine ⟨k+1,by omega,λl hl=>?_⟩
   by_cases e:l=k+1
   ·subst e; exact Int.le_refl _
   ·have:=h l (by omega)
    omega
  ·refine ⟨i,by omega,λl hl=>?_⟩
   by_cases e:l=k+1
   ·subst e; omega
   ·exact h l (by omega)
structure Pol (n:Nat) (A P:Nat->Nat->Int) (W:Int):Prop where
 W0:0 < W
 a0:∀ i,i < n->A i 0=W
 a:∀ i j,i < n->1<=j->j < n->A i j=(if i=j then W else 0) - P i j
 p:∀ i j,i < n->j < n->0<=P i j
 p0:∀ i,i < n->0 < P i 0
 s:∀ i,i < n->sumTo (P i) n=W
variable {A} {P:Nat->Nat->Int} {W:Int} {n:Nat}
theorem ZeD (h:Pol n A P W) (z:Nat->Int) {i:Nat} (hi:i < n):∀ {m:Nat},m+1<=n->sumTo (λl=>A i l * z l) (m+1)=W * z 0+(if 1<=i/\i<=m then W * z i else 0) - sumTo (λl=>P i l * (if l=0 then 0 else z l)) (m+1)
 | 0,hm=>by
  show 0+A i 0 * z 0=_
  rw [if_neg (by omega),h.a0 i hi]
  show _=W * z 0+0 - (0+P i 0 * (if 0=0 then 0 else z 0))
  rw [if_pos rfl]
  omega
 | m+1,hm=>by
  have ih:=ZeD h z hi (m:=m) (by omega)
  have e1:sumTo (λl=>A i l * z l) (m+1+1)=sumTo (λl=>A i l * z l) (m+1)+A i (m+1) * z (m+1):=rfl
  have e2:sumTo (λl=>P i l * (if l=0 then 0 else z l)) (m+1+1)=sumTo (λl=>P i l * (if l=0 then 0 else z l)) (m+1)+P i (m+1) * (if m+1=0 then 0 else z (m+1)):=rfl
  rw [e1,e2,ih,h.a i (m+1) hi (by omega) (by omega),if_neg (show ¬ m+1=0 by omega)]
  by_cases e:i=m+1
  ·subst e
   rw [if_pos rfl,if_neg (by omega),if_pos (by omega)]
   grind
  ·rw [if_neg e]
   by_cases e2:1<=i/\i<=m
   ·rw [if_pos e2,if_pos (by omega)]
    grind
   ·rw [if_neg e2,if_neg (by omega)]
    grind
theorem sign (h:Pol n A P W) {k:Nat} (hk:1<=k) (hn:k+1<=n) {z:Nat->Int} {c:Int} (hz:∀ r,r < k+1->sumTo (λl=>A r l * z l) (k+1)=if r=k then c else 0) (zk:0 < z k):0 < c:=by
 apply Int.not_le.mp
 intro hc
 have W0:=h.W0
 -- worths: nought at the lowest
 have hv:∀ r,r < k+1->W * z 0+W * (if r=0 then 0 else z r) - sumTo (λl=>P r l * (if l=0 then 0 else z l)) (k+1)=if r=k then c else 0:=λr hr=>by
  have:=hz r hr
  rw [ZeD h z (by omega) (by omega)] at this
  rw [<- this]
  by_cases e:r=0
  ·rw [if_pos e,if_neg (by omega)]
   omega
  ·rw [if_neg e,if_pos (by omega)]
 generalize hvd:(λl=>if l=0 then 0 else z l)=v at *
 have v0:v 0=0:=by rw [<- hvd]; rfl
 have vk:v k=z k:=by rw [<- hvd]; show (if k=0 then 0 else z k)=z k; rw [if_neg (by omega)]
 have hv':∀ r,r < k+1->W * z 0+W * v r - sumTo (λl=>P r l * v l) (k+1)=if r=k then c else 0:=λr hr=>by
  have:=hv r hr
  rw [<- hvd]
  exact this
 clear hv
 have hs:∀ i,i < n->sumTo (P i) (k+1)<=W:=λi hi=>by
  rw [<- h.s i hi]
  exact ZfP (by omega) λl hl=>h.p i l hi hl
 have up:∀ (u:Nat->Int) (V:Int) (i:Nat),0 < V->u 0=0->i < n->(∀ l,l < k+1->u l<=V)->sumTo (λl=>P i l * u l) (k+1)<=(W - P i 0) * V:=λu V i hV u0 hi hu=>by
  have a1:=ZjD (p:=P i) (v:=u) (Int.le_of_lt hV) u0 (m:=k) (λl hl=>h.p i l hi (by omega)) hu
  have a2:=Int.mul_le_mul_of_nonneg_right (show sumTo (P i) (k+1) - P i 0<=W - P i 0 by have:=hs i hi; omega) (Int.le_of_lt hV)
  omega
 obtain ⟨i,hi,hmax⟩:=argmax v k
 have vpos:0 < v i:=by have:=hmax k (Nat.le_refl _); omega
 -- the greatest worth: the mean is below nought
 have m0:z 0 < 0:=by
  have r1:=hv' i (by omega)
  have r2:=up v (v i) i vpos v0 (by omega) (λl hl=>hmax l (by omega))
  have r3:=Int.mul_pos (h.p0 i (by omega)) vpos
  have e:(W - P i 0) * v i=W * v i - P i 0 * v i:=by grind
  have r4:W * z 0 < 0:=by
   have:(if i=k then c else 0)<=0:=by split <;> omega
   omega
  apply Int.not_le.mp
  intro q
  have:=Int.mul_nonneg (Int.le_of_lt W0) q
  omega
 -- the least worth: it is above nought
 obtain ⟨j,hj,hmin⟩:=argmax (λl=>-v l) k
 have r0:=hv' 0 (by omega)
 rw [v0,if_neg (by omega)] at r0
 have Wm:W * z 0 < 0:=by
  have:=Int.mul_le_mul_of_nonneg_left (show z 0<=-1 by omega) (Int.le_of_lt W0)
  omega
 have jneg:v j < 0:=by
  apply Int.not_le.mp
  intro q
  have all0:∀ l,l<=k->0<=v l:=λl hl=>by
   have:-v l<=-v j:=hmin l hl
   omega
  have:0<=sumTo (λl=>P 0 l * v l) (k+1):=by
   have:=ZfP (p:=λl=>P 0 l * v l) (m:=0) (n:=k+1) (by omega) λl hl=>Int.mul_nonneg (h.p 0 l (by omega) (by omega)) (all0 l (by omega))
   exact this
  omega
 have jk:j≠k:=λe=>by rw [e,vk] at jneg; omega
 have r1:=hv' j (by omega)
 rw [if_neg jk] at r1
 have r2:=up (λl=>-v l) (-v j) j (by omega) (by show -v 0=0; rw [v0]; rfl) (by omega) (λl hl=>hmin l (by omega))
 have e1:sumTo (λl=>P j l * -v l) (k+1)=-sumTo (λl=>P j l * v l) (k+1):=by
  rw [<- ZjE]
  refine Zcr λl _=>?_
  grind
 rw [e1] at r2
 have r3:=Int.mul_pos (h.p0 j (by omega)) (show 0 < -v j by omega)
 have e2:(W - P j 0) * -v j=-(W * v j) - P j 0 * -v j:=by grind
 omega
theorem leads (h:Pol n A P W):∀ k,k<=n->0 < d A k
 | 0,_=>by rw [ZiC]; decide
 | k+1,hk=>by
  have ih:∀ j,j<=k->0 < d A j:=λj hj=>leads h j (by omega)
  by_cases k0:k=0
  ·subst k0
   have:d A 1=A 0 0:=by
    rw [ZiD]
    unfold F
    rw [ZiC,sumTo]
    show 1 * A 0 0 - 0=A 0 0
    omega
   rw [this,h.a0 0 (by omega)]
   exact h.W0
  ·refine sign h (k:=k) (by omega) hk (z:=sol A (k+1) (unit k)) (c:=d A (k+1)) (λr hr=>?_) ?_
   ·rw [cramer A hr]
    unfold unit
    split
    ·omega
    ·omega
   ·rw [Zlu,ZqX A λj hj=>by have:=ih j hj; omega]
    exact ih k (Nat.le_refl _)
termination_by k=>k
end Bar
set_option Elab.async false
set_option linter.all false
set_option maxRecDepth 100000
namespace Bar
variable {A P:Nat->Nat->Int} {W:Int} {n:Nat}
theorem improve (h:Pol n A P W) (hn:1<=n) {y:Nat->Int} {s:Nat->Int} (hs:∀ r,r < n->0<=s r) (hy:∀ r,r < n->sumTo (λl=>A r l * y l) n=-s r) :
  y 0 < 0\/(y 0=0/\∀ r,1<=r->r < n->y r<=0):=by
 obtain ⟨k,rfl⟩:∃ k,n=k+1:=⟨n - 1,by omega⟩
 have W0:=h.W0
 have hv:∀ r,r < k+1->W * y 0+W * (if r=0 then 0 else y r) - sumTo (λl=>P r l * (if l=0 then 0 else y l)) (k+1)=-s r:=λr hr=>by
  have:=hy r hr
  rw [ZeD h y hr (by omega)] at this
  rw [<- this]
  by_cases e:r=0
  ·rw [if_pos e,if_neg (by omega)]
   omega
  ·rw [if_neg e,if_pos (by omega)]
 generalize hvd:(λl=>if l=0 then 0 else y l)=v at *
 have v0:v 0=0:=by rw [<- hvd]; rfl
 have vr:∀ r,1<=r->v r=y r:=λr hr=>by rw [<- hvd]; show (if r=0 then 0 else y r)=y r; rw [if_neg (by omega)]
 have hv':∀ r,r < k+1->W * y 0+W * v r - sumTo (λl=>P r l * v l) (k+1)=-s r:=λr hr=>by
  have:=hv r hr
  rw [<- hvd]
  exact this
 clear hv
 have up:∀ (V:Int) (i:Nat),0<=V->i < k+1->(∀ l,l < k+1->v l<=V)->sumTo (λl=>P i l * v l) (k+1)<=(W - P i 0) * V:=λV i hV hi hu=>by
  have a1:=ZjD (p:=P i) (v:=v) hV v0 (m:=k) (λl hl=>h.p i l hi (by omega)) hu
  rw [h.s i hi] at a1
  exact a1
 obtain ⟨i,hi,hmax⟩:=argmax v k
 have vi:0<=v i:=by have:=hmax 0 (by omega); omega
 have r1:=hv' i (by omega)
 have r2:=up (v i) i vi (by omega) (λl hl=>hmax l (by omega))
 have e:(W - P i 0) * v i=W * v i - P i 0 * v i:=by grind
 have si:=hs i (by omega)
 by_cases hp:0 < v i
 ·left
  have r3:=Int.mul_pos (h.p0 i (by omega)) hp
  apply Int.not_le.mp
  intro q
  have:=Int.mul_nonneg (Int.le_of_lt W0) q
  omega
 ·have v00:v i=0:=by omega
  have all0:∀ r,r < k+1->v r<=0:=λr hr=>by have:=hmax r (by omega); omega
  have q1:=hv' 0 (by omega)
  have q2:=up 0 0 (Int.le_refl _) (by omega) all0
  have s0:=hs 0 (by omega)
  rw [v0] at q1
  have Wy:W * y 0<=0:=by omega
  by_cases hy0:y 0 < 0
  ·exact .inl hy0
  ·right
   have:y 0=0:=by
    apply Int.le_antisymm
    ·apply Int.not_lt.mp
     intro q
     have:=Int.mul_pos W0 q
     omega
    ·omega
   exact ⟨this,λr r1 r2=>by have:=all0 r r2; rw [vr r r1] at this; exact this⟩
noncomputable def Bet (n:Nat) (z:Nat->Int) (D:Int) (z':Nat->Int) (D':Int):Prop:=D * z' 0 < D' * z 0\/(D * z' 0=D' * z 0/\(∀ r,r < n->D * z' r<=D' * z r)/\∃ r,r < n/\D * z' r < D' * z r)
theorem Zed {a b c A B C:Int} (hA:0 < A) (hB:0 < B) (hC:0 < C) (h1:A * b<=B * a) (h2:B * c<=C * b):A * c<=C * a/\((A * b < B * a\/B * c < C * b)->A * c < C * a):=by
 -- B (A c)<=A C b<=C B a
 have e1:=Int.mul_le_mul_of_nonneg_left h2 (Int.le_of_lt hA)
 have e2:=Int.mul_le_mul_of_nonneg_left h1 (Int.le_of_lt hC)
 have q1:A * (B * c)=B * (A * c):=by grind
 have q2:A * (C * b)=C * (A * b):=by grind
 have q3:C * (B * a)=B * (C * a):=by grind
 refine ⟨Int.le_of_mul_le_mul_left (show B * (A * c)<=B * (C * a) by omega) hB,λh=>?_⟩
 have hlt:B * (A * c) < B * (C * a):=by
  rcases h with h | h
  ·have:=Int.mul_lt_mul_of_pos_left h hC
   omega
  ·have:=Int.mul_lt_mul_of_pos_left h hA
   omega
 exact Int.lt_of_mul_lt_mul_left hlt (Int.le_of_lt hB)
theorem Bet.trans {z z' z'':Nat->Int} {D D' D'':Int} (hD:0 < D) (hD':0 < D') (hD'':0 < D'') (h1:Bet n z D z' D') (h2:Bet n z' D' z'' D''):Bet n z D z'' D'':=by
 have t:=λr=>Zed (a:=z r) (b:=z' r) (c:=z'' r) hD hD' hD''
 rcases h1 with a | ⟨a1,a2,r,hr,a3⟩
 ·rcases h2 with b | ⟨b1,b2,_⟩
  ·exact .inl ((t 0 (Int.le_of_lt a) (Int.le_of_lt b)).2 (.inl a))
  ·exact .inl ((t 0 (Int.le_of_lt a) (Int.le_of_eq b1)).2 (.inl a))
 ·rcases h2 with b | ⟨b1,b2,_⟩
  ·exact .inl ((t 0 (Int.le_of_eq a1) (Int.le_of_lt b)).2 (.inr b))
  ·right
   refine ⟨?_,λq hq=>(t q (a2 q hq) (b2 q hq)).1,r,hr,(t r (a2 r hr) (b2 r hr)).2 (.inl a3)⟩
   have u1:=(t 0 (Int.le_of_eq a1) (Int.le_of_eq b1)).1
   have u2:=(Zed (a:=z'' 0) (b:=z' 0) (c:=z 0) hD'' hD' hD (Int.le_of_eq b1.symm) (Int.le_of_eq a1.symm)).1
   omega
theorem Bet.irrefl {z:Nat->Int} {D:Int} (h:Bet n z D z D):False:=by
 rcases h with a | ⟨_,_,r,_,a⟩ <;> omega
theorem better (h:Pol n A P W) (hn:1<=n) {z z':Nat->Int} {D D':Int} (hD:0 < D) (hD':0 < D') {b:Nat->Int} (hz':∀ r,r < n->sumTo (λl=>A r l * z' l) n=D' * b r) {s:Nat->Int} (hs:∀ r,r < n->0<=s r) (hz:∀ r,r < n->sumTo (λl=>A r l * z l) n=D * b r+s r) (hsome:∃ r,r < n/\0 < s r):Bet n z D z' D':=by
 have hy:∀ r,r < n->sumTo (λl=>A r l * (D * z' l - D' * z l)) n=-(D' * s r):=λr hr=>by
  rw [Zcn,hz' r hr,hz r hr]
  grind
 have key:=improve h hn (y:=λl=>D * z' l - D' * z l) (s:=λr=>D' * s r) (λr hr=>Int.mul_nonneg (Int.le_of_lt hD') (hs r hr)) hy
 rcases key with k | ⟨k0,k1⟩
 ·left
  have k':D * z' 0 - D' * z 0 < 0:=k
  omega
 ·have k0':D * z' 0 - D' * z 0=0:=k0
  have all0:∀ r,r < n->D * z' r<=D' * z r:=λr hr=>by
   by_cases e:r=0
   ·subst e; omega
   ·have k1':D * z' r - D' * z r<=0:=k1 r (by omega) hr
    omega
  refine .inr ⟨by omega,all0,?_⟩
  apply Classical.byContradiction
  intro hno
  have zero:∀ r,r < n->D * z' r - D' * z r=0:=λr hr=>by
   have a:=all0 r hr
   have:¬ D * z' r < D' * z r:=λq=>hno ⟨r,hr,q⟩
   omega
  obtain ⟨r,hr,sr⟩:=hsome
  have e:=hy r hr
  rw [ZdD λl hl=>by rw [zero l hl,Int.mul_zero]] at e
  have:=Int.mul_pos hD' sr
  omega
end Bar
set_option Elab.async false
set_option linter.all false
set_option maxRecDepth 100000
namespace Tw
open PySem L2
theorem Zfq {f:Int->Int} {m:Int}:∀ {l:List Int} {k:Nat},ws (λx=>m * f x) k l=m * ws f k l
 | [],k=>by unfold ws; simp
 | w::l,k=>by
  unfold ws
  rw [Zfq (l:=l)]
  grind
theorem Zjr {f:Int->Int} {m:Int}:∀ {l:List Int} {k:Nat},ws f k (l.map (m * ·))=m * ws f k l
 | [],k=>by simp [ws]
 | w::l,k=>by
  rw [List.map_cons]
  unfold ws
  rw [Zjr (l:=l)]
  grind
theorem ZfO {m:Int}:∀ l:List Int,(l.map (m * ·)).sum=m * l.sum
 | []=>by simp
 | w::l=>by
  rw [List.map_cons,List.sum_cons,List.sum_cons,ZfO l,Int.mul_add]
noncomputable def Shp.tm (s:Shp) (m:Int):Shp:=⟨s.top,s.depth,m * s.start,m * s.piece,m * s.keep,m * s.lack,m * s.lost,m * s.back,m * s.late⟩
theorem ZkZ {g:Int->Int} {top m:Int} (hm:0 < m):∀ n:Nat,bst (λy=>m * g y) top n=(m * (bst g top n).1,(bst g top n).2)
 | 0=>rfl
 | n+1=>by
  unfold bst
  rw [ZkZ hm n]
  dsimp only
  by_cases h:(bst g top n).1 < g (top - ((n+1:Nat):Int))
  ·rw [if_pos h,if_pos (Int.mul_lt_mul_of_pos_left h hm)]
  ·rw [if_neg h,if_neg (λz=>h (Int.lt_of_mul_lt_mul_left z (Int.le_of_lt hm)))]
theorem Zj4 {g:Int->Int} {top K m x:Int} (hm:0 < m) (hx:x<=top):pck (λy=>m * g y) top (m * K) x=(m * (pck g top K x).1,(pck g top K x).2):=by
 by_cases ht:x=top
 ·subst ht
  rw [Zdt,Zdt]
 ·obtain ⟨n,hn⟩:∃ n:Nat,x=top - ((n+1:Nat):Int):=⟨(top - x - 1).toNat,by omega⟩
  subst hn
  rw [ZeL,ZeL,ZkZ hm]
  dsimp only
  rw [<- Int.mul_add]
  by_cases h:K+(bst g top n).1 < g (top - ((n+1:Nat):Int))
  ·rw [if_pos h,if_pos (Int.mul_lt_mul_of_pos_left h hm)]
  ·rw [if_neg h,if_neg (λz=>h (Int.lt_of_mul_lt_mul_left z (Int.le_of_lt hm)))]
theorem Zo8 (s:Shp) (m y f:Int):(s.tm m).day y f=m * s.day y f:=by
 unfold Shp.day Shp.tm Shp.nx
 dsimp only
 split <;> grind
end Tw
set_option Elab.async false
set_option linter.all false
set_option maxRecDepth 100000
namespace Tw
open PySem L2
noncomputable abbrev Rw:=List Int×Int
noncomputable def tot (X:List Rw) (c:List Int->Int):Int:=(X.map λp=>p.2 * c p.1).sum
theorem ZmS {s:Shp} (h:s.Ok) {x y:Int} (hx:nb 20 x) (hy:nb 20 y):nb 100 (s.ord x y):=by
 unfold Shp.ord
 exact ZgI (show (0:Int).natAbs < 2 ^ 100 from Nat.pos_of_ne_zero (by simp)) (Zar (ZbY h.start (Za3 h.piece (ZcS hy hx))) (by decide))
theorem Zhq {s:Shp} (h:s.Ok) {x:Int} (x1:-s.depth<=x) (x2:x<=s.top):nb 20 x:=by
 have:=h.t0
 have:=h.d0
 have:=h.td
 exact Zbk (by show -1048576 < _; omega) (by show _ < 1048576; omega)
theorem Zmy {f:Int->Int} {a b:Nat}:∀ {l:List Int} {k:Nat},(∀ w∈l,nb a w)->(∀ x:Int,(k:Int)<=x->x < k+l.length->nb b (f x))->nb (a+b+l.length) (ws f k l)
 | [],k,_,_=>by unfold ws nb; exact Nat.pos_of_ne_zero (by simp)
 | w::l,k,hw,hf=>by
  rw [List.length_cons] at hf ⊢
  have h1:=Za3 (hw w (by simp)) (hf k (by omega) (by omega))
  have h2:=Zmy (f:=f) (a:=a) (b:=b) (l:=l) (k:=k+1) (λv hv=>hw v (List.mem_cons_of_mem _ hv)) λx x1 x2=>hf x (by omega) (by omega)
  unfold ws
  exact Zar (ZbY h1 h2) (by omega)
end Tw
set_option Elab.async false
set_option linter.all false
set_option maxRecDepth 100000
namespace Bar
open Tw
theorem nb0 (k:Nat):nb k 0:=by show (0:Int).natAbs < 2 ^ k; exact Nat.pow_pos (by decide)
theorem ZmW {Q:Col->Prop} {f:Col->Int} {b B m:Nat} (hf:∀ c,Q c->nb b (f c)):∀ (cs:List Col) (g:List Col->Int),(∀ c∈cs,Q c)->(∀ q:List Col,(∀ c∈q,Q c)->q.length+1<=cs.length->nb B (g q))->nb (b+B+cs.length) (lap f cs g)
 | [],g,_,_=>nb0 _
 | c::cs,g,hq,hg=>by
  have h1:=Za3 (hf c (hq c (by simp))) (hg cs (λx hx=>hq x (List.mem_cons_of_mem _ hx)) (by simp))
  have h2:=ZmW (m:=m) hf cs (λr=>g (c::r)) (λx hx=>hq x (List.mem_cons_of_mem _ hx)) λq q1 q2=>hg (c::q) (λx hx=>by
   rcases List.mem_cons.mp hx with rfl | hx
   ·exact hq _ (by simp)
   ·exact q1 x hx) (by simp; omega)
  rw [lap,List.length_cons]
  exact Zar (ZcS h1 h2) (by omega)
noncomputable def bdD (b k:Nat):Nat:=1+k * (b+10)
theorem D_nb {n b:Nat}:∀ (k:Nat),k<=n->∀ cs:List Col,(∀ c∈cs,∀ r,r < n->nb b (c r))->cs.length<=10->nb (bdD b k) (D k cs)
 | 0,_,cs,_,_=>by show (1:Int).natAbs < 2 ^ (1+0 * _); rw [Nat.zero_mul]; decide
 | k+1,hk,cs,hc,hl=>by
  have h:=ZmW (Q:=λc=>∀ r,r < n->nb b (c r)) (f:=λc=>c k) (b:=b) (B:=bdD b k) (m:=0) (λc hc=>hc k (by omega)) cs (D k) hc λq q1 q2=>D_nb k (by omega) q q1 (by omega)
  refine Zar h ?_
  unfold bdD
  rw [Nat.succ_mul]
  omega
variable {A:Nat->Nat->Int}
theorem ZoM:∀ {k:Nat} {c:Col},c∈R A k->∃ l,l < k/\c=col A l
 | 0,c,h=>by cases h
 | k+1,c,h=>by
  rcases List.mem_cons.mp h with rfl | h
  ·exact ⟨k,by omega,rfl⟩
  ·obtain ⟨l,h1,h2⟩:=ZoM h
   exact ⟨l,by omega,h2⟩
theorem ZoN (A:Nat->Nat->Int):∀ k:Nat,(R A k).length=k
 | 0=>rfl
 | k+1=>by rw [R,List.length_cons,ZoN A k]
theorem Zm8 {Q:Col->Prop} {B:Nat}:∀ (k:Nat) (g:List Col->Int) (l:Nat),(∀ j,j < k->Q (col A j))->(∀ q:List Col,(∀ c∈q,Q c)->q.length+1<=k->nb B (g q))->nb B (coN A k g l)
 | 0,g,l,_,_=>nb0 _
 | k+1,g,l,hq,hg=>by
  rw [coN]
  split
  ·exact hg _ (λc hc=>by obtain ⟨j,h1,rfl⟩:=ZoM hc; exact hq j (by omega)) (by rw [ZoN]; exact Nat.le_refl _)
  ·refine ZfA (Zm8 k _ l (λj hj=>hq j (by omega)) λq q1 q2=>hg _ (λc hc=>?_) (by rw [List.length_cons]; omega))
   rcases List.mem_cons.mp hc with rfl | hc
   ·exact hq k (by omega)
   ·exact q1 c hc
theorem ZjF {f:Nat->Int} {b:Nat}:∀ (n:Nat),(∀ l,l < n->nb b (f l))->nb (b+n) (sumTo f n)
 | 0,_=>nb0 _
 | n+1,h=>by
  rw [sumTo]
  exact Zar (ZbY (ZjF n λl hl=>h l (by omega)) (h n (by omega))) (by omega)
theorem d_nb {n b:Nat} (hn:n<=9) (hA:∀ i j,i < n->j < n->nb b (A i j)) {k:Nat} (hk:k<=n):nb (bdD b 9) (d A k):=by
 have h:=D_nb (n:=n) (b:=b) k hk (R A k) (λc hc r hr=>by obtain ⟨j,h1,rfl⟩:=ZoM hc; exact hA r j hr (by omega)) (by rw [ZoN]; omega)
 refine Zar h ?_
 unfold bdD
 have:=Nat.mul_le_mul_right (b+10) (show k<=9 by omega)
 omega
theorem M_nb {n b:Nat} (hn:n<=9) (hA:∀ i j,i < n->j < n->nb b (A i j)) {k i:Nat} (hk:k<=n) (hi:i < n) {a:Col} (ha:∀ r,r < n->nb b (a r)):nb (b+bdD b 9+11) (M A k i a):=by
 have hs:∀ l,nb (bdD b 9) (sol A k a l):=λl=>by
  unfold sol
  refine Zm8 (Q:=λc=>∀ r,r < n->nb b (c r)) k _ l (λj hj r hr=>hA r j hr (by omega)) λq q1 q2=>?_
  refine Zar (D_nb (n:=n) (b:=b) k hk (a::q) (λc hc=>?_) (by rw [List.length_cons]; omega)) ?_
  ·rcases List.mem_cons.mp hc with rfl | hc
   ·exact ha
   ·exact q1 c hc
  ·unfold bdD
   have:=Nat.mul_le_mul_right (b+10) (show k<=9 by omega)
   omega
 unfold M
 split
 ·exact Zar (hs i) (by omega)
 ·unfold F
  have h1:=Za3 (d_nb hn hA hk) (ha i hi)
  have h2:=ZjF (f:=λl=>A i l * sol A k a l) (b:=b+bdD b 9) k λl hl=>Za3 (hA i l hi (by omega)) (hs l)
  exact Zar (ZcS h1 h2) (by omega)
end Bar
set_option Elab.async false
set_option linter.all false
set_option maxRecDepth 100000
namespace Tw
open PySem L2
end Tw
set_option Elab.async false
set_option linter.all false
set_option maxRecDepth 100000
namespace Tw
open PySem PySem.Spec PyProof.Rows L2
end Tw
set_option Elab.async false
set_option linter.all false
set_option maxRecDepth 100000
namespace Tw
open PySem PySem.Spec PyProof.Rows L2
end Tw
set_option Elab.async false
set_option linter.all false
set_option maxRecDepth 100000
namespace Tw
open PySem L2
end Tw
set_option Elab.async false
set_option linter.all false
set_option maxRecDepth 100000
namespace Tw
open PySem PySem.Spec PyProof.Rows L2
end Tw
set_option Elab.async false
set_option linter.all false
set_option maxRecDepth 100000
namespace Tw
open PySem PySem.Spec PyProof.Rows L2
noncomputable def csK (g:Int->Int) (K x y:Int):Int:=if x < y then K+g y else g y
end Tw
set_option Elab.async false
set_option linter.all false
set_option maxRecDepth 100000
namespace L2
open PySem PySem.Spec PyProof.Rows
theorem Ziw {g:PyData->List Sl->Option (List Sl)} {s:List Sl->Tr Ou} {r:Re} {full:List PyData} (B:List PyData->PyData->Prop) (I:List PyData->List Sl->Prop)
  (ht:∀ pre x post ρ,full=pre++x::post->I pre ρ->∃ ρ1,g x ρ=some ρ1/\((B pre x/\s ρ1=.ret (.ret r))\/(¬ B pre x/\∃ ρ2,s ρ1=.ret (.next ρ2)/\I (pre++[x]) ρ2))) :
  ∀ {xs pre:List PyData} {ρ:List Sl},full=pre++xs->I pre ρ->(∀ p x q,pre=p++x::q->¬ B p x) ->
   ((∃ p x q,full=p++x::q/\B p x)/\Zdw g s xs ρ=.ret (.ret r))\/((∀ p x q,full=p++x::q->¬ B p x)/\∃ ρ2,Zdw g s xs ρ=.ret (.next ρ2)/\I full ρ2)
 | [],pre,ρ,e,h0,hn=>by
  rw [List.append_nil] at e
  subst e
  exact .inr ⟨hn,ρ,rfl,h0⟩
 | x::xs,pre,ρ,e,h0,hn=>by
  obtain ⟨ρ1,e1,hx⟩:=ht pre x xs ρ e h0
  rw [ZbP,e1,Tr.of_some,Tr.ret_bind]
  unfold ZoV
  rcases hx with ⟨hb,e2⟩ | ⟨hb,ρ2,e2,h2⟩
  ·exact .inl ⟨⟨pre,x,xs,e,hb⟩,by rw [e2,Tr.ret_bind]; rfl⟩
  ·rw [e2,Tr.ret_bind,ev_for3n]
   refine Ziw B I ht (xs:=xs) (pre:=pre++[x]) (by rw [e,List.append_assoc]; rfl) h2 λp y q hp=>?_
   rcases List.append_eq_append_iff.mp hp with ⟨a,h1,h2'⟩ | ⟨a,h1,h2'⟩
   ·cases a with
    | nil =>
     rw [List.nil_append] at h2'
     rw [List.append_nil] at h1
     cases h2'
     subst h1
     exact hb
    | cons z a =>
     simp at h2'
   ·cases a with
    | nil =>
     rw [List.nil_append] at h2'
     rw [List.append_nil] at h1
     cases h2'
     subst h1
     exact hb
    | cons z a =>
     rw [List.cons_append] at h2'
     cases h2'
     exact hn p y a h1
theorem Zky {g:PyData->List Sl->Option (List Sl)} {s:List Sl->Tr Ou} {r:Re} {xs:List PyData} {ρ:List Sl} (B:List PyData->PyData->Prop) (I:List PyData->List Sl->Prop) (h0:I [] ρ)
  (ht:∀ pre x post ρ,xs=pre++x::post->I pre ρ->∃ ρ1,g x ρ=some ρ1/\((B pre x/\s ρ1=.ret (.ret r))\/(¬ B pre x/\∃ ρ2,s ρ1=.ret (.next ρ2)/\I (pre++[x]) ρ2))) :
   ((∃ p x q,xs=p++x::q/\B p x)/\Zdw g s xs ρ=.ret (.ret r))\/((∀ p x q,xs=p++x::q->¬ B p x)/\∃ ρ2,Zdw g s xs ρ=.ret (.next ρ2)/\I xs ρ2) :=
 Ziw B I ht (xs:=xs) (pre:=[]) rfl h0 λp x q hp=>by
  have:=congrArg List.length hp
  simp at this
end L2
set_option Elab.async false
set_option linter.all false
set_option maxRecDepth 100000
namespace L2
open PySem PySem.Spec PyProof.Rows
noncomputable def ZdX (c:Addr) (at' left:Int):List (Key×V):=[(Sum.inr "cells",.ref c),(Sum.inr "at",.int at'),(Sum.inr "left",.int left)]
theorem nc1:¬ ((Sum.inr ("cells":Str):Key)=(Sum.inr ("at":Str):Key)):=by decide +kernel
theorem nc2:¬ ((Sum.inr ("cells":Str):Key)=(Sum.inr ("left":Str):Key)):=by decide +kernel
theorem nc3:¬ ((Sum.inr ("at":Str):Key)=(Sum.inr ("left":Str):Key)):=by decide +kernel
theorem ZiT (c:Addr) (a l:Int):Zia (ZdX c a l) (Sum.inr "cells":Key)=some (.ref c):=Zc8 rfl
theorem Zj3 (c:Addr) (a l:Int):Zia (ZdX c a l) (Sum.inr "at":Key)=some (.int a):=by
 unfold ZdX
 rw [Zc9 nc1,Zc8 rfl]
theorem ZgF (c:Addr) (a l:Int):Zia (ZdX c a l) (Sum.inr "left":Key)=some (.int l):=by
 unfold ZdX
 rw [Zc9 nc2,Zc9 nc3,Zc8 rfl]
theorem ZhA (c:Addr) (a l b:Int):Zf2 (ZdX c a l) (Sum.inr "at":Key) (.int b)=ZdX c b l:=by
 have h:((ZdX c a l).any λkv=>decide (kv.1=(Sum.inr "at":Key)))=true:=by rw [Zer,Zj3]; rfl
 unfold Zf2
 rw [if_pos h]
 unfold ZdX
 simp only [List.map_cons,List.map_nil,if_neg nc1,if_neg (Ne.symm nc3),if_true]
theorem Zf5 (c:Addr) (a l b:Int):Zf2 (ZdX c a l) (Sum.inr "left":Key) (.int b)=ZdX c a b:=by
 have h:((ZdX c a l).any λkv=>decide (kv.1=(Sum.inr "left":Key)))=true:=by rw [Zer,ZgF]; rfl
 unfold Zf2
 rw [if_pos h]
 unfold ZdX
 simp only [List.map_cons,List.map_nil,if_neg nc2,if_neg nc3,if_true]
section
variable {H:Hp} {p c:Addr} {a l b:Int}
theorem ZdP (h:H p=some (.dK (ZdX c a l))):DGet H p (.str "cells") (some (.ref c)):=by
 have q:=DGet.k (k:=(Sum.inr "cells":Key)) h
 rw [ZiT] at q
 exact q
theorem ZqE (h:H p=some (.dK (ZdX c a l))):DGet H p (.str "at") (some (.int a)):=by
 have q:=DGet.k (k:=(Sum.inr "at":Key)) h
 rw [Zj3] at q
 exact q
theorem Zgg (h:H p=some (.dK (ZdX c a l))):DGet H p (.str "left") (some (.int l)):=by
 have q:=DGet.k (k:=(Sum.inr "left":Key)) h
 rw [ZgF] at q
 exact q
theorem ZqC (h:H p=some (.dK (ZdX c a l))):DPut H p (.str "at") (.int b) (upd H p (.dK (ZdX c b l))):=by
 have q:=DPut.k (k:=(Sum.inr "at":Key)) (v:=V.int b) h (by show 3 < sizeLine; decide)
 rw [ZhA] at q
 exact q
theorem ZiB (h:H p=some (.dK (ZdX c a l))):DPut H p (.str "left") (.int b) (upd H p (.dK (ZdX c a b))):=by
 have q:=DPut.k (k:=(Sum.inr "left":Key)) (v:=V.int b) h (by show 3 < sizeLine; decide)
 rw [Zf5] at q
 exact q
end
structure Pen6 (K:PySem.W.Frag) (H:Hp) (p c:Addr) (ns:List Int) (m:Nat):Prop where
 ex:∃ (k:Nat) (left:Int),H p=some (.dK (ZdX c k left))/\k<=m/\0<=left
 cells:SqL K H c (ns.map V.int)
 len:ns.length<=63
noncomputable def ZjI (K:PySem.W.Frag):Sp:=λvs H Q _=>∃ (p c:Addr) (ns:List Int) (m:Nat) (most:Int),vs=[.ref p,.int most]/\Pen6 K H p c ns m/\m<=500000/\0 < most/\most < 1073741824 /\
 ∀ (r:Int) (H':Hp),0<=r->r < most->Pen6 K H' p c ns (m+1)->Kept p H H'->Q (.int r) H'
noncomputable def Zpi (K:PySem.W.Frag):Sp:=λvs H Q _=>∃ (a:Addr) (ns:List Int),vs=[.ref a]/\SqL K H a (ns.map V.int)/\ns.length<=63 /\
 ∀ (p:Addr) (H':Hp),H p=none->(∃ c,Pen6 K H' p c ns 0)->Same H H'->Q (.ref p) H'
noncomputable def PK2 (cn:PySem.W.Frag×Addr×List Int):Pk where
 is:=λo G m=>∃ (k:Nat) (left:Int),o=.dK (ZdX cn.2.1 k left)/\k<=m/\0<=left/\SqL cn.1 G cn.2.1 (cn.2.2.map V.int)/\cn.2.2.length<=63
 mono:=λs ⟨k,left,e,h1,h2,h3,h4⟩=>⟨k,left,e,h1,h2,Same.seq (λb o h=>s b o h) h3,h4⟩
theorem ZlJ {cn:PySem.W.Frag×Addr×List Int}:PkLow (PK2 cn):=⟨λ⟨_,_,_,_,_,h3,_⟩ _ ⟨k,left,e,h1,h2,_,h4⟩=>⟨k,left,e,h1,h2,h3,h4⟩⟩
theorem ZpI {ι:Type} {X:Cx} {e:List Stmt} {t:ι->TS} (h:∀ i,PSs X e (t i)):PSs X e (λD σ H=>∃ i,t i D σ H):=λpins s σ H D I z=>by
 obtain ⟨i,z⟩:=z
 exact h i pins s σ H D I z
noncomputable def Zir:List Sl->Tr Re:=λas=>match as with
 | [.pen,.d (.int most)]=>.draw most λr=>.ret (.d (.int r))
 | _=>.fail
theorem ZiA {as:List Sl} {m:Nat} {Z:Nat->Re->Prop} (h:(Zir as).ok m Z):∃ most,as=[.pen,.d (.int most)]:=by
 unfold Zir at h
 split at h
 ·exact ⟨_,rfl⟩
 ·exact h.elim
theorem draw1 {P:Program} {w:World} {K:PySem.W.Frag} {c:Addr×List Int} {mg:Str->Option Value} {base:Heap} {x:Str} {k:Nat} {ps:List Str} (hp:ps.length=2) (C:Callee P w K mg base x k ps (ZjI K)):ACal (PK2 (K,c)) P w K mg base x k ps Zir:=by
 refine ⟨?_,λas m Z h=>by obtain ⟨most,rfl⟩:=ZiA h; exact hp.symm⟩
 obtain ⟨f,fd,F,hm,hk,hb⟩:=C.ex
 refine ⟨f,fd,F.imp λvs H Q E h=>?_,hm,hk,hb⟩
 obtain ⟨hv,pa,m,G,as,wd,ar,z⟩:=h
 obtain ⟨most,rfl⟩:=ZiA z
 obtain ⟨h1,h2,h3,h4⟩:=z
 cases ar with
 | cons a1 ar =>
  cases ar with
  | cons a2 ar =>
   cases ar
   cases a1
   cases a2 with
   | d d2 =>
    cases d2
    obtain ⟨c,ns⟩:=c
    obtain ⟨o,ho,kk,left,rfl,q1,q2,q3,q4⟩:=wd.pen
    replace q3:SqL K G c (ns.map V.int):=q3
    refine ⟨pa,c,ns,m,most,rfl,⟨⟨kk,left,ho,q1,q2⟩,Same.seq (λb o h=>wd.sub b o h) q3,q4⟩,by omega,h2,h3,λr H' r0 r1 P' K'=>?_⟩
    refine h4 r r0 r1 (.int r) G H' ⟨λ_ _ q=>q,λ_ _ q=>.inl q,λb o e n=>K' b o e n⟩ ⟨λb o e=>K' b o (wd.sub b o e) (λz=>by subst z; rw [wd.gpa] at e; cases e),wd.gpa,?_⟩ (.int r)
    obtain ⟨⟨k2,l2,e2,g1,g2⟩,_,_⟩:=P'
    exact ⟨_,e2,k2,l2,rfl,g1,g2,q3,q4⟩
noncomputable def spLaw:PySem.W.Frag->Sp:=λK vs H Q _=>∃ (a:Addr) (ns:List Int),vs=[.ref a]/\SqL K H a (ns.map V.int)/\ns.length<=63/\∀ H',Q (.bl true) H'
theorem Zko {K:PySem.W.Frag} {D:Ends} {p:Addr} {ns:List Int} {H:Hp} {σ:St} {s:List Sl->Tr Ou} {n:Nat} (P:∃ c,Pen6 K H p c ns 0) (hσ:σ.length=n+2) (h1:σ[1]?=some (some (.ref p))) (hrt:∀ H',D.rt (.bl true) H')
  (h:(s (.un::.pen::List.replicate n .un)).ok 0 λ_ o=>o=.ret (.d (.bool true))):∃ cn:Addr×List Int,TAs (PK2 (K,cn)) s D σ H:=by
 obtain ⟨c,⟨k,l,e,hk,hl⟩,hc,hn⟩:=P
 obtain ⟨G,gs,gp,gc⟩:∃ G:Hp,(∀ b o,G b=some o->H b=some o)/\G p=none/\SqL K G c (ns.map V.int):=by
  rcases hc with (hc | ⟨o,hc⟩) | hc
  ·refine ⟨λb=>if b=c then H c else none,λb o hb=>?_,?_,.inl (.inl (by simp [hc]))⟩
   ·by_cases hbc:b=c
    ·subst hbc; simpa using hb
    ·simp [hbc] at hb
   ·have:p≠c:=Zkc e hc (by intro z; cases z)
    exact if_neg this
  ·refine ⟨λb=>if b=c then H c else none,λb o hb=>?_,?_,.inl (.inr ⟨o,by simp [hc]⟩)⟩
   ·by_cases hbc:b=c
    ·subst hbc; simpa using hb
    ·simp [hbc] at hb
   ·have:p≠c:=Zkc e hc (by intro z; cases z)
    exact if_neg this
  ·exact ⟨λ_=>none,λb o hb=>(by cases hb),rfl,.inr hc⟩
 have key:∀ (i:Nat) (sl:Sl),(Sl.un::.pen::List.replicate n .un)[i]?=some sl->sl=.un\/(i=1/\sl=.pen):=λi sl hi=>by
  match i with
  | 0=>simp at hi; exact .inl hi.symm
  | 1=>simp at hi; exact .inr ⟨rfl,hi.symm⟩
  | i+2 =>
   simp [List.getElem?_replicate] at hi
   exact .inl hi.2.symm
 refine ⟨(c,ns),p,G,H,0,_,G,⟨⟨gs,gp,?_⟩,.refl,⟨_,e⟩,λi sl hi=>?_,by simp [hσ],λi j xs ys _ hi _=>?_,λi j xs ys _ hi _=>by rcases key i _ hi with z | ⟨_,z⟩ <;> cases z⟩,Tr.ok_mono h λm o ho=>?_⟩
 ·exact ⟨_,e,k,l,rfl,hk,hl,gc,hn⟩
 ·have hlt:i < σ.length:=by
   have:=(List.getElem?_eq_some_iff.mp hi).1
   simp at this
   omega
  rcases key i sl hi with rfl | ⟨rfl,rfl⟩
  ·exact ⟨σ[i],by simp [hlt],.un⟩
  ·exact ⟨_,h1,.pen⟩
 ·rcases key i _ hi with z | ⟨_,z⟩ <;> cases z
 ·subst ho
  intro v G H' s' w' d
  cases (show Dn G v (.bool true) from d)
  exact hrt H'
end L2
set_option Elab.async false
set_option linter.all false
set_option maxRecDepth 100000
namespace My
open PySem PySem.Spec PyProof.Rows L2
noncomputable def top (i:Nat):Stmt:=PySem.Challenge.pw_twomarks_k36_lasting_papers_told.main.body.getD i (.Pass ⟨0,0,0,0⟩)
noncomputable abbrev s_stocks:Stmt:=top 12
noncomputable abbrev Zmx:List Str:=["shop"]
theorem ZjL:FnScope Zmx ["shop"] (Zah s_stocks):=⟨rfl,rfl,rfl,by decide +kernel,rfl,by decide +kernel,by decide +kernel⟩
noncomputable abbrev s_greatest_seen:Stmt:=top 13
noncomputable abbrev Zbo:List Str:=["day"]
theorem Zek:FnScope Zbo ["day"] (Zah s_greatest_seen):=⟨rfl,rfl,rfl,by decide +kernel,rfl,by decide +kernel,by decide +kernel⟩
noncomputable abbrev s_order_cost:Stmt:=top 14
noncomputable abbrev Zhc:List Str:=["shop","stock","level"]
theorem ZfV:FnScope Zhc ["shop","stock","level"] (Zah s_order_cost):=⟨rfl,rfl,rfl,by decide +kernel,rfl,by decide +kernel,by decide +kernel⟩
noncomputable abbrev s_next_stock:Stmt:=top 15
noncomputable abbrev Zhd:List Str:=["shop","level","fall"]
theorem ZfW:FnScope Zhd ["shop","level","fall"] (Zah s_next_stock):=⟨rfl,rfl,rfl,by decide +kernel,rfl,by decide +kernel,by decide +kernel⟩
noncomputable abbrev s_day_cost:Stmt:=top 16
noncomputable abbrev Zjl:List Str:=["shop","level","fall","stock","sold_never","held"]
theorem sc_day_cost:FnScope Zjl ["shop","level","fall"] (Zah s_day_cost):=⟨rfl,rfl,rfl,by decide +kernel,rfl,by decide +kernel,by decide +kernel⟩
noncomputable abbrev s_common_divisor:Stmt:=top 18
noncomputable abbrev Zeq:List Str:=["one","other"]
theorem sc_common_divisor:FnScope Zeq ["one","other"] (Zah s_common_divisor):=⟨rfl,rfl,rfl,by decide +kernel,rfl,by decide +kernel,by decide +kernel⟩
noncomputable abbrev s_share:Stmt:=top 19
noncomputable abbrev ZoO:List Str:=["top","bottom","divisor"]
theorem sc_share:FnScope ZoO ["top","bottom"] (Zah s_share):=⟨rfl,rfl,rfl,by decide +kernel,rfl,by decide +kernel,by decide +kernel⟩
noncomputable abbrev s_weighed:Stmt:=top 21
noncomputable abbrev Zlf:List Str:=["shop","day","level","ahead","scale","total","fall","weight","following"]
theorem sc_weighed:FnScope Zlf ["shop","day","level","ahead","scale"] (Zah s_weighed):=⟨rfl,rfl,rfl,by decide +kernel,rfl,by decide +kernel,by decide +kernel⟩
noncomputable abbrev s_level_sums:Stmt:=top 23
noncomputable abbrev Zcm:List Str:=["shop","day","ahead","scale","own_scale"]
theorem sc_level_sums:FnScope Zcm ["shop","day","ahead","scale"] (Zah s_level_sums):=⟨rfl,rfl,rfl,by decide +kernel,rfl,by decide +kernel,by decide +kernel⟩
noncomputable abbrev s_cheapest_from:Stmt:=top 24
noncomputable abbrev Ze9:List Str:=["shop","low","by_level","scale","picks","best","stock","own","cost","level"]
theorem sc_cheapest_from:FnScope Ze9 ["shop","low","by_level","scale"] (Zah s_cheapest_from):=⟨rfl,rfl,rfl,by decide +kernel,rfl,by decide +kernel,by decide +kernel⟩
noncomputable abbrev s_cheapest:Stmt:=top 25
noncomputable abbrev Zjm:List Str:=["shop","by_level","scale"]
theorem Zhs:FnScope Zjm ["shop","by_level","scale"] (Zah s_cheapest):=⟨rfl,rfl,rfl,by decide +kernel,rfl,by decide +kernel,by decide +kernel⟩
noncomputable abbrev s_ask_lasting:Stmt:=top 27
noncomputable abbrev Zgv:List Str:=["shop","one"]
theorem Zfe:FnScope Zgv ["shop","one"] (Zah s_ask_lasting):=⟨rfl,rfl,rfl,by decide +kernel,rfl,by decide +kernel,by decide +kernel⟩
noncomputable abbrev s_equation:Stmt:=top 28
noncomputable abbrev Zjk:List Str:=["shop","one","stock","level","row","fall","weight","nothing_ahead","cost"]
theorem sc_equation:FnScope Zjk ["shop","one","stock","level"] (Zah s_equation):=⟨rfl,rfl,rfl,by decide +kernel,rfl,by decide +kernel,by decide +kernel⟩
noncomputable abbrev s_solved:Stmt:=top 29
noncomputable abbrev Zcl:List Str:=["rows","before","k","leading","lead","at","many"]
theorem sc_solved:FnScope Zcl ["rows"] (Zah s_solved):=⟨rfl,rfl,rfl,by decide +kernel,rfl,by decide +kernel,by decide +kernel⟩
noncomputable abbrev s_mean_and_worths:Stmt:=top 30
noncomputable abbrev Za9:List Str:=["shop","one","levels","found","scale"]
theorem sc_mean_and_worths:FnScope Za9 ["shop","one","levels"] (Zah s_mean_and_worths):=⟨rfl,rfl,rfl,by decide +kernel,rfl,by decide +kernel,by decide +kernel⟩
noncomputable abbrev s_best_of_all:Stmt:=top 31
noncomputable abbrev ZbI:List Str:=["shop","one","levels","mean","worths","scale","picks","better"]
theorem sc_best_of_all:FnScope ZbI ["shop","one"] (Zah s_best_of_all):=⟨rfl,rfl,rfl,by decide +kernel,rfl,by decide +kernel,by decide +kernel⟩
noncomputable abbrev s_lasting:Stmt:=top 32
noncomputable abbrev ZdW:List Str:=["shop","one","mean","worths","scale","levels"]
theorem sc_lasting:FnScope ZdW ["shop","one"] (Zah s_lasting):=⟨rfl,rfl,rfl,by decide +kernel,rfl,by decide +kernel,by decide +kernel⟩
noncomputable abbrev s__law_pen:Stmt:=top 34
noncomputable abbrev Zjn:List Str:=["_law_script"]
theorem Zht:FnScope Zjn ["_law_script"] (Zah s__law_pen):=⟨rfl,rfl,rfl,by decide +kernel,rfl,by decide +kernel,by decide +kernel⟩
noncomputable abbrev s__law_mixed:Stmt:=top 35
noncomputable abbrev Zhi:List Str:=["_law_cell","_law_k","_law_prime","_law_one","_law_two"]
theorem sc__law_mixed:FnScope Zhi ["_law_cell","_law_k"] (Zah s__law_mixed):=⟨rfl,rfl,rfl,by decide +kernel,rfl,by decide +kernel,by decide +kernel⟩
noncomputable abbrev s__law_take:Stmt:=top 36
noncomputable abbrev Zh4:List Str:=["_law_pen_here","_law_most","_law_found","_law_k","_law_cell"]
theorem sc__law_take:FnScope Zh4 ["_law_pen_here","_law_most"] (Zah s__law_take):=⟨rfl,rfl,rfl,by decide +kernel,rfl,by decide +kernel,by decide +kernel⟩
noncomputable abbrev s__law_price:Stmt:=top 37
noncomputable abbrev Zhg:List Str:=["_law_pen_here","_law_way"]
theorem sc__law_price:FnScope Zhg ["_law_pen_here"] (Zah s__law_price):=⟨rfl,rfl,rfl,by decide +kernel,rfl,by decide +kernel,by decide +kernel⟩
noncomputable abbrev s__law_weights:Stmt:=top 38
noncomputable abbrev Zfp:List Str:=["_law_pen_here","_law_many","_law_at","_law_found","_law_k"]
theorem sc__law_weights:FnScope Zfp ["_law_pen_here","_law_many","_law_at"] (Zah s__law_weights):=⟨rfl,rfl,rfl,by decide +kernel,rfl,by decide +kernel,by decide +kernel⟩
noncomputable abbrev s__law_case:Stmt:=top 39
noncomputable abbrev ZcQ:List Str:=["_law_pen_here","_law_few","_law_pieces","_law_depth","_law_shop","_law_many"]
theorem sc__law_case:FnScope ZcQ ["_law_pen_here","_law_few"] (Zah s__law_case):=⟨rfl,rfl,rfl,by decide +kernel,rfl,by decide +kernel,by decide +kernel⟩
noncomputable abbrev s__law_order:Stmt:=top 40
noncomputable abbrev Zhh:List Str:=["_law_shop","_law_stock","_law_level"]
theorem ZfY:FnScope Zhh ["_law_shop","_law_stock","_law_level"] (Zah s__law_order):=⟨rfl,rfl,rfl,by decide +kernel,rfl,by decide +kernel,by decide +kernel⟩
noncomputable abbrev s__law_next:Stmt:=top 41
noncomputable abbrev Zh5:List Str:=["_law_shop","_law_level","_law_fall"]
theorem ZgA:FnScope Zh5 ["_law_shop","_law_level","_law_fall"] (Zah s__law_next):=⟨rfl,rfl,rfl,by decide +kernel,rfl,by decide +kernel,by decide +kernel⟩
noncomputable abbrev s__law_day:Stmt:=top 42
noncomputable abbrev Zjo:List Str:=["_law_shop","_law_level","_law_fall","_law_rest","_law_lost"]
theorem sc__law_day:FnScope Zjo ["_law_shop","_law_level","_law_fall"] (Zah s__law_day):=⟨rfl,rfl,rfl,by decide +kernel,rfl,by decide +kernel,by decide +kernel⟩
noncomputable abbrev s__law_whole:Stmt:=top 43
noncomputable abbrev Zhe:List Str:=["_law_thing"]
theorem ZfX:FnScope Zhe ["_law_thing"] (Zah s__law_whole):=⟨rfl,rfl,rfl,by decide +kernel,rfl,by decide +kernel,by decide +kernel⟩
noncomputable abbrev s__law_is_share:Stmt:=top 44
noncomputable abbrev Zfa:List Str:=["_law_thing","_law_one","_law_other"]
theorem sc__law_is_share:FnScope Zfa ["_law_thing"] (Zah s__law_is_share):=⟨rfl,rfl,rfl,by decide +kernel,rfl,by decide +kernel,by decide +kernel⟩
noncomputable abbrev s__law_has_form:Stmt:=top 45
noncomputable abbrev Zfb:List Str:=["_law_shop","_law_thing","_law_many","_law_some","_law_k","_law_level"]
theorem sc__law_has_form:FnScope Zfb ["_law_shop","_law_thing"] (Zah s__law_has_form):=⟨rfl,rfl,rfl,by decide +kernel,rfl,by decide +kernel,by decide +kernel⟩
noncomputable abbrev s__law_look:Stmt:=top 46
noncomputable abbrev ZcP:List Str:=["_law_shop","_law_one","_law_thing","_law_bottom","_law_worth","_law_worths","_law_mean","_law_whole_here","_law_k","_law_costs","_law_level","_law_cost","_law_fall","_law_weight","_law_there","_law_due_here"]
theorem sc__law_look:FnScope ZcP ["_law_shop","_law_one","_law_thing"] (Zah s__law_look):=⟨rfl,rfl,rfl,by decide +kernel,rfl,by decide +kernel,by decide +kernel⟩
noncomputable abbrev s__law_share:Stmt:=top 47
noncomputable abbrev Zhf:List Str:=["_law_top","_law_bottom","_law_one","_law_other"]
theorem sc__law_share:FnScope Zhf ["_law_top","_law_bottom"] (Zah s__law_share):=⟨rfl,rfl,rfl,by decide +kernel,rfl,by decide +kernel,by decide +kernel⟩
noncomputable abbrev s_law:Stmt:=top 48
noncomputable abbrev Zh3:List Str:=["_law_script","_law_pen_here","_law_turn","_law_shop","_law_one","_law_kept","_law_told","_law_by","_law_dearer","_law_found","_law_at","_law_other"]
theorem sc_law:FnScope Zh3 ["_law_script"] (Zah s_law):=⟨rfl,rfl,rfl,by decide +kernel,rfl,by decide +kernel,by decide +kernel⟩
structure Txt (K:PySem.W.Frag) (mg:Str->Option Value):Prop where
 n_len:mg "len"=none
 n_abs:mg "abs"=none
 n_max:mg "max"=none
 n_min:mg "min"=none
 n_repr:mg "repr"=none
 n_int:mg "int"=none
 n_list:mg "list"=none
 n_tuple:mg "tuple"=none
 n_bool:mg "bool"=none
 n_range:mg "range"=none
 n_isinstance:mg "isinstance"=none
 n_zip:mg "zip"=none
 n_sum:mg "sum"=none
 n_enumerate:mg "enumerate"=none
 n_ValueError:mg "ValueError"=none
 n_reversed:mg "reversed"=none
 g_TOP:∃ t,mg "TOP"=some (.int 0 t)
 g_DEPTH:∃ t,mg "DEPTH"=some (.int 1 t)
 g_START:∃ t,mg "START"=some (.int 2 t)
 g_PIECE:∃ t,mg "PIECE"=some (.int 3 t)
 g_KEEP:∃ t,mg "KEEP"=some (.int 4 t)
 g_LACK:∃ t,mg "LACK"=some (.int 5 t)
 g_LOST:∃ t,mg "LOST"=some (.int 6 t)
 d_stocks:Def K mg "stocks" s_stocks ["shop"]
 d_greatest_seen:Def K mg "greatest_seen" s_greatest_seen ["day"]
 d_order_cost:Def K mg "order_cost" s_order_cost ["shop","stock","level"]
 d_next_stock:Def K mg "next_stock" s_next_stock ["shop","level","fall"]
 d_day_cost:Def K mg "day_cost" s_day_cost ["shop","level","fall"]
 d_common_divisor:Def K mg "common_divisor" s_common_divisor ["one","other"]
 d_share:Def K mg "share" s_share ["top","bottom"]
 d_weighed:Def K mg "weighed" s_weighed ["shop","day","level","ahead","scale"]
 d_level_sums:Def K mg "level_sums" s_level_sums ["shop","day","ahead","scale"]
 d_cheapest_from:Def K mg "cheapest_from" s_cheapest_from ["shop","low","by_level","scale"]
 d_cheapest:Def K mg "cheapest" s_cheapest ["shop","by_level","scale"]
 d_ask_lasting:Def K mg "ask_lasting" s_ask_lasting ["shop","one"]
 d_equation:Def K mg "equation" s_equation ["shop","one","stock","level"]
 d_solved:Def K mg "solved" s_solved ["rows"]
 d_mean_and_worths:Def K mg "mean_and_worths" s_mean_and_worths ["shop","one","levels"]
 d_best_of_all:Def K mg "best_of_all" s_best_of_all ["shop","one"]
 d_lasting:Def K mg "lasting" s_lasting ["shop","one"]
 d__law_pen:Def K mg "_law_pen" s__law_pen ["_law_script"]
 d__law_mixed:Def K mg "_law_mixed" s__law_mixed ["_law_cell","_law_k"]
 d__law_take:Def K mg "_law_take" s__law_take ["_law_pen_here","_law_most"]
 d__law_price:Def K mg "_law_price" s__law_price ["_law_pen_here"]
 d__law_weights:Def K mg "_law_weights" s__law_weights ["_law_pen_here","_law_many","_law_at"]
 d__law_case:Def K mg "_law_case" s__law_case ["_law_pen_here","_law_few"]
 d__law_order:Def K mg "_law_order" s__law_order ["_law_shop","_law_stock","_law_level"]
 d__law_next:Def K mg "_law_next" s__law_next ["_law_shop","_law_level","_law_fall"]
 d__law_day:Def K mg "_law_day" s__law_day ["_law_shop","_law_level","_law_fall"]
 d__law_whole:Def K mg "_law_whole" s__law_whole ["_law_thing"]
 d__law_is_share:Def K mg "_law_is_share" s__law_is_share ["_law_thing"]
 d__law_has_form:Def K mg "_law_has_form" s__law_has_form ["_law_shop","_law_thing"]
 d__law_look:Def K mg "_law_look" s__law_look ["_law_shop","_law_one","_law_thing"]
 d__law_share:Def K mg "_law_share" s__law_share ["_law_top","_law_bottom"]
 d_law:Def K mg "law" s_law ["_law_script"]
set_option maxHeartbeats 4000000 in
theorem txt_mk {K:PySem.W.Frag} {mg:Str->Option Value} {h:Heap} (X:K.In h) (G:h.Ns mainGlobals mg)
  (z_len:PySem.W.nsIn K mainGlobals "len"=some none)
  (z_abs:PySem.W.nsIn K mainGlobals "abs"=some none)
  (z_max:PySem.W.nsIn K mainGlobals "max"=some none)
  (z_min:PySem.W.nsIn K mainGlobals "min"=some none)
  (z_repr:PySem.W.nsIn K mainGlobals "repr"=some none)
  (z_int:PySem.W.nsIn K mainGlobals "int"=some none)
  (z_list:PySem.W.nsIn K mainGlobals "list"=some none)
  (z_tuple:PySem.W.nsIn K mainGlobals "tuple"=some none)
  (z_bool:PySem.W.nsIn K mainGlobals "bool"=some none)
  (z_range:PySem.W.nsIn K mainGlobals "range"=some none)
  (z_isinstance:PySem.W.nsIn K mainGlobals "isinstance"=some none)
  (z_zip:PySem.W.nsIn K mainGlobals "zip"=some none)
  (z_sum:PySem.W.nsIn K mainGlobals "sum"=some none)
  (z_enumerate:PySem.W.nsIn K mainGlobals "enumerate"=some none)
  (z_ValueError:PySem.W.nsIn K mainGlobals "ValueError"=some none)
  (z_reversed:PySem.W.nsIn K mainGlobals "reversed"=some none)
  {t_TOP:Tok} (z_TOP:PySem.W.nsIn K mainGlobals "TOP"=some (some (.int 0 t_TOP)))
  {t_DEPTH:Tok} (z_DEPTH:PySem.W.nsIn K mainGlobals "DEPTH"=some (some (.int 1 t_DEPTH)))
  {t_START:Tok} (z_START:PySem.W.nsIn K mainGlobals "START"=some (some (.int 2 t_START)))
  {t_PIECE:Tok} (z_PIECE:PySem.W.nsIn K mainGlobals "PIECE"=some (some (.int 3 t_PIECE)))
  {t_KEEP:Tok} (z_KEEP:PySem.W.nsIn K mainGlobals "KEEP"=some (some (.int 4 t_KEEP)))
  {t_LACK:Tok} (z_LACK:PySem.W.nsIn K mainGlobals "LACK"=some (some (.int 5 t_LACK)))
  {t_LOST:Tok} (z_LOST:PySem.W.nsIn K mainGlobals "LOST"=some (some (.int 6 t_LOST)))
  (z_stocks:Def K mg "stocks" s_stocks ["shop"])
  (z_greatest_seen:Def K mg "greatest_seen" s_greatest_seen ["day"])
  (z_order_cost:Def K mg "order_cost" s_order_cost ["shop","stock","level"])
  (z_next_stock:Def K mg "next_stock" s_next_stock ["shop","level","fall"])
  (z_day_cost:Def K mg "day_cost" s_day_cost ["shop","level","fall"])
  (z_common_divisor:Def K mg "common_divisor" s_common_divisor ["one","other"])
  (z_share:Def K mg "share" s_share ["top","bottom"])
  (z_weighed:Def K mg "weighed" s_weighed ["shop","day","level","ahead","scale"])
  (z_level_sums:Def K mg "level_sums" s_level_sums ["shop","day","ahead","scale"])
  (z_cheapest_from:Def K mg "cheapest_from" s_cheapest_from ["shop","low","by_level","scale"])
  (z_cheapest:Def K mg "cheapest" s_cheapest ["shop","by_level","scale"])
  (z_ask_lasting:Def K mg "ask_lasting" s_ask_lasting ["shop","one"])
  (z_equation:Def K mg "equation" s_equation ["shop","one","stock","level"])
  (z_solved:Def K mg "solved" s_solved ["rows"])
  (z_mean_and_worths:Def K mg "mean_and_worths" s_mean_and_worths ["shop","one","levels"])
  (z_best_of_all:Def K mg "best_of_all" s_best_of_all ["shop","one"])
  (z_lasting:Def K mg "lasting" s_lasting ["shop","one"])
  (z__law_pen:Def K mg "_law_pen" s__law_pen ["_law_script"])
  (z__law_mixed:Def K mg "_law_mixed" s__law_mixed ["_law_cell","_law_k"])
  (z__law_take:Def K mg "_law_take" s__law_take ["_law_pen_here","_law_most"])
  (z__law_price:Def K mg "_law_price" s__law_price ["_law_pen_here"])
  (z__law_weights:Def K mg "_law_weights" s__law_weights ["_law_pen_here","_law_many","_law_at"])
  (z__law_case:Def K mg "_law_case" s__law_case ["_law_pen_here","_law_few"])
  (z__law_order:Def K mg "_law_order" s__law_order ["_law_shop","_law_stock","_law_level"])
  (z__law_next:Def K mg "_law_next" s__law_next ["_law_shop","_law_level","_law_fall"])
  (z__law_day:Def K mg "_law_day" s__law_day ["_law_shop","_law_level","_law_fall"])
  (z__law_whole:Def K mg "_law_whole" s__law_whole ["_law_thing"])
  (z__law_is_share:Def K mg "_law_is_share" s__law_is_share ["_law_thing"])
  (z__law_has_form:Def K mg "_law_has_form" s__law_has_form ["_law_shop","_law_thing"])
  (z__law_look:Def K mg "_law_look" s__law_look ["_law_shop","_law_one","_law_thing"])
  (z__law_share:Def K mg "_law_share" s__law_share ["_law_top","_law_bottom"])
  (z_law:Def K mg "law" s_law ["_law_script"])
  : Txt K mg:=⟨PySem.W.mg_none_of X G z_len,PySem.W.mg_none_of X G z_abs,PySem.W.mg_none_of X G z_max,PySem.W.mg_none_of X G z_min,PySem.W.mg_none_of X G z_repr,PySem.W.mg_none_of X G z_int,PySem.W.mg_none_of X G z_list,PySem.W.mg_none_of X G z_tuple,PySem.W.mg_none_of X G z_bool,PySem.W.mg_none_of X G z_range,PySem.W.mg_none_of X G z_isinstance,PySem.W.mg_none_of X G z_zip,PySem.W.mg_none_of X G z_sum,PySem.W.mg_none_of X G z_enumerate,PySem.W.mg_none_of X G z_ValueError,PySem.W.mg_none_of X G z_reversed,⟨_,PySem.W.mg_of X G z_TOP⟩,⟨_,PySem.W.mg_of X G z_DEPTH⟩,⟨_,PySem.W.mg_of X G z_START⟩,⟨_,PySem.W.mg_of X G z_PIECE⟩,⟨_,PySem.W.mg_of X G z_KEEP⟩,⟨_,PySem.W.mg_of X G z_LACK⟩,⟨_,PySem.W.mg_of X G z_LOST⟩,z_stocks,z_greatest_seen,z_order_cost,z_next_stock,z_day_cost,z_common_divisor,z_share,z_weighed,z_level_sums,z_cheapest_from,z_cheapest,z_ask_lasting,z_equation,z_solved,z_mean_and_worths,z_best_of_all,z_lasting,z__law_pen,z__law_mixed,z__law_take,z__law_price,z__law_weights,z__law_case,z__law_order,z__law_next,z__law_day,z__law_whole,z__law_is_share,z__law_has_form,z__law_look,z__law_share,z_law⟩

theorem Zop (ns:List Int) (a:Nat) (h:ns≠[]):∃ z:Int,atI (ns.map V.int) ((a:Int) % ((ns.map V.int).length:Nat))=some (.int z):=by
 have hl:0 < ns.length:=List.length_pos_iff.mpr h
 have hl':(ns.map V.int).length=ns.length:=List.length_map ..
 have e:(a:Int) % ((ns.map V.int).length:Nat)=((a % ns.length:Nat):Int):=by rw [hl']; omega
 have hlt:a % ns.length < ns.length:=Nat.mod_lt _ hl
 rw [e]
 exact ⟨ns[a % ns.length],Zb9 (by rw [List.getElem?_map,List.getElem?_eq_getElem hlt]; rfl)⟩
theorem Zhr {K:PySem.W.Frag} {H:Hp} {p c:Addr} {xs:List V} {d:List (Key×V)} {o:HO} (hd:H p=some (.dK d)) (hc:SqL K H c xs):SqL K (upd H p o) c xs:=by
 rcases hc with (hc | ⟨u,hc⟩) | hc
 ·exact .inl (.inl (by rw [Zau (Zkc hc hd (by intro z; cases z))]; exact hc))
 ·exact .inl (.inr ⟨u,by rw [Zau (Zkc hc hd (by intro z; cases z))]; exact hc⟩)
 ·exact .inr hc
noncomputable def Znt:Sp:=λvs H Q _=>∃ z a:Int,vs=[.int z,.int a]/\0<=a/\a<=500000/\∀ (r:Int) (H':Hp),Same H H'->Q (.int r) H'
theorem ZjY (a:Int):∃ q:Int,atI [V.int 2147483629,.int 2147483587,.int 2147483579,.int 2147483563,.int 2147483549] (a % 5)=some (.int q)/\0 < q/\q < 2147483648:=by
 have h0:=Int.emod_nonneg a (show (5:Int)≠0 by decide)
 have h1:=Int.emod_lt_of_pos a (show (0:Int) < 5 by decide)
 have:a % 5=0\/a % 5=1\/a % 5=2\/a % 5=3\/a % 5=4:=by omega
 rcases this with e | e | e | e | e <;> rw [e]
 ·exact ⟨_,at_0,by decide,by decide⟩
 ·exact ⟨_,at_1,by decide,by decide⟩
 ·exact ⟨_,at_2,by decide,by decide⟩
 ·exact ⟨_,at_3,by decide,by decide⟩
 ·exact ⟨_,at_4,by decide,by decide⟩
theorem ten18 {z:Int} (h:z ≥ (10:Int) ^ (18:Int).toNat):0<=z:=by
 have e:(10:Int) ^ (18:Int).toNat=1000000000000000000:=by decide
 omega
section
variable {P:Program} {w:World} {K:PySem.W.Frag} {mg:Str->Option Value} {base:Heap}
set_option maxHeartbeats 1000000 in
theorem ZpZ (T:Txt K mg):Callee P w K mg base "_law_pen" 1 ["_law_script"] (Zpi K):=by
 refine T.d__law_pen.ok Zht (λvs H Q E h=>?_) (λf cdv A outer s H vs Q E hr h=>?_)
 ·obtain ⟨a,ns,rfl,_⟩:=h
  rfl
 ·obtain ⟨a,ns,rfl,hS,hlen,k⟩:=h
  have hu:=Zl3 hr
  refine ⟨_,(Zds (ZdI (ZnI (Zf3 Zcd (ZaZ (Zeh) rfl T.n_list boot_list (ZaE (Zik sl_list (pv 0) po_none (Zj0 Zba)) pa_nil)) (Zf3 Zcd Zba (Zf3 Zcd Zba ZnD))) rfl rfl (by simp) (by decide)))),?_⟩
  intro p hp
  have s0:Same H (upd H p (.dK [])):=(Same.refl _).new hp
  refine ⟨_,rfl,63,rfl,a,_,rfl,s0.seq hS,λq hq=>⟨q,_,rfl,Or.inl (SqL.of ZaF),λc hc=>?_⟩⟩
  have hcut:Zjq (ns.map V.int) none (some 63)=ns.map V.int:=by
   unfold Zjq
   have e:HT.sIx (ns.map V.int).length (ns.map V.int).length (some 63)=(ns.map V.int).length:=by
    have q:=HT.sIx_nat (ns.map V.int).length (ns.map V.int).length 63
    rw [List.length_map] at q ⊢
    exact q.trans (Nat.min_eq_right hlen)
   rw [e]
   show ((ns.map V.int).drop 0).take ((ns.map V.int).length - 0)=_
   rw [List.drop_zero,Nat.sub_zero,List.take_length]
  have nqp:q≠p:=λz=>by
   rw [z,ZaF] at hq
   cases hq
  have ncp:c≠p:=λz=>by
   rw [z,Zau (Ne.symm nqp),ZaF] at hc
   cases hc
  have s1:=s0.new (o:=.lst (Zjq (ns.map V.int) none (some 63))) hq
  have s2:=s1.new (o:=.lst (Zjq (ns.map V.int) none (some 63))) hc
  refine ⟨by rw [Zau (Ne.symm ncp),Zau (Ne.symm nqp),ZaF],ZdX c 0 0,rfl,(by show 3<=15; decide),k p _ hp ⟨c,⟨0,0,by rw [ZaF]; rfl,Nat.le_refl _,Int.le_refl _⟩,SqL.of ?_,hlen⟩ λb o e=>?_⟩
  ·rw [Zau ncp,ZaF,hcut]
  ·rw [Zau (ZaC e hp)]
   exact s2 b o e
set_option maxHeartbeats 1000000 in
theorem ZlP (T:Txt K mg):Callee P w K mg base "_law_mixed" 1 ["_law_cell","_law_k"] Znt:=by
 refine T.d__law_mixed.ok sc__law_mixed (λvs H Q E h=>?_) (λf cdv A outer s H vs Q E hr h=>?_)
 ·obtain ⟨z,a,rfl,_⟩:=h
  rfl
 ·obtain ⟨z,a,rfl,a0,a1,k⟩:=h
  have hu:=Zl3 hr
  refine ⟨_,(Zbi (Zav (i:=2) sc__law_mixed.nd rfl (Or.inl rfl) (ZlM ix_tup (ZmQ (ZaE Zba (ZaE Zba (ZaE Zba (ZaE Zba (ZaE Zba pa_nil)))))) (ZbJ Zdn (pv 1) Zba) (λ_ _=>rfl)))
 (Zbi (Zav (i:=3) sc__law_mixed.nd rfl (Or.inl rfl) (ZbJ Zdn (ZbJ Zim (ZbJ op_add (ZbJ op_add (ZbJ Zin (ZbJ Zdn (pv 0) (pv 2)) (ZbJ op_add (ZbJ Zin Zba (pv 1)) Zba)) (ZbJ Zin Zba (pv 1))) Zba) Zba) (pv 2)))
 (Zbi (Zav (i:=4) sc__law_mixed.nd rfl (Or.inl rfl) (ZbJ Zdn (ZbJ op_add (ZbJ Zin (pv 3) (ZbJ op_add (ZbJ op_add (ZbJ Zdn (pv 3) Zba) (pv 1)) Zba)) (ZbJ Zdn (pv 0) Zba)) Zba))
 (Zds (ZdI (ZbJ ZhC (pv 4) Zba)))))),?_⟩
  obtain ⟨q,hq,q0,q1⟩:=ZjY a
  refine ⟨by show 5<=sizeLine; decide,λt ht=>?_⟩
  have s1:Same H (upd H t (.tup [.int 2147483629,.int 2147483587,.int 2147483579,.int 2147483563,.int 2147483549])):=(Same.refl _).new ht
  refine ⟨_,rfl,_,_,rfl,rfl,(by show (0:Int) < 5; decide),t,_,_,_,rfl,rfl,SqT.of ZaF,hq,?_⟩
  generalize upd H t (.tup [.int 2147483629,.int 2147483587,.int 2147483579,.int 2147483563,.int 2147483549])=H1 at s1
  have b0:=Int.emod_nonneg z (show q≠0 by omega)
  have b1:=Int.emod_lt_of_pos z q0
  have c0:0<=z % q * (2 * a+3):=Int.mul_nonneg b0 (by omega)
  have c1:z % q * (2 * a+3)<=2147483648 * 1000003:=Int.mul_le_mul (by omega) (by omega) (by omega) (by omega)
  refine ⟨_,rfl,_,rfl,_,_,rfl,rfl,q0,_,rfl,_,_,rfl,rfl,.inl ⟨by decide,by decide⟩,_,_,rfl,rfl,_,_,rfl,rfl,.inl ⟨by omega,by omega⟩,_,rfl,_,_,rfl,rfl,.inl ⟨by decide,by decide⟩,_,_,rfl,rfl,_,_,rfl,rfl,_,_,rfl,rfl,⟨by decide,by decide,by omega⟩,_,rfl,_,_,rfl,rfl,q0,?_⟩
  have m0:0<=((z % q * (2 * a+3)+31607 * a+5) ^ (3:Int).toNat) % q:=Int.emod_nonneg _ (by omega)
  have m1:((z % q * (2 * a+3)+31607 * a+5) ^ (3:Int).toNat) % q < q:=Int.emod_lt_of_pos _ q0
  generalize hN:((z % q * (2 * a+3)+31607 * a+5) ^ (3:Int).toNat) % q=N at m0 m1
  have d0:=Int.emod_nonneg N (show (40487:Int)≠0 by decide)
  have d1:=Int.emod_lt_of_pos N (show (0:Int) < 40487 by decide)
  refine ⟨_,rfl,_,rfl,_,_,rfl,rfl,(by show (0:Int) < 40487; decide),_,rfl,_,_,rfl,rfl,_,_,rfl,rfl,_,_,rfl,rfl,.inl ⟨by omega,by omega⟩,_,rfl,_,_,rfl,rfl,(by show (0:Int) < 65537; decide),_,_,rfl,rfl,_,_,rfl,rfl,(by show (0:Int) < 1073741789; decide),?_⟩
  exact ⟨_,rfl,_,_,rfl,rfl,⟨by decide,by decide⟩,k _ _ s1⟩
set_option maxHeartbeats 2000000 in
theorem ZnO (T:Txt K mg):Callee P w K mg base "_law_take" 2 ["_law_pen_here","_law_most"] (ZjI K):=by
 refine T.d__law_take.ok sc__law_take (λvs H Q E h=>?_) (λf cdv A outer s H vs Q E hr h=>?_)
 ·obtain ⟨p,c,ns,m,most,rfl,_⟩:=h
  rfl
 ·obtain ⟨p,c,ns,m,most,rfl,hP,hm,h0,h1,k⟩:=h
  have hu:=Zl3 hr
  have f_law_mixed:=ZlP (P:=P) (w:=w) (K:=K) (mg:=mg) (base:=base) T
  refine ⟨_,(Zbi (ZlI (ZeI ZeM (ZcY hu (pv 0) Zcd (λ_ _=>rfl)) Zba (nomark _)) (Zbi (Zav (i:=2) sc__law_take.nd rfl (Or.inl rfl) (ZbJ Zdn (ZcY hu (pv 0) Zcd (λ_ _=>rfl)) (pv 1)))
 (Zbi (Zhy hu (pv 0) Zcd (ZbJ ZhC (ZcY hu (pv 0) Zcd (λ_ _=>rfl)) (pv 1)) rfl)
 (Zds (ZdI (pv 2))))) pss_nil)
 (Zbi (Zav (i:=3) sc__law_take.nd rfl (Or.inl rfl) (ZcY hu (pv 0) Zcd (λ_ _=>rfl)))
 (Zbi (Zhy hu (pv 0) Zcd (ZbJ op_add (pv 3) Zba) rfl)
 (Zbi (Zav (i:=4) sc__law_take.nd rfl (Or.inl rfl) Zba)
 (Zbi (PS.join (ZlI (ZeI ZeM (Zat (ZaS) rfl T.n_len boot_len (ZaE (ZcY hu (pv 0) Zcd (λ_ _=>rfl)) pa_nil)) Zba (nomark _)) (Zds (Zav (i:=4) sc__law_take.nd rfl (Or.inl rfl) (ZlM ix_list (ZcY hu (pv 0) Zcd (λ_ _=>rfl)) (ZbJ Zdn (pv 3) (Zat (ZaS) rfl T.n_len boot_len (ZaE (ZcY hu (pv 0) Zcd (λ_ _=>rfl)) pa_nil))) (λ_ _=>rfl)))) pss_nil))
 (Zbi (ZlI (PT.join (PW.pt (ZpF (ZeI ZlO (pv 3) (Zat (ZaS) rfl T.n_len boot_len (ZaE (ZcY hu (pv 0) Zcd (λ_ _=>rfl)) pa_nil)) (nomark _)) (ZnC (ZeI op_ge (pv 4) (ZbJ Zim Zba Zba) (nomark _)))))) (Zbi (Zhy hu (pv 0) Zcd (ZbJ ZhC (pv 4) (pv 1)) rfl)
 (Zds (ZdI (ZbJ Zdn (pv 4) (pv 1))))) pss_nil)
 (Zds (ZdI (ZbJ Zdn (Zeu f_law_mixed (hr.mono (by decide)) rfl (ZaE (pv 4) (ZaE (pv 3) pa_nil))) (pv 1)))))))))),?_⟩
  obtain ⟨⟨a,l,hd,ha,hl⟩,hc,hn⟩:=hP
  refine ⟨_,rfl,p,_,rfl,Zgg hd,_,_,rfl,rfl,_,rfl,?_⟩
  refine ite2 (λhz=>?_) (λhz=>?_)
  ·refine ⟨_,rfl,p,_,rfl,Zgg hd,_,rfl,_,_,rfl,rfl,h0,?_⟩
   refine ⟨_,rfl,p,_,rfl,Zgg hd,_,rfl,_,_,rfl,rfl,⟨h0,h1⟩,_,rfl,p,_,rfl,ZiB hd,?_⟩
   exact ⟨_,rfl,k _ _ (Int.emod_nonneg _ (by omega)) (Int.emod_lt_of_pos _ h0) ⟨⟨a,_,ZaF,by omega,Int.ediv_nonneg hl (by omega)⟩,Zhr hd hc,hn⟩ Kept.refl.pen⟩
  ·refine ⟨_,rfl,p,_,rfl,ZqE hd,?_⟩
   refine ⟨_,rfl,_,_,rfl,rfl,_,rfl,p,_,rfl,ZqC hd,?_⟩
   have hd1:(upd H p (.dK (ZdX c ((a:Int)+1) l))) p=some (.dK (ZdX c ((a+1:Nat):Int) l)):=by
    rw [ZaF]
    rfl
   have hc1:SqL K (upd H p (.dK (ZdX c ((a:Int)+1) l))) c (ns.map V.int):=Zhr hd hc
   have k1:Kept p H (upd H p (.dK (ZdX c ((a:Int)+1) l))):=Kept.refl.pen
   generalize upd H p (.dK (ZdX c ((a:Int)+1) l))=H1 at hd1 hc1 k1
   refine ⟨λσ' H'=>∃ (z:Int),σ'=[some (.ref p),some (.int most),none,some (.int a),some (.int z)]/\H'=H1,?_,?_⟩
   ·refine ⟨_,rfl,p,_,rfl,ZdP hd1,c,_,rfl,.inl hc1,_,_,rfl,rfl,_,rfl,?_⟩
    refine ite2 (λhlen=>?_) (λ_=>⟨_,rfl,rfl⟩)
    have hlen':(0:Int) < ((ns.map V.int).length:Nat):=of_decide_eq_true hlen
    have hne':ns≠[]:=by
     rintro rfl
     simp at hlen'
    obtain ⟨z,hz2⟩:=Zop ns a hne'
    refine ⟨_,rfl,p,_,rfl,ZdP hd1,_,rfl,_,rfl,p,_,rfl,ZdP hd1,c,_,rfl,.inl hc1,_,_,rfl,rfl,hlen',c,_,_,_,rfl,rfl,hc1,hz2,?_⟩
    exact ⟨z,rfl,rfl⟩
   ·rintro σ2 H2 ⟨z,rfl,rfl⟩
    refine ⟨λb H'=>(b=true->0<=z)/\H'=H2,?_,?_⟩
    ·refine ⟨_,rfl,_,rfl,p,_,rfl,ZdP hd1,c,_,rfl,.inl hc1,_,_,rfl,rfl,_,rfl,?_⟩
     refine ite2 (λ_=>?_) (λ_=>⟨λh=>(by cases h),rfl⟩)
     exact ⟨_,rfl,_,_,rfl,rfl,⟨by decide,by decide,by decide⟩,_,_,rfl,rfl,_,rfl,λh=>ten18 (of_decide_eq_true h),rfl⟩
    ·rintro b H3 ⟨hb0,rfl⟩
     refine ite2 (λhb=>?_) (λ_=>?_)
     ·refine ⟨_,rfl,_,rfl,_,_,rfl,rfl,⟨h0,h1⟩,_,rfl,p,_,rfl,ZiB hd1,?_⟩
      refine ⟨_,rfl,_,rfl,_,_,rfl,rfl,h0,?_⟩
      exact k _ _ (Int.emod_nonneg _ (by omega)) (Int.emod_lt_of_pos _ h0) ⟨⟨a+1,_,ZaF,by omega,Int.ediv_nonneg (hb0 hb) (by omega)⟩,Zhr hd1 hc1,hn⟩ k1.pen
     ·refine ⟨_,rfl,_,rfl,z,a,rfl,by omega,by omega,λr H' s'=>?_⟩
      refine ⟨_,rfl,_,_,rfl,rfl,h0,?_⟩
      exact k _ _ (Int.emod_nonneg _ (by omega)) (Int.emod_lt_of_pos _ h0) ⟨⟨a+1,l,s' _ _ hd1,by omega,hl⟩,s'.seq hc1,hn⟩ λb o e n=>s' b o (k1 b o e n)
end
end My
set_option Elab.async false
set_option linter.all false
set_option maxRecDepth 100000
namespace My
open PySem PySem.Spec PyProof.Rows L2
section
variable {cn:Addr×List Int} {P:Program} {w:World} {K:PySem.W.Frag} {mg:Str->Option Value} {base:Heap}
noncomputable def Zdc:List Sl->Tr Re:=ZcW 1 0
 (ZcU (ZoD (Zan (Zll (Zal ixD (Zae 0) (aC (.int 1)))) (Zan (Zal ZbW (Zal ixD (Zae 0) (aC (.int 0))) (aC (.int 1))) Zbb))))
set_option maxHeartbeats 2000000 in
theorem Zgi (T:Txt K mg):ACal (PK2 (K,cn)) P w K mg base "stocks" 1 ["shop"] Zdc:=ZaN T.d_stocks ZjL rfl λf cdv A outer sh H E hr=>by
 exact (Zai (ZaO (ZoB (ZaZ (Zfm hr.hd) rfl T.n_tuple boot_tuple (ZaE (ZaZ Zeg rfl T.n_range boot_range (Zad (Ze5 (ZaB Zaj ZaA (Zaa (pv 0)) (Za2 rfl T.g_DEPTH) (λ_ _=>rfl))) (Zad (Zaq op_addD ZaM (ZaB Zaj ZaA (Zaa (pv 0)) (Za2 rfl T.g_TOP) (λ_ _=>rfl)) Zag) Zao))) pa_nil)))))
noncomputable def Za5:List Sl->Tr PyData :=
 (Zae 0)
noncomputable def Za6:List Sl->Tr Bool :=
 (Zbr (Zal (Zgw λi j=>decide (i > j)) (Zae 1) (aC (.int 0))))
noncomputable def ZbE:List Sl->Tr Re:=ZcW 1 0
 (ZcU (aCB Zem (Zan (Zfo (Zms (Zji (Zae 0)) 2 [] (ZbH (Zax (ZaU 0) (Zax (ZaU 1) ZbA))) Za6 Za5)) Zbb)))
set_option maxHeartbeats 2000000 in
theorem Ze0 (T:Txt K mg):ACal (PK2 (K,cn)) P w K mg base "greatest_seen" 1 ["day"] ZbE:=ZaN T.d_greatest_seen Zek rfl λf cdv A outer sh H E hr=>by
 exact (Zai (ZaO (Zbq (t:=Zcb) (Zat (ZeY rfl) rfl T.n_max boot_max (Zad (ZhX (Zox (ZnF Zbo ["fall","weight"] [] rfl (Zgq (Zf4 rfl rfl T.n_enumerate (Zaa (pv 0)))) (λb=>(ZcT rfl (ZaH (Zay (Zaw (i:=0) (show ((bN Zbo ["fall","weight"] [])).Nodup by decide +kernel) rfl (Or.inl rfl))) (ZaH (Zay (Zaw (i:=1) (show ((bN Zbo ["fall","weight"] [])).Nodup by decide +kernel) rfl (Or.inl rfl))) ZbV)) (Zas (Zas Zbe)))) (λb=>(Zbu ZeM Zb4 (Zaa (pv 1)) Zag (nomark _))) (λb=>(Zaa (pv 0))) rfl (show BlkOk Zbo (Zah s_greatest_seen) _ [] from ⟨rfl,by decide +kernel,by decide +kernel,by decide +kernel,by decide +kernel⟩)) (Zes (ZbR (Zbc (by decide)) (ZbR (Zbc (by decide)) Zet))))) Zao)) Zhm)))
noncomputable def ZbS:List Sl->Tr Re:=ZcW 3 0
 (ZaV (ZfL (Zbr (Zal (Zgw λi j=>decide (i<=j)) (Zae 2) (Zae 1)))
  (ZcU (aC (.int 0)))
  ZcF)
 (ZcU (Zal ZbW (Zal ixD (Zae 0) (aC (.int 2))) (Zal Za7 (Zal ixD (Zae 0) (aC (.int 3))) (Zal ZdZ (Zae 2) (Zae 1))))))
set_option maxHeartbeats 2000000 in
theorem ZgY (T:Txt K mg):ACal (PK2 (K,cn)) P w K mg base "order_cost" 1 ["shop","stock","level"] ZbS:=ZaN T.d_order_cost ZfV rfl λf cdv A outer sh H E hr=>by
 exact (Zac (ZcV (Zbu ZnM Zb4 (Zaa (pv 2)) (Zaa (pv 1)) (nomark _))
 (Zai (ZaO Zag))
 Zbg)
 (Zai (ZaO (Zaq op_addD ZaM (ZaB Zaj ZaA (Zaa (pv 0)) (Za2 rfl T.g_START) (λ_ _=>rfl)) (Zaq ZaG ZaP (ZaB Zaj ZaA (Zaa (pv 0)) (Za2 rfl T.g_PIECE) (λ_ _=>rfl)) (Zaq Zbj Zbh (Zaa (pv 2)) (Zaa (pv 1))))))))
noncomputable def Zbl:List Sl->Tr Re:=ZcW 3 0
 (ZcU (aCB ZhG (Zan (Zal ZdZ (Zae 1) (Zae 2)) (Zan (Zll (Zal ixD (Zae 0) (aC (.int 1)))) Zbb))))
set_option maxHeartbeats 2000000 in
theorem Zc4 (T:Txt K mg):ACal (PK2 (K,cn)) P w K mg base "next_stock" 1 ["shop","level","fall"] Zbl:=ZaN T.d_next_stock ZfW rfl λf cdv A outer sh H E hr=>by
 exact (Zai (ZaO (Zbq (t:=Zcb) (Zat (ZdQ rfl) rfl T.n_max boot_max (Zad (Zaq Zbj Zbh (Zaa (pv 1)) (Zaa (pv 2))) (Zad (Ze5 (ZaB Zaj ZaA (Zaa (pv 0)) (Za2 rfl T.g_DEPTH) (λ_ _=>rfl))) Zao))) ZfM)))
noncomputable def ZbB:List Sl->Tr Bool :=
 (ZhZ (Zae 1))
noncomputable def ZbG:List Sl->Tr Ou :=
 (Zmr 0 1 (Zan (Zae 1) (Zan (Zal ZnU (Zae 0) (Zae 1)) Zbb)))
noncomputable def Zbv:List Sl->Tr Re:=ZcW 2 0
 (ZaV (Zmr 0 1 (Zan (aCB ZoC (Zan (Zae 0) Zbb)) (Zan (aCB ZoC (Zan (Zae 1) Zbb)) Zbb)))
 (ZaV (whL ZbB ZbG 100000)
 (Zgu 0)))
set_option maxHeartbeats 2000000 in
theorem Zeo (T:Txt K mg):ACal (PK2 (K,cn)) P w K mg base "common_divisor" 1 ["one","other"] Zbv:=ZaN T.d_common_divisor sc_common_divisor rfl λf cdv A outer sh H E hr=>by
 exact (Zac (ZfI (Zfx (i:=0) (j:=1) rfl sc_common_divisor.nd rfl rfl (by decide) rfl rfl (Zad (Zbq (t:=Zcb) (Zat Zex rfl T.n_abs boot_abs (Zad (Zaa (pv 0)) Zao)) Zh8) (Zad (Zbq (t:=Zcb) (Zat Zex rfl T.n_abs boot_abs (Zad (Zaa (pv 1)) Zao)) Zh8) Zao)) rfl))
 (Zac (Zey 100000 PassesOwn.never (ZcA (Zaa (pv 1)))
  (Zai (ZfI (Zfx (i:=0) (j:=1) rfl sc_common_divisor.nd rfl rfl (by decide) rfl rfl (Zad (Zaa (pv 1)) (Zad (Zaq ZhB Zjs (Zaa (pv 0)) (Zaa (pv 1))) Zao)) rfl))))
 (Zai (ZhV (pv 0)))))
noncomputable def Zcy:List Sl->Tr Ou :=
 (ZaV (ZbT 7 (Zha (Zan (Zal ixD (Zae 2) (Zal ZdZ (Zae 6) (Zae 1))) (Zan (Zae 6) Zbb))))
 (ZaV (ZoK (ZbH (Zax (ZaU 8) (Zax (ZaU 9) ZbA))) (aCB ZgJ (Zan (Zae 7) (Zan (Zha (Zan (Zal ZbW (Zal Za7 (Zae 3) (Zal ixD (Zae 0) (aC (.int 2)))) (Zal ixD (Zae 5) (aC (.int 0)))) (Zan (Zal ixD (Zae 5) (aC (.int 1))) Zbb))) Zbb))))
 (ZaV (ZoY 4 (Zha (Zan (Zal ZdZ (Zae 8) (Zal Za7 (Zal Za7 (Zae 3) (Zal ixD (Zae 0) (aC (.int 3)))) (Zae 6))) (Zan (Zae 9) Zbb))))
 (ZbT 5 (aCB ZgJ (Zan (Zae 7) (Zan (Zae 5) Zbb)))))))
noncomputable def ZbF:List Sl->Tr Re:=ZcW 4 6
 (ZaV (Zjh 4 (aLo Zbb))
 (ZaV (ZbT 5 (Zha (Zan (Zal ixD (Zae 2) (Zll (aC (.int 1)))) (Zan (Zal ixD (Zae 0) (aC (.int 0))) Zbb))))
 (ZaV (Zh1 (Zla (Zan (Zae 1) (Zan (Zal ZbW (Zal ixD (Zae 0) (aC (.int 0))) (aC (.int 1))) Zbb))) (ZaU 6) Zcy)
 (ZaV (aRev 4)
 (Zgu 4)))))
set_option maxHeartbeats 2000000 in
theorem Ze1 (T:Txt K mg):ACal (PK2 (K,cn)) P w K mg base "cheapest_from" 1 ["shop","low","by_level","scale"] ZbF:=ZaN T.d_cheapest_from sc_cheapest_from rfl λf cdv A outer sh H E hr=>by
 exact (Zac (Zgo (Zav (i:=4) sc_cheapest_from.nd rfl (Or.inl rfl) (Zdq Zao)))
 (Zac (ZaD (Zav (i:=5) sc_cheapest_from.nd rfl (Or.inl rfl) (Zca (Zad (ZaB Zaj ZaA (Zaa (pv 2)) (Ze5 Zag) (λ_ _=>rfl)) (Zad (ZaB Zaj ZaA (Zaa (pv 0)) (Za2 rfl T.g_TOP) (λ_ _=>rfl)) Zao)))))
 (Zac (ZcD PassesOwn.never rfl (Zmp (ZpN rfl T.n_reversed (ZaZ Zeg rfl T.n_range boot_range (Zad (Zaa (pv 1)) (Zad (Zaq op_addD ZaM (ZaB Zaj ZaA (Zaa (pv 0)) (Za2 rfl T.g_TOP) (λ_ _=>rfl)) Zag) Zao))))) (Zay (Zaw (i:=6) sc_cheapest_from.nd rfl (Or.inl rfl)))
  (Zac (ZaD (Zav (i:=7) sc_cheapest_from.nd rfl (Or.inl rfl) (Zca (Zad (ZaB Zaj ZaA (Zaa (pv 2)) (Zaq Zbj Zbh (Zaa (pv 6)) (Zaa (pv 1))) (λ_ _=>rfl)) (Zad (Zaa (pv 6)) Zao)))))
 (Zac (Zg5 (Zec (Zbq (t:=Zcb) (Zat (ZfH hr rfl) rfl T.n_min boot_min (Zad (Zaa (pv 7)) (Zad (Zca (Zad (Zaq op_addD ZaM (Zaq ZaG ZaP (Zaa (pv 3)) (ZaB Zaj ZaA (Zaa (pv 0)) (Za2 rfl T.g_START) (λ_ _=>rfl))) (ZaB Zaj ZaA (Zaa (pv 5)) Zag (λ_ _=>rfl))) (Zad (ZaB Zaj ZaA (Zaa (pv 5)) Zag (λ_ _=>rfl)) Zao))) Zao))) Zh7) (ZcT rfl (ZaH (Zay (Zaw (i:=8) sc_cheapest_from.nd rfl (Or.inl rfl))) (ZaH (Zay (Zaw (i:=9) sc_cheapest_from.nd rfl (Or.inl rfl))) ZbV)) (Zas (Zas Zbe)))))
 (Zac (Zk6 (ZeJ (ZnL PySem.F.plainAttrs_list PySem.F.slot_list_append PySem.F.type_list_append ZeP (pv 4) (ZaE (Zca (Zad (Zaq Zbj Zbh (Zaa (pv 8)) (Zaq ZaG ZaP (Zaq ZaG ZaP (Zaa (pv 3)) (ZaB Zaj ZaA (Zaa (pv 0)) (Za2 rfl T.g_PIECE) (λ_ _=>rfl))) (Zaa (pv 6)))) (Zad (Zaa (pv 9)) Zao))) pa_nil))))
 (Zai (ZaD (Zav (i:=5) sc_cheapest_from.nd rfl (Or.inl rfl) (Zbq (t:=Zcb) (Zat (ZfH hr rfl) rfl T.n_min boot_min (Zad (Zaa (pv 7)) (Zad (Zaa (pv 5)) Zao))) Zh7))))))))
 (Zac (ZqO (ZeJ (ZpT PySem.F.plainAttrs_list PySem.F.slot_list_reverse PySem.F.type_list_reverse ZiW (pv 4))))
 (Zai (ZhV (pv 4)))))))
noncomputable def Zct:List Sl->Tr PyData :=
 (Zal Zdj (Zal ZdZ (Zal Za7 (Zae 3) (Zae 0)) (Zal Za7 (Zae 4) (Zae 1))) (Zae 2))
noncomputable def Zcx:List Sl->Tr Ou :=
 (ZfL (Zbr (Zal neD (Zae 5) (Zae 2)))
  (ZaV (ZbT 6 (Zal ixD (Zmt 0 (Zae 5)) (Zae 2)))
 (ZfK 0 (Zae 5) (Zfo (aLc (aZip (Zmt 0 (Zae 5)) (Zae 3)) 2 [1,4,6] (ZbH (Zax (ZaU 0) (Zax (ZaU 1) ZbA))) Zct))))
  ZcF)
noncomputable def Zdg:List Sl->Tr Ou :=
 (ZaV (ZbT 3 (Zmt 0 (Zae 2)))
 (ZaV (ZbT 4 (Zal ixD (Zae 3) (Zae 2)))
 (ZaV (Zh1 (Zgt (Zan (ZoX Zkk (Ze6 0 ZaI)) Zbb)) (ZaU 5) Zcx)
 (ZbT 1 (Zae 4)))))
noncomputable def Zcs:List Sl->Tr PyData :=
 (Zal ixD (Zae 0) (Zll (aC (.int 1))))
noncomputable def Zew:List Sl->Tr Re:=ZcW 1 6
 (ZaV (ZbT 1 (aC (.int 1)))
 (ZaV (Zh1 (Zgt (Zan (ZoX Zkk (Ze6 0 ZaI)) Zbb)) (ZaU 2) Zdg)
 (aFz 0 (ZcU (Zha (Zan (Zfo (aLc (aIt (Zae 0)) 1 [] (ZaU 0) Zcs)) (Zan (Zae 1) Zbb)))))))
set_option maxHeartbeats 2000000 in
theorem Zml (T:Txt K mg):ZoP (PK2 (K,cn)) P w K mg base "solved" 1 "rows" Zew:=Zmq T.d_solved sc_solved rfl (by decide) λf cdv A outer sh H E hr=>by
 exact (Zac (ZaD (Zav (i:=1) sc_solved.nd rfl (Or.inr rfl) Zag))
 (Zac (ZcD PassesOwn.never rfl (ZdA (Zb6 rfl T.n_range (Zad (ZiI ZlJ (Zat ZaS rfl T.n_len boot_len (Zgs (pv 0) ZiJ)) Zez) Zao))) (Zay (Zaw (i:=2) sc_solved.nd rfl (Or.inl rfl)))
  (Zac (ZaD (Zav (i:=3) sc_solved.nd rfl (Or.inl rfl) (Zg7 (Zaa (pv 2)) (pv 0) (λ_ _=>rfl))))
 (Zac (ZaD (Zav (i:=4) sc_solved.nd rfl (Or.inr rfl) (ZaB Zaj ZaA (Zaa (pv 3)) (Zaa (pv 2)) (λ_ _=>rfl))))
 (Zac (ZcD PassesOwn.never rfl (ZdA (Zb6 rfl T.n_range (Zad (ZiI ZlJ (Zat ZaS rfl T.n_len boot_len (Zgs (pv 0) ZiJ)) Zez) Zao))) (Zay (Zaw (i:=5) sc_solved.nd rfl (Or.inl rfl)))
  (Zai (ZcV (Zbu (Zdm hr) Zfd (Zaa (pv 5)) (Zaa (pv 2)) (nomark _))
  (Zac (ZaD (Zav (i:=6) sc_solved.nd rfl (Or.inr rfl) (ZaB Zaj ZaA (Zg7 (Zaa (pv 5)) (pv 0) (λ_ _=>rfl)) (Zaa (pv 2)) (λ_ _=>rfl))))
 (Zai (Zgp (Zec (ZhX (Zg6 (ZgG Zcl ["x","y"] [1,4,6] rfl (Znc (ZmP rfl rfl T.n_zip (Zg7 (Zaa (pv 5)) (pv 0) (λ_ _=>rfl)) (Zaa (pv 3)))) (λb=>(ZcT rfl (ZaH (Zay (Zaw (i:=0) (show ((bN Zcl ["x","y"] [1,4,6])).Nodup by decide +kernel) rfl (Or.inl rfl))) (ZaH (Zay (Zaw (i:=1) (show ((bN Zcl ["x","y"] [1,4,6])).Nodup by decide +kernel) rfl (Or.inl rfl))) ZbV)) (Zas (Zas Zbe)))) (λb=>(Zaq Zb0 ZcH (Zaq Zbj Zbh (Zaq ZaG ZaP (Zaa (pv 3)) (Zaa (pv 0))) (Zaq ZaG ZaP (Zaa (pv 4)) (Zaa (pv 1)))) (Zaa (pv 2)))) rfl (show BlkOk Zcl (Zah s_solved) _ [1,4,6] from ⟨rfl,by decide +kernel,by decide +kernel,by decide +kernel,by decide +kernel⟩)) (Zes (ZbR (Zbc (by decide)) (ZbR (Zbc (by decide)) Zet))))) (Zj2 (pv 0) (Zaa (pv 5)) ZdH)))))
  Zbg)))
 (Zai (ZaD (Zav (i:=1) sc_solved.nd rfl (Or.inr rfl) (Zaa (pv 4)))))))))
 (Zai (Zov (k:=0) (ZaO (Zca (Zad (ZhX (Zg6 (ZgG Zcl ["row"] [] rfl (ZdT (Zaa (pv 0))) (λb=>(Zay (Zaw (i:=0) (show ((bN Zcl ["row"] [])).Nodup by decide +kernel) rfl (Or.inl rfl)))) (λb=>(ZaB Zaj ZaA (Zaa (pv 0)) (Ze5 Zag) (λ_ _=>rfl))) rfl (show BlkOk Zcl (Zah s_solved) _ [] from ⟨rfl,by decide +kernel,by decide +kernel,by decide +kernel,by decide +kernel⟩)) (Zbc (by decide)))) (Zad (Zaa (pv 1)) Zao))))))))
noncomputable def Zb7:List Sl->Tr Re:=ZcW 3 0
 (ZcU (Zal Za7 (Zal ZbW (Zal ixD (Zae 0) (aC (.int 2))) (Zal Za7 (Zal ixD (Zae 0) (aC (.int 3))) (Zal ZdZ (Zae 2) (Zae 1)))) (aCB Zob (Zan (Zal (Zgw λi j=>decide (i > j)) (Zae 2) (Zae 1)) Zbb))))
set_option maxHeartbeats 2000000 in
theorem ZhS (T:Txt K mg):ACal (PK2 (K,cn)) P w K mg base "_law_order" 1 ["_law_shop","_law_stock","_law_level"] Zb7:=ZaN T.d__law_order ZfY rfl λf cdv A outer sh H E hr=>by
 exact (Zai (ZaO (Zaq ZaG ZaP (Zaq op_addD ZaM (ZaB Zaj ZaA (Zaa (pv 0)) Zag (λ_ _=>rfl)) (Zaq ZaG ZaP (ZaB Zaj ZaA (Zaa (pv 0)) Zag (λ_ _=>rfl)) (Zaq Zbj Zbh (Zaa (pv 2)) (Zaa (pv 1))))) (Zbq (t:=Zcb) (ZaZ ZeZ rfl T.n_int boot_int (Zad (Zg9 ZeM Zb4 (Zaa (pv 2)) (Zaa (pv 1)) (nomark _)) Zao)) Zjv))))
noncomputable def Zdd:List Sl->Tr Re:=ZcW 3 0
 (ZcU (aCB ZhG (Zan (Zal ZdZ (Zae 1) (Zae 2)) (Zan (Zal ZdZ (aC (.int 0)) (Zal ixD (Zae 0) (aC (.int 1)))) Zbb))))
set_option maxHeartbeats 2000000 in
theorem Zjb (T:Txt K mg):ACal (PK2 (K,cn)) P w K mg base "_law_next" 1 ["_law_shop","_law_level","_law_fall"] Zdd:=ZaN T.d__law_next ZgA rfl λf cdv A outer sh H E hr=>by
 exact (Zai (ZaO (Zbq (t:=Zcb) (Zat (ZdQ rfl) rfl T.n_max boot_max (Zad (Zaq Zbj Zbh (Zaa (pv 1)) (Zaa (pv 2))) (Zad (Zaq Zbj Zbh Zag (ZaB Zaj ZaA (Zaa (pv 0)) Zag (λ_ _=>rfl))) Zao))) ZfM)))
noncomputable def Zc0:List Sl->Tr Re:=ZcW 3 2
 (ZaV (ZbT 3 (Zal ZdZ (Zae 1) (Zae 2)))
 (ZaV (ZbT 4 (aCB ZhG (Zan (aC (.int 0)) (Zan (Zal ZdZ (Zal ZdZ (aC (.int 0)) (Zal ixD (Zae 0) (aC (.int 1)))) (Zae 3)) Zbb))))
 (ZaV (ZfL (Zbr (Zal (Zgw λi j=>decide (i > j)) (Zae 3) (aC (.int 0))))
  (ZcU (Zal Za7 (Zal ixD (Zae 0) (aC (.int 4))) (Zae 3)))
  ZcF)
 (ZcU (Zal ZbW (Zal Za7 (Zal ixD (Zae 0) (aC (.int 5))) (Zal ZdZ (Zal ZdZ (aC (.int 0)) (Zae 3)) (Zae 4))) (Zal Za7 (Zal ixD (Zae 0) (aC (.int 6))) (Zae 4)))))))
set_option maxHeartbeats 2000000 in
theorem ZkY (T:Txt K mg):ACal (PK2 (K,cn)) P w K mg base "_law_day" 1 ["_law_shop","_law_level","_law_fall"] Zc0:=ZaN T.d__law_day sc__law_day rfl λf cdv A outer sh H E hr=>by
 exact (Zac (ZaD (Zav (i:=3) sc__law_day.nd rfl (Or.inl rfl) (Zaq Zbj Zbh (Zaa (pv 1)) (Zaa (pv 2)))))
 (Zac (ZaD (Zav (i:=4) sc__law_day.nd rfl (Or.inl rfl) (Zbq (t:=Zcb) (Zat (ZdQ rfl) rfl T.n_max boot_max (Zad Zag (Zad (Zaq Zbj Zbh (Zaq Zbj Zbh Zag (ZaB Zaj ZaA (Zaa (pv 0)) Zag (λ_ _=>rfl))) (Zaa (pv 3))) Zao))) ZfM)))
 (Zac (ZcV (Zbu ZeM Zb4 (Zaa (pv 3)) Zag (nomark _))
  (Zai (ZaO (Zaq ZaG ZaP (ZaB Zaj ZaA (Zaa (pv 0)) Zag (λ_ _=>rfl)) (Zaa (pv 3)))))
  Zbg)
 (Zai (ZaO (Zaq op_addD ZaM (Zaq ZaG ZaP (ZaB Zaj ZaA (Zaa (pv 0)) Zag (λ_ _=>rfl)) (Zaq Zbj Zbh (Zaq Zbj Zbh Zag (Zaa (pv 3))) (Zaa (pv 4)))) (Zaq ZaG ZaP (ZaB Zaj ZaA (Zaa (pv 0)) Zag (λ_ _=>rfl)) (Zaa (pv 4)))))))))
noncomputable def ZbN:List Sl->Tr Re:=ZcW 1 0
 (ZcU (Zmw (ZoI "int" (Zae 0)) (ZoH (ZoI "bool" (Zae 0)))))
set_option maxHeartbeats 2000000 in
theorem Zdz (T:Txt K mg):ACal (PK2 (K,cn)) P w K mg base "_law_whole" 1 ["_law_thing"] ZbN:=ZaN T.d__law_whole ZfX rfl λf cdv A outer sh H E hr=>by
 exact (Zai (ZaO (Zne (Zg8 (T:="int") (Or.inl rfl) rfl (Zat ZdR rfl T.n_isinstance boot_isinstance (ZaE (Zaa (pv 0)) (ZaE (ZeK (v:=.ty "int") rfl T.n_int boot_int rfl) pa_nil)))) (Znd (ZqT (Zg8 (T:="bool") (Or.inr (Or.inl rfl)) rfl (Zat ZdR rfl T.n_isinstance boot_isinstance (ZaE (Zaa (pv 0)) (ZaE (ZeK (v:=.ty "bool") rfl T.n_bool boot_bool rfl) pa_nil)))))))))
noncomputable def ZcG:List Sl->Tr Bool :=
 (Zbr (Zal (Zgw λi j=>decide (i > j)) (Zae 3) (aC (.int 0))))
noncomputable def ZcN:List Sl->Tr Ou :=
 (Zmr 2 3 (Zan (Zae 3) (Zan (Zal ZnU (Zae 2) (Zae 3)) Zbb)))
noncomputable def ZcL:List Sl->Tr Re:=ZcW 2 2
 (ZaV (Zmr 2 3 (Zan (aCB ZoC (Zan (Zae 0) Zbb)) (Zan (Zae 1) Zbb)))
 (ZaV (whL ZcG ZcN 100000)
 (ZcU (Zha (Zan (Zal Zdj (Zae 0) (Zae 2)) (Zan (Zal Zdj (Zae 1) (Zae 2)) Zbb))))))
set_option maxHeartbeats 2000000 in
theorem ZhQ (T:Txt K mg):ACal (PK2 (K,cn)) P w K mg base "_law_share" 1 ["_law_top","_law_bottom"] ZcL:=ZaN T.d__law_share sc__law_share rfl λf cdv A outer sh H E hr=>by
 exact (Zac (ZfI (Zfx (i:=2) (j:=3) rfl sc__law_share.nd rfl rfl (by decide) rfl rfl (Zad (Zbq (t:=Zcb) (Zat Zex rfl T.n_abs boot_abs (Zad (Zaa (pv 0)) Zao)) Zh8) (Zad (Zaa (pv 1)) Zao)) rfl))
 (Zac (Zey 100000 PassesOwn.never (Zbu ZeM Zb4 (Zaa (pv 3)) Zag (nomark _))
  (Zai (ZfI (Zfx (i:=2) (j:=3) rfl sc__law_share.nd rfl rfl (by decide) rfl rfl (Zad (Zaa (pv 3)) (Zad (Zaq ZhB Zjs (Zaa (pv 2)) (Zaa (pv 3))) Zao)) rfl))))
 (Zai (ZaO (Zca (Zad (Zaq Zb0 ZcH (Zaa (pv 0)) (Zaa (pv 2))) (Zad (Zaq Zb0 ZcH (Zaa (pv 1)) (Zaa (pv 2))) Zao)))))))
noncomputable def Zcv:List Sl->Tr Re:=ZcW 3 3
 (ZaV (ZbT 3 (aRe (ZaJ Zbl (Zaf (Zae 0) (Zaf (Zae 1) (Zaf (Zae 2) ZaI))))))
 (ZaV (ZbT 4 (Zal ZdZ (Zae 3) (Zal ZdZ (Zae 1) (Zae 2))))
 (ZaV (ZbT 5 (aIf (Zbr (Zal (Zgw λi j=>decide (i > j)) (Zae 3) (aC (.int 0)))) (Zal Za7 (Zal ixD (Zae 0) (aC (.int 4))) (Zae 3)) (Zal Za7 (Zal ixD (Zae 0) (aC (.int 5))) (Zll (Zae 3)))))
 (ZcU (Zal ZbW (Zae 5) (Zal Za7 (Zal ixD (Zae 0) (aC (.int 6))) (Zae 4)))))))
set_option maxHeartbeats 2000000 in
theorem Zje (T:Txt K mg):ACal (PK2 (K,cn)) P w K mg base "day_cost" 2 ["shop","level","fall"] Zcv:=ZaN T.d_day_cost sc_day_cost rfl λf cdv A outer sh H E hr=>by
 exact (Zac (ZaD (Zav (i:=3) sc_day_cost.nd rfl (Or.inl rfl) (ZbK (Zam (Zc4 T) (hr.mono (by decide)) rfl (Zab (Zaa (pv 0)) (Zab (Zaa (pv 1)) (Zab (Zaa (pv 2)) Zaz)))))))
 (Zac (ZaD (Zav (i:=4) sc_day_cost.nd rfl (Or.inl rfl) (Zaq Zbj Zbh (Zaa (pv 3)) (Zaq Zbj Zbh (Zaa (pv 1)) (Zaa (pv 2))))))
 (Zac (ZaD (Zav (i:=5) sc_day_cost.nd rfl (Or.inl rfl) (ae_if (Zbu ZeM Zb4 (Zaa (pv 3)) Zag (nomark _)) (Zaq ZaG ZaP (ZaB Zaj ZaA (Zaa (pv 0)) (Za2 rfl T.g_KEEP) (λ_ _=>rfl)) (Zaa (pv 3))) (Zaq ZaG ZaP (ZaB Zaj ZaA (Zaa (pv 0)) (Za2 rfl T.g_LACK) (λ_ _=>rfl)) (Ze5 (Zaa (pv 3)))))))
 (Zai (ZaO (Zaq op_addD ZaM (Zaa (pv 5)) (Zaq ZaG ZaP (ZaB Zaj ZaA (Zaa (pv 0)) (Za2 rfl T.g_LOST) (λ_ _=>rfl)) (Zaa (pv 4)))))))))
noncomputable def Zd4:List Sl->Tr Re:=ZcW 2 1
 (ZaV (ZfL (Zbr (Zal eqD (Zae 1) (aC (.int 0))))
  Zlb
  ZcF)
 (ZaV (ZbT 2 (aRe (ZaJ Zbv (Zaf (Zae 0) (Zaf (Zae 1) ZaI)))))
 (ZaV (ZfL (Zbr (Zal (Zgw λi j=>decide (i < j)) (Zae 1) (aC (.int 0))))
  (ZbT 2 (Zll (Zae 2)))
  ZcF)
 (ZcU (Zha (Zan (Zal Zdj (Zae 0) (Zae 2)) (Zan (Zal Zdj (Zae 1) (Zae 2)) Zbb)))))))
set_option maxHeartbeats 2000000 in
theorem ZkX (T:Txt K mg):ACal (PK2 (K,cn)) P w K mg base "share" 2 ["top","bottom"] Zd4:=ZaN T.d_share sc_share rfl λf cdv A outer sh H E hr=>by
 exact (Zac (ZcV (Zbu (Zj8 hr) Znk (Zaa (pv 1)) Zag (nomark _))
 (Zai ZiG)
 Zbg)
 (Zac (ZaD (Zav (i:=2) sc_share.nd rfl (Or.inl rfl) (ZbK (Zam (Zeo T) (hr.mono (by decide)) rfl (Zab (Zaa (pv 0)) (Zab (Zaa (pv 1)) Zaz))))))
 (Zac (ZcV (Zbu ZlO Zb4 (Zaa (pv 1)) Zag (nomark _))
  (Zai (ZaD (Zav (i:=2) sc_share.nd rfl (Or.inl rfl) (Ze5 (Zaa (pv 2))))))
  Zbg)
 (Zai (ZaO (Zca (Zad (Zaq Zb0 ZcH (Zaa (pv 0)) (Zaa (pv 2))) (Zad (Zaq Zb0 ZcH (Zaa (pv 1)) (Zaa (pv 2))) Zao))))))))
noncomputable def Zcw:List Sl->Tr Re:=ZcW 3 0
 (ZoF (ZaJ ZbF (Zaf (Zae 0) (Zaf (Zll (Zal ixD (Zae 0) (aC (.int 1)))) (Zaf (Zae 1) (Zaf (Zae 2) ZaI))))))
set_option maxHeartbeats 2000000 in
theorem Zjf (T:Txt K mg):ACal (PK2 (K,cn)) P w K mg base "cheapest" 2 ["shop","by_level","scale"] Zcw:=ZaN T.d_cheapest Zhs rfl λf cdv A outer sh H E hr=>by
 exact (Zai (Zot (Zam (Ze1 T) (hr.mono (by decide)) rfl (Zab (Zaa (pv 0)) (Zab (Ze5 (ZaB Zaj ZaA (Zaa (pv 0)) (Za2 rfl T.g_DEPTH) (λ_ _=>rfl))) (Zab (Zaa (pv 1)) (Zab (Zaa (pv 2)) Zaz)))))))
noncomputable def Zb2:List Sl->Tr Re:=ZcW 2 0
 (ZfL (Zbr (Zal (Zgw λi j=>decide (i < j)) (aRe (ZaJ ZbE (Zaf (Zae 1) ZaI))) (Zal ZbW (Zal ixD (Zae 0) (aC (.int 0))) (Zal ixD (Zae 0) (aC (.int 1))))))
  Zlb
  ZcF)
set_option maxHeartbeats 2000000 in
theorem Zgk (T:Txt K mg):ACal (PK2 (K,cn)) P w K mg base "ask_lasting" 2 ["shop","one"] Zb2:=ZaN T.d_ask_lasting Zfe rfl λf cdv A outer sh H E hr=>by
 exact (Zai (ZcV (Zbu ZlO Zb4 (ZbK (Zam (Ze0 T) (hr.mono (by decide)) rfl (Zab (Zaa (pv 1)) Zaz))) (Zaq op_addD ZaM (ZaB Zaj ZaA (Zaa (pv 0)) (Za2 rfl T.g_TOP) (λ_ _=>rfl)) (ZaB Zaj ZaA (Zaa (pv 0)) (Za2 rfl T.g_DEPTH) (λ_ _=>rfl))) (nomark _))
 (Zai ZiG)
 Zbg))
noncomputable abbrev ZaK:=Zir
theorem ZaQ (T:Txt K mg):ACal (PK2 (K,cn)) P w K mg base "_law_take" 2 ["_law_pen_here","_law_most"] ZaK:=draw1 rfl (ZnO T)
noncomputable def ZaY:List Sl->Tr Bool :=
 (Zbr (Zal (Zgw λi j=>decide (i > j)) (Zae 2) (aC (.int 0))))
noncomputable def Zbw:List Sl->Tr Ou :=
 (Zmr 1 2 (Zan (Zae 2) (Zan (Zal ZnU (Zae 1) (Zae 2)) Zbb)))
noncomputable def Za0:List Sl->Tr Re:=ZcW 1 2
 (ZaV (ZfL (aOr (Zh0 (ZhZ (ZoI "tuple" (Zae 0)))) (aOr (Zbr (Zal neD (aCB Zkk (Zan (Zae 0) Zbb)) (aC (.int 2)))) (aOr (Zh0 (ZhZ (aRe (ZaJ ZbN (Zaf (Zal ixD (Zae 0) (aC (.int 0))) ZaI))))) (Zh0 (ZhZ (aRe (ZaJ ZbN (Zaf (Zal ixD (Zae 0) (aC (.int 1))) ZaI))))))))
  (ZcU (aC (.bool false)))
  ZcF)
 (ZaV (Zmr 1 2 (Zan (aCB ZoC (Zan (Zal ixD (Zae 0) (aC (.int 0))) Zbb)) (Zan (Zal ixD (Zae 0) (aC (.int 1))) Zbb)))
 (ZaV (whL ZaY Zbw 100000)
 (ZcU (Zmw (Zal (Zgw λi j=>decide (i > j)) (Zal ixD (Zae 0) (aC (.int 1))) (aC (.int 0))) (Zal eqD (Zae 1) (aC (.int 1))))))))
set_option maxHeartbeats 2000000 in
theorem Zdp (T:Txt K mg):ACal (PK2 (K,cn)) P w K mg base "_law_is_share" 2 ["_law_thing"] Za0:=ZaN T.d__law_is_share sc__law_is_share rfl λf cdv A outer sh H E hr=>by
 exact (Zac (ZcV (Znb (Zep (ZcB (ZcA (Zg8 (T:="tuple") (Or.inr (Or.inr (Or.inr (Or.inr (Or.inl rfl))))) rfl (Zat ZdR rfl T.n_isinstance boot_isinstance (ZaE (Zaa (pv 0)) (ZaE (ZeK (v:=.ty "tuple") rfl T.n_tuple boot_tuple rfl) pa_nil)))))) (Zep (Zbu (Zdm hr) Zfd (Zbq (t:=Zcb) (Zat ZaS rfl T.n_len boot_len (Zad (Zaa (pv 0)) Zao)) Zez) Zag (nomark _)) (Zep (ZcB (ZcA (ZbK (Zam (Zdz T) (hr.mono (by decide)) rfl (Zab (ZaB Zaj ZaA (Zaa (pv 0)) Zag (λ_ _=>rfl)) Zaz))))) (Zei (ZcB (ZcA (ZbK (Zam (Zdz T) (hr.mono (by decide)) rfl (Zab (ZaB Zaj ZaA (Zaa (pv 0)) Zag (λ_ _=>rfl)) Zaz))))))))))
 (Zai (ZaO ZdU))
 Zbg)
 (Zac (ZfI (Zfx (i:=1) (j:=2) rfl sc__law_is_share.nd rfl rfl (by decide) rfl rfl (Zad (Zbq (t:=Zcb) (Zat Zex rfl T.n_abs boot_abs (Zad (ZaB Zaj ZaA (Zaa (pv 0)) Zag (λ_ _=>rfl)) Zao)) Zh8) (Zad (ZaB Zaj ZaA (Zaa (pv 0)) Zag (λ_ _=>rfl)) Zao)) rfl))
 (Zac (Zey 100000 PassesOwn.never (Zbu ZeM Zb4 (Zaa (pv 2)) Zag (nomark _))
  (Zai (ZfI (Zfx (i:=1) (j:=2) rfl sc__law_is_share.nd rfl rfl (by decide) rfl rfl (Zad (Zaa (pv 2)) (Zad (Zaq ZhB Zjs (Zaa (pv 1)) (Zaa (pv 2))) Zao)) rfl))))
 (Zai (ZaO (Zne (Zg9 ZeM Zb4 (ZaB Zaj ZaA (Zaa (pv 0)) Zag (λ_ _=>rfl)) Zag (nomark _)) (Znd (Zg9 (Zj8 hr) Znk (Zaa (pv 1)) Zag (nomark _)))))))))
noncomputable def ZeT:List Sl->Tr Ou :=
 (ZaV (ZbT 8 (Zal ixD (Zae 3) (Zal ZbW (aRe (ZaJ Zbl (Zaf (Zae 0) (Zaf (Zae 2) (Zaf (Zae 6) ZaI))))) (Zal ixD (Zae 0) (aC (.int 1))))))
 (aAug Zl2 5 (Zal Za7 (Zae 7) (Zal ZbW (Zal Za7 (Zae 4) (aRe (ZaJ Zcv (Zaf (Zae 0) (Zaf (Zae 2) (Zaf (Zae 6) ZaI)))))) (Zae 8)))))
noncomputable def ZcZ:List Sl->Tr Re:=ZcW 5 4
 (ZaV (ZbT 5 (aC (.int 0)))
 (ZaV (Zh1 (Zji (Zae 1)) (ZbH (Zax (ZaU 6) (Zax (ZaU 7) ZbA))) ZeT)
 (Zgu 5)))
set_option maxHeartbeats 2000000 in
theorem ZgX (T:Txt K mg):ACal (PK2 (K,cn)) P w K mg base "weighed" 3 ["shop","day","level","ahead","scale"] ZcZ:=ZaN T.d_weighed sc_weighed rfl λf cdv A outer sh H E hr=>by
 exact (Zac (ZaD (Zav (i:=5) sc_weighed.nd rfl (Or.inl rfl) Zag))
 (Zac (ZcD PassesOwn.never rfl (Zgq (Zf4 rfl rfl T.n_enumerate (Zaa (pv 1)))) (ZcT rfl (ZaH (Zay (Zaw (i:=6) sc_weighed.nd rfl (Or.inl rfl))) (ZaH (Zay (Zaw (i:=7) sc_weighed.nd rfl (Or.inl rfl))) ZbV)) (Zas (Zas Zbe)))
  (Zac (ZaD (Zav (i:=8) sc_weighed.nd rfl (Or.inl rfl) (ZaB Zaj ZaA (Zaa (pv 3)) (Zaq op_addD ZaM (ZbK (Zam (Zc4 T) (hr.mono (by decide)) rfl (Zab (Zaa (pv 0)) (Zab (Zaa (pv 2)) (Zab (Zaa (pv 6)) Zaz))))) (ZaB Zaj ZaA (Zaa (pv 0)) (Za2 rfl T.g_DEPTH) (λ_ _=>rfl))) (λ_ _=>rfl))))
 (Zai (ZqP Znj (ZpK (i:=5) sc_weighed.nd rfl (Or.inl rfl) (Zaq ZaG ZaP (Zaa (pv 7)) (Zaq op_addD ZaM (Zaq ZaG ZaP (Zaa (pv 4)) (ZbK (Zam (Zje T) (hr.mono (by decide)) rfl (Zab (Zaa (pv 0)) (Zab (Zaa (pv 2)) (Zab (Zaa (pv 6)) Zaz)))))) (Zaa (pv 8)))) (pip Zoa))))))
 (Zai (ZhV (pv 5)))))
noncomputable def ZcM:List Sl->Tr Re:=ZcW 1 1
 (ZaV (ZbT 1 (aRe (ZaJ ZaK (Zcq 0 (Zaf (aC (.int 6)) ZaI)))))
 (ZaV (ZfL (Zbr (Zal (Zgw λi j=>decide (i < j)) (Zae 1) (aC (.int 4))))
  (ZcU (Zal Za7 (aRe (ZaJ ZaK (Zcq 0 (Zaf (aC (.int 10)) ZaI)))) (aCB Zob (Zan (Zal (Zgw λi j=>decide (i > j)) (Zae 1) (aC (.int 0))) Zbb))))
  ZcF)
 (ZcU (Zal ixD (Zfo (aLo (Zan (aRe (ZaJ ZaK (Zcq 0 (Zaf (aC (.int 1000)) ZaI)))) (Zan (Zal ZdZ (Zal ZpL (aC (.int 10)) (aC (.int 6))) (aRe (ZaJ ZaK (Zcq 0 (Zaf (aC (.int 3)) ZaI))))) Zbb)))) (Zal ZdZ (Zae 1) (aC (.int 4)))))))
set_option maxHeartbeats 2000000 in
theorem ZhR (T:Txt K mg):ACal (PK2 (K,cn)) P w K mg base "_law_price" 3 ["_law_pen_here"] ZcM:=ZaN T.d__law_price sc__law_price rfl λf cdv A outer sh H E hr=>by
 exact (Zac (ZaD (Zav (i:=1) sc__law_price.nd rfl (Or.inl rfl) (ZbK (Zam (ZaQ T) (hr.mono (by decide)) rfl (ZbL (pv 0) (Zab Zag Zaz))))))
 (Zac (ZcV (Zbu ZlO Zb4 (Zaa (pv 1)) Zag (nomark _))
  (Zai (ZaO (Zaq ZaG ZaP (ZbK (Zam (ZaQ T) (hr.mono (by decide)) rfl (ZbL (pv 0) (Zab Zag Zaz)))) (Zbq (t:=Zcb) (ZaZ ZeZ rfl T.n_int boot_int (Zad (Zg9 ZeM Zb4 (Zaa (pv 1)) Zag (nomark _)) Zao)) Zjv))))
  Zbg)
 (Zai (ZaO (ZaB Zaj ZaA (ZhX (Zdq (Zad (ZbK (Zam (ZaQ T) (hr.mono (by decide)) rfl (ZbL (pv 0) (Zab Zag Zaz)))) (Zad (Zaq Zbj Zbh (Zaq Zim ZmA Zag Zag) (ZbK (Zam (ZaQ T) (hr.mono (by decide)) rfl (ZbL (pv 0) (Zab Zag Zaz))))) Zao)))) (Zaq Zbj Zbh (Zaa (pv 1)) Zag) (λ_ _=>rfl))))))
noncomputable def Zb8:List Sl->Tr Ou :=
 (ZoY 3 (Zal ixD (Zfo (aLo (Zan (aC (.int 0)) (Zan (aC (.int 1)) (Zan (aRe (ZaJ ZaK (Zcq 0 (Zaf (aC (.int 10)) ZaI)))) (Zan (aRe (ZaJ ZaK (Zcq 0 (Zaf (aC (.int 1001)) ZaI)))) Zbb)))))) (aRe (ZaJ ZaK (Zcq 0 (Zaf (aC (.int 4)) ZaI))))))
noncomputable def ZbC:List Sl->Tr Re:=ZcW 3 2
 (ZaV (Zjh 3 (aLo Zbb))
 (ZaV (Zh1 (Zgt (Zan (Zae 1) Zbb)) (ZaU 4) Zb8)
 (ZaV (ZfK 3 (Zae 2) (aCB ZhG (Zan (aC (.int 1)) (Zan (Zmt 3 (Zae 2)) Zbb))))
 (aFz 3 (ZcU (aCB Zli (Zan (Zae 3) Zbb)))))))
set_option maxHeartbeats 2000000 in
theorem ZdS (T:Txt K mg):ACal (PK2 (K,cn)) P w K mg base "_law_weights" 3 ["_law_pen_here","_law_many","_law_at"] ZbC:=ZaN T.d__law_weights sc__law_weights rfl λf cdv A outer sh H E hr=>by
 exact (Zac (Zgo (Zav (i:=3) sc__law_weights.nd rfl (Or.inl rfl) (Zdq Zao)))
 (Zac (ZcD PassesOwn.never rfl (ZdA (Zb6 rfl T.n_range (Zad (Zaa (pv 1)) Zao))) (Zay (Zaw (i:=4) sc__law_weights.nd rfl (Or.inl rfl)))
  (Zai (Zk6 (ZeJ (ZnL PySem.F.plainAttrs_list PySem.F.slot_list_append PySem.F.type_list_append ZeP (pv 3) (ZaE (ZaB Zaj ZaA (ZhX (Zdq (Zad Zag (Zad Zag (Zad (ZbK (Zam (ZaQ T) (hr.mono (by decide)) rfl (ZbL (pv 0) (Zab Zag Zaz)))) (Zad (ZbK (Zam (ZaQ T) (hr.mono (by decide)) rfl (ZbL (pv 0) (Zab Zag Zaz)))) Zao)))))) (ZbK (Zam (ZaQ T) (hr.mono (by decide)) rfl (ZbL (pv 0) (Zab Zag Zaz)))) (λ_ _=>rfl)) pa_nil))))))
 (Zac (Zgp (Zec (Zbq (t:=Zcb) (Zat (ZdQ rfl) rfl T.n_max boot_max (Zad Zag (Zad (Zg7 (Zaa (pv 2)) (pv 3) (λ_ _=>rfl)) Zao))) ZfM) (Zj2 (pv 3) (Zaa (pv 2)) ZdH)))
 (Zai (Zov (k:=3) (ZaO (Zbq (t:=Zcb) (ZaZ Zbp rfl T.n_tuple boot_tuple (Zad (Zaa (pv 3)) Zao)) Zfr)))))))
noncomputable def Zbx:List Sl->Tr Ou :=
 (ZfL (aOr (Zh0 (ZhZ (ZoI "tuple" (Zae 3)))) (Zbr (Zal neD (aCB Zkk (Zan (Zae 3) Zbb)) (Zae 2))))
  (ZcU (aC (.bool false)))
  ZcF)
noncomputable def ZaL:List Sl->Tr Ou :=
 (ZaV (ZbT 5 (Zal ixD (Zal ixD (Zae 1) (aC (.int 2))) (Zae 4)))
 (ZfL (aOr (Zh0 (ZhZ (aRe (ZaJ Za0 (Zaf (Zal ixD (Zal ixD (Zae 1) (aC (.int 1))) (Zae 4)) ZaI))))) (aOr (Zh0 (ZhZ (aRe (ZaJ ZbN (Zaf (Zae 5) ZaI))))) (Zh0 (Zbr (ZiK (Zgw λi j=>decide (i<=j)) (Zgw λi j=>decide (i<=j)) (Zal ZdZ (Zae 4) (Zal ixD (Zae 0) (aC (.int 1)))) (Zae 5) (Zal ixD (Zae 0) (aC (.int 0))))))))
  (ZcU (aC (.bool false)))
  ZcF))
noncomputable def Za1:List Sl->Tr Re:=ZcW 2 4
 (ZaV (ZfL (aOr (Zh0 (ZhZ (ZoI "tuple" (Zae 1)))) (aOr (Zbr (Zal neD (aCB Zkk (Zan (Zae 1) Zbb)) (aC (.int 3)))) (Zh0 (ZhZ (aRe (ZaJ Za0 (Zaf (Zal ixD (Zae 1) (aC (.int 0))) ZaI)))))))
  (ZcU (aC (.bool false)))
  ZcF)
 (ZaV (ZbT 2 (Zal ZbW (Zal ZbW (Zal ixD (Zae 0) (aC (.int 0))) (Zal ixD (Zae 0) (aC (.int 1)))) (aC (.int 1))))
 (ZaV (Zh1 (aIt (aSl (Zae 1) (aP1 (aC (.int 1))) aP0)) (ZaU 3) Zbx)
 (ZaV (Zh1 (Zgt (Zan (Zae 2) Zbb)) (ZaU 4) ZaL)
 (ZcU (aC (.bool true)))))))
set_option maxHeartbeats 2000000 in
theorem Zfn (T:Txt K mg):ACal (PK2 (K,cn)) P w K mg base "_law_has_form" 3 ["_law_shop","_law_thing"] Za1:=ZaN T.d__law_has_form sc__law_has_form rfl λf cdv A outer sh H E hr=>by
 exact (Zac (ZcV (Znb (Zep (ZcB (ZcA (Zg8 (T:="tuple") (Or.inr (Or.inr (Or.inr (Or.inr (Or.inl rfl))))) rfl (Zat ZdR rfl T.n_isinstance boot_isinstance (ZaE (Zaa (pv 1)) (ZaE (ZeK (v:=.ty "tuple") rfl T.n_tuple boot_tuple rfl) pa_nil)))))) (Zep (Zbu (Zdm hr) Zfd (Zbq (t:=Zcb) (Zat ZaS rfl T.n_len boot_len (Zad (Zaa (pv 1)) Zao)) Zez) Zag (nomark _)) (Zei (ZcB (ZcA (ZbK (Zam (Zdp T) (hr.mono (by decide)) rfl (Zab (ZaB Zaj ZaA (Zaa (pv 1)) Zag (λ_ _=>rfl)) Zaz)))))))))
 (Zai (ZaO ZdU))
 Zbg)
 (Zac (ZaD (Zav (i:=2) sc__law_has_form.nd rfl (Or.inl rfl) (Zaq op_addD ZaM (Zaq op_addD ZaM (ZaB Zaj ZaA (Zaa (pv 0)) Zag (λ_ _=>rfl)) (ZaB Zaj ZaA (Zaa (pv 0)) Zag (λ_ _=>rfl))) Zag)))
 (Zac (ZcD PassesOwn.never rfl (ZdT (Zk8 (Zaa (pv 1)) (Ze3 Zag) Ze4)) (Zay (Zaw (i:=3) sc__law_has_form.nd rfl (Or.inl rfl)))
  (Zai (ZcV (Znb (Zep (ZcB (ZcA (Zg8 (T:="tuple") (Or.inr (Or.inr (Or.inr (Or.inr (Or.inl rfl))))) rfl (Zat ZdR rfl T.n_isinstance boot_isinstance (ZaE (Zaa (pv 3)) (ZaE (ZeK (v:=.ty "tuple") rfl T.n_tuple boot_tuple rfl) pa_nil)))))) (Zei (Zbu (Zdm hr) Zfd (Zbq (t:=Zcb) (Zat ZaS rfl T.n_len boot_len (Zad (Zaa (pv 3)) Zao)) Zez) (Zaa (pv 2)) (nomark _)))))
  (Zai (ZaO ZdU))
  Zbg)))
 (Zac (ZcD PassesOwn.never rfl (ZdA (Zb6 rfl T.n_range (Zad (Zaa (pv 2)) Zao))) (Zay (Zaw (i:=4) sc__law_has_form.nd rfl (Or.inl rfl)))
  (Zac (ZaD (Zav (i:=5) sc__law_has_form.nd rfl (Or.inl rfl) (ZaB Zaj ZaA (ZaB Zaj ZaA (Zaa (pv 1)) Zag (λ_ _=>rfl)) (Zaa (pv 4)) (λ_ _=>rfl))))
 (Zai (ZcV (Znb (Zep (ZcB (ZcA (ZbK (Zam (Zdp T) (hr.mono (by decide)) rfl (Zab (ZaB Zaj ZaA (ZaB Zaj ZaA (Zaa (pv 1)) Zag (λ_ _=>rfl)) (Zaa (pv 4)) (λ_ _=>rfl)) Zaz))))) (Zep (ZcB (ZcA (ZbK (Zam (Zdz T) (hr.mono (by decide)) rfl (Zab (Zaa (pv 5)) Zaz))))) (Zei (ZcB (Zmn ZnM Zb4 ZnM Zb4 (Zaq Zbj Zbh (Zaa (pv 4)) (ZaB Zaj ZaA (Zaa (pv 0)) Zag (λ_ _=>rfl))) (Zaa (pv 5)) (ZaB Zaj ZaA (Zaa (pv 0)) Zag (λ_ _=>rfl))))))))
  (Zai (ZaO ZdU))
  Zbg))))
 (Zai (ZaO ZdU))))))
noncomputable def Zco:List Sl->Tr PyData :=
 (Zal ZbW (Zal Za7 (Zal Za7 (Zae 5) (Zal ixD (Zae 1) (aC (.int 3)))) (Zae 0)) (aRe (ZaJ ZcZ (Zaf (Zae 1) (Zaf (Zae 2) (Zaf (Zae 0) (Zaf (Zae 3) (Zaf (Zae 4) ZaI))))))))
noncomputable def Zcf:List Sl->Tr Re:=ZcW 4 1
 (ZaV (ZbT 4 (Zal Za7 (Zae 3) (aCB Zhp (Zan (Zae 1) Zbb))))
 (ZoG (aLc (aIt (aRe (ZaJ Zdc (Zaf (Zae 0) ZaI)))) 1 [0,1,2,3,4] (ZaU 0) Zco)))
set_option maxHeartbeats 2000000 in
theorem ZgZ (T:Txt K mg):ACal (PK2 (K,cn)) P w K mg base "level_sums" 4 ["shop","day","ahead","scale"] Zcf:=ZaN T.d_level_sums sc_level_sums rfl λf cdv A outer sh H E hr=>by
 exact (Zac (ZaD (Zav (i:=4) sc_level_sums.nd rfl (Or.inr rfl) (Zaq ZaG ZaP (Zaa (pv 3)) (Zbq (t:=Zcb) (Zat (Zcz rfl) rfl T.n_sum boot_sum (Zad (Zaa (pv 1)) Zao)) Zfs))))
 (Zai (Zou (Zg6 (ZgG Zcm ["level"] [0,1,2,3,4] rfl (ZdT (ZbK (Zam (Zgi T) (hr.mono (by decide)) rfl (Zab (Zaa (pv 0)) Zaz)))) (λb=>(Zay (Zaw (i:=0) (show ((bN Zcm ["level"] [0,1,2,3,4])).Nodup by decide +kernel) rfl (Or.inl rfl)))) (λb=>(Zaq op_addD ZaM (Zaq ZaG ZaP (Zaq ZaG ZaP (Zaa (pv 5)) (ZaB Zaj ZaA (Zaa (pv 1)) (Za2 rfl T.g_PIECE) (λ_ _=>rfl))) (Zaa (pv 0))) (ZbK (Zam (ZgX T) (hr.mono (by decide)) rfl (Zab (Zaa (pv 1)) (Zab (Zaa (pv 2)) (Zab (Zaa (pv 0)) (Zab (Zaa (pv 3)) (Zab (Zaa (pv 4)) Zaz))))))))) rfl (show BlkOk Zcm (Zah s_level_sums) _ [0,1,2,3,4] from ⟨rfl,by decide +kernel,by decide +kernel,by decide +kernel,by decide +kernel⟩)) (Zbc (by decide))))))
noncomputable def Zcj:List Sl->Tr Ou :=
 (Ze8 (λi j=>i - j) 4 (Zal ZbW (aRe (ZaJ Zbl (Zaf (Zae 0) (Zaf (Zae 3) (Zaf (Zae 5) ZaI))))) (Zal ixD (Zae 0) (aC (.int 1)))) (Zae 6))
noncomputable def Zdf:List Sl->Tr Re:=ZcW 4 5
 (ZaV (Zjh 4 (Zmv ZoS (Zfo (aLo (Zan (aC (.int 0)) Zbb))) (Zal ZbW (Zal ZbW (Zal ixD (Zae 0) (aC (.int 0))) (Zal ixD (Zae 0) (aC (.int 1)))) (aC (.int 1)))))
 (ZaV (Ze8 (λi j=>i+j) 4 (Zal ZbW (Zae 2) (Zal ixD (Zae 0) (aC (.int 1)))) (aCB Zhp (Zan (Zae 1) Zbb)))
 (ZaV (Zh1 (Zji (Zae 1)) (ZbH (Zax (ZaU 5) (Zax (ZaU 6) ZbA))) Zcj)
 (ZaV (ZfK 4 (aC (.int 0)) (aCB Zhp (Zan (Zae 1) Zbb)))
 (ZaV (ZbT 7 (Zal Za7 (Zfo (aLo (Zan (aC (.int 0)) Zbb))) (ZoX Zkk (Ze6 4 ZaI))))
 (ZaV (ZbT 8 (Zal ZbW (Zal Za7 (aCB Zhp (Zan (Zae 1) Zbb)) (aRe (ZaJ ZbS (Zaf (Zae 0) (Zaf (Zae 2) (Zaf (Zae 3) ZaI)))))) (aRe (ZaJ ZcZ (Zaf (Zae 0) (Zaf (Zae 1) (Zaf (Zae 3) (Zaf (Zae 7) (Zaf (aC (.int 1)) ZaI)))))))))
 (aFz 4 (ZcU (Zal ZbW (Zae 4) (Zfo (aLo (Zan (Zae 8) Zbb))))))))))))
set_option maxHeartbeats 2000000 in
theorem Zjd (T:Txt K mg):ACal (PK2 (K,cn)) P w K mg base "equation" 4 ["shop","one","stock","level"] Zdf:=ZaN T.d_equation sc_equation rfl λf cdv A outer sh H E hr=>by
 exact (Zac (Zgo (Zav (i:=4) sc_equation.nd rfl (Or.inl rfl) (ao_op ZmT Zni (ZhX (Zdq (Zad Zag Zao))) (Zaq op_addD ZaM (Zaq op_addD ZaM (ZaB Zaj ZaA (Zaa (pv 0)) (Za2 rfl T.g_TOP) (λ_ _=>rfl)) (ZaB Zaj ZaA (Zaa (pv 0)) (Za2 rfl T.g_DEPTH) (λ_ _=>rfl))) Zag))))
 (Zac (ZiH (ZjX (pv 4) (Zaq op_addD ZaM (Zaa (pv 2)) (ZaB Zaj ZaA (Zaa (pv 0)) (Za2 rfl T.g_DEPTH) (λ_ _=>rfl))) Ziv (Zbq (t:=Zcb) (Zat (Zcz rfl) rfl T.n_sum boot_sum (Zad (Zaa (pv 1)) Zao)) Zfs) Zqn ZdH))
 (Zac (ZcD PassesOwn.never rfl (Zgq (Zf4 rfl rfl T.n_enumerate (Zaa (pv 1)))) (ZcT rfl (ZaH (Zay (Zaw (i:=5) sc_equation.nd rfl (Or.inl rfl))) (ZaH (Zay (Zaw (i:=6) sc_equation.nd rfl (Or.inl rfl))) ZbV)) (Zas (Zas Zbe)))
  (Zai (ZiH (ZjX (pv 4) (Zaq op_addD ZaM (ZbK (Zam (Zc4 T) (hr.mono (by decide)) rfl (Zab (Zaa (pv 0)) (Zab (Zaa (pv 3)) (Zab (Zaa (pv 5)) Zaz))))) (ZaB Zaj ZaA (Zaa (pv 0)) (Za2 rfl T.g_DEPTH) (λ_ _=>rfl))) Ziv (Zaa (pv 6)) Zqm ZdH))))
 (Zac (Zgp (Zec (Zbq (t:=Zcb) (Zat (Zcz rfl) rfl T.n_sum boot_sum (Zad (Zaa (pv 1)) Zao)) Zfs) (Zj2 (pv 4) Zag ZdH)))
 (Zac (ZaD (Zav (i:=7) sc_equation.nd rfl (Or.inl rfl) (Zaq ZaG ZaP (ZhX (Zdq (Zad Zag Zao))) (ZiI ZlJ (Zat ZaS rfl T.n_len boot_len (Zgs (pv 4) ZiJ)) Zez))))
 (Zac (ZaD (Zav (i:=8) sc_equation.nd rfl (Or.inl rfl) (Zaq op_addD ZaM (Zaq ZaG ZaP (Zbq (t:=Zcb) (Zat (Zcz rfl) rfl T.n_sum boot_sum (Zad (Zaa (pv 1)) Zao)) Zfs) (ZbK (Zam (ZgY T) (hr.mono (by decide)) rfl (Zab (Zaa (pv 0)) (Zab (Zaa (pv 2)) (Zab (Zaa (pv 3)) Zaz)))))) (ZbK (Zam (ZgX T) (hr.mono (by decide)) rfl (Zab (Zaa (pv 0)) (Zab (Zaa (pv 1)) (Zab (Zaa (pv 3)) (Zab (Zaa (pv 7)) (Zab Zag Zaz))))))))))
 (Zai (Zov (k:=4) (ZaO (Zaq op_addD ZaM (Zaa (pv 4)) (ZhX (Zdq (Zad (Zaa (pv 8)) Zao)))))))))))))
noncomputable def Zeb:List Sl->Tr PyData :=
 (aRe (ZaJ ZcM (Zcq 1 ZaI)))
noncomputable def Zde:List Sl->Tr Re:=ZcW 2 4
 (ZaV (ZbT 2 (aRe (ZaJ ZaK (Zcq 0 (Zaf (Zal ixD (Zfo (aLo (Zan (aC (.int 8)) (Zan (Zal ZbW (Zae 1) (aC (.int 1))) Zbb)))) (aCB Zob (Zan (Zal (Zgw λi j=>decide (i > j)) (aRe (ZaJ ZaK (Zcq 0 (Zaf (aC (.int 8)) ZaI)))) (aC (.int 0))) Zbb))) ZaI)))))
 (ZaV (ZbT 3 (aRe (ZaJ ZaK (Zcq 0 (Zaf (Zal ZbW (Zae 2) (aC (.int 1))) ZaI)))))
 (ZaV (ZbT 4 (Zal ZbW (Zha (Zan (Zal ZdZ (Zae 2) (Zae 3)) (Zan (Zae 3) Zbb))) (aCB Zli (Zan (Zfo (aLc (Zgt (Zan (aC (.int 7)) Zbb)) 1 [0] (ZaU 0) Zeb)) Zbb))))
 (ZaV (ZbT 5 (Zal ZbW (Zal ZbW (Zae 2) (aC (.int 1))) (aRe (ZaJ ZaK (Zcq 0 (Zaf (Zal ZdZ (aC (.int 8)) (Zae 2)) ZaI))))))
 (ZcU (Zha (Zan (Zae 4) (Zan (aRe (ZaJ ZbC (Zcq 0 (Zaf (Zae 5) (Zaf (Zal ZbW (Zae 2) (aRe (ZaJ ZaK (Zcq 0 (Zaf (Zal ZdZ (Zae 5) (Zae 2)) ZaI))))) ZaI))))) Zbb))))))))
set_option maxHeartbeats 2000000 in
theorem Zjc (T:Txt K mg):ACal (PK2 (K,cn)) P w K mg base "_law_case" 4 ["_law_pen_here","_law_few"] Zde:=ZaN T.d__law_case sc__law_case rfl λf cdv A outer sh H E hr=>by
 exact (Zac (ZaD (Zav (i:=2) sc__law_case.nd rfl (Or.inl rfl) (ZbK (Zam (ZaQ T) (hr.mono (by decide)) rfl (ZbL (pv 0) (Zab (ZaB Zaj ZaA (ZhX (Zdq (Zad Zag (Zad (Zaq op_addD ZaM (Zaa (pv 1)) Zag) Zao)))) (Zbq (t:=Zcb) (ZaZ ZeZ rfl T.n_int boot_int (Zad (Zg9 ZeM Zb4 (ZbK (Zam (ZaQ T) (hr.mono (by decide)) rfl (ZbL (pv 0) (Zab Zag Zaz)))) Zag (nomark _)) Zao)) Zjv) (λ_ _=>rfl)) Zaz))))))
 (Zac (ZaD (Zav (i:=3) sc__law_case.nd rfl (Or.inl rfl) (ZbK (Zam (ZaQ T) (hr.mono (by decide)) rfl (ZbL (pv 0) (Zab (Zaq op_addD ZaM (Zaa (pv 2)) Zag) Zaz))))))
 (Zac (ZaD (Zav (i:=4) sc__law_case.nd rfl (Or.inl rfl) (Zaq op_addD ZaM (Zca (Zad (Zaq Zbj Zbh (Zaa (pv 2)) (Zaa (pv 3))) (Zad (Zaa (pv 3)) Zao))) (Zbq (t:=Zcb) (ZaZ Zbp rfl T.n_tuple boot_tuple (Zad (ZhX (Zg6 (ZgG ZcQ ["_law_k"] [0] rfl (ZdA (Zb6 rfl T.n_range (Zad Zag Zao))) (λb=>(Zay (Zaw (i:=0) (show ((bN ZcQ ["_law_k"] [0])).Nodup by decide +kernel) rfl (Or.inl rfl)))) (λb=>(ZbK (Zam (ZhR T) (hr.mono (by decide)) rfl (ZbL (pv 1) Zaz)))) rfl (show BlkOk ZcQ (Zah s__law_case) _ [0] from ⟨rfl,by decide +kernel,by decide +kernel,by decide +kernel,by decide +kernel⟩)) (Zbc (by decide)))) Zao)) Zfr))))
 (Zac (ZaD (Zav (i:=5) sc__law_case.nd rfl (Or.inl rfl) (Zaq op_addD ZaM (Zaq op_addD ZaM (Zaa (pv 2)) Zag) (ZbK (Zam (ZaQ T) (hr.mono (by decide)) rfl (ZbL (pv 0) (Zab (Zaq Zbj Zbh Zag (Zaa (pv 2))) Zaz)))))))
 (Zai (ZaO (Zca (Zad (Zaa (pv 4)) (Zad (ZbK (Zam (ZdS T) (hr.mono (by decide)) rfl (ZbL (pv 0) (Zab (Zaa (pv 5)) (Zab (Zaq op_addD ZaM (Zaa (pv 2)) (ZbK (Zam (ZaQ T) (hr.mono (by decide)) rfl (ZbL (pv 0) (Zab (Zaq Zbj Zbh (Zaa (pv 5)) (Zaa (pv 2))) Zaz))))) Zaz))))) Zao)))))))))
noncomputable def Zci:List Sl->Tr Ou :=
 (ZbT 3 (Zal Za7 (Zae 3) (Zal ixD (Zae 4) (aC (.int 1)))))
noncomputable def Zcc:List Sl->Tr PyData :=
 (Zal Za7 (Zal ixD (Zae 0) (aC (.int 0))) (Zal Zdj (Zae 1) (Zal ixD (Zae 0) (aC (.int 1)))))
noncomputable def Zch:List Sl->Tr Ou :=
 (ZaV (ZbT 14 (Zal ixD (Zae 5) (Zal ZbW (aRe (ZaJ Zdd (Zaf (Zae 0) (Zaf (Zae 10) (Zaf (Zae 12) ZaI))))) (Zal ixD (Zae 0) (aC (.int 1))))))
 (ZbT 11 (Zal ZbW (Zae 11) (Zal Za7 (Zae 13) (Zal ZbW (Zal Za7 (Zae 3) (aRe (ZaJ Zc0 (Zaf (Zae 0) (Zaf (Zae 10) (Zaf (Zae 12) ZaI)))))) (Zae 14))))))
noncomputable def Zcg:List Sl->Tr Ou :=
 (ZaV (ZbT 11 (Zal Za7 (Zal Za7 (Zae 7) (Zae 3)) (aRe (ZaJ Zb7 (Zaf (Zae 0) (Zaf (Zal ZdZ (Zae 8) (Zal ixD (Zae 0) (aC (.int 1)))) (Zaf (Zae 10) ZaI)))))))
 (ZaV (Zh1 (Zji (Zae 1)) (ZbH (Zax (ZaU 12) (Zax (ZaU 13) ZbA))) Zch)
 (ZoY 9 (Zae 11))))
noncomputable def Zbm:List Sl->Tr Ou :=
 (ZaV (Zjh 9 (aLo Zbb))
 (ZaV (Zh1 (ZoE (Zan (Zal ZdZ (Zae 8) (Zal ixD (Zae 0) (aC (.int 1)))) (Zan (Zal ZbW (Zal ixD (Zae 0) (aC (.int 0))) (aC (.int 1))) Zbb))) (ZaU 10) Zcg)
 (ZaV (ZbT 15 (Zal Za7 (Zae 7) (Zal ZbW (Zae 6) (Zal ixD (Zae 5) (Zae 8)))))
 (ZfL (aOr (Zbr (Zal neD (ZoX ZlS (Ze6 9 ZaI)) (Zae 15))) (Zbr (Zal neD (Zmt 9 (Zal ZbW (Zal ZdZ (Zal ixD (Zal ixD (Zae 2) (aC (.int 2))) (Zae 8)) (Zae 8)) (Zal ixD (Zae 0) (aC (.int 1))))) (Zae 15))))
  (ZcU (aC (.bool false)))
  ZcF))))
noncomputable def Zbf:List Sl->Tr Re:=ZcW 3 13
 (ZaV (ZfL (Zh0 (ZhZ (aRe (ZaJ Za1 (Zaf (Zae 0) (Zaf (Zae 2) ZaI))))))
  (ZcU (aC (.bool false)))
  ZcF)
 (ZaV (ZbT 3 (Zal ixD (Zal ixD (Zae 2) (aC (.int 0))) (aC (.int 1))))
 (ZaV (Zh1 (aIt (Zal ixD (Zae 2) (aC (.int 1)))) (ZaU 4) Zci)
 (ZaV (ZbT 5 (Zfo (aLc (aIt (Zal ixD (Zae 2) (aC (.int 1)))) 1 [3] (ZaU 0) Zcc)))
 (ZaV (ZbT 6 (Zal Za7 (Zal ixD (Zal ixD (Zae 2) (aC (.int 0))) (aC (.int 0))) (Zal Zdj (Zae 3) (Zal ixD (Zal ixD (Zae 2) (aC (.int 0))) (aC (.int 1))))))
 (ZaV (ZbT 7 (aCB Zhp (Zan (Zae 1) Zbb)))
 (ZaV (Zh1 (Zgt (Zan (aCB Zkk (Zan (Zae 5) Zbb)) Zbb)) (ZaU 8) Zbm)
 (ZcU (aC (.bool true))))))))))
set_option maxHeartbeats 2000000 in
theorem Zd9 (T:Txt K mg):ACal (PK2 (K,cn)) P w K mg base "_law_look" 4 ["_law_shop","_law_one","_law_thing"] Zbf:=ZaN T.d__law_look sc__law_look rfl λf cdv A outer sh H E hr=>by
 exact (Zac (ZcV (ZcB (ZcA (ZbK (Zam (Zfn T) (hr.mono (by decide)) rfl (Zab (Zaa (pv 0)) (Zab (Zaa (pv 2)) Zaz))))))
 (Zai (ZaO ZdU))
 Zbg)
 (Zac (ZaD (Zav (i:=3) sc__law_look.nd rfl (Or.inr rfl) (ZaB Zaj ZaA (ZaB Zaj ZaA (Zaa (pv 2)) Zag (λ_ _=>rfl)) Zag (λ_ _=>rfl))))
 (Zac (ZcD PassesOwn.never rfl (ZdT (ZaB Zaj ZaA (Zaa (pv 2)) Zag (λ_ _=>rfl))) (Zay (Zaw (i:=4) sc__law_look.nd rfl (Or.inl rfl)))
  (Zai (ZaD (Zav (i:=3) sc__law_look.nd rfl (Or.inr rfl) (Zaq ZaG ZaP (Zaa (pv 3)) (ZaB Zaj ZaA (Zaa (pv 4)) Zag (λ_ _=>rfl)))))))
 (Zac (Zg4 (Zii (i:=5) ZcP ["_law_worth"] [3] rfl sc__law_look.nd rfl rfl (ZdT (ZaB Zaj ZaA (Zaa (pv 2)) Zag (λ_ _=>rfl))) (λb=>(Zay (Zaw (i:=0) (show ((bN ZcP ["_law_worth"] [3])).Nodup by decide +kernel) rfl (Or.inl rfl)))) (λb=>(Zaq ZaG ZaP (ZaB Zaj ZaA (Zaa (pv 0)) Zag (λ_ _=>rfl)) (Zaq Zb0 ZcH (Zaa (pv 1)) (ZaB Zaj ZaA (Zaa (pv 0)) Zag (λ_ _=>rfl))))) rfl (show BlkOk ZcP (Zah s__law_look) _ [3] from ⟨rfl,by decide +kernel,by decide +kernel,by decide +kernel,by decide +kernel⟩) rfl) (Zbc (by decide)))
 (Zac (ZaD (Zav (i:=6) sc__law_look.nd rfl (Or.inl rfl) (Zaq ZaG ZaP (ZaB Zaj ZaA (ZaB Zaj ZaA (Zaa (pv 2)) Zag (λ_ _=>rfl)) Zag (λ_ _=>rfl)) (Zaq Zb0 ZcH (Zaa (pv 3)) (ZaB Zaj ZaA (ZaB Zaj ZaA (Zaa (pv 2)) Zag (λ_ _=>rfl)) Zag (λ_ _=>rfl))))))
 (Zac (ZaD (Zav (i:=7) sc__law_look.nd rfl (Or.inl rfl) (Zbq (t:=Zcb) (Zat (Zcz rfl) rfl T.n_sum boot_sum (Zad (Zaa (pv 1)) Zao)) Zfs)))
 (Zac (ZcD PassesOwn.never rfl (ZdA (Zb6 rfl T.n_range (Zad (Zbq (t:=Zcb) (Zat ZaS rfl T.n_len boot_len (Zad (Zaa (pv 5)) Zao)) Zez) Zao))) (Zay (Zaw (i:=8) sc__law_look.nd rfl (Or.inl rfl)))
  (Zac (Zgo (Zav (i:=9) sc__law_look.nd rfl (Or.inl rfl) (Zdq Zao)))
 (Zac (ZcD PassesOwn.never rfl (ZoA (Zj1 rfl T.n_range (Zad (Zaq Zbj Zbh (Zaa (pv 8)) (ZaB Zaj ZaA (Zaa (pv 0)) Zag (λ_ _=>rfl))) (Zad (Zaq op_addD ZaM (ZaB Zaj ZaA (Zaa (pv 0)) Zag (λ_ _=>rfl)) Zag) Zao)))) (Zay (Zaw (i:=10) sc__law_look.nd rfl (Or.inl rfl)))
  (Zac (ZaD (Zav (i:=11) sc__law_look.nd rfl (Or.inl rfl) (Zaq ZaG ZaP (Zaq ZaG ZaP (Zaa (pv 7)) (Zaa (pv 3))) (ZbK (Zam (ZhS T) (hr.mono (by decide)) rfl (Zab (Zaa (pv 0)) (Zab (Zaq Zbj Zbh (Zaa (pv 8)) (ZaB Zaj ZaA (Zaa (pv 0)) Zag (λ_ _=>rfl))) (Zab (Zaa (pv 10)) Zaz))))))))
 (Zac (ZcD PassesOwn.never rfl (Zgq (Zf4 rfl rfl T.n_enumerate (Zaa (pv 1)))) (ZcT rfl (ZaH (Zay (Zaw (i:=12) sc__law_look.nd rfl (Or.inl rfl))) (ZaH (Zay (Zaw (i:=13) sc__law_look.nd rfl (Or.inl rfl))) ZbV)) (Zas (Zas Zbe)))
  (Zac (ZaD (Zav (i:=14) sc__law_look.nd rfl (Or.inl rfl) (ZaB Zaj ZaA (Zaa (pv 5)) (Zaq op_addD ZaM (ZbK (Zam (Zjb T) (hr.mono (by decide)) rfl (Zab (Zaa (pv 0)) (Zab (Zaa (pv 10)) (Zab (Zaa (pv 12)) Zaz))))) (ZaB Zaj ZaA (Zaa (pv 0)) Zag (λ_ _=>rfl))) (λ_ _=>rfl))))
 (Zai (ZaD (Zav (i:=11) sc__law_look.nd rfl (Or.inl rfl) (Zaq op_addD ZaM (Zaa (pv 11)) (Zaq ZaG ZaP (Zaa (pv 13)) (Zaq op_addD ZaM (Zaq ZaG ZaP (Zaa (pv 3)) (ZbK (Zam (ZkY T) (hr.mono (by decide)) rfl (Zab (Zaa (pv 0)) (Zab (Zaa (pv 10)) (Zab (Zaa (pv 12)) Zaz)))))) (Zaa (pv 14))))))))))
 (Zai (Zk6 (ZeJ (ZnL PySem.F.plainAttrs_list PySem.F.slot_list_append PySem.F.type_list_append ZeP (pv 9) (ZaE (Zaa (pv 11)) pa_nil))))))))
 (Zac (ZaD (Zav (i:=15) sc__law_look.nd rfl (Or.inl rfl) (Zaq ZaG ZaP (Zaa (pv 7)) (Zaq op_addD ZaM (Zaa (pv 6)) (ZaB Zaj ZaA (Zaa (pv 5)) (Zaa (pv 8)) (λ_ _=>rfl))))))
 (Zai (ZcV (Znb (Zep (Zbu (Zdm hr) Zfd (ZiI ZlJ (Zat (ZkV rfl) rfl T.n_min boot_min (Zgs (pv 9) ZiJ)) Znl) (Zaa (pv 15)) (nomark _)) (Zei (Zbu (Zdm hr) Zfd (Zg7 (Zaq op_addD ZaM (Zaq Zbj Zbh (ZaB Zaj ZaA (ZaB Zaj ZaA (Zaa (pv 2)) Zag (λ_ _=>rfl)) (Zaa (pv 8)) (λ_ _=>rfl)) (Zaa (pv 8))) (ZaB Zaj ZaA (Zaa (pv 0)) Zag (λ_ _=>rfl))) (pv 9) (λ_ _=>rfl)) (Zaa (pv 15)) (nomark _)))))
  (Zai (ZaO ZdU))
  Zbg))))))
 (Zai (ZaO ZdU)))))))))
noncomputable def ZaT:List Sl->Tr PyData :=
 (aRe (ZaJ Zdf (Zaf (Zae 2) (Zaf (Zae 3) (Zaf (Zae 0) (Zaf (Zae 1) ZaI))))))
noncomputable def Za8:List Sl->Tr Re:=ZcW 3 2
 (ZaV (ZoK (ZbH (Zax (ZaU 3) (Zax (ZaU 4) ZbA))) (aRe (Zlc Zew (aLc (aZip (aRe (ZaJ Zdc (Zaf (Zae 0) ZaI))) (Zae 2)) 2 [0,1] (ZbH (Zax (ZaU 0) (Zax (ZaU 1) ZbA))) ZaT))))
 (ZcU (Zha (Zan (Zal ixD (Zae 3) (aC (.int 0))) (Zan (Zal ZbW (Zfo (aLo (Zan (aC (.int 0)) Zbb))) (aSl (Zae 3) (aP1 (aC (.int 1))) aP0)) (Zan (Zae 4) Zbb))))))
set_option maxHeartbeats 2000000 in
theorem Zd8 (T:Txt K mg):ACal (PK2 (K,cn)) P w K mg base "mean_and_worths" 5 ["shop","one","levels"] Za8:=ZaN T.d_mean_and_worths sc_mean_and_worths rfl λf cdv A outer sh H E hr=>by
 exact (Zac (Zg5 (Zec (ZbK (Zmo (Zml T) (hr.mono (by decide)) rfl (Zg6 (ZgG Za9 ["stock","level"] [0,1] rfl (Znc (ZmP rfl rfl T.n_zip (ZbK (Zam (Zgi T) (hr.mono (by decide)) rfl (Zab (Zaa (pv 0)) Zaz))) (Zaa (pv 2)))) (λb=>(ZcT rfl (ZaH (Zay (Zaw (i:=0) (show ((bN Za9 ["stock","level"] [0,1])).Nodup by decide +kernel) rfl (Or.inl rfl))) (ZaH (Zay (Zaw (i:=1) (show ((bN Za9 ["stock","level"] [0,1])).Nodup by decide +kernel) rfl (Or.inl rfl))) ZbV)) (Zas (Zas Zbe)))) (λb=>(ZbK (Zam (Zjd T) (hr.mono (by decide)) rfl (Zab (Zaa (pv 2)) (Zab (Zaa (pv 3)) (Zab (Zaa (pv 0)) (Zab (Zaa (pv 1)) Zaz))))))) rfl (show BlkOk Za9 (Zah s_mean_and_worths) _ [0,1] from ⟨rfl,by decide +kernel,by decide +kernel,by decide +kernel,by decide +kernel⟩)) (Zes (ZbR (Zbc (by decide)) (ZbR (Zbc (by decide)) Zet)))))) (ZcT rfl (ZaH (Zay (Zaw (i:=3) sc_mean_and_worths.nd rfl (Or.inl rfl))) (ZaH (Zay (Zaw (i:=4) sc_mean_and_worths.nd rfl (Or.inl rfl))) ZbV)) (Zas (Zas Zbe)))))
 (Zai (ZaO (Zca (Zad (ZaB Zaj ZaA (Zaa (pv 3)) Zag (λ_ _=>rfl)) (Zad (Zaq op_addD ZaM (ZhX (Zdq (Zad Zag Zao))) (Zk8 (Zaa (pv 3)) (Ze3 Zag) Ze4)) (Zad (Zaa (pv 4)) Zao)))))))
noncomputable def Zb5:List Sl->Tr PyData :=
 (Zae 1)
noncomputable def Zb3:List Sl->Tr Bool :=
 (Zbr (aC (.bool true)))
noncomputable def Zbn:List Sl->Tr Ou :=
 (ZaV (ZoK (ZbH (Zax (ZaU 3) (Zax (ZaU 4) (Zax (ZaU 5) ZbA)))) (aRe (ZaJ Za8 (Zaf (Zae 0) (Zaf (Zae 1) (Zaf (Zae 2) ZaI))))))
 (ZaV (ZbT 6 (aRe (ZaJ Zcw (Zaf (Zae 0) (Zaf (aRe (ZaJ Zcf (Zaf (Zae 0) (Zaf (Zae 1) (Zaf (Zae 4) (Zaf (Zae 5) ZaI)))))) (Zaf (Zal Za7 (Zae 5) (aCB Zhp (Zan (Zae 1) Zbb))) ZaI))))))
 (ZaV (ZbT 7 (Zfo (aLc (aIt (Zae 6)) 2 [] (ZbH (Zax (ZaU 0) (Zax (ZaU 1) ZbA))) Zb5)))
 (ZaV (ZfL (Zbr (Zal eqD (Zae 7) (Zae 2)))
  (ZcU (Zha (Zan (Zae 3) (Zan (Zae 4) (Zan (Zae 5) (Zan (Zae 2) Zbb))))))
  ZcF)
 (ZbT 2 (Zae 7))))))
noncomputable def Zb1:List Sl->Tr Re:=ZcW 2 6
 (ZaV (ZbT 2 (Zfo (aCBo ZoT (Zan (aRe (ZaJ Zdc (Zaf (Zae 0) ZaI))) Zbb))))
 (whL Zb3 Zbn 100000))
set_option maxHeartbeats 2000000 in
theorem Zgj (T:Txt K mg):ACal (PK2 (K,cn)) P w K mg base "best_of_all" 6 ["shop","one"] Zb1:=ZaN T.d_best_of_all sc_best_of_all rfl λf cdv A outer sh H E hr=>by
 exact (Zac (ZaD (Zav (i:=2) sc_best_of_all.nd rfl (Or.inl rfl) (ZhX (ao_cb (t:=Zcb) (ZaZ Zeh rfl T.n_list boot_list (Zad (ZbK (Zam (Zgi T) (hr.mono (by decide)) rfl (Zab (Zaa (pv 0)) Zaz))) Zao)) Zo2))))
 (Zai (Zey 100000 PassesOwn.never (ZqL ZdU)
  (Zac (Zg5 (Zec (ZbK (Zam (Zd8 T) (hr.mono (by decide)) rfl (Zab (Zaa (pv 0)) (Zab (Zaa (pv 1)) (Zab (Zaa (pv 2)) Zaz))))) (ZcT rfl (ZaH (Zay (Zaw (i:=3) sc_best_of_all.nd rfl (Or.inl rfl))) (ZaH (Zay (Zaw (i:=4) sc_best_of_all.nd rfl (Or.inl rfl))) (ZaH (Zay (Zaw (i:=5) sc_best_of_all.nd rfl (Or.inl rfl))) ZbV))) (Zas (Zas (Zas Zbe))))))
 (Zac (ZaD (Zav (i:=6) sc_best_of_all.nd rfl (Or.inl rfl) (ZbK (Zam (Zjf T) (hr.mono (by decide)) rfl (Zab (Zaa (pv 0)) (Zab (ZbK (Zam (ZgZ T) (hr.mono (by decide)) rfl (Zab (Zaa (pv 0)) (Zab (Zaa (pv 1)) (Zab (Zaa (pv 4)) (Zab (Zaa (pv 5)) Zaz)))))) (Zab (Zaq ZaG ZaP (Zaa (pv 5)) (Zbq (t:=Zcb) (Zat (Zcz rfl) rfl T.n_sum boot_sum (Zad (Zaa (pv 1)) Zao)) Zfs)) Zaz)))))))
 (Zac (Zg4 (Zii (i:=7) ZbI ["cost","level"] [] rfl sc_best_of_all.nd rfl rfl (ZdT (Zaa (pv 6))) (λb=>(ZcT rfl (ZaH (Zay (Zaw (i:=0) (show ((bN ZbI ["cost","level"] [])).Nodup by decide +kernel) rfl (Or.inl rfl))) (ZaH (Zay (Zaw (i:=1) (show ((bN ZbI ["cost","level"] [])).Nodup by decide +kernel) rfl (Or.inl rfl))) ZbV)) (Zas (Zas Zbe)))) (λb=>(Zaa (pv 1))) rfl (show BlkOk ZbI (Zah s_best_of_all) _ [] from ⟨rfl,by decide +kernel,by decide +kernel,by decide +kernel,by decide +kernel⟩) rfl) (Zes (ZbR (Zbc (by decide)) (ZbR (Zbc (by decide)) Zet))))
 (Zac (ZcV (Zbu (Zj8 hr) Znk (Zaa (pv 7)) (Zaa (pv 2)) (nomark _))
  (Zai (ZaO (Zca (Zad (Zaa (pv 3)) (Zad (Zaa (pv 4)) (Zad (Zaa (pv 5)) (Zad (Zaa (pv 2)) Zao)))))))
  Zbg)
 (Zai (ZaD (Zav (i:=2) sc_best_of_all.nd rfl (Or.inl rfl) (Zaa (pv 7))))))))))))
noncomputable def ZcJ:List Sl->Tr PyData :=
 (aRe (ZaJ Zd4 (Zaf (Zae 0) (Zaf (Zae 1) ZaI))))
noncomputable def ZbD:List Sl->Tr Re:=ZcW 2 4
 (ZaV (ZoJ (aRe (ZaJ Zb2 (Zaf (Zae 0) (Zaf (Zae 1) ZaI)))))
 (ZaV (ZoK (ZbH (Zax (ZaU 2) (Zax (ZaU 3) (Zax (ZaU 4) (Zax (ZaU 5) ZbA))))) (aRe (ZaJ Zb1 (Zaf (Zae 0) (Zaf (Zae 1) ZaI)))))
 (ZcU (Zha (Zan (aRe (ZaJ Zd4 (Zaf (Zae 2) (Zaf (Zae 4) ZaI)))) (Zan (aCB Zli (Zan (Zfo (aLc (aIt (Zae 3)) 1 [4] (ZaU 0) ZcJ)) Zbb)) (Zan (aCB Zli (Zan (Zae 5) Zbb)) Zbb)))))))
set_option maxHeartbeats 2000000 in
theorem Zc5 (T:Txt K mg):ACal (PK2 (K,cn)) P w K mg base "lasting" 7 ["shop","one"] ZbD:=ZaN T.d_lasting sc_lasting rfl λf cdv A outer sh H E hr=>by
 exact (Zac (Zow (ZbK (Zam (Zgk T) (hr.mono (by decide)) rfl (Zab (Zaa (pv 0)) (Zab (Zaa (pv 1)) Zaz)))))
 (Zac (Zg5 (Zec (ZbK (Zam (Zgj T) (hr.mono (by decide)) rfl (Zab (Zaa (pv 0)) (Zab (Zaa (pv 1)) Zaz)))) (ZcT rfl (ZaH (Zay (Zaw (i:=2) sc_lasting.nd rfl (Or.inl rfl))) (ZaH (Zay (Zaw (i:=3) sc_lasting.nd rfl (Or.inl rfl))) (ZaH (Zay (Zaw (i:=4) sc_lasting.nd rfl (Or.inr rfl))) (ZaH (Zay (Zaw (i:=5) sc_lasting.nd rfl (Or.inl rfl))) ZbV)))) (Zas (Zas (Zas (Zas Zbe)))))))
 (Zai (ZaO (Zca (Zad (ZbK (Zam (ZkX T) (hr.mono (by decide)) rfl (Zab (Zaa (pv 2)) (Zab (Zaa (pv 4)) Zaz)))) (Zad (Zbq (t:=Zcb) (ZaZ Zbp rfl T.n_tuple boot_tuple (Zad (ZhX (Zg6 (ZgG ZdW ["worth"] [4] rfl (ZdT (Zaa (pv 3))) (λb=>(Zay (Zaw (i:=0) (show ((bN ZdW ["worth"] [4])).Nodup by decide +kernel) rfl (Or.inl rfl)))) (λb=>(ZbK (Zam (ZkX T) (hr.mono (by decide)) rfl (Zab (Zaa (pv 0)) (Zab (Zaa (pv 1)) Zaz))))) rfl (show BlkOk ZdW (Zah s_lasting) _ [4] from ⟨rfl,by decide +kernel,by decide +kernel,by decide +kernel,by decide +kernel⟩)) (Zbc (by decide)))) Zao)) Zfr) (Zad (Zbq (t:=Zcb) (ZaZ Zbp rfl T.n_tuple boot_tuple (Zad (Zaa (pv 5)) Zao)) Zfr) Zao))))))))
noncomputable def Zhx:List Sl->Tr PyData :=
 (Zal Za7 (Zae 0) (Zae 1))
noncomputable def Zhw:List Sl->Tr PyData :=
 (Zal Za7 (Zae 0) (Zae 1))
noncomputable def ZhI:List Sl->Tr Ou :=
 (ZaV (ZoK (ZbH (Zax (ZaU 3) (Zax (ZaU 4) ZbA))) (aRe (ZaJ Zde (Zcq 1 (Zaf (aC (.int 4)) ZaI)))))
 (ZaV (ZbT 5 (aCB ZiQ (Zan (Zha (Zan (Zae 3) (Zan (Zae 4) Zbb))) Zbb)))
 (ZaV (ZbT 6 (aRe (ZaJ ZbD (Zaf (Zae 3) (Zaf (Zae 4) ZaI)))))
 (ZaV (ZfL (aOr (Zh0 (ZhZ (aRe (ZaJ Zbf (Zaf (Zae 3) (Zaf (Zae 4) (Zaf (Zae 6) ZaI))))))) (Zbr (Zal neD (aCB ZiQ (Zan (Zha (Zan (Zae 3) (Zan (Zae 4) Zbb))) Zbb)) (Zae 5))))
  (ZcU (aC (.bool false)))
  ZcF)
 (ZaV (ZbT 7 (Zal ZbW (aC (.int 1)) (aRe (ZaJ ZaK (Zcq 1 (Zaf (Zal Zdj (Zal ZpL (aC (.int 10)) (aC (.int 6))) (aCB Zem (Zan (Zal ZoW (aSl (Zae 3) (aP1 (aC (.int 2))) aP0) (Zha (Zan (aC (.int 1)) Zbb))) Zbb))) ZaI))))))
 (ZaV (ZbT 8 (Zal ZoW (aSl (Zae 3) aP0 (aP1 (aC (.int 2)))) (aCB Zli (Zan (Zfo (aLc (aIt (aSl (Zae 3) (aP1 (aC (.int 2))) aP0)) 1 [7] (ZaU 0) Zhx)) Zbb))))
 (ZaV (ZbT 9 (aRe (ZaJ ZbD (Zaf (Zae 8) (Zaf (Zae 4) ZaI)))))
 (ZaV (ZfL (aOr (Zh0 (ZhZ (aRe (ZaJ Zbf (Zaf (Zae 8) (Zaf (Zae 4) (Zaf (Zae 9) ZaI))))))) (Zbr (Zal neD (Zal ixD (Zae 9) (aC (.int 0))) (aRe (ZaJ ZcL (Zaf (Zal Za7 (Zal ixD (Zal ixD (Zae 6) (aC (.int 0))) (aC (.int 0))) (Zae 7)) (Zaf (Zal ixD (Zal ixD (Zae 6) (aC (.int 0))) (aC (.int 1))) ZaI)))))))
  (ZcU (aC (.bool false)))
  ZcF)
 (ZaV (ZbT 7 (Zal ZbW (aC (.int 1)) (aRe (ZaJ ZaK (Zcq 1 (Zaf (Zal Zdj (aC (.int 1000)) (aCB Zem (Zan (Zae 4) Zbb))) ZaI))))))
 (ZaV (ZbT 9 (aRe (ZaJ ZbD (Zaf (Zae 3) (Zaf (aCB Zli (Zan (Zfo (aLc (aIt (Zae 4)) 1 [7] (ZaU 0) Zhw)) Zbb)) ZaI)))))
 (ZaV (ZfL (Zbr (Zal neD (Zal ixD (Zae 9) (aC (.int 0))) (Zal ixD (Zae 6) (aC (.int 0)))))
  (ZcU (aC (.bool false)))
  ZcF)
 (ZaV (ZbT 10 (Zal ZbW (Zal ixD (Zae 3) (aC (.int 0))) (Zal ixD (Zae 3) (aC (.int 1)))))
 (ZaV (ZbT 11 (aRe (ZaJ ZbC (Zcq 1 (Zaf (Zal ZbW (Zae 10) (aC (.int 1))) (Zaf (Zae 10) ZaI))))))
 (ZfL (aOr (Zh0 (ZhZ (aRe (ZaJ Zbf (Zaf (Zae 3) (Zaf (Zae 11) (Zaf (aRe (ZaJ ZbD (Zaf (Zae 3) (Zaf (Zae 11) ZaI)))) ZaI))))))) (Zbr (Zal neD (Zal ixD (aRe (ZaJ ZbD (Zaf (Zae 3) (Zaf (Zae 4) ZaI)))) (aC (.int 0))) (Zal ixD (Zae 6) (aC (.int 0))))))
  (ZcU (aC (.bool false)))
  ZcF))))))))))))))
noncomputable def ZlU:List Sl->Tr Ou :=
 (ZaV (Zh1 (Zgt (Zan (aC (.int 3)) Zbb)) (ZaU 2) ZhI)
 (ZcU (aC (.bool true))))
noncomputable abbrev law0:List Sl:=.un::.pen::List.replicate 10 .un
set_option maxHeartbeats 4000000 in
theorem ok_law (T:Txt K mg) {f:Addr} {fd:FuncData} (F:Fun K "law" "law" s_law f fd) (hl:(ZlU law0).ok 0 λ_ o=>o=.ret (.d (.bool true))):FnOk P w K mg base CX0 8 f fd ["_law_script"] (spLaw K):=by
 refine F.ok sc_law (λvs H Q E h=>?_) (λcdv A outer s H vs Q E hr h=>?_)
 ·obtain ⟨a,ns,rfl,_⟩:=h
  rfl
 ·obtain ⟨a,ns,rfl,hS,hlen,k⟩:=h
  have hu:=Zl3 hr
  refine ⟨_,(Zbi (Zav (i:=1) sc_law.nd rfl (Or.inl rfl) (Zeu (ZpZ T) (hr.mono (by decide)) rfl (ZaE (pv 0) pa_nil)))
 (ZpI (t:=λcn=>TAs (PK2 (K,cn)) ZlU) λcn=>(Zac (ZcD PassesOwn.never rfl (ZdA (Zb6 rfl T.n_range (Zad Zag Zao))) (Zay (Zaw (i:=2) sc_law.nd rfl (Or.inl rfl)))
  (Zac (Zg5 (Zec (ZbK (Zam (Zjc T) (hr.mono (by decide)) rfl (ZbL (pv 1) (Zab Zag Zaz)))) (ZcT rfl (ZaH (Zay (Zaw (i:=3) sc_law.nd rfl (Or.inl rfl))) (ZaH (Zay (Zaw (i:=4) sc_law.nd rfl (Or.inl rfl))) ZbV)) (Zas (Zas Zbe)))))
 (Zac (ZaD (Zav (i:=5) sc_law.nd rfl (Or.inl rfl) (Zbq (t:=Zcb) (Zat (ZgW hr) rfl T.n_repr boot_repr (Zad (Zca (Zad (Zaa (pv 3)) (Zad (Zaa (pv 4)) Zao))) Zao)) Zju)))
 (Zac (ZaD (Zav (i:=6) sc_law.nd rfl (Or.inl rfl) (ZbK (Zam (Zc5 T) (hr.mono (by decide)) rfl (Zab (Zaa (pv 3)) (Zab (Zaa (pv 4)) Zaz))))))
 (Zac (ZcV (Znb (Zep (ZcB (ZcA (ZbK (Zam (Zd9 T) (hr.mono (by decide)) rfl (Zab (Zaa (pv 3)) (Zab (Zaa (pv 4)) (Zab (Zaa (pv 6)) Zaz))))))) (Zei (Zbu (Zdm hr) Zfd (Zbq (t:=Zcb) (Zat (ZgW hr) rfl T.n_repr boot_repr (Zad (Zca (Zad (Zaa (pv 3)) (Zad (Zaa (pv 4)) Zao))) Zao)) Zju) (Zaa (pv 5)) (nomark _)))))
  (Zai (ZaO ZdU))
  Zbg)
 (Zac (ZaD (Zav (i:=7) sc_law.nd rfl (Or.inr rfl) (Zaq op_addD ZaM Zag (ZbK (Zam (ZaQ T) (hr.mono (by decide)) rfl (ZbL (pv 1) (Zab (Zaq Zb0 ZcH (Zaq Zim ZmA Zag Zag) (Zbq (t:=Zcb) (Zat (ZeY rfl) rfl T.n_max boot_max (Zad (Zaq Zj9 Zjt (Zk8 (Zaa (pv 3)) (Ze3 Zag) Ze4) (Zca (Zad Zag Zao))) Zao)) Zhm)) Zaz)))))))
 (Zac (ZaD (Zav (i:=8) sc_law.nd rfl (Or.inl rfl) (Zaq Zj9 Zjt (Zk8 (Zaa (pv 3)) Ze4 (Ze3 Zag)) (Zbq (t:=Zcb) (ZaZ Zbp rfl T.n_tuple boot_tuple (Zad (ZhX (Zg6 (ZgG Zh3 ["_law_price_here"] [7] rfl (ZdT (Zk8 (Zaa (pv 3)) (Ze3 Zag) Ze4)) (λb=>(Zay (Zaw (i:=0) (show ((bN Zh3 ["_law_price_here"] [7])).Nodup by decide +kernel) rfl (Or.inl rfl)))) (λb=>(Zaq ZaG ZaP (Zaa (pv 0)) (Zaa (pv 1)))) rfl (show BlkOk Zh3 (Zah s_law) _ [7] from ⟨rfl,by decide +kernel,by decide +kernel,by decide +kernel,by decide +kernel⟩)) (Zbc (by decide)))) Zao)) Zfr))))
 (Zac (ZaD (Zav (i:=9) sc_law.nd rfl (Or.inl rfl) (ZbK (Zam (Zc5 T) (hr.mono (by decide)) rfl (Zab (Zaa (pv 8)) (Zab (Zaa (pv 4)) Zaz))))))
 (Zac (ZcV (Znb (Zep (ZcB (ZcA (ZbK (Zam (Zd9 T) (hr.mono (by decide)) rfl (Zab (Zaa (pv 8)) (Zab (Zaa (pv 4)) (Zab (Zaa (pv 9)) Zaz))))))) (Zei (Zbu (Zdm hr) Zfd (ZaB Zaj ZaA (Zaa (pv 9)) Zag (λ_ _=>rfl)) (ZbK (Zam (ZhQ T) (hr.mono (by decide)) rfl (Zab (Zaq ZaG ZaP (ZaB Zaj ZaA (ZaB Zaj ZaA (Zaa (pv 6)) Zag (λ_ _=>rfl)) Zag (λ_ _=>rfl)) (Zaa (pv 7))) (Zab (ZaB Zaj ZaA (ZaB Zaj ZaA (Zaa (pv 6)) Zag (λ_ _=>rfl)) Zag (λ_ _=>rfl)) Zaz)))) (nomark _)))))
  (Zai (ZaO ZdU))
  Zbg)
 (Zac (ZaD (Zav (i:=7) sc_law.nd rfl (Or.inr rfl) (Zaq op_addD ZaM Zag (ZbK (Zam (ZaQ T) (hr.mono (by decide)) rfl (ZbL (pv 1) (Zab (Zaq Zb0 ZcH Zag (Zbq (t:=Zcb) (Zat (ZeY rfl) rfl T.n_max boot_max (Zad (Zaa (pv 4)) Zao)) Zhm)) Zaz)))))))
 (Zac (ZaD (Zav (i:=9) sc_law.nd rfl (Or.inl rfl) (ZbK (Zam (Zc5 T) (hr.mono (by decide)) rfl (Zab (Zaa (pv 3)) (Zab (Zbq (t:=Zcb) (ZaZ Zbp rfl T.n_tuple boot_tuple (Zad (ZhX (Zg6 (ZgG Zh3 ["_law_weight"] [7] rfl (ZdT (Zaa (pv 4))) (λb=>(Zay (Zaw (i:=0) (show ((bN Zh3 ["_law_weight"] [7])).Nodup by decide +kernel) rfl (Or.inl rfl)))) (λb=>(Zaq ZaG ZaP (Zaa (pv 0)) (Zaa (pv 1)))) rfl (show BlkOk Zh3 (Zah s_law) _ [7] from ⟨rfl,by decide +kernel,by decide +kernel,by decide +kernel,by decide +kernel⟩)) (Zbc (by decide)))) Zao)) Zfr) Zaz))))))
 (Zac (ZcV (Zbu (Zdm hr) Zfd (ZaB Zaj ZaA (Zaa (pv 9)) Zag (λ_ _=>rfl)) (ZaB Zaj ZaA (Zaa (pv 6)) Zag (λ_ _=>rfl)) (nomark _))
  (Zai (ZaO ZdU))
  Zbg)
 (Zac (ZaD (Zav (i:=10) sc_law.nd rfl (Or.inl rfl) (Zaq op_addD ZaM (ZaB Zaj ZaA (Zaa (pv 3)) Zag (λ_ _=>rfl)) (ZaB Zaj ZaA (Zaa (pv 3)) Zag (λ_ _=>rfl)))))
 (Zac (ZaD (Zav (i:=11) sc_law.nd rfl (Or.inl rfl) (ZbK (Zam (ZdS T) (hr.mono (by decide)) rfl (ZbL (pv 1) (Zab (Zaq op_addD ZaM (Zaa (pv 10)) Zag) (Zab (Zaa (pv 10)) Zaz)))))))
 (Zai (ZcV (Znb (Zep (ZcB (ZcA (ZbK (Zam (Zd9 T) (hr.mono (by decide)) rfl (Zab (Zaa (pv 3)) (Zab (Zaa (pv 11)) (Zab (ZbK (Zam (Zc5 T) (hr.mono (by decide)) rfl (Zab (Zaa (pv 3)) (Zab (Zaa (pv 11)) Zaz)))) Zaz))))))) (Zei (Zbu (Zdm hr) Zfd (ZaB Zaj ZaA (ZbK (Zam (Zc5 T) (hr.mono (by decide)) rfl (Zab (Zaa (pv 3)) (Zab (Zaa (pv 4)) Zaz)))) Zag (λ_ _=>rfl)) (ZaB Zaj ZaA (Zaa (pv 6)) Zag (λ_ _=>rfl)) (nomark _)))))
  (Zai (ZaO ZdU))
  Zbg))))))))))))))))
 (Zai (ZaO ZdU))))),?_⟩
  refine ⟨_,rfl,a,ns,rfl,hS,hlen,λp H' hp hP hs=>?_⟩
  exact Zko (n:=10) hP rfl rfl (λH'=>k H') hl
end
end My
set_option Elab.async false
set_option linter.all false
set_option maxRecDepth 100000
local macro_rules | `(tactic| simp_arith [$ls,*] $[$loc]?) => do let b : Lean.TSyntaxArray ``Lean.Parser.Tactic.simpLemma ← (("L2.ev_var0 L2.ev_varS L2.ev_C L2.ev_bin L2.ev_bin1 L2.ev_add L2.ev_addT L2.ev_addL L2.ev_sub L2.ev_cmp L2.ev_eqI L2.ev_neI L2.ev_eqB L2.ev_eqS L2.ev_neS L2.ev_ixL L2.ev_ixT L2.at_0 L2.at_1 L2.at_2 L2.at_3 L2.at_4 L2.at_5 L2.at_6 L2.at_7 L2.at_8 L2.ev_neg L2.ev_neg1 L2.ev_test L2.ev_tst1 L2.ev_tru L2.ev_truB L2.ev_truI L2.ev_truL L2.ev_truT L2.ev_truN L2.ev_or L2.ev_not L2.ev_or1t L2.ev_or1f L2.ev_not1 L2.ev_andV L2.ev_notV L2.ev_andV1t L2.ev_andV1f L2.ev_notV1 L2.ev_if L2.ev_if1t L2.ev_if1f L2.ev_chain L2.ev_ch1 L2.ev_ch2 L2.ev_ch3 L2.ev_ch4t L2.ev_ch4f L2.ev_nil L2.ev_cons L2.ev_cons1 L2.ev_cons2 L2.ev_tup L2.ev_tup1 L2.ev_lst L2.ev_lst1 L2.ev_lo L2.ev_lo1 L2.small_le L2.ev_cb L2.ev_cbo L2.ev_lenL L2.ev_lenT L2.ev_abs L2.ev_max2 L2.ev_intI L2.ev_intB L2.ev_tupL L2.ev_tupT L2.ev_lstL L2.ev_lstT L2.ev_sumL L2.ev_sumT L2.ev_maxL L2.ev_isi L2.ev_isi1 L2.ev_sl L2.ev_sl1 L2.ev_sl2 L2.ev_sl3L L2.ev_sl3T L2.ev_p0 L2.ev_p1 L2.ev_pa1 L2.ev_tupR L2.ev_tupR1 L2.ev_aaNil L2.ev_aaCons L2.ev_aa1 L2.ev_aa2 L2.ev_pen0 L2.ev_penS L2.ev_aaPen L2.ev_aap L2.ev_call L2.ev_re L2.ev_re1 L2.ev_def L2.ev_finN L2.ev_finR L2.ev_seq L2.ev_seqN L2.ev_seqR L2.ev_seqB L2.ev_seqC L2.ev_skip L2.ev_ifs L2.ev_ifst L2.ev_ifsf L2.ev_ret L2.ev_ret1 L2.ev_retO L2.ev_retO1 L2.ev_retR L2.ev_retR1 L2.ev_retVd L2.ev_retVo L2.ev_retVs L2.ev_set L2.ev_set1 L2.ev_setO L2.ev_setO1 L2.ls_0 L2.ls_S L2.ev_aug L2.ev_aug1 L2.ev_aug2 L2.ev_iadd L2.ev_own0 L2.ev_ownS L2.ev_app L2.ev_app1 L2.ev_app2 L2.ev_rev L2.ev_rev1 L2.ev_fz L2.fz_o L2.fz_d L2.fz_p L2.fz_u L2.fz_S L2.ev_asg L2.ev_asg1 L2.ev_nx1 L2.g_set L2.g_tup L2.g_nil L2.g_cons L2.g_some L2.ev_par L2.ev_par1 L2.ev_it L2.ev_it1L L2.ev_it1T L2.ev_rng1 L2.ev_rng2 L2.ev_zip L2.ev_zip0 L2.ev_zip1 L2.ev_zip2 L2.ev_zip3 L2.ev_enum L2.ev_enu1 L2.ev_enu2 L2.ev_for L2.ev_for1 L2.for_nil L2.ev_for2 L2.ev_for3n L2.ev_for3c L2.ev_for3b L2.ev_for3r L2.ev_lc L2.ev_lc1 L2.ev_lc2 L2.mt_nil L2.mt_cons L2.mt_1 L2.mt_2 L2.ev_len0o L2.ev_len0d L2.ev_lenS L2.ev_lend L2.ev_lcif L2.ev_lci1 L2.ev_lci2 L2.ev_ifE L2.ev_if2t L2.ev_if2f L2.ev_if3 L2.ev_cbF L2.ev_cbf1 L2.ev_fl1I L2.ev_six L2.ev_six1 L2.ev_six2 L2.ev_addE0 L2.ev_addE1 L2.ev_rvi2 L2.ev_revR2 L2.ev_rvr2 L2.ev_min2T L2.ev_ixO L2.ev_ixo0 L2.ev_ixo0d L2.ev_ixoS Tw.shp_0 Tw.shp_1 Tw.shp_2 Tw.shp_3 Tw.shp_4 Tw.shp_5 Tw.shp_6 Tw.shp_7 Tw.shp_8 L2.ev_mul L2.rb2 L2.Tr.of_some L2.Tr.bind_assoc L2.Tr.draw_bind List.cons_append List.nil_append List.replicate_succ List.replicate_zero List.length_cons List.length_nil L2.Re.val_d L2.Re.val_own L2.blk L2.blS List.map_cons List.map_nil List.getElem?_cons_zero List.getElem?_cons_succ Option.getD_some Nat.reduceAdd Nat.reduceLeDiff List.isEmpty_cons".splitOn " ").toArray.map fun s => Lean.mkIdent s.toName).mapM fun i => `(Lean.Parser.Tactic.simpLemma| $i:ident); `(tactic| simp only [$b,*, $ls,*] $[$loc]?)
local macro_rules | `(tactic| simp_arith only [$ls,*] $[$loc]?) => do let b : Lean.TSyntaxArray ``Lean.Parser.Tactic.simpLemma ← (("L2.ev_var0 L2.ev_varS L2.ev_C L2.ev_bin L2.ev_bin1 L2.ev_add L2.ev_addT L2.ev_addL L2.ev_sub L2.ev_cmp L2.ev_eqI L2.ev_neI L2.ev_eqB L2.ev_eqS L2.ev_neS L2.ev_ixL L2.ev_ixT L2.at_0 L2.at_1 L2.at_2 L2.at_3 L2.at_4 L2.at_5 L2.at_6 L2.at_7 L2.at_8 L2.ev_neg L2.ev_neg1 L2.ev_test L2.ev_tst1 L2.ev_tru L2.ev_truB L2.ev_truI L2.ev_truL L2.ev_truT L2.ev_truN L2.ev_or L2.ev_not L2.ev_or1t L2.ev_or1f L2.ev_not1 L2.ev_andV L2.ev_notV L2.ev_andV1t L2.ev_andV1f L2.ev_notV1 L2.ev_if L2.ev_if1t L2.ev_if1f L2.ev_chain L2.ev_ch1 L2.ev_ch2 L2.ev_ch3 L2.ev_ch4t L2.ev_ch4f L2.ev_nil L2.ev_cons L2.ev_cons1 L2.ev_cons2 L2.ev_tup L2.ev_tup1 L2.ev_lst L2.ev_lst1 L2.ev_lo L2.ev_lo1 L2.small_le L2.ev_cb L2.ev_cbo L2.ev_lenL L2.ev_lenT L2.ev_abs L2.ev_max2 L2.ev_intI L2.ev_intB L2.ev_tupL L2.ev_tupT L2.ev_lstL L2.ev_lstT L2.ev_sumL L2.ev_sumT L2.ev_maxL L2.ev_isi L2.ev_isi1 L2.ev_sl L2.ev_sl1 L2.ev_sl2 L2.ev_sl3L L2.ev_sl3T L2.ev_p0 L2.ev_p1 L2.ev_pa1 L2.ev_tupR L2.ev_tupR1 L2.ev_aaNil L2.ev_aaCons L2.ev_aa1 L2.ev_aa2 L2.ev_pen0 L2.ev_penS L2.ev_aaPen L2.ev_aap L2.ev_call L2.ev_re L2.ev_re1 L2.ev_def L2.ev_finN L2.ev_finR L2.ev_seq L2.ev_seqN L2.ev_seqR L2.ev_seqB L2.ev_seqC L2.ev_skip L2.ev_ifs L2.ev_ifst L2.ev_ifsf L2.ev_ret L2.ev_ret1 L2.ev_retO L2.ev_retO1 L2.ev_retR L2.ev_retR1 L2.ev_retVd L2.ev_retVo L2.ev_retVs L2.ev_set L2.ev_set1 L2.ev_setO L2.ev_setO1 L2.ls_0 L2.ls_S L2.ev_aug L2.ev_aug1 L2.ev_aug2 L2.ev_iadd L2.ev_own0 L2.ev_ownS L2.ev_app L2.ev_app1 L2.ev_app2 L2.ev_rev L2.ev_rev1 L2.ev_fz L2.fz_o L2.fz_d L2.fz_p L2.fz_u L2.fz_S L2.ev_asg L2.ev_asg1 L2.ev_nx1 L2.g_set L2.g_tup L2.g_nil L2.g_cons L2.g_some L2.ev_par L2.ev_par1 L2.ev_it L2.ev_it1L L2.ev_it1T L2.ev_rng1 L2.ev_rng2 L2.ev_zip L2.ev_zip0 L2.ev_zip1 L2.ev_zip2 L2.ev_zip3 L2.ev_enum L2.ev_enu1 L2.ev_enu2 L2.ev_for L2.ev_for1 L2.for_nil L2.ev_for2 L2.ev_for3n L2.ev_for3c L2.ev_for3b L2.ev_for3r L2.ev_lc L2.ev_lc1 L2.ev_lc2 L2.mt_nil L2.mt_cons L2.mt_1 L2.mt_2 L2.ev_len0o L2.ev_len0d L2.ev_lenS L2.ev_lend L2.ev_lcif L2.ev_lci1 L2.ev_lci2 L2.ev_ifE L2.ev_if2t L2.ev_if2f L2.ev_if3 L2.ev_cbF L2.ev_cbf1 L2.ev_fl1I L2.ev_six L2.ev_six1 L2.ev_six2 L2.ev_addE0 L2.ev_addE1 L2.ev_rvi2 L2.ev_revR2 L2.ev_rvr2 L2.ev_min2T L2.ev_ixO L2.ev_ixo0 L2.ev_ixo0d L2.ev_ixoS Tw.shp_0 Tw.shp_1 Tw.shp_2 Tw.shp_3 Tw.shp_4 Tw.shp_5 Tw.shp_6 Tw.shp_7 Tw.shp_8 L2.ev_mul L2.rb2 L2.Tr.of_some L2.Tr.bind_assoc L2.Tr.draw_bind List.cons_append List.nil_append List.replicate_succ List.replicate_zero List.length_cons List.length_nil L2.Re.val_d L2.Re.val_own L2.blk L2.blS List.map_cons List.map_nil List.getElem?_cons_zero List.getElem?_cons_succ Option.getD_some Nat.reduceAdd Nat.reduceLeDiff List.isEmpty_cons".splitOn " ").toArray.map fun s => Lean.mkIdent s.toName).mapM fun i => `(Lean.Parser.Tactic.simpLemma| $i:ident); `(tactic| simp -implicitDefEqProofs only [$b,*, $ls,*] $[$loc]?)
namespace My
open PySem PySem.Spec PyProof.Rows L2 Tw
theorem Zgf {s:Shp} (h:s.Ok):Zdc [.d s.d]=.ret (.d (.tuple (ZbM (-s.depth) (s.top+1)))):=by
 have:=h.t0
 have:=h.d0
 have:=h.td
 have hr:ZjR (-s.depth) (s.top+1)=true:=by
  unfold ZjR
  rw [Zc2 (by omega) (by omega),Zc2 (by omega) (by omega)]
  simp
  omega
 simp_arith [Zdc,ev_tupR1 hr]
theorem ZkH (s:Shp) (y f:Int):Zbl [.d s.d,.d (.int y),.d (.int f)]=.ret (.d (.int (s.nx y f))):=by
 simp_arith [Zbl,Shp.nx]
theorem Zoi {s:Shp} (h:s.Ok) {x y:Int} (hx:nb 20 x) (hy:nb 20 y):ZbS [.d s.d,.d (.int x),.d (.int y)]=.ret (.d (.int (s.ord x y))):=by
 have f1:=Zap h.piece (by decide)
 have f2:=Zap (ZcS hy hx) (by decide)
 by_cases hp:y<=x
 ·simp_arith [ZbS,decide_eq_true hp,Shp.ord,if_pos hp]
 ·simp_arith [ZbS,decide_eq_false hp,f1,f2,Shp.ord,if_neg hp]
theorem e_day {s:Shp} (h:s.Ok) {y f:Int} (hy:nb 20 y) (hf:nb 40 f):Zcv [.d s.d,.d (.int y),.d (.int f)]=.ret (.d (.int (s.day y f))):=by
 have hd:nb 7 s.depth:=by have:=h.t0; have:=h.d0; have:=h.td; exact Zbk (by show -128 < _; omega) (by show _ < 128; omega)
 have hn:nb 50 (s.nx y f):=by
  unfold Shp.nx Zdi
  exact ZgI (Zar (ZfA hd) (by decide)) (Zar (ZcS hy hf) (by decide))
 have f1:=Zap h.keep (by decide)
 have f2:=Zap hn (by decide)
 have f3:=Zap (ZfA hn) (by decide)
 have f4:=Zap h.lack (by decide)
 have f5:=Zap h.lost (by decide)
 have f6:=Zap (ZcS hn (ZcS hy hf)) (by decide)
 have e:=ZkH s y f
 by_cases hp:s.nx y f > 0
 ·simp_arith [Zcv,e,decide_eq_true hp,f1,f2,f5,f6,Shp.day,if_pos hp]
 ·simp_arith [Zcv,e,decide_eq_false hp,f3,f4,f5,f6,Shp.day,if_neg hp]
end My
set_option Elab.async false
set_option linter.all false
set_option maxRecDepth 100000
namespace My
open PySem PySem.Spec PyProof.Rows L2 Tw
theorem lenI (l:List Int):(l.map PyData.int).length=l.length:=List.length_map ..
theorem ZgS {s:Shp} (h:s.Ok) {day:List Int} (hd:DayB day) {y:Int} (y1:-s.depth<=y) (y2:y<=s.top) {A:Int->Int} {b:Nat} (hA:Bd s b A) {sc:Int} (hs:nb b sc) (hb:b<=2000) :
  ZcZ [.d s.d,.d (tI day),.d (.int y),.d (lI (s.row A)),.d (.int sc)]=.ret (.d (.int (s.wg day y A sc))):=by
 have:=h.t0
 have:=h.d0
 have:=h.td
 have hy:nb 20 y:=Zbk (by show -1048576 < _; omega) (by show _ < 1048576; omega)
 apply ZqS
 simp_arith [ZcZ,tI,lI]
 refine ZcO (n:=0) (n':=0) (P:=λo=>∃ J1 J2 J3:Sl,o=.next [.d s.d,.d (.tuple (day.map PyData.int)),.d (.int y),.d (.list ((s.row A).map PyData.int)),.d (.int sc),.d (.int (s.wg day y A sc)),J1,J2,J3]) ?_ (by decide) ?_
 ·refine ZhW (n:=0) (λpre ρ=>∃ J1 J2 J3:Sl,ρ=[.d s.d,.d (.tuple (day.map PyData.int)),.d (.int y),.d (.list ((s.row A).map PyData.int)),.d (.int sc),.d (.int (s.wg day y A sc - ws (λf=>sc * s.day y f+A (s.nx y f)) pre.length (day.drop pre.length))),J1,J2,J3]) ⟨.un,.un,.un,?_⟩ (by simp) ?_ ?_
  ·have:s.wg day y A sc - ws (λf=>sc * s.day y f+A (s.nx y f)) 0 day=0:=by unfold Shp.wg; omega
   simp only [List.length_nil,List.drop_zero,this]
  ·rintro pre x post ρ e ⟨J1,J2,J3,rfl⟩
   obtain ⟨w,hw,rfl⟩:=Zmb e
   rw [List.getElem?_map] at hw
   obtain ⟨v,hv,rfl⟩:=Option.map_eq_some_iff.mp hw
   refine ⟨_,rfl,?_⟩
   have hl:pre.length < day.length:=(List.getElem?_eq_some_iff.mp hv).1
   have hlen:=hd.len
   have hf:nb 40 (pre.length:Int):=Zbk (by show -1099511627776 < _; omega) (by show _ < 1099511627776; omega)
   have e1:=ZkH s y pre.length
   have e2:=e_day h hy hf
   have n1:=Zga s y pre.length
   have n2:=Zf9 h y2 (show (0:Int)<=pre.length by omega)
   have e3:=Zhv (f:=A) n1 n2
   have v1:nb 30 v:=hd.nb v (List.mem_of_getElem? hv)
   have b1:=Za3 hs (ZfE h hy hf)
   have f1:=Zap hs (by omega)
   have f2:=Zap (ZfE h hy hf) (by decide)
   have f3:=Zap v1 (by decide)
   have f4:=Zap (ZbY b1 (hA _ n1 n2)) (by omega)
   simp_arith [ZeT,e1,e2,e3,f1,f2,f3,f4]
   have ed:day.drop pre.length=v::day.drop (pre.length+1):=by
    rw [List.drop_eq_getElem_cons hl]
    congr 1
    exact (List.getElem?_eq_some_iff.mp hv).2
   have el:(pre++[PyData.tuple [PyData.int pre.length,PyData.int v]]).length=pre.length+1:=by simp
   have ee:s.wg day y A sc - ws (λf=>sc * s.day y f+A (s.nx y f)) pre.length (day.drop pre.length)+v * (sc * s.day y pre.length+A (s.nx y pre.length)) =
     s.wg day y A sc - ws (λf=>sc * s.day y f+A (s.nx y f)) (pre++[PyData.tuple [PyData.int pre.length,PyData.int v]]).length (day.drop (pre++[PyData.tuple [PyData.int pre.length,PyData.int v]]).length):=by
    rw [el,ed,ws]
    omega
   rw [ee]
   exact ZcE ⟨_,rfl,_,_,_,rfl⟩
  ·rintro ρ ⟨J1,J2,J3,rfl⟩
   refine ⟨J1,J2,J3,?_⟩
   rw [ZkC,lenI,List.drop_length,ws,Int.sub_zero]
 ·rintro _ ⟨J1,J2,J3,rfl⟩
  simp_arith [List.isEmpty_cons]
  exact ZcE rfl
theorem Zmf {s:Shp} (h:s.Ok) {day:List Int} (hd:DayB day) {A:Int->Int} {b:Nat} (hA:Bd s b A) {sc:Int} (hs:nb b sc) (hb:b<=2000) :
  Zcf [.d s.d,.d (tI day),.d (lI (s.row A)),.d (.int sc)]=.ret (.own ((s.row (s.sm day A sc)).map PyData.int)):=by
 have:=h.t0
 have:=h.d0
 have:=h.td
 have f1:=Zap hs (by omega)
 have f2:=Zap (ZbU hd) (by decide)
 have f3:=Zap (Za3 hs (ZbU hd)) (by omega)
 have f4:=Zap h.piece (by decide)
 have f5:=Zap (Za3 (Za3 hs (ZbU hd)) h.piece) (by omega)
 have es:cb1 Zhp [tI day]=.ret (.int day.sum):=ev_sumT day
 have hsm:small (ZbM (-s.depth) (s.top+1)).length=true:=small_le (by rw [Za4]; omega)
 have e:Zdb (lc2 (ZaU 0) Zco (blk 1 [0,1,2,3,4] [.d s.d,.d (tI day),.d (lI (s.row A)),.d (.int sc),.d (.int (sc * day.sum))])) (ZbM (-s.depth) (s.top+1))=.ret ((s.row (s.sm day A sc)).map PyData.int):=by
  refine Eq.trans (ZlT (f:=λx=>.int (s.sm day A sc x)) λz h1 h2=>?_) ?_
  ·have e1:=ZgS h hd (y:=z) (by omega) (by omega) hA hs hb
   have hz:nb 20 z:=Zbk (by show -1048576 < _; omega) (by show _ < 1048576; omega)
   have f6:=Zap hz (by decide)
   simp_arith [Zco,e1,f3,f4,f5,f6]
   rfl
  ·unfold Shp.row Shp.n
   rw [List.map_map]
   rfl
 simp_arith [Zcf,Zgf h,hsm,es,f1,f2] at e ⊢
 simp_arith [e]
end My
set_option Elab.async false
set_option linter.all false
set_option maxRecDepth 100000
namespace My
open PySem PySem.Spec PyProof.Rows L2 Tw
theorem Zos {xs:List PyData} {v:PyData} (h:xs[xs.length - 1]?=some v):atI xs (-1)=some v:=by
 have hl:xs≠[]:=λe=>by subst e; cases h
 have hp:0 < xs.length:=List.length_pos_iff.mpr hl
 obtain ⟨k,hk⟩:=Nat.exists_eq_succ_of_ne_zero (Nat.ne_of_gt hp)
 unfold atI ixN
 have e0:(-1:Int)+(xs.length:Int)=(k:Int):=by rw [hk]; show (-1:Int)+((k:Int)+1)=k; rw [Int.add_comm,Int.add_assoc]; exact Int.add_zero _
 have e:((-1:Int)+(xs.length:Int)).toNat=xs.length - 1:=by rw [e0,hk]; exact Int.toNat_natCast k
 rw [if_neg (by decide),if_pos (by omega)]
 show xs[((-1:Int)+(xs.length:Int)).toNat]?=some v
 rw [e]
 exact h
noncomputable def Zf6 (g:Int->Int) (top K P x:Int):PyData:=.tuple [.int (cst g top K P x),.int (lvl g top K x)]
theorem ZlB {lo hi:Int} {F:Int->PyData}:((List.range (hi - lo).toNat).map λ(i:Nat)=>F (hi - 1 - i)).reverse=(Zak lo (hi - lo).toNat).map F:=by
 unfold Zak
 rw [List.map_map]
 apply List.ext_getElem?
 intro i
 by_cases hi':i < (hi - lo).toNat
 ·rw [List.getElem?_reverse (by simpa using hi'),List.length_map,List.length_range,List.getElem?_map,List.getElem?_map,List.getElem?_range (by omega),List.getElem?_range hi']
  show some (F (hi - 1 - (((hi - lo).toNat - 1 - i:Nat):Int)))=some (F (lo+(i:Int)))
  congr 2
  omega
 ·rw [List.getElem?_eq_none (by simpa using hi'),List.getElem?_eq_none (by simpa using hi')]
theorem ZgT {s:Shp} (h:s.Ok) {low:Int} (hl:low<=s.top) (hl0:-1000<=low) {g:Int->Int} {b:Nat} (hg:∀ x,low<=x->x<=s.top->nb b (g x)) {sc:Int} (hs:nb b sc) (hK:0<=sc * s.start) (hb:b<=3000) :
  ZbF [.d s.d,.d (.int low),.d (lI ((Zak low (s.top+1 - low).toNat).map g)),.d (.int sc)]=.ret (.own ((Zak low (s.top+1 - low).toNat).map (Zf6 g s.top (sc * s.start) (sc * s.piece)))):=by
 have:=h.t0
 have:=h.d0
 have:=h.td
 have hn:0 < (s.top+1 - low).toNat:=by omega
 have hlen:(((Zak low (s.top+1 - low).toNat).map g).map PyData.int).length=(s.top+1 - low).toNat:=by rw [List.length_map,List.length_map,ZaR]
 have hat:∀ x,low<=x->x<=s.top->(((Zak low (s.top+1 - low).toNat).map g).map PyData.int)[(x - low).toNat]?=some (.int (g x)):=λx h1 h2=>by
  unfold Zak
  rw [List.map_map,List.map_map,List.getElem?_map,List.getElem?_range (by omega)]
  show some (PyData.int (g (low+((x - low).toNat:Int))))=_
  congr 3
  omega
 have hlast:atI (((Zak low (s.top+1 - low).toNat).map g).map PyData.int) (-1)=some (.int (g s.top)):=Zos (by
  rw [hlen]
  have:=hat s.top hl (Int.le_refl _)
  have e:(s.top - low).toNat=(s.top+1 - low).toNat - 1:=by
   obtain ⟨k,hk⟩:=Int.eq_ofNat_of_zero_le (Int.sub_nonneg_of_le hl)
   have hk2:s.top+1 - low=((k+1:Nat):Int):=by omega
   rw [hk,hk2]
   rfl
  rw [e] at this
  exact this)
 have r1:inR low=true:=Zc2 (by omega) (by omega)
 have r2:inR (s.top+1)=true:=Zc2 (by omega) (by omega)
 have f1:=Zap hs (by omega)
 have f2:=Zap h.start (by decide)
 have f3:=Zap h.piece (by decide)
 have f4:=Zap (Za3 hs h.piece) (by omega)
 apply ZqS
 simp_arith [ZbF,lI,hlast,ZmX r1 r2]
 refine ZcO (n:=0) (n':=0) (P:=λo=>∃ J5 J6 J7 J8 J9:Sl,o=.next [.d s.d,.d (.int low),.d (.list (((Zak low (s.top+1 - low).toNat).map g).map PyData.int)),.d (.int sc),.own ((List.range (s.top+1 - low).toNat).map λ(i:Nat)=>Zf6 g s.top (sc * s.start) (sc * s.piece) (s.top+1 - 1 - i)),J5,J6,J7,J8,J9]) ?_ (by decide) ?_
 ·refine ZhW (n:=0) (λpre ρ=>∃ J6 J7 J8 J9:Sl,ρ=[.d s.d,.d (.int low),.d (.list (((Zak low (s.top+1 - low).toNat).map g).map PyData.int)),.d (.int sc),.own ((List.range pre.length).map λ(i:Nat)=>Zf6 g s.top (sc * s.start) (sc * s.piece) (s.top+1 - 1 - i)),.d (.tuple [.int (bst g s.top (pre.length - 1)).1,.int (bst g s.top (pre.length - 1)).2]),J6,J7,J8,J9]) ⟨.un,.un,.un,.un,rfl⟩ (by simp) ?_ ?_
  ·rintro pre x post ρ e ⟨J6,J7,J8,J9,rfl⟩
   obtain ⟨rfl,hpre⟩:=Zlz e
   refine ⟨_,rfl,?_⟩
   generalize hk:pre.length=k at hpre ⊢
   have hx1:low<=s.top+1 - 1 - (k:Int):=by omega
   have hx2:s.top+1 - 1 - (k:Int)<=s.top:=by omega
   have ha:atI (((Zak low (s.top+1 - low).toNat).map g).map PyData.int) (s.top+1 - 1 - (k:Int) - low)=some (.int (g (s.top+1 - 1 - (k:Int)))):=ZcC (by omega) (hat _ hx1 hx2)
   have hxn:nb 20 (s.top+1 - 1 - (k:Int)):=Zbk (by show -1048576 < _; omega) (by show _ < 1048576; omega)
   have f5:=Zap hxn (by decide)
   have hsm:small (((List.range k).map λ(i:Nat)=>Zf6 g s.top (sc * s.start) (sc * s.piece) (s.top+1 - 1 - i)).length+1)=true:=small_le (by rw [List.length_map,List.length_range]; omega)
   have el:(pre++[PyData.int (s.top+1 - 1 - (k:Int))]).length=k+1:=by rw [List.length_append,hk]; rfl
   have m1:cb1 ZgJ [.tuple [.int (g (s.top+1 - 1 - (k:Int))),.int (s.top+1 - 1 - (k:Int))],.tuple [.int (sc * s.start+(bst g s.top (k - 1)).1),.int (bst g s.top (k - 1)).2]]=.ret (.tuple [.int (pck g s.top (sc * s.start) (s.top+1 - 1 - (k:Int))).1,.int (pck g s.top (sc * s.start) (s.top+1 - 1 - (k:Int))).2]):=by
    rw [ev_min2T]
    cases k with
    | zero =>
     have ex:s.top+1 - 1 - ((0:Nat):Int)=s.top:=by simp
     rw [ex,Zdt,if_neg]
     show ¬ (sc * s.start+g s.top < g s.top\/sc * s.start+g s.top=g s.top/\s.top < s.top)
     omega
    | succ n =>
     have ex:s.top+1 - 1 - ((n+1:Nat):Int)=s.top - ((n+1:Nat):Int):=by omega
     rw [ex,ZeL,Nat.add_sub_cancel]
     have hb:=(Zgl g s.top n).1
     by_cases hc:sc * s.start+(bst g s.top n).1 < g (s.top - ((n+1:Nat):Int))
     ·rw [if_pos (.inl hc),if_pos hc]
     ·rw [if_neg (by omega),if_neg hc]
   have m2:cb1 ZgJ [.tuple [.int (g (s.top+1 - 1 - (k:Int))),.int (s.top+1 - 1 - (k:Int))],.tuple [.int (bst g s.top (k - 1)).1,.int (bst g s.top (k - 1)).2]]=.ret (.tuple [.int (bst g s.top k).1,.int (bst g s.top k).2]):=by
    rw [ev_min2T]
    cases k with
    | zero =>
     have ex:s.top+1 - 1 - ((0:Nat):Int)=s.top:=by simp
     rw [ex,if_neg]
     ·rfl
     ·show ¬ (g s.top < g s.top\/g s.top=g s.top/\s.top < s.top)
      omega
    | succ n =>
     have ex:s.top+1 - 1 - ((n+1:Nat):Int)=s.top - ((n+1:Nat):Int):=by omega
     rw [ex,Nat.add_sub_cancel]
     have hb:=(Zgl g s.top n).1
     rw [bst]
     by_cases hc:(bst g s.top n).1 < g (s.top - ((n+1:Nat):Int))
     ·rw [if_pos (.inl hc),if_pos hc]
     ·rw [if_neg (by omega),if_neg hc]
   simp_arith [Zcy,ha,m1,m2,f1,f2,f3,f4,f5,hsm]
   rw [el,List.range_succ,List.map_append]
   exact ZcE ⟨_,rfl,_,_,_,_,rfl⟩
  ·rintro ρ ⟨J6,J7,J8,J9,rfl⟩
   rw [List.length_reverse,Za4]
   exact ⟨_,J6,J7,J8,J9,rfl⟩
 ·rintro _ ⟨J5,J6,J7,J8,J9,rfl⟩
  simp_arith [List.isEmpty_cons]
  rw [ZlB]
  exact ZcE rfl
theorem Zol {s:Shp} (h:s.Ok) {g:Int->Int} {b:Nat} (hg:Bd s b g) {sc:Int} (hs:nb b sc) (h0:0<=sc) (hb:b<=3000) :
  Zcw [.d s.d,.d (lI (s.row g)),.d (.int sc)]=.ret (.own ((Zak (-s.depth) s.n).map (Zf6 g s.top (sc * s.start) (sc * s.piece)))):=by
 have:=h.t0
 have:=h.d0
 have:=h.td
 have e:=ZgT h (low:=-s.depth) (by omega) (by omega) (λx h1 h2=>hg x h1 h2) hs (Int.mul_nonneg h0 h.start0) hb
 simp_arith [Zcw]
 unfold Shp.row Shp.n
 rw [e]
 simp_arith [List.isEmpty_cons]
end My
set_option Elab.async false
set_option linter.all false
set_option maxRecDepth 100000
set_option exponentiation.threshold 9000
namespace My
open PySem PySem.Spec PyProof.Rows L2 Tw Bar
noncomputable def rwB (A:Nat->Nat->Int) (n k i:Nat):PyData:=.list (((List.range (n+1)).map λj=>M A k i (col A j)).map PyData.int)
noncomputable def Zdl (A:Nat->Nat->Int) (n k at':Nat):List PyData:=(List.range n).map λi=>if i < at' then rwB A n (k+1) i else rwB A n k i
structure SvOk (A:Nat->Nat->Int) (n:Nat):Prop where
 n9:n<=9
 d0:∀ j,j<=n->0 < d A j
 nb:∀ k i j,k<=n->i < n->j<=n->Tw.nb 3000 (M A k i (col A j))
 nd:∀ j,j<=n->Tw.nb 3000 (d A j)
theorem ZbZ (A:Nat->Nat->Int) (n k at':Nat):(Zdl A n k at').length=n:=by unfold Zdl; rw [List.length_map,List.length_range]
theorem Zdr (A:Nat->Nat->Int) {n k at' i:Nat} (h:i < n):(Zdl A n k at')[i]?=some (if i < at' then rwB A n (k+1) i else rwB A n k i):=by
 unfold Zdl
 rw [List.getElem?_map,List.getElem?_range h]
 rfl
theorem Zly {A:Nat->Nat->Int} {n k:Nat} (h:SvOk A n) (hk:k < n):rwB A n (k+1) k=rwB A n k k:=by
 unfold rwB
 congr 2
 refine List.map_congr_left λj _=>?_
 exact M_row A (λj hj=>Int.ne_of_gt (h.d0 j (by omega))) _
theorem Zlw {A:Nat->Nat->Int} {n k i:Nat} (hi:i < n):(Zdl A n k i).set i (rwB A n (k+1) i)=Zdl A n k (i+1):=by
 refine List.ext_getElem? λq=>?_
 rw [List.getElem?_set,ZbZ]
 by_cases e:i=q
 ·subst e
  rw [if_pos rfl,if_pos hi,Zdr A hi,if_pos (by omega)]
 ·rw [if_neg e]
  by_cases hq:q < n
  ·rw [Zdr A hq,Zdr A hq]
   by_cases h2:q < i
   ·rw [if_pos h2,if_pos (by omega)]
   ·rw [if_neg h2,if_neg (by omega)]
  ·rw [List.getElem?_eq_none (by rw [ZbZ]; omega),List.getElem?_eq_none (by rw [ZbZ]; omega)]
theorem ZjO {A:Nat->Nat->Int} {n k:Nat} (h:SvOk A n) (hk:k < n):Zdl A n k k=Zdl A n k (k+1):=by
 refine List.ext_getElem? λq=>?_
 by_cases hq:q < n
 ·rw [Zdr A hq,Zdr A hq]
  by_cases h2:q < k
  ·rw [if_pos h2,if_pos (by omega)]
  ·rw [if_neg h2]
   by_cases h3:q=k
   ·subst h3
    rw [if_pos (by omega),Zly h hk]
   ·rw [if_neg (by omega)]
 ·rw [List.getElem?_eq_none (by rw [ZbZ]; omega),List.getElem?_eq_none (by rw [ZbZ]; omega)]
theorem Zlx (A:Nat->Nat->Int) (n k:Nat):Zdl A n k n=Zdl A n (k+1) 0:=by
 unfold Zdl
 refine List.map_congr_left λi hi=>?_
 have:=List.mem_range.mp hi
 rw [if_pos this,if_neg (by omega)]
theorem Zoe {a m:Int} (ha:0 < a):(a * m).fdiv a=m:=by
 rw [Int.fdiv_eq_ediv_of_nonneg _ (by omega)]
 exact Int.mul_ediv_cancel_left m (by omega)
theorem ZmL {A:Nat->Nat->Int} {n k i j:Nat} (hj:j<=n):Zby ixD (rwB A n k i) (.int j)=.ret (.int (M A k i (col A j))):=by
 unfold rwB
 rw [ev_ixL,ZcC (v:=.int (M A k i (col A j))) (by omega) (by rw [Int.toNat_natCast,List.getElem?_map,List.getElem?_map,List.getElem?_range (by omega)]; rfl)]
 rfl
theorem Zpf {A:Nat->Nat->Int} {n k i:Nat} (h:SvOk A n) (hk:k < n) (hi:i < n) (hik:i≠k):Zdb (lc2 (ZbH (Zax (ZaU 0) (Zax (ZaU 1) ZbA))) Zct [.un,.un,.d (.int (d A k)),.d (.int (d A (k+1))),.d (.int (M A k i (col A k)))]) (Zgx (((List.range (n+1)).map λj=>M A k i (col A j)).map PyData.int) (((List.range (n+1)).map λj=>M A k k (col A j)).map PyData.int))=.ret (((List.range (n+1)).map λj=>M A (k+1) i (col A j)).map PyData.int):=by
 have key:∀ l:List Nat,(∀ j∈l,j<=n)->Zdb (lc2 (ZbH (Zax (ZaU 0) (Zax (ZaU 1) ZbA))) Zct [.un,.un,.d (.int (d A k)),.d (.int (d A (k+1))),.d (.int (M A k i (col A k)))]) (Zgx ((l.map λj=>M A k i (col A j)).map PyData.int) ((l.map λj=>M A k k (col A j)).map PyData.int))=.ret ((l.map λj=>M A (k+1) i (col A j)).map PyData.int):=by
  intro l
  induction l with
  | nil=>intro _; rfl
  | cons j l ih =>
   intro hl
   have hj:=hl j (by simp)
   have ih':=ih λq hq=>hl q (List.mem_cons_of_mem _ hq)
   have st:=ZqW A (k:=k) (λq hq=>Int.ne_of_gt (h.d0 q (by omega))) (col A j) hik
   rw [Zlg] at st
   have dk:=h.d0 k (by omega)
   have f1:=Zap (h.nd k (by omega)) (by decide)
   have f2:=Zap (h.nd (k+1) (by omega)) (by decide)
   have f3:=Zap (h.nb k i j (by omega) hi hj) (by decide)
   have f4:=Zap (h.nb k i k (by omega) hi (by omega)) (by decide)
   have f5:=Zap (h.nb k k j (by omega) hk hj) (by decide)
   have ed:Zby Zdj (.int (d A (k+1) * M A k i (col A j) - M A k i (col A k) * M A k k (col A j))) (.int (d A k))=.ret (.int (M A (k+1) i (col A j))):=by
    rw [Zc3 (by omega) f1,<- st,Zoe dk]
   have e0:lc2 (ZbH (Zax (ZaU 0) (Zax (ZaU 1) ZbA))) Zct [.un,.un,.d (.int (d A k)),.d (.int (d A (k+1))),.d (.int (M A k i (col A k)))] (.tuple [.int (M A k i (col A j)),.int (M A k k (col A j))])=.ret (.int (M A (k+1) i (col A j))):=by
    simp_arith [Zct,f2,f3,f4,f5,ed]
   have ez:Zgx (((j::l).map λj=>M A k i (col A j)).map PyData.int) (((j::l).map λj=>M A k k (col A j)).map PyData.int)=.tuple [.int (M A k i (col A j)),.int (M A k k (col A j))]::Zgx ((l.map λj=>M A k i (col A j)).map PyData.int) ((l.map λj=>M A k k (col A j)).map PyData.int):=rfl
   rw [ez,Zdb,e0,Tr.ret_bind,ih']
   rfl
 exact key _ λj hj=>by have:=List.mem_range.mp hj; omega
theorem sv1 {A:Nat->Nat->Int} {n k i:Nat} (h:SvOk A n) (hk:k < n) (hi:i < n) (J6:Sl):∃ K6:Sl,Zcx [.own (Zdl A n k i),.d (.int (d A k)),.d (.int k),.d (rwB A n k k),.d (.int (d A (k+1))),.d (.int i),J6]=.ret (.next [.own (Zdl A n k (i+1)),.d (.int (d A k)),.d (.int k),.d (rwB A n k k),.d (.int (d A (k+1))),.d (.int i),K6]):=by
 by_cases e:i=k
 ·subst e
  have c:(!((i:Int) == (i:Int)))=false:=by simp
  refine ⟨J6,?_⟩
  rw [<- ZjO h hk]
  simp_arith [Zcx,c]
 ·have c:(!((i:Int) == (k:Int)))=true:=by simp; omega
  have hat:atI (Zdl A n k i) (i:Int)=some (rwB A n k i):=ZcC (by omega) (by rw [Int.toNat_natCast,Zdr A hi,if_neg (by omega)])
  have hix:=ZmL (A:=A) (n:=n) (k:=k) (i:=i) (j:=k) (by omega)
  have er:=Zpf h hk hi e
  have i1:it1 (rwB A n k i)=.ret (((List.range (n+1)).map λj=>M A k i (col A j)).map PyData.int):=rfl
  have i2:it1 (rwB A n k k)=.ret (((List.range (n+1)).map λj=>M A k k (col A j)).map PyData.int):=rfl
  have hs:small (Zgx (((List.range (n+1)).map λj=>M A k i (col A j)).map PyData.int) (((List.range (n+1)).map λj=>M A k k (col A j)).map PyData.int)).length=true:=small_le (by
   unfold Zgx
   have:=h.n9
   simp
   omega)
  have hx:ixN (Zdl A n k i).length (i:Int)=some i:=by
   unfold ixN
   rw [ZbZ,if_pos (by omega),if_pos (by omega)]
   simp
  have e2:PyData.list (((List.range (n+1)).map λj=>M A (k+1) i (col A j)).map PyData.int)=rwB A n (k+1) i:=rfl
  refine ⟨.d (.int (M A k i (col A k))),?_⟩
  simp_arith [Zcx,c,hat,hix,i1,i2,hs,er,ZhM hx,e2,Zlw hi]
theorem sv2 {A:Nat->Nat->Int} {n k:Nat} (h:SvOk A n) (hk:k < n):∀ (m i:Nat) (J5 J6:Sl),i+m=n->∃ K5 K6:Sl,Zdw (ZaU 5) Zcx ((Zak i m).map PyData.int) [.own (Zdl A n k i),.d (.int (d A k)),.d (.int k),.d (rwB A n k k),.d (.int (d A (k+1))),J5,J6]=.ret (.next [.own (Zdl A n k n),.d (.int (d A k)),.d (.int k),.d (rwB A n k k),.d (.int (d A (k+1))),K5,K6])
 | 0,i,J5,J6,e=>⟨J5,J6,by
  have e0:i=n:=by omega
  rw [e0]; rfl⟩
 | m+1,i,J5,J6,e=>by
  obtain ⟨K6,e1⟩:=sv1 h hk (show i < n by omega) J6
  obtain ⟨L5,L6,e2⟩:=sv2 h hk m (i+1) (.d (.int i)) K6 (by omega)
  refine ⟨L5,L6,?_⟩
  have er:(Zak (i:Int) (m+1)).map PyData.int=.int (i:Int)::(Zak ((i+1:Nat):Int) m).map PyData.int:=by
   have e1:Zak (i:Int) (m+1)=Zak (i:Int) 1++Zak ((i:Int)+(1:Nat)) m:=by rw [<- Zd2,Nat.add_comm]
   have e2:Zak (i:Int) 1=[(i:Int)]:=by unfold Zak; simp
   have e3:((i+1:Nat):Int)=(i:Int)+(1:Nat):=by omega
   rw [e1,e2,e3]
   rfl
  have eg:ZaU 5 (.int (i:Int)) [.own (Zdl A n k i),.d (.int (d A k)),.d (.int k),.d (rwB A n k k),.d (.int (d A (k+1))),J5,J6]=some [.own (Zdl A n k i),.d (.int (d A k)),.d (.int k),.d (rwB A n k k),.d (.int (d A (k+1))),.d (.int i),J6]:=rfl
  rw [er,ZbP,eg,Tr.of_some,Tr.ret_bind,ev_for2,e1,Tr.ret_bind,ev_for3n,e2]
theorem sv3 {A:Nat->Nat->Int} {n k:Nat} (h:SvOk A n) (hk:k < n) (J3 J4 J5 J6:Sl):∃ K3 K4 K5 K6:Sl,Zdg [.own (Zdl A n k 0),.d (.int (d A k)),.d (.int k),J3,J4,J5,J6]=.ret (.next [.own (Zdl A n (k+1) 0),.d (.int (d A (k+1))),.d (.int k),K3,K4,K5,K6]):=by
 have n9:=h.n9
 obtain ⟨K5,K6,e⟩:=sv2 h hk n 0 J5 J6 (by omega)
 have hat:atI (Zdl A n k 0) (k:Int)=some (rwB A n k k):=ZcC (by omega) (by rw [Int.toNat_natCast,Zdr A hk,if_neg (by omega)])
 have hix:=ZmL (A:=A) (n:=n) (k:=k) (i:=k) (j:=k) (by omega)
 rw [Zlg] at hix
 have hl:(Zdl A n k 0).length=n:=ZbZ A n k 0
 have r1:Zlk [.int (n:Int)]=.ret ((Zak ((0:Nat):Int) n).map PyData.int):=by
  rw [ZeW (Zc2 (by omega) (by omega))]
  unfold ZbM
  have:((n:Int) - 0).toNat=n:=by omega
  rw [this]
  rfl
 refine ⟨.d (rwB A n k k),.d (.int (d A (k+1))),K5,K6,?_⟩
 rw [<- Zlx]
 simp_arith only [Zdg,hat,hix,hl,r1,e]
theorem sv4 {A:Nat->Nat->Int} {n:Nat} (h:SvOk A n):∀ (m k:Nat) (J2 J3 J4 J5 J6:Sl),k+m=n->∃ K2 K3 K4 K5 K6:Sl,Zdw (ZaU 2) Zdg ((Zak k m).map PyData.int) [.own (Zdl A n k 0),.d (.int (d A k)),J2,J3,J4,J5,J6]=.ret (.next [.own (Zdl A n n 0),.d (.int (d A n)),K2,K3,K4,K5,K6])
 | 0,k,J2,J3,J4,J5,J6,e=>⟨J2,J3,J4,J5,J6,by
  have e0:k=n:=by omega
  rw [e0]; rfl⟩
 | m+1,k,J2,J3,J4,J5,J6,e=>by
  obtain ⟨K3,K4,K5,K6,e1⟩:=sv3 h (show k < n by omega) J3 J4 J5 J6
  obtain ⟨L2,L3,L4,L5,L6,e2⟩:=sv4 h m (k+1) (.d (.int k)) K3 K4 K5 K6 (by omega)
  refine ⟨L2,L3,L4,L5,L6,?_⟩
  have er:(Zak (k:Int) (m+1)).map PyData.int=.int (k:Int)::(Zak ((k+1:Nat):Int) m).map PyData.int:=by
   have e1:Zak (k:Int) (m+1)=Zak (k:Int) 1++Zak ((k:Int)+(1:Nat)) m:=by rw [<- Zd2,Nat.add_comm]
   have e2:Zak (k:Int) 1=[(k:Int)]:=by unfold Zak; simp
   have e3:((k+1:Nat):Int)=(k:Int)+(1:Nat):=by omega
   rw [e1,e2,e3]
   rfl
  have eg:ZaU 2 (.int (k:Int)) [.own (Zdl A n k 0),.d (.int (d A k)),J2,J3,J4,J5,J6]=some [.own (Zdl A n k 0),.d (.int (d A k)),.d (.int k),J3,J4,J5,J6]:=rfl
  rw [er,ZbP,eg,Tr.of_some,Tr.ret_bind,ev_for2,e1,Tr.ret_bind,ev_for3n,e2]
theorem Zmc {A:Nat->Nat->Int} {n:Nat} (h:SvOk A n):Zew [.own ((List.range n).map λi=>.list (((List.range (n+1)).map λj=>A i j).map PyData.int))]=.ret (.d (.tuple [.list (((List.range n).map λi=>M A n i (col A n)).map PyData.int),.int (d A n)])):=by
 have n9:=h.n9
 have e0:((List.range n).map λi=>PyData.list (((List.range (n+1)).map λj=>A i j).map PyData.int))=Zdl A n 0 0:=by
  unfold Zdl
  refine List.map_congr_left λi _=>?_
  rw [if_neg (by omega)]
  unfold rwB
  congr 2
  refine List.map_congr_left λj _=>?_
  rw [ZqV]
  rfl
 obtain ⟨K2,K3,K4,K5,K6,e⟩:=sv4 h n 0 .un .un .un .un .un (by omega)
 rw [ZiC] at e
 have hl:(Zdl A n 0 0).length=n:=ZbZ A n 0 0
 have r1:Zlk [.int (n:Int)]=.ret ((Zak ((0:Nat):Int) n).map PyData.int):=by
  rw [ZeW (Zc2 (by omega) (by omega))]
  unfold ZbM
  have:((n:Int) - 0).toNat=n:=by omega
  rw [this]
  rfl
 have hs:small (Zdl A n n 0).length=true:=small_le (by rw [ZbZ]; omega)
 have em:Zdb (lc2 (ZaU 0) Zcs [.un]) (Zdl A n n 0)=.ret (((List.range n).map λi=>M A n i (col A n)).map PyData.int):=by
  have key:∀ l:List Nat,(∀ i∈l,i < n)->Zdb (lc2 (ZaU 0) Zcs [.un]) (l.map λi=>if i < 0 then rwB A n (n+1) i else rwB A n n i)=.ret ((l.map λi=>M A n i (col A n)).map PyData.int):=by
   intro l
   induction l with
   | nil=>intro _; rfl
   | cons i l ih =>
    intro hi
    have ih':=ih λq hq=>hi q (List.mem_cons_of_mem _ hq)
    have hix:Zby ixD (rwB A n n i) (.int (-1))=.ret (.int (M A n i (col A n))):=by
     unfold rwB
     have hl:(((List.range (n+1)).map λj=>M A n i (col A j)).map PyData.int).length=n+1:=by rw [List.length_map,List.length_map,List.length_range]
     have ha:atI (((List.range (n+1)).map λj=>M A n i (col A j)).map PyData.int) (-1)=some (.int (M A n i (col A n))):=by
      unfold atI ixN
      rw [hl,if_neg (by omega),if_pos (by omega)]
      have:(-1+((n+1:Nat):Int)).toNat=n:=by omega
      simp only [Option.bind_some,this]
      rw [List.getElem?_map,List.getElem?_map,List.getElem?_range (by omega)]
      rfl
     rw [ev_ixL,ha]
     rfl
    have e1:lc2 (ZaU 0) Zcs [.un] (rwB A n n i)=.ret (.int (M A n i (col A n))):=by
     simp_arith only [Zcs,hix]
    rw [List.map_cons,if_neg (by omega),Zdb,e1,Tr.ret_bind,ih']
    rfl
  exact key _ λi hi=>List.mem_range.mp hi
 rw [e0]
 simp_arith only [Zew,hl,r1,e,hs,em]
end My
set_option Elab.async false
set_option linter.all false
set_option maxRecDepth 100000
set_option exponentiation.threshold 9000
namespace My
open PySem PySem.Spec PyProof.Rows L2 Tw Bar
noncomputable def prB (s:Shp) (one:List Int) (y:Int) (j:Nat):Int:=ws (λf=>if (s.nx y f+s.depth).toNat=j then 1 else 0) 0 one
noncomputable def cB (s:Shp) (one:List Int) (x y:Int):Int:=one.sum * s.ord x y+s.wg one y (λ_=>0) 1
noncomputable def eqB (s:Shp) (one:List Int) (lv:Nat->Int) (n i j:Nat):Int:=if j=n then cB s one ((i:Int) - s.depth) (lv i) else if j=0 then one.sum else (if i=j then one.sum else 0) - prB s one (lv i) j
noncomputable def ZcI (n:Nat) (r:Nat->Int):List PyData:=((List.range n).map r).map PyData.int
theorem Zda (n:Nat) (r:Nat->Int):(ZcI n r).length=n:=by unfold ZcI; rw [List.length_map,List.length_map,List.length_range]
theorem ZeE {n:Nat} {r:Nat->Int} {j:Nat} (h:j < n):(ZcI n r)[j]?=some (.int (r j)):=by
 unfold ZcI
 rw [List.getElem?_map,List.getElem?_map,List.getElem?_range h]
 rfl
theorem Zf0 {n:Nat} {r:Nat->Int} {j:Nat} (h:j < n) (v:Int):(ZcI n r).set j (.int v)=ZcI n λq=>if q=j then v else r q:=by
 refine List.ext_getElem? λq=>?_
 rw [List.getElem?_set,Zda]
 by_cases e:j=q
 ·subst e
  rw [if_pos rfl,if_pos h,ZeE h,if_pos rfl]
 ·rw [if_neg e]
  by_cases hq:q < n
  ·rw [ZeE hq,ZeE hq,if_neg (by omega)]
  ·rw [List.getElem?_eq_none (by rw [Zda]; omega),List.getElem?_eq_none (by rw [Zda]; omega)]
theorem Zd0 {n:Nat} {r r':Nat->Int} (h:∀ j,j < n->r j=r' j):ZcI n r=ZcI n r':=by
 unfold ZcI
 congr 1
 exact List.map_congr_left λj hj=>h j (List.mem_range.mp hj)
theorem ZkB {s:Shp} (h:s.Ok) {y:Int} (y1:-s.depth<=y) (y2:y<=s.top) (O X7 X8:Sl) (x:Sl):∀ (l:List Int) (k:Nat) (r:Nat->Int) (J5 J6:Sl),∃ K5 K6:Sl,Zdw (ZbH (Zax (ZaU 5) (Zax (ZaU 6) ZbA))) Zcj (enu k l) [.d s.d,O,x,.d (.int y),.own (ZcI s.n r),J5,J6,X7,X8]=.ret (.next [.d s.d,O,x,.d (.int y),.own (ZcI s.n λj=>r j - ws (λf=>if (s.nx y f+s.depth).toNat=j then 1 else 0) k l),K5,K6,X7,X8])
 | [],k,r,J5,J6=>⟨J5,J6,by
  have e:ZcI s.n (λj=>r j - ws (λf=>if (s.nx y f+s.depth).toNat=j then 1 else 0) k [])=ZcI s.n r:=Zd0 λj _=>by rw [ws,Int.sub_zero]
  rw [e]
  rfl⟩
 | w::l,k,r,J5,J6=>by
  have n1:=Zga s y k
  have n2:=Zf9 h y2 (show (0:Int)<=k by omega)
  have hn:=h.n_eq
  have hj:(s.nx y k+s.depth).toNat < s.n:=by omega
  obtain ⟨K5,K6,e⟩:=ZkB h y1 y2 O X7 X8 x l (k+1) (λj=>if j=(s.nx y k+s.depth).toNat then r (s.nx y k+s.depth).toNat - w else r j) (.d (.int k)) (.d (.int w))
  refine ⟨K5,K6,?_⟩
  have e1:=ZkH s y k
  have ha:=Zm0 (g:=λi j=>i - j) (k:=4) (i:=Zae 6) (ρ:=[.d s.d,O,x,.d (.int y),.own (ZcI s.n r),.d (.int k),.d (.int w),X7,X8]) (xs:=ZcI s.n r) (y:=s.nx y k+s.depth) (a:=r (s.nx y k+s.depth).toNat) (by omega) (ZeE hj)
  have et:Zcj [.d s.d,O,x,.d (.int y),.own (ZcI s.n r),.d (.int k),.d (.int w),X7,X8]=.ret (.next [.d s.d,O,x,.d (.int y),.own (ZcI s.n λj=>if j=(s.nx y k+s.depth).toNat then r (s.nx y k+s.depth).toNat - w else r j),.d (.int k),.d (.int w),X7,X8]):=by
   unfold Zcj
   rw [Ziy (xs:=ZcI s.n r) rfl]
   have en:(Zal ZbW (aRe (ZaJ Zbl (Zaf (Zae 0) (Zaf (Zae 3) (Zaf (Zae 5) ZaI))))) (Zal ixD (Zae 0) (aC (.int 1)))) [.d s.d,O,x,.d (.int y),.own (ZcI s.n r),.d (.int k),.d (.int w),X7,X8]=.ret (.int (s.nx y k+s.depth)):=by
    simp_arith [e1]
   rw [en,Tr.ret_bind,ha,ZmZ]
   have ew:Zae 6 [.d s.d,O,x,.d (.int y),.own (ZcI s.n r),.d (.int k),.d (.int w),X7,X8]=.ret (.int w):=rfl
   rw [ew,Tr.ret_bind,ZmY,Zf0 hj]
   rfl
  have eg:(ZbH (Zax (ZaU 5) (Zax (ZaU 6) ZbA))) (.tuple [.int (k:Int),.int w]) [.d s.d,O,x,.d (.int y),.own (ZcI s.n r),J5,J6,X7,X8]=some [.d s.d,O,x,.d (.int y),.own (ZcI s.n r),.d (.int k),.d (.int w),X7,X8]:=rfl
  have er:(ZcI s.n λj=>(if j=(s.nx y k+s.depth).toNat then r (s.nx y k+s.depth).toNat - w else r j) - ws (λf=>if (s.nx y f+s.depth).toNat=j then 1 else 0) (k+1) l)=ZcI s.n λj=>r j - ws (λf=>if (s.nx y f+s.depth).toNat=j then 1 else 0) k (w::l):=Zd0 λj hj=>by
   rw [ws]
   by_cases q:j=(s.nx y k+s.depth).toNat
   ·subst q
    rw [if_pos rfl,if_pos rfl]
    omega
   ·rw [if_neg q,if_neg (λe=>q e.symm)]
    omega
  rw [enu,ZbP,eg,Tr.of_some,Tr.ret_bind,ev_for2,et,Tr.ret_bind,ev_for3n,e,er]
theorem Zi8 {s:Shp} (h:s.Ok) {one:List Int} (hd:DayB one) {i:Nat} (hi:i < s.n) {lv:Nat->Int} (y0:(i:Int) - s.depth<=lv i) (y2:lv i<=s.top) :
  Zdf [.d s.d,.d (tI one),.d (.int ((i:Int) - s.depth)),.d (.int (lv i))]=.ret (.d (.list (((List.range (s.n+1)).map λj=>eqB s one lv s.n i j).map PyData.int))):=by
 have hn:=h.n_eq
 have t0:=h.t0
 have d0:=h.d0
 have td:=h.td
 have y1:-s.depth<=lv i:=by omega
 have hrep:Zk3 ZoS (.list [.int 0]) (.int (s.top+s.depth+1))=.ret (ZcI s.n λ_=>0):=by
  rw [Znz (by simp; omega)]
  have e1:(s.top+s.depth+1).toNat=s.n:=by omega
  rw [e1]
  unfold ZcI
  congr 1
  generalize s.n=m
  induction m with
  | zero=>rfl
  | succ m ih=>rw [List.replicate_succ',List.flatten_append,ih,List.range_succ,List.map_append,List.map_append]; rfl
 have ei:(i:Int) - s.depth+s.depth=(i:Int):=by omega
 have ea:Ze8 (λi j=>i+j) 4 (Zal ZbW (Zae 2) (Zal ixD (Zae 0) (aC (.int 1)))) (aCB Zhp (Zan (Zae 1) Zbb)) [.d s.d,.d (tI one),.d (.int ((i:Int) - s.depth)),.d (.int (lv i)),.own (ZcI s.n λ_=>0),.un,.un,.un,.un]=.ret (.next [.d s.d,.d (tI one),.d (.int ((i:Int) - s.depth)),.d (.int (lv i)),.own (ZcI s.n λj=>if j=i then one.sum else 0),.un,.un,.un,.un]):=by
  rw [Ziy (xs:=ZcI s.n λ_=>0) rfl]
  have en:(Zal ZbW (Zae 2) (Zal ixD (Zae 0) (aC (.int 1)))) [.d s.d,.d (tI one),.d (.int ((i:Int) - s.depth)),.d (.int (lv i)),.own (ZcI s.n λ_=>0),.un,.un,.un,.un]=.ret (.int (i:Int)):=by
   simp_arith only [ei]
  rw [en,Tr.ret_bind,Zm0 (a:=0) (by omega) (by rw [Int.toNat_natCast]; exact ZeE hi),ZmZ]
  have ew:(aCB Zhp (Zan (Zae 1) Zbb)) [.d s.d,.d (tI one),.d (.int ((i:Int) - s.depth)),.d (.int (lv i)),.own (ZcI s.n λ_=>0),.un,.un,.un,.un]=.ret (.int one.sum):=by
   simp_arith only [Zfu]
  rw [ew,Tr.ret_bind,ZmY,Int.toNat_natCast,Zf0 hi,Int.zero_add]
  rfl
 obtain ⟨K5,K6,eL⟩:=ZkB h y1 y2 (.d (tI one)) .un .un (.d (.int ((i:Int) - s.depth))) one 0 (λj=>if j=i then one.sum else 0) .un .un
 have ee:Zdy (one.map PyData.int)=enu 0 one:=ZkF one
 generalize hr:(λj=>(if j=i then one.sum else 0) - ws (λf=>if (s.nx (lv i) f+s.depth).toNat=j then 1 else 0) 0 one)=r at *
 have hx:ixN (ZcI s.n r).length 0=some 0:=by
  unfold ixN
  rw [Zda,if_pos (by omega),if_pos (by omega)]
  rfl
 have hmul:Zby Za7 (.list [.int 0]) (.int (s.n:Int))=.ret (lI (s.row λ_=>0)):=by
  have hsm:small ([PyData.int 0].length * (s.n:Int).toNat)=true:=small_le (by rw [Int.toNat_natCast]; show 1 * _<=_; omega)
  have hc:(decide (-(2 ^ 63)<=(s.n:Int)) && decide ((s.n:Int) < 2 ^ 63) && small ([PyData.int 0].length * (s.n:Int).toNat))=true:=by
   rw [hsm,decide_eq_true (show -(2 ^ 63)<=(s.n:Int) by omega),decide_eq_true (show (s.n:Int) < 2 ^ 63 by omega)]
   rfl
  have ef:(List.replicate s.n [PyData.int 0]).flatten=(s.row λ_=>0).map PyData.int:=by
   unfold Shp.row Zak
   rw [List.map_map,List.map_map]
   generalize s.n=m
   induction m with
   | zero=>rfl
   | succ m ih=>rw [List.replicate_succ',List.flatten_append,ih,List.range_succ,List.map_append]; rfl
  have em:Za7 (.list [.int 0]) (.int (s.n:Int))=some (lI (s.row λ_=>0)):=by
   rw [Za7,if_pos hc,Int.toNat_natCast,ef]
   rfl
  unfold Zby
  rw [em]
  rfl
 have hz:Bd s 1 λ_=>0:=λx _ _=>by show (0:Int).natAbs < 2 ^ 1; decide
 have ew:=ZgS h hd y1 y2 (hz) (sc:=1) (b:=1) (by show (1:Int).natAbs < 2 ^ 1; decide) (by decide)
 have eo:=Zoi h (Zhq h (show -s.depth<=(i:Int) - s.depth by omega) (by omega)) (Zhq h y1 y2)
 have g1:=Zap (ZbU hd) (by decide)
 have g2:=Zap (ZmS h (Zhq h (show -s.depth<=(i:Int) - s.depth by omega) (by omega)) (Zhq h y1 y2)) (by decide)
 have hl4:∀ q:Nat->Int,(ZcI s.n q).length=s.n:=Zda s.n
 have hset:(ZcI s.n r).set 0 (.int one.sum)=ZcI s.n λq=>if q=0 then one.sum else r q:=Zf0 (by omega) _
 have hs:small ((ZcI s.n λq=>if q=0 then one.sum else r q).length+[PyData.int (cB s one ((i:Int) - s.depth) (lv i))].length)=true:=small_le (by rw [Zda]; show _+1<=_; omega)
 have hfin:(ZcI s.n λq=>if q=0 then one.sum else r q)++[PyData.int (cB s one ((i:Int) - s.depth) (lv i))]=((List.range (s.n+1)).map λj=>eqB s one lv s.n i j).map PyData.int:=by
  rw [List.range_succ,List.map_append,List.map_append]
  have e1:(ZcI s.n λq=>if q=0 then one.sum else r q)=((List.range s.n).map λj=>eqB s one lv s.n i j).map PyData.int:=Zd0 λj hj=>by
   unfold eqB
   rw [if_neg (show ¬ j=s.n by omega)]
   by_cases e:j=0
   ·rw [if_pos e,if_pos e]
   ·rw [if_neg e,if_neg e,<- hr]
    unfold prB
    dsimp only
    by_cases e2:j=i
    ·rw [if_pos e2,if_pos e2.symm]
    ·rw [if_neg e2,if_neg (λq=>e2 q.symm)]
  have e2:([s.n].map λj=>eqB s one lv s.n i j).map PyData.int=[PyData.int (cB s one ((i:Int) - s.depth) (lv i))]:=by
   unfold eqB
   simp
  rw [e1,e2]
 have hadd:Zby ZbW (.list (ZcI s.n λq=>if q=0 then one.sum else r q)) (.list [PyData.int (cB s one ((i:Int) - s.depth) (lv i))])=.ret (.list (((List.range (s.n+1)).map λj=>eqB s one lv s.n i j).map PyData.int)):=by rw [ev_addL hs,hfin]
 unfold cB at hadd
 simp_arith only [Zdf,Zoh,Zl9,hrep,ea,Zl1,ee,eL,Zfu,ZhM hx,hset,hl4,hmul,eo,ew,g1,g2,hadd]
end My
set_option Elab.async false
set_option linter.all false
set_option maxRecDepth 100000
set_option exponentiation.threshold 9000
namespace My
open PySem PySem.Spec PyProof.Rows L2 Tw Bar
theorem ws_0 {f:Int->Int}:∀ {l:List Int} {k:Nat},(∀ w∈l,0<=w)->(∀ x:Int,0<=f x)->0<=ws f k l
 | [],k,_,_=>by rw [ws]; exact Int.le_refl _
 | w::l,k,h0,hf=>by
  have a:=ws_0 (f:=f) (l:=l) (k:=k+1) (λv hv=>h0 v (List.mem_cons_of_mem _ hv)) hf
  have b:=Int.mul_nonneg (h0 w (by simp)) (hf k)
  rw [ws]
  omega
theorem Zng {f:Int->Int}:∀ {l:List Int} {k:Nat},(∀ w∈l,0<=w)->(∀ x:Int,0<=f x)->∀ {x:Int},x∈snF k l->0 < f x->0 < ws f k l
 | [],k,_,_,x,hx,_=>by cases hx
 | w::l,k,h0,hf,x,hx,hp=>by
  have h0':∀ v∈l,0<=v:=λv hv=>h0 v (List.mem_cons_of_mem _ hv)
  have a:=ws_0 (f:=f) (l:=l) (k:=k+1) h0' hf
  have b:=Int.mul_nonneg (h0 w (by simp)) (hf k)
  rw [ws]
  rw [snF] at hx
  by_cases hw:w > 0
  ·rw [if_pos hw] at hx
   rcases List.mem_cons.mp hx with rfl | hx
   ·have:=Int.mul_pos hw hp
    omega
   ·have:=Zng h0' hf hx hp
    omega
  ·rw [if_neg hw] at hx
   have:=Zng h0' hf hx hp
   omega
theorem Znr {g:Nat} {n:Nat} (h:g < n) (w:Int):Bar.sumTo (λj=>w * (if g=j then 1 else 0)) n=w:=by
 have key:∀ m:Nat,Bar.sumTo (λj=>w * (if g=j then 1 else 0)) m=if g < m then w else 0:=by
  intro m
  induction m with
  | zero=>rfl
  | succ m ih =>
   rw [Bar.sumTo,ih]
   by_cases e:g=m
   ·subst e
    rw [if_neg (by omega),if_pos rfl,if_pos (by omega)]
    omega
   ·rw [if_neg e]
    by_cases e2:g < m
    ·rw [if_pos e2,if_pos (by omega)]
     omega
    ·rw [if_neg e2,if_neg (by omega)]
     omega
 rw [key,if_pos h]
theorem Zho (f g:Nat->Int):∀ n:Nat,Bar.sumTo (λj=>f j+g j) n=Bar.sumTo f n+Bar.sumTo g n
 | 0=>rfl
 | n+1=>by rw [Bar.sumTo,Bar.sumTo,Bar.sumTo,Zho f g n]; omega
theorem ZjH {n:Nat} {ix:Int->Nat} (h:∀ x:Int,0<=x->ix x < n):∀ (l:List Int) (k:Nat),Bar.sumTo (λj=>ws (λf=>if ix f=j then 1 else 0) k l) n=l.sum
 | [],k=>by
  rw [ZdD λj _=>by rw [ws]]
  rfl
 | w::l,k=>by
  have ih:=ZjH h l (k+1)
  have e:(λj=>ws (λf=>if ix f=j then 1 else 0) k (w::l))=λj=>w * (if ix (k:Int)=j then 1 else 0)+ws (λf=>if ix f=j then 1 else 0) (k+1) l:=funext λj=>by rw [ws]
  rw [e,Zho,Znr (h k (by omega)),ih,List.sum_cons]
structure RuOk (s:Shp) (one:List Int) (lv:Nat->Int):Prop where
 h:s.Ok
 n9:s.n<=9
 hd:DayB one
 gr:s.top+s.depth<=great one
 ps:∃ w∈one,w > 0
 lo:∀ i,i < s.n->(i:Int) - s.depth<=lv i
 hi:∀ i,i < s.n->lv i<=s.top
theorem Zfy {s:Shp} {one:List Int} {lv:Nat->Int} (r:RuOk s one lv):Pol s.n (eqB s one lv s.n) (λi j=>prB s one (lv i) j) one.sum:=by
 have h:=r.h
 have hn:=h.n_eq
 have t0:=h.t0
 have d0:=h.d0
 refine ⟨r.hd.pos,λi hi=>?_,λi j hi j1 j2=>?_,λi j _ _=>?_,λi hi=>?_,λi hi=>?_⟩
 ·unfold eqB
  rw [if_neg (by omega),if_pos rfl]
 ·unfold eqB
  rw [if_neg (by omega),if_neg (by omega)]
 ·exact ws_0 r.hd.w0 λx=>by split <;> omega
 ·have y2:=r.hi i hi
  have y1:=r.lo i hi
  have hg:=(Zcu (ZjJ (k:=0) r.ps)).1
  refine Zng r.hd.w0 (λx=>by split <;> omega) (x:=great one) hg ?_
  have gr:=r.gr
  have en:s.nx (lv i) (great one)=-s.depth:=by unfold Shp.nx Zdi; split <;> omega
  rw [en,if_pos (by omega)]
  decide
 ·exact ZjH (ix:=λf=>(s.nx (lv i) f+s.depth).toNat) (λx hx=>by
   have n1:=Zga s (lv i) x
   have n2:=Zf9 h (r.hi i hi) hx
   omega) one 0
theorem cB_nb {s:Shp} {one:List Int} {lv:Nat->Int} (r:RuOk s one lv) {i:Nat} (hi:i < s.n):nb 160 (cB s one ((i:Int) - s.depth) (lv i)):=by
 have h:=r.h
 have hn:=h.n_eq
 have t0:=h.t0
 have d0:=h.d0
 have y2:=r.hi i hi
 have y1:=r.lo i hi
 have a1:=Za3 (ZbU r.hd) (ZmS h (Zhq h (show -s.depth<=(i:Int) - s.depth by omega) (show (i:Int) - s.depth<=s.top by omega)) (Zhq h (show -s.depth<=lv i by omega) y2))
 have a2:nb (30+110+one.length) (s.wg one (lv i) (λ_=>0) 1):=by
  unfold Shp.wg
  refine Zmy (a:=30) (b:=110) r.hd.nb λx x1 x2=>?_
  have hl:=r.hd.len
  have:=ZfE h (Zhq h (show -s.depth<=lv i by omega) y2) (show nb 40 x from Zbk (by show -1099511627776 < _; omega) (by show _ < 1099511627776; omega))
  rw [Int.one_mul,Int.add_zero]
  exact Zar this (by decide)
 unfold cB
 exact Zar (ZbY a1 a2) (by have:=r.hd.len; omega)
theorem Zi7 {s:Shp} {one:List Int} {lv:Nat->Int} (r:RuOk s one lv) {i j:Nat} (hi:i < s.n):nb 160 (eqB s one lv s.n i j):=by
 unfold eqB
 split
 ·exact cB_nb r hi
 ·split
  ·exact Zar (ZbU r.hd) (by decide)
  ·have h1:nb 46 (if i=j then one.sum else 0):=by
    split
    ·exact ZbU r.hd
    ·exact nb0 _
   have h2:nb (30+1+one.length) (prB s one (lv i) j):=ZoZ (a:=30) (b:=1) (λx _=>by
    split
    ·show (1:Int).natAbs < 2 ^ 1; decide
    ·exact nb0 _) r.hd.nb
   exact Zar (ZcS h1 h2) (by have:=r.hd.len; omega)
theorem sv_of {s:Shp} {one:List Int} {lv:Nat->Int} (r:RuOk s one lv):SvOk (eqB s one lv s.n) s.n:=by
 have p:=Zfy r
 refine ⟨r.n9,λj hj=>leads p j hj,λk i j hk hi hj=>?_,λj hj=>?_⟩
 ·exact Zar (M_nb (b:=160) r.n9 (λi j hi _=>Zi7 r hi) hk hi λq hq=>Zi7 r hq) (by decide)
 ·exact Zar (d_nb (b:=160) r.n9 (λi j hi _=>Zi7 r hi) hj) (by decide)
end My
set_option Elab.async false
set_option linter.all false
set_option maxRecDepth 100000
set_option exponentiation.threshold 9000
namespace My
open PySem PySem.Spec PyProof.Rows L2 Tw Bar
noncomputable def zB (s:Shp) (one:List Int) (lv:Nat->Int) (i:Nat):Int:=M (eqB s one lv s.n) s.n i (col (eqB s one lv s.n) s.n)
noncomputable def scB (s:Shp) (one:List Int) (lv:Nat->Int):Int:=d (eqB s one lv s.n) s.n
noncomputable def wB (s:Shp) (one:List Int) (lv:Nat->Int) (x:Int):Int:=if x=-s.depth then 0 else zB s one lv (x+s.depth).toNat
theorem cut1 (xs:List PyData):L2.cutD xs (some 1) none=xs.drop 1:=by
 unfold L2.cutD
 have e1:(1:Int)=((1:Nat):Int):=rfl
 rw [e1,HT.sIx_nat,HT.sIx_none]
 cases xs with
 | nil=>rfl
 | cons x xs =>
  rw [Nat.min_eq_left (by simp),List.take_of_length_le (by rw [List.length_drop]; exact Nat.le_refl _)]
theorem w_row {s:Shp} (h:s.Ok) (one:List Int) (lv:Nat->Int):PyData.int 0::(((List.range s.n).map (zB s one lv)).map PyData.int).drop 1=(s.row (wB s one lv)).map PyData.int:=by
 have hn:=h.n_eq
 have t0:=h.t0
 have d0:=h.d0
 unfold Shp.row Zak
 rw [List.map_map,List.map_map,List.map_map]
 refine List.ext_getElem? λq=>?_
 rw [List.getElem?_map]
 cases q with
 | zero =>
  rw [List.getElem?_range (by omega)]
  show some (PyData.int 0)=some (PyData.int (wB s one lv (-s.depth+((0:Nat):Int))))
  unfold wB
  rw [if_pos (by omega)]
 | succ q =>
  rw [List.getElem?_cons_succ,List.getElem?_drop,List.getElem?_map,Nat.add_comm 1 q]
  by_cases hq:q+1 < s.n
  ·rw [List.getElem?_range hq]
   show some (PyData.int (zB s one lv (q+1)))=some (PyData.int (wB s one lv (-s.depth+((q+1:Nat):Int))))
   unfold wB
   have e:(-s.depth+((q+1:Nat):Int)+s.depth).toNat=q+1:=by omega
   rw [if_neg (by omega),e]
  ·rw [List.getElem?_eq_none (by rw [List.length_range]; omega)]
   rfl
theorem ZnS {s:Shp} {one:List Int} {lv:Nat->Int} (r:RuOk s one lv):Zdb (lc2 (ZbH (Zax (ZaU 0) (Zax (ZaU 1) ZbA))) ZaT [.un,.un,.d s.d,.d (tI one)]) (Zgx (ZbM (-s.depth) (s.top+1)) (((List.range s.n).map lv).map PyData.int))=.ret ((List.range s.n).map λi=>.list (((List.range (s.n+1)).map λj=>eqB s one lv s.n i j).map PyData.int)):=by
 have h:=r.h
 have hn:=h.n_eq
 have e1:Zgx (ZbM (-s.depth) (s.top+1)) (((List.range s.n).map lv).map PyData.int)=(List.range s.n).map λi:Nat=>PyData.tuple [.int ((i:Int) - s.depth),.int (lv i)]:=by
  unfold ZbM Zak Zgx
  have e:(s.top+1 - -s.depth).toNat=s.n:=rfl
  rw [e,List.map_map,List.map_map]
  have key:∀ l:List Nat,((l.map (PyData.int ∘ λk:Nat=>-s.depth+(k:Int))).zip (l.map (PyData.int ∘ lv))).map (λp=>PyData.tuple [p.1,p.2])=l.map λi:Nat=>PyData.tuple [.int ((i:Int) - s.depth),.int (lv i)]:=by
   intro l
   induction l with
   | nil=>rfl
   | cons i l ih =>
    rw [List.map_cons,List.map_cons,List.zip_cons_cons,List.map_cons,List.map_cons,ih]
    have:-s.depth+(i:Int)=(i:Int) - s.depth:=by omega
    simp only [Function.comp_apply,this]
  exact key _
 rw [e1]
 have key:∀ l:List Nat,(∀ i∈l,i < s.n)->Zdb (lc2 (ZbH (Zax (ZaU 0) (Zax (ZaU 1) ZbA))) ZaT [.un,.un,.d s.d,.d (tI one)]) (l.map λi:Nat=>PyData.tuple [.int ((i:Int) - s.depth),.int (lv i)])=.ret (l.map λi=>.list (((List.range (s.n+1)).map λj=>eqB s one lv s.n i j).map PyData.int)):=by
  intro l
  induction l with
  | nil=>intro _; rfl
  | cons i l ih =>
   intro hl
   have hi:=hl i (by simp)
   have e:=Zi8 h r.hd hi (r.lo i hi) (r.hi i hi)
   have e0:lc2 (ZbH (Zax (ZaU 0) (Zax (ZaU 1) ZbA))) ZaT [.un,.un,.d s.d,.d (tI one)] (.tuple [.int ((i:Int) - s.depth),.int (lv i)])=.ret (.list (((List.range (s.n+1)).map λj=>eqB s one lv s.n i j).map PyData.int)):=by
    simp_arith [ZaT,e]
   rw [List.map_cons,Zdb,e0,Tr.ret_bind,ih λq hq=>hl q (List.mem_cons_of_mem _ hq)]
   rfl
 exact key _ λi hi=>List.mem_range.mp hi
theorem Zqx {s:Shp} {one:List Int} {lv:Nat->Int} (r:RuOk s one lv):Za8 [.d s.d,.d (tI one),.d (lI ((List.range s.n).map lv))]=.ret (.d (.tuple [.int (zB s one lv 0),lI (s.row (wB s one lv)),.int (scB s one lv)])):=by
 have h:=r.h
 have hn:=h.n_eq
 have t0:=h.t0
 have d0:=h.d0
 have n9:=r.n9
 have e1:=Zgf h
 have em:=ZnS r
 have es:=Zmc (sv_of r)
 have it:∀ xs,it1 (.tuple xs)=.ret xs:=λ_=>rfl
 have hs:small (Zgx (ZbM (-s.depth) (s.top+1)) (((List.range s.n).map lv).map PyData.int)).length=true:=small_le (by
  unfold Zgx
  rw [List.length_map,List.length_zip,Za4]
  omega)
 have ew:=w_row h one lv
 have ez:((List.range s.n).map λi=>M (eqB s one lv s.n) s.n i (col (eqB s one lv s.n) s.n)).map PyData.int=((List.range s.n).map (zB s one lv)).map PyData.int:=rfl
 rw [ez] at es
 have a0:Zby ixD (.list (((List.range s.n).map (zB s one lv)).map PyData.int)) (.int 0)=.ret (.int (zB s one lv 0)):=by
  rw [ev_ixL,ZcC (v:=.int (zB s one lv 0)) (by decide) (by rw [List.getElem?_map,List.getElem?_map]; show Option.map _ (Option.map _ ((List.range s.n)[0]?))=_; rw [List.getElem?_range (by omega)]; rfl)]
  rfl
 have a1:sl3 (.list (((List.range s.n).map (zB s one lv)).map PyData.int)) (some 1) none=.ret (.list ((((List.range s.n).map (zB s one lv)).map PyData.int).drop 1)):=by
  rw [ev_sl3L,cut1]
 have a2:Zby ZbW (.list [.int 0]) (.list ((((List.range s.n).map (zB s one lv)).map PyData.int).drop 1))=.ret (lI (s.row (wB s one lv))):=by
  rw [ev_addL (small_le (by rw [List.length_drop,List.length_map,List.length_map,List.length_range]; show 1+_<=_; omega))]
  show Tr.ret (PyData.list (PyData.int 0::(((List.range s.n).map (zB s one lv)).map PyData.int).drop 1))=_
  rw [ew]
  rfl
 have ed:d (eqB s one lv s.n) s.n=scB s one lv:=rfl
 rw [ed] at es
 generalize ((List.range s.n).map (zB s one lv)).map PyData.int=zs at *
 simp_arith only [Za8,Zl8,ev_cO,e1,it,Zqk,hs,em,es,a0,a1,a2]
end My
set_option Elab.async false
set_option linter.all false
set_option maxRecDepth 100000
set_option exponentiation.threshold 9000
namespace My
open PySem PySem.Spec PyProof.Rows L2 Tw Bar
theorem Zls {g n:Nat} (h:g < n) (w:Int) (v:Nat->Int):Bar.sumTo (λj=>w * (if g=j then 1 else 0) * v j) n=w * v g:=by
 have key:∀ m:Nat,Bar.sumTo (λj=>w * (if g=j then 1 else 0) * v j) m=if g < m then w * v g else 0:=by
  intro m
  induction m with
  | zero=>rfl
  | succ m ih =>
   rw [Bar.sumTo,ih]
   by_cases e:g=m
   ·subst e
    rw [if_neg (by omega),if_pos rfl,if_pos (by omega),Int.mul_one]
    omega
   ·rw [if_neg e]
    by_cases e2:g < m
    ·rw [if_pos e2,if_pos (by omega)]
     simp
    ·rw [if_neg e2,if_neg (by omega)]
     simp
 rw [key,if_pos h]
theorem ZmF {n:Nat} {ix:Int->Nat} (h:∀ x:Int,0<=x->ix x < n) (v:Nat->Int):∀ (l:List Int) (k:Nat),Bar.sumTo (λj=>ws (λf=>if ix f=j then 1 else 0) k l * v j) n=ws (λf=>v (ix f)) k l
 | [],k=>by
  rw [ZdD λj _=>by rw [ws,Int.zero_mul]]
  rfl
 | w::l,k=>by
  have ih:=ZmF h v l (k+1)
  have e:(λj=>ws (λf=>if ix f=j then 1 else 0) k (w::l) * v j)=λj=>w * (if ix (k:Int)=j then 1 else 0) * v j+ws (λf=>if ix f=j then 1 else 0) (k+1) l * v j:=funext λj=>by rw [ws,Int.add_mul]
  rw [e,Zho,Zls (h k (by omega)),ih]
  rfl
noncomputable def vB (s:Shp) (one:List Int) (A:Int->Int) (D x y:Int):Int:=D * one.sum * s.ord x y+s.wg one y A D
theorem Zh6 (f g:Int->Int) (D:Int):∀ (l:List Int) (k:Nat),ws (λx=>D * f x+g x) k l=D * ws (λx=>1 * f x+0) k l+ws g k l
 | [],k=>by simp [ws]
 | w::l,k=>by
  rw [ws,ws,ws,Zh6 f g D l (k+1)]
  grind
theorem ZeC {s:Shp} {one:List Int} {lv:Nat->Int} (r:RuOk s one lv) (z:Nat->Int) (A:Int->Int) (hA:∀ x,-s.depth<=x->x<=s.top->A x=if (x+s.depth).toNat=0 then 0 else z (x+s.depth).toNat) (D:Int) {i:Nat} (hi:i < s.n) :
  Bar.sumTo (λl=>eqB s one lv s.n i l * z l) s.n=one.sum * z 0+one.sum * A ((i:Int) - s.depth) - (vB s one A D ((i:Int) - s.depth) (lv i) - D * cB s one ((i:Int) - s.depth) (lv i)):=by
 have h:=r.h
 have hn:=h.n_eq
 have t0:=h.t0
 have d0:=h.d0
 obtain ⟨m,hm⟩:∃ m,s.n=m+1:=⟨s.n - 1,by omega⟩
 have e1:=ZeD (Zfy r) z hi (m:=m) (by omega)
 rw [<- hm] at e1
 rw [e1]
 have e2:(λl=>prB s one (lv i) l * (if l=0 then 0 else z l))=λl=>ws (λf=>if (s.nx (lv i) f+s.depth).toNat=l then 1 else 0) 0 one * (λl=>if l=0 then 0 else z l) l:=rfl
 rw [e2,ZmF (ix:=λf=>(s.nx (lv i) f+s.depth).toNat) (λx hx=>by
   have n1:=Zga s (lv i) x
   have n2:=Zf9 h (r.hi i hi) hx
   omega)]
 have e3:ws (λf=>(λl=>if l=0 then 0 else z l) (s.nx (lv i) f+s.depth).toNat) 0 one=ws (λf=>A (s.nx (lv i) f)) 0 one:=ZdB λf hf=>by
  have n1:=Zga s (lv i) f
  have n2:=Zf9 h (r.hi i hi) hf
  rw [hA _ n1 n2]
 rw [e3]
 have e4:A ((i:Int) - s.depth)=if i=0 then 0 else z i:=by
  rw [hA _ (by omega) (by omega)]
  have:((i:Int) - s.depth+s.depth).toNat=i:=by omega
  rw [this]
 have e5:(if 1<=i/\i<=m then one.sum * z i else 0)=one.sum * A ((i:Int) - s.depth):=by
  rw [e4]
  by_cases e:i=0
  ·rw [if_neg (by omega),if_pos e,Int.mul_zero]
  ·rw [if_pos (by omega),if_neg e]
 rw [e5]
 have e6:s.wg one (lv i) A D=D * s.wg one (lv i) (λ_=>0) 1+ws (λf=>A (s.nx (lv i) f)) 0 one:=Zh6 (λf=>s.day (lv i) f) (λf=>A (s.nx (lv i) f)) D one 0
 unfold vB cB
 rw [e6]
 grind
theorem Zlo {s:Shp} {one:List Int} {A:Int->Int} {D x y:Int} (h:x<=y):vB s one A D x y=csK (s.sm one A D) (D * one.sum * s.start) x y - D * one.sum * s.piece * x:=by
 unfold vB csK Shp.sm Shp.ord
 by_cases e:x < y
 ·rw [if_pos e,if_neg (by omega)]
  grind
 ·have:y=x:=by omega
  subst this
  rw [if_neg e,if_pos (by omega)]
  grind
end My
set_option Elab.async false
set_option linter.all false
set_option maxRecDepth 100000
set_option exponentiation.threshold 9000
namespace My
open PySem PySem.Spec PyProof.Rows L2 Tw Bar
noncomputable def gB (s:Shp) (one:List Int) (lv:Nat->Int):Int->Int:=s.sm one (wB s one lv) (scB s one lv)
noncomputable def kB (s:Shp) (one:List Int) (lv:Nat->Int):Int:=scB s one lv * one.sum * s.start
noncomputable def nxB (s:Shp) (one:List Int) (lv:Nat->Int) (i:Nat):Int:=if i < s.n then lvl (gB s one lv) s.top (kB s one lv) ((i:Int) - s.depth) else 0
theorem Zfz {s:Shp} {one:List Int} {lv:Nat->Int} {i:Nat} (hi:i < s.n):nxB s one lv i=(pck (gB s one lv) s.top (kB s one lv) ((i:Int) - s.depth)).2:=if_pos hi
theorem ZbX {s:Shp} {one:List Int} {lv:Nat->Int} (r:RuOk s one lv):0 < scB s one lv:=leads (Zfy r) s.n (Nat.le_refl _)
theorem ZeN {s:Shp} {one:List Int} {lv:Nat->Int} (r:RuOk s one lv):RuOk s one (nxB s one lv):=by
 have hn:=r.h.n_eq
 refine ⟨r.h,r.n9,r.hd,r.gr,r.ps,λi hi=>?_,λi hi=>?_⟩
 ·rw [Zfz hi]
  exact (Zj5 (g:=gB s one lv) (top:=s.top) (K:=kB s one lv) (x:=(i:Int) - s.depth) (by omega)).1
 ·rw [Zfz hi]
  exact (Zj5 (g:=gB s one lv) (top:=s.top) (K:=kB s one lv) (x:=(i:Int) - s.depth) (by omega)).2.1
theorem Zev {s:Shp} {one:List Int} {lv:Nat->Int} (r:RuOk s one lv) {i:Nat} (hi:i < s.n):Bar.sumTo (λl=>eqB s one lv s.n i l * zB s one lv l) s.n=scB s one lv * cB s one ((i:Int) - s.depth) (lv i):=by
 have:=M_end (eqB s one lv s.n) hi (col (eqB s one lv s.n) s.n)
 have e:col (eqB s one lv s.n) s.n i=cB s one ((i:Int) - s.depth) (lv i):=by
  unfold col eqB
  rw [if_pos rfl]
 rw [e] at this
 exact this
theorem Zo1 {s:Shp} (one:List Int) (lv:Nat->Int) (x:Int) (x1:-s.depth<=x) (x2:x<=s.top):wB s one lv x=if (x+s.depth).toNat=0 then 0 else zB s one lv (x+s.depth).toNat:=by
 unfold wB
 by_cases e:x=-s.depth
 ·rw [if_pos e,if_pos (by omega)]
 ·rw [if_neg e,if_neg (by omega)]
noncomputable def spB (s:Shp) (one:List Int) (lv:Nat->Int) (i:Nat):Int:=csK (gB s one lv) (kB s one lv) ((i:Int) - s.depth) (lv i) - (pck (gB s one lv) s.top (kB s one lv) ((i:Int) - s.depth)).1
theorem Zph {s:Shp} {one:List Int} {lv:Nat->Int} (r:RuOk s one lv) {i:Nat} (hi:i < s.n):0<=spB s one lv i:=by
 have hn:=r.h.n_eq
 obtain ⟨p1,p2⟩:=ZmR (g:=gB s one lv) (top:=s.top) (K:=kB s one lv) (x:=(i:Int) - s.depth) (by omega)
 have y1:=r.lo i hi
 have y2:=r.hi i hi
 unfold spB csK
 split
 ·have:=p2 (lv i) (by omega) y2
  omega
 ·have:lv i=(i:Int) - s.depth:=by omega
  rw [this]
  omega
theorem ZqF {s:Shp} {one:List Int} {lv:Nat->Int} (r:RuOk s one lv) {i:Nat} (hi:i < s.n):csK (gB s one lv) (kB s one lv) ((i:Int) - s.depth) (nxB s one lv i)=(pck (gB s one lv) s.top (kB s one lv) ((i:Int) - s.depth)).1:=by
 have hn:=r.h.n_eq
 obtain ⟨q1,q2,q3⟩:=Zj5 (g:=gB s one lv) (top:=s.top) (K:=kB s one lv) (x:=(i:Int) - s.depth) (by omega)
 rw [Zfz hi]
 unfold csK
 rcases q3 with ⟨e1,e2⟩ | ⟨e1,e2,e3⟩
 ·rw [e1,if_neg (by omega),e2]
 ·rw [if_pos e1,e2]
theorem Zkb {s:Shp} {one:List Int} {lv:Nat->Int} (r:RuOk s one lv) {i:Nat} (hi:i < s.n):Bar.sumTo (λl=>eqB s one (nxB s one lv) s.n i l * zB s one lv l) s.n=scB s one lv * cB s one ((i:Int) - s.depth) (nxB s one lv i)+spB s one lv i:=by
 have hn:=r.h.n_eq
 have r':=ZeN r
 have a1:=ZeC r (zB s one lv) (wB s one lv) (Zo1 one lv) (scB s one lv) hi
 have a2:=ZeC r' (zB s one lv) (wB s one lv) (Zo1 one lv) (scB s one lv) hi
 rw [Zev r hi] at a1
 rw [a2]
 have v1:=Zlo (s:=s) (one:=one) (A:=wB s one lv) (D:=scB s one lv) (r.lo i hi)
 have v2:=Zlo (s:=s) (one:=one) (A:=wB s one lv) (D:=scB s one lv) (r'.lo i hi)
 have c2:=ZqF r hi
 unfold spB
 unfold gB kB at *
 omega
theorem ZqJ {s:Shp} {one:List Int} {lv:Nat->Int} (r:RuOk s one lv) (hs:∃ i,i < s.n/\0 < spB s one lv i):Bet s.n (zB s one lv) (scB s one lv) (zB s one (nxB s one lv)) (scB s one (nxB s one lv)):=by
 have hn:=r.h.n_eq
 have t0:=r.h.t0
 have d0:=r.h.d0
 exact better (Zfy (ZeN r)) (by omega) (ZbX r) (ZbX (ZeN r)) (b:=λi=>cB s one ((i:Int) - s.depth) (nxB s one lv i)) (λi hi=>Zev (ZeN r) hi) (λi hi=>Zph r hi) (λi hi=>Zkb r hi) hs
theorem Zo9 {s:Shp} {one:List Int} {lv:Nat->Int} (r:RuOk s one lv) (hs:∀ i,i < s.n->spB s one lv i=0):∀ l,l < s.n->scB s one lv * zB s one (nxB s one lv) l=scB s one (nxB s one lv) * zB s one lv l:=by
 intro l hl
 have r':=ZeN r
 have:=sole (eqB s one (nxB s one lv) s.n) (k:=s.n) (λj hj=>Int.ne_of_gt (leads (Zfy r') j hj)) (z:=λl=>scB s one lv * zB s one (nxB s one lv) l - scB s one (nxB s one lv) * zB s one lv l) (λi hi=>by
  rw [Zcn,Zev r' hi,Zkb r hi,hs i hi]
  grind) l hl
 have e:scB s one lv * zB s one (nxB s one lv) l - scB s one (nxB s one lv) * zB s one lv l=0:=this
 omega
theorem Zlr {s:Shp} {one:List Int} {lv:Nat->Int} (r:RuOk s one lv) (hs:∀ i,i < s.n->spB s one lv i=0):∀ i,i < s.n->nxB s one (nxB s one lv) i=nxB s one lv i:=by
 intro i hi
 have h:=r.h
 have hn:=h.n_eq
 have t:=Zo9 r hs
 have p1:=ZbX r
 have p2:=ZbX (ZeN r)
 generalize hD:scB s one lv=D at *
 generalize hD':scB s one (nxB s one lv)=D' at *
 have hw:∀ x,-s.depth<=x->x<=s.top->D * wB s one (nxB s one lv) x=D' * wB s one lv x:=λx x1 x2=>by
  rw [Zo1 one _ x x1 x2,Zo1 one _ x x1 x2]
  split
  ·omega
  ·exact t _ (by omega)
 have hg:∀ y,-s.depth<=y->y<=s.top->D * gB s one (nxB s one lv) y=D' * gB s one lv y:=λy y1 y2=>by
  unfold gB Shp.sm
  rw [hD,hD']
  have e1:D * s.wg one y (wB s one (nxB s one lv)) D'=D' * s.wg one y (wB s one lv) D:=by
   unfold Shp.wg
   rw [<- Zfq,<- Zfq]
   refine ZdB λf hf=>?_
   have n1:=Zga s y f
   have n2:=Zf9 h y2 hf
   have:=hw _ n1 n2
   grind
  have e2:D * (D' * one.sum * s.piece * y+s.wg one y (wB s one (nxB s one lv)) D')=D * (D' * one.sum * s.piece * y)+D * s.wg one y (wB s one (nxB s one lv)) D':=by rw [Int.mul_add]
  have e3:D' * (D * one.sum * s.piece * y+s.wg one y (wB s one lv) D)=D' * (D * one.sum * s.piece * y)+D' * s.wg one y (wB s one lv) D:=by rw [Int.mul_add]
  rw [e2,e3,e1]
  grind
 have hk:D * kB s one (nxB s one lv)=D' * kB s one lv:=by
  unfold kB
  rw [hD,hD']
  grind
 have m1:=Zj4 (g:=gB s one (nxB s one lv)) (top:=s.top) (K:=kB s one (nxB s one lv)) (m:=D) (x:=(i:Int) - s.depth) p1 (by omega)
 have m2:=Zj4 (g:=gB s one lv) (top:=s.top) (K:=kB s one lv) (m:=D') (x:=(i:Int) - s.depth) p2 (by omega)
 have m3:pck (λy=>D * gB s one (nxB s one lv) y) s.top (D * kB s one (nxB s one lv)) ((i:Int) - s.depth)=pck (λy=>D' * gB s one lv y) s.top (D' * kB s one lv) ((i:Int) - s.depth):=by
  rw [hk]
  exact Zj6 (λy y1 y2=>hg y (by omega) y2) (by omega)
 rw [m1,m2] at m3
 have:=congrArg Prod.snd m3
 rw [Zfz hi,Zfz hi]
 exact this
end My
set_option Elab.async false
set_option linter.all false
set_option maxRecDepth 100000
set_option exponentiation.threshold 9000
namespace My
open PySem PySem.Spec PyProof.Rows L2 Tw Bar
noncomputable def offs:Nat->List (List Nat)
 | 0=>[[]]
 | m+1=>(List.range (m+1)).flatMap λc=>(offs m).map (c::·)
theorem ZlQ {m:Nat} {f:Nat->Nat}:∀ {k:Nat},(∀ j,j < m->f (k+j) < m - j)->(List.range m).map (λj=>f (k+j))∈offs m:=by
 induction m with
 | zero=>intro k _; simp [offs]
 | succ m ih =>
  intro k h
  have h1:=ih (k:=k+1) λj hj=>by
   have:=h (j+1) (by omega)
   have e:k+(j+1)=k+1+j:=by omega
   rw [e] at this
   omega
  have e:(List.range (m+1)).map (λj=>f (k+j))=f k::(List.range m).map λj=>f (k+1+j):=by
   rw [List.range_succ_eq_map,List.map_cons,List.map_map]
   refine congrArg _ (List.map_congr_left λj _=>?_)
   show f (k+(j+1))=f (k+1+j)
   congr 1
   omega
  rw [e,offs]
  exact List.mem_flatMap.mpr ⟨f k,List.mem_range.mpr (by have:=h 0 (by omega); simpa using this),List.mem_map.mpr ⟨_,h1,rfl⟩⟩
theorem Zce:∀ m:Nat,(offs (m+1)).length=(m+1) * (offs m).length:=λm=>by
 rw [offs,List.length_flatMap]
 have e:(List.range (m+1)).map (λa=>((offs m).map (a::·)).length)=List.replicate (m+1) (offs m).length:=by
  rw [List.eq_replicate_iff]
  refine ⟨by rw [List.length_map,List.length_range],λb hb=>?_⟩
  obtain ⟨c,_,rfl⟩:=List.mem_map.mp hb
  exact List.length_map ..
 rw [e]
 simp
theorem Zp0 {m:Nat} (h:m<=8):(offs m).length<=40320:=by
 have e0:(offs 0).length=1:=rfl
 have e1:(offs 1).length=1 * (offs 0).length:=Zce 0
 have e2:(offs 2).length=2 * (offs 1).length:=Zce 1
 have e3:(offs 3).length=3 * (offs 2).length:=Zce 2
 have e4:(offs 4).length=4 * (offs 3).length:=Zce 3
 have e5:(offs 5).length=5 * (offs 4).length:=Zce 4
 have e6:(offs 6).length=6 * (offs 5).length:=Zce 5
 have e7:(offs 7).length=7 * (offs 6).length:=Zce 6
 have e8:(offs 8).length=8 * (offs 7).length:=Zce 7
 have:m=0\/m=1\/m=2\/m=3\/m=4\/m=5\/m=6\/m=7\/m=8:=by omega
 rcases this with rfl | rfl | rfl | rfl | rfl | rfl | rfl | rfl | rfl <;> omega
noncomputable def itB (s:Shp) (one:List Int) (lv:Nat->Int):Nat->Nat->Int
 | 0=>lv
 | t+1=>nxB s one (itB s one lv t)
theorem Zen {s:Shp} {one:List Int} {lv:Nat->Int} (r:RuOk s one lv):∀ t,RuOk s one (itB s one lv t)
 | 0=>r
 | t+1=>ZeN (Zen r t)
noncomputable def Nul (n:Nat) (lv:Nat->Int):Prop:=∀ i,n<=i->lv i=0
theorem ZfB {s:Shp} {one:List Int} {lv:Nat->Int} (h:Nul s.n lv):∀ t,Nul s.n (itB s one lv t)
 | 0=>h
 | t+1=>λi hi=>by
  show nxB s one (itB s one lv t) i=0
  unfold nxB
  rw [if_neg (by omega)]
noncomputable def ofB (s:Shp) (lv:Nat->Int):List Nat:=(List.range s.n).map λj=>(lv (0+j) - (((0+j:Nat):Int) - s.depth)).toNat
theorem Zp1 {s:Shp} {one:List Int} {lv:Nat->Int} (r:RuOk s one lv):ofB s lv∈offs s.n:=by
 have hn:=r.h.n_eq
 have t0:=r.h.t0
 have d0:=r.h.d0
 refine ZlQ (f:=λq=>(lv q - ((q:Int) - s.depth)).toNat) (k:=0) λj hj=>?_
 have a:=r.hi (0+j) (by omega)
 have b:=r.lo (0+j) (by omega)
 show (lv (0+j) - (((0+j:Nat):Int) - s.depth)).toNat < s.n - j
 omega
theorem Zp2 {s:Shp} {one:List Int} {lv lv':Nat->Int} (r:RuOk s one lv) (r':RuOk s one lv') (n1:Nul s.n lv) (n2:Nul s.n lv') (h:ofB s lv=ofB s lv'):lv=lv':=by
 funext i
 by_cases hi:i < s.n
 ·have e:=congrArg (λl=>l[i]?) h
  unfold ofB at e
  simp only [List.getElem?_map,List.getElem?_range hi,Option.map_some,Option.some.injEq,Nat.zero_add] at e
  have a:=r.lo i hi
  have b:=r'.lo i hi
  omega
 ·rw [n1 i (by omega),n2 i (by omega)]
theorem ends {s:Shp} {one:List Int} {lv:Nat->Int} (r:RuOk s one lv) (n0:Nul s.n lv) (n8:s.n<=8):∃ t,t<=40321/\itB s one lv (t+1)=itB s one lv t:=by
 apply Classical.byContradiction
 intro hno
 have hne:∀ t,t<=40321->itB s one lv (t+1)≠itB s one lv t:=λt ht e=>hno ⟨t,ht,e⟩
 have strict:∀ t,t < 40321->Bet s.n (zB s one (itB s one lv t)) (scB s one (itB s one lv t)) (zB s one (itB s one lv (t+1))) (scB s one (itB s one lv (t+1))):=λt ht=>by
  apply ZqJ (Zen r t)
  apply Classical.byContradiction
  intro hn
  have all0:∀ i,i < s.n->spB s one (itB s one lv t) i=0:=λi hi=>by
   have a:=Zph (Zen r t) hi
   have:¬ 0 < spB s one (itB s one lv t) i:=λq=>hn ⟨i,hi,q⟩
   omega
  have tn:=Zlr (Zen r t) all0
  apply hne (t+1) (by omega)
  funext i
  by_cases hi:i < s.n
  ·exact tn i hi
  ·rw [ZfB n0 (t+1+1) i (by omega),ZfB n0 (t+1) i (by omega)]
 have far:∀ (k t:Nat),t+k+1<=40321->Bet s.n (zB s one (itB s one lv t)) (scB s one (itB s one lv t)) (zB s one (itB s one lv (t+k+1))) (scB s one (itB s one lv (t+k+1))):=by
  intro k
  induction k with
  | zero=>intro t ht; exact strict t (by omega)
  | succ k ih =>
   intro t ht
   have a:=ih t (by omega)
   have b:=strict (t+k+1) (by omega)
   exact Bet.trans (ZbX (Zen r _)) (ZbX (Zen r _)) (ZbX (Zen r _)) a b
 have inj:∀ i j,i < j->j<=40321->ofB s (itB s one lv i)≠ofB s (itB s one lv j):=λi j hij hj e=>by
  have e2:=Zp2 (Zen r i) (Zen r j) (ZfB n0 i) (ZfB n0 j) e
  have b:=far (j - i - 1) i (by omega)
  have ej:i+(j - i - 1)+1=j:=by omega
  rw [ej,<- e2] at b
  exact Bet.irrefl b
 have hnd:((List.range 40322).map λt=>ofB s (itB s one lv t)).Nodup:=by
  rw [List.nodup_iff_pairwise_ne,List.pairwise_map]
  refine List.Pairwise.imp_of_mem (R:=λa b=>a < b) ?_ List.pairwise_lt_range
  intro a b ha hb hab
  have:=List.mem_range.mp hb
  exact inj a b hab (by omega)
 have hsub:∀ x∈(List.range 40322).map λt=>ofB s (itB s one lv t),x∈offs s.n:=λx hx=>by
  obtain ⟨t,_,rfl⟩:=List.mem_map.mp hx
  exact Zp1 (Zen r t)
 have h1:=List.Nodup.length_le_of_subset hnd hsub
 rw [List.length_map,List.length_range] at h1
 have h2:=Zp0 n8
 omega
end My
set_option Elab.async false
set_option linter.all false
set_option maxRecDepth 100000
set_option exponentiation.threshold 9000
namespace My
open PySem PySem.Spec PyProof.Rows L2 Tw Bar
theorem Ziz:∀ a b:List Int,PyData.eqvAll (a.map PyData.int) (b.map PyData.int)=decide (a=b)
 | [],[]=>rfl
 | [],_::_=>rfl
 | _::_,[]=>rfl
 | x::a,y::b=>by
  have ih:=Ziz a b
  rw [List.map_cons,List.map_cons,PyData.eqvAll,ih]
  by_cases e:x=y
  ·subst e
   by_cases e2:a=b
   ·subst e2; simp [PyData.eqv]
   ·simp [PyData.eqv,e2]
  ·simp [PyData.eqv,e]
theorem eq_lI (a b:List Int):Zby eqD (lI a) (lI b)=.ret (.bool (decide (a=b))):=by
 unfold lI
 rw [Zqu (ZeB a) (ZeB b),Ziz]
noncomputable def lsB (s:Shp) (lv:Nat->Int):List Int:=(List.range s.n).map lv
theorem z_nb {s:Shp} {one:List Int} {lv:Nat->Int} (r:RuOk s one lv) {i:Nat} (hi:i < s.n):nb 1702 (zB s one lv i):=by
 refine Zar (M_nb (b:=160) r.n9 (λi j hi _=>Zi7 r hi) (Nat.le_refl _) hi λq hq=>Zi7 r hq) (by decide)
theorem w_bd {s:Shp} {one:List Int} {lv:Nat->Int} (r:RuOk s one lv):Bd s 1702 (wB s one lv):=λx x1 x2=>by
 have hn:=r.h.n_eq
 unfold wB
 split
 ·exact nb0 _
 ·exact z_nb r (by omega)
theorem ZjN {s:Shp} {one:List Int} {lv:Nat->Int} (r:RuOk s one lv):nb 1531 (scB s one lv):=Zar (d_nb (b:=160) r.n9 (λi j hi _=>Zi7 r hi) (Nat.le_refl _)) (by decide)
noncomputable def Zlq (s:Shp) (one:List Int) (lv:Nat->Int):PyData:=.tuple [.int (zB s one lv 0),lI (s.row (wB s one lv)),.int (scB s one lv),lI (lsB s lv)]
theorem Zkj {g:Int->Int} {top K P:Int}:∀ l:List Int,Zdb (lc2 (ZbH (Zax (ZaU 0) (Zax (ZaU 1) ZbA))) Zb5 [.un,.un]) (l.map (Zf6 g top K P))=.ret ((l.map (lvl g top K)).map PyData.int)
 | []=>rfl
 | x::l=>by
  have e0:lc2 (ZbH (Zax (ZaU 0) (Zax (ZaU 1) ZbA))) Zb5 [.un,.un] (Zf6 g top K P x)=.ret (.int (lvl g top K x)):=rfl
  rw [List.map_cons,Zdb,e0,Tr.ret_bind,Zkj l]
  rfl
theorem Zor {s:Shp} {one:List Int} {lv:Nat->Int} (r:RuOk s one lv) (J3 J4 J5 J6 J7:Sl):∃ K3 K4 K5 K6 K7:Sl,Zbn [.d s.d,.d (tI one),.d (lI (lsB s lv)),J3,J4,J5,J6,J7]=if lsB s (nxB s one lv)=lsB s lv then .ret (.ret (.d (Zlq s one lv))) else .ret (.next [.d s.d,.d (tI one),.d (lI (lsB s (nxB s one lv))),K3,K4,K5,K6,K7]):=by
 have h:=r.h
 have hn:=h.n_eq
 have td:=h.td
 have em:Za8 [.d s.d,.d (tI one),.d (lI (lsB s lv))]=_:=Zqx r
 have el:=Zmf h r.hd (w_bd r) (sc:=scB s one lv) (Zar (ZjN r) (by decide)) (by decide)
 have g1:=Zap (ZjN r) (by decide)
 have g2:=Zap (ZbU r.hd) (by decide)
 have hsc:nb 1853 (scB s one lv * one.sum):=Zar (Za3 (ZjN r) (ZbU r.hd)) (by decide)
 have hg:Bd s 1853 (gB s one lv):=λx x1 x2=>Zar (sm_nb h r.hd (w_bd r) (Zar (ZjN r) (by decide)) x x1 x2) (by decide)
 have ec:Zcw [.d s.d,.d (.list ((s.row (s.sm one (wB s one lv) (scB s one lv))).map PyData.int)),.d (.int (scB s one lv * one.sum))]=_:=Zol h hg hsc (Int.le_of_lt (Int.mul_pos (ZbX r) r.hd.pos)) (by decide)
 have hs:small ((Zak (-s.depth) s.n).map (Zf6 (gB s one lv) s.top (scB s one lv * one.sum * s.start) (scB s one lv * one.sum * s.piece))).length=true:=small_le (by rw [List.length_map,ZaR]; omega)
 have lm:=Zkj (g:=gB s one lv) (top:=s.top) (K:=scB s one lv * one.sum * s.start) (P:=scB s one lv * one.sum * s.piece) (Zak (-s.depth) s.n)
 have e7:((Zak (-s.depth) s.n).map (lvl (gB s one lv) s.top (scB s one lv * one.sum * s.start)))=lsB s (nxB s one lv):=by
  unfold lsB Zak
  rw [List.map_map]
  refine List.map_congr_left λi hi=>?_
  have hi':=List.mem_range.mp hi
  rw [Zfz hi']
  have:-s.depth+(i:Int)=(i:Int) - s.depth:=by omega
  simp only [Function.comp_apply,this]
  rfl
 rw [e7] at lm
 have eq:Zby eqD (.list ((lsB s (nxB s one lv)).map PyData.int)) (lI (lsB s lv))=.ret (.bool (decide (lsB s (nxB s one lv)=lsB s lv))):=eq_lI _ _
 by_cases e:lsB s (nxB s one lv)=lsB s lv
 ·rw [decide_eq_true e] at eq
  refine ⟨.un,.un,.un,.un,.un,?_⟩
  rw [if_pos e]
  simp_arith [Zbn,em,el,Zfu,g1,g2,ec,hs,lm,eq]
  rfl
 ·rw [decide_eq_false e] at eq
  refine ⟨.d (.int (zB s one lv 0)),.d (lI (s.row (wB s one lv))),.d (.int (scB s one lv)),.d (.list ((Zak (-s.depth) s.n).map (Zf6 (gB s one lv) s.top (scB s one lv * one.sum * s.start) (scB s one lv * one.sum * s.piece)))),.d (.list ((lsB s (nxB s one lv)).map PyData.int)),?_⟩
  rw [if_neg e]
  simp_arith [Zbn,em,el,Zfu,g1,g2,ec,hs,lm,eq]
  rfl
end My
set_option Elab.async false
set_option linter.all false
set_option maxRecDepth 100000
set_option exponentiation.threshold 9000
namespace My
open PySem PySem.Spec PyProof.Rows L2 Tw Bar
theorem Zp9 {s:Shp} {lv lv':Nat->Int} (n1:Nul s.n lv) (n2:Nul s.n lv'):lsB s lv=lsB s lv' ↔ lv=lv':=by
 constructor
 ·intro h
  funext i
  by_cases hi:i < s.n
  ·have e:=congrArg (λl=>l[i]?) h
   unfold lsB at e
   simpa only [List.getElem?_map,List.getElem?_range hi,Option.map_some,Option.some.injEq] using e
  ·rw [n1 i (by omega),n2 i (by omega)]
 ·intro h
  rw [h]
theorem Zk1 {s:Shp} {one:List Int} {lv:Nat->Int} (r:RuOk s one lv) (n0:Nul s.n lv):∀ (m t fuel:Nat),itB s one lv (t+m+1)=itB s one lv (t+m)->m < fuel->∀ J3 J4 J5 J6 J7:Sl,∃ T,itB s one lv (T+1)=itB s one lv T/\whL Zb3 Zbn fuel [.d s.d,.d (tI one),.d (lI (lsB s (itB s one lv t))),J3,J4,J5,J6,J7]=.ret (.ret (.d (Zlq s one (itB s one lv T))))
 | m,t,0,_,hf,_,_,_,_,_=>by omega
 | m,t,fuel+1,he,hf,J3,J4,J5,J6,J7=>by
  obtain ⟨K3,K4,K5,K6,K7,e⟩:=Zor (Zen r t) J3 J4 J5 J6 J7
  have hp:Zb3 [.d s.d,.d (tI one),.d (lI (lsB s (itB s one lv t))),J3,J4,J5,J6,J7]=.ret true:=rfl
  by_cases hc:lsB s (nxB s one (itB s one lv t))=lsB s (itB s one lv t)
  ·rw [if_pos hc] at e
   refine ⟨t,(Zp9 (ZfB n0 (t+1)) (ZfB n0 t)).mp hc,?_⟩
   rw [whL,hp,Tr.ret_bind,if_pos rfl,e,Tr.ret_bind]
  ·rw [if_neg hc] at e
   cases m with
   | zero =>
    exfalso
    apply hc
    have:nxB s one (itB s one lv t)=itB s one lv t:=he
    rw [this]
   | succ m =>
    have he':itB s one lv (t+1+m+1)=itB s one lv (t+1+m):=by
     have e1:t+(m+1)=t+1+m:=by omega
     rw [e1] at he
     exact he
    obtain ⟨T,h1,h2⟩:=Zk1 r n0 m (t+1) fuel he' (by omega) K3 K4 K5 K6 K7
    refine ⟨T,h1,?_⟩
    rw [whL,hp,Tr.ret_bind,if_pos rfl,e,Tr.ret_bind]
    exact h2
noncomputable def lv0 (s:Shp) (i:Nat):Int:=if i < s.n then (i:Int) - s.depth else 0
theorem ZqB {s:Shp} {one:List Int} (h:s.Ok) (n8:s.n<=8) (hd:DayB one) (gr:s.top+s.depth<=great one) (ps:∃ w∈one,w > 0) :
  ∃ lv:Nat->Int,RuOk s one lv/\nxB s one lv=lv/\Zb1 [.d s.d,.d (tI one)]=.ret (.d (Zlq s one lv)):=by
 have hn:=h.n_eq
 have t0:=h.t0
 have d0:=h.d0
 have r:RuOk s one (lv0 s):=⟨h,by omega,hd,gr,ps,λi hi=>by unfold lv0; rw [if_pos hi]; exact Int.le_refl _,λi hi=>by unfold lv0; rw [if_pos hi]; omega⟩
 have n0:Nul s.n (lv0 s):=λi hi=>by unfold lv0; rw [if_neg (by omega)]
 obtain ⟨t,ht,he⟩:=ends r n0 n8
 obtain ⟨T,h1,h2⟩:=Zk1 r n0 t 0 100000 (by rw [Nat.zero_add]; exact he) (by omega) .un .un .un .un .un
 refine ⟨itB s one (lv0 s) T,Zen r T,h1,?_⟩
 have e1:=Zgf h
 have el:ZbM (-s.depth) (s.top+1)=(lsB s (lv0 s)).map PyData.int:=by
  unfold ZbM lsB Zak
  have e:(s.top+1 - -s.depth).toNat=s.n:=rfl
  rw [e,List.map_map,List.map_map]
  refine List.map_congr_left λi hi=>?_
  have hi':=List.mem_range.mp hi
  simp only [Function.comp_apply]
  unfold lv0
  rw [if_pos hi']
  have:-s.depth+(i:Int)=(i:Int) - s.depth:=by omega
  rw [this]
 have elst:cbo1 ZoT [.tuple (ZbM (-s.depth) (s.top+1))]=.ret (ZbM (-s.depth) (s.top+1)):=rfl
 have e2:itB s one (lv0 s) 0=lv0 s:=rfl
 rw [e2] at h2
 unfold lI at h2
 simp_arith [Zb1,e1,elst,el,h2]
end My
set_option Elab.async false
set_option linter.all false
set_option maxRecDepth 100000
set_option exponentiation.threshold 9000
namespace My
open PySem PySem.Spec PyProof.Rows L2 Tw
theorem e_gcd {a b:Int} (hb:nb 8000 b):Zbv [.d (.int a),.d (.int b)]=.ret (.d (.int (Nat.gcd a.natAbs b.natAbs:Nat))):=by
 have key:=euclid (p:=ZbB) (s:=ZbG) (E:=λa b=>[.d (.int a),.d (.int b)]) (λa b=>by
  simp_arith [ZbB]
  by_cases h:b=0
  ·subst h; rfl
  ·rw [decide_eq_true h]
   congr 1
   simp [h]) (λa b h=>by
  have h':(b:Int)≠0:=by omega
  simp_arith [ZbG,ZkA h',Zgd]) 8000 83999 a.natAbs b.natAbs hb
 have e:2 * 8000+1+83999=100000:=rfl
 rw [e] at key
 simp_arith [Zbv,ZhY,key]
theorem ZkG {t b:Int} (h0:b≠0) (hb:nb 7000 b):Zd4 [.d (.int t),.d (.int b)]=.ret (.d (shD t b)):=by
 have e:=e_gcd (a:=t) (b:=b) (Zar hb (by decide))
 have e0:(b == 0)=false:=beq_eq_false_iff_ne.mpr h0
 have hd:=Gc.den_ne (t:=t) h0
 have hf:=Zap (Zm6 (t:=t) hb h0) (by decide)
 unfold shD Gc.lowT Gc.lowB
 by_cases hn:b < 0
 ·have ed:Gc.den t b=-((Nat.gcd t.natAbs b.natAbs:Nat):Int):=by unfold Gc.den Gc.gcdI; rw [if_pos hn]
  rw [ed] at hd hf ⊢
  simp_arith [Zd4,e0,e,decide_eq_true hn,Zc3 hd hf]
 ·have ed:Gc.den t b=((Nat.gcd t.natAbs b.natAbs:Nat):Int):=by unfold Gc.den Gc.gcdI; rw [if_neg hn]
  rw [ed] at hd hf ⊢
  simp_arith [Zd4,e0,e,decide_eq_false hn,Zc3 hd hf]
end My
set_option Elab.async false
set_option linter.all false
set_option maxRecDepth 100000
set_option exponentiation.threshold 9000
namespace My
open PySem PySem.Spec PyProof.Rows L2 Tw Bar
theorem Zp7 {ls:List Int} (h:∃ n∈ls,n > 0):cb1 Zem [.list ((snF 0 ls).map PyData.int)]=.ret (.int (great ls)):=ZnY _ (ZjJ (k:=0) h)
theorem Zif:∀ (ns:List Int) (k:Nat),Zkg (Zqd (ZbH (Zax (ZaU 0) (Zax (ZaU 1) ZbA))) Za6 Za5 [.un,.un]) (enu k ns)=.ret ((snF k ns).map PyData.int)
 | [],k=>rfl
 | n::ns,k=>by
  have ih:=Zif ns (k+1)
  have e0:Zqd (ZbH (Zax (ZaU 0) (Zax (ZaU 1) ZbA))) Za6 Za5 [.un,.un] (.tuple [.int k,.int n])=.ret (if n > 0 then some (.int k) else none):=by
   by_cases h:n > 0
   ·simp_arith [Za6,Za5,decide_eq_true h,if_pos h]
   ·simp_arith [Za6,Za5,decide_eq_false h,if_neg h]
  rw [enu,Zkg,e0,Tr.ret_bind,ih,Tr.ret_bind,snF]
  unfold Zp8
  by_cases h:n > 0
  ·rw [if_pos h,if_pos h]; rfl
  ·rw [if_neg h,if_neg h]
theorem Zok {ls:List Int} (h:∃ n∈ls,n > 0) (hl:ls.length<=100):ZbE [.d (tI ls)]=.ret (.d (.int (great ls))):=by
 have hs:small (enu 0 ls).length=true:=small_le (by rw [ZkD]; omega)
 simp_arith [ZbE,Zl1,ZkF,hs,Zif,Zp7 h]
noncomputable def drB (ρ:List Sl) (_:PyData):Tr Ou:=.ret (.next ρ)
theorem Zog {i:List Sl->Tr PyData} {ρ:List Sl}:ZoJ i ρ=(i ρ).bind (drB ρ):=rfl
theorem Zqv {ρ:List Sl} {x:PyData}:drB ρ x=.ret (.next ρ):=rfl
noncomputable def lpB (s:Shp) (one:List Int) (lv:Nat->Int):PyData:=.tuple [shD (zB s one lv 0) (scB s one lv),.tuple ((Zak (-s.depth) s.n).map λx=>shD (wB s one lv x) (scB s one lv)),tI (lsB s lv)]
theorem ZkI {s:Shp} {one:List Int} (h:s.Ok) (n8:s.n<=8) (hd:DayB one) (gr:s.top+s.depth<=great one) (ps:∃ w∈one,w > 0) :
  ∃ lv:Nat->Int,RuOk s one lv/\nxB s one lv=lv/\ZbD [.d s.d,.d (tI one)]=.ret (.d (lpB s one lv)):=by
 obtain ⟨lv,r,hf,e⟩:=ZqB h n8 hd gr ps
 refine ⟨lv,r,hf,?_⟩
 have eg:=Zok ps (by have:=hd.len; omega)
 have ca:decide (great one < s.top+s.depth)=false:=decide_eq_false (by omega)
 have ea:Zb2 [.d s.d,.d (tI one)]=.ret (.d .none):=by
  simp_arith [Zb2,eg,ca]
 have sp:=ZbX r
 have sn:nb 7000 (scB s one lv):=Zar (ZjN r) (by decide)
 have e1:=ZkG (t:=zB s one lv 0) (b:=scB s one lv) (by omega) sn
 have hs:small ((s.row (wB s one lv)).map PyData.int).length=true:=small_le (by rw [List.length_map,Zhu]; omega)
 have em:∀ l:List Int,Zdb (lc2 (ZaU 0) ZcJ [.un,.d (.int (scB s one lv))]) (l.map PyData.int)=.ret (l.map λx=>shD x (scB s one lv)):=by
  intro l
  induction l with
  | nil=>rfl
  | cons x l ih =>
   have e0:lc2 (ZaU 0) ZcJ [.un,.d (.int (scB s one lv))] (.int x)=.ret (shD x (scB s one lv)):=by
    have e2:=ZkG (t:=x) (b:=scB s one lv) (by omega) sn
    simp_arith [ZcJ,e2]
   rw [List.map_cons,Zdb,e0,Tr.ret_bind,ih]
   rfl
 unfold Zlq at e
 simp_arith [ZbD,Zog,Zqv,ea,e,e1,Zqk,hs,em]
 unfold lpB Shp.row tI
 rw [List.map_map]
 rfl
end My
set_option Elab.async false
set_option linter.all false
set_option maxRecDepth 100000
set_option exponentiation.threshold 9000
namespace My
open PySem PySem.Spec PyProof.Rows L2 Tw Bar
theorem ZkJ {s:Shp} {one:List Int} {lv:Nat->Int} (r:RuOk s one lv) {i:Nat} (hi:i < s.n):one.sum * (zB s one lv 0+wB s one lv ((i:Int) - s.depth))=vB s one (wB s one lv) (scB s one lv) ((i:Int) - s.depth) (lv i):=by
 have a1:=ZeC r (zB s one lv) (wB s one lv) (Zo1 one lv) (scB s one lv) hi
 rw [Zev r hi] at a1
 rw [Int.mul_add]
 omega
theorem ZkK {s:Shp} {one:List Int} {lv:Nat->Int} (r:RuOk s one lv) (hf:nxB s one lv=lv) {i:Nat} (hi:i < s.n) {y:Int} (y1:(i:Int) - s.depth<=y) (y2:y<=s.top):vB s one (wB s one lv) (scB s one lv) ((i:Int) - s.depth) (lv i)<=vB s one (wB s one lv) (scB s one lv) ((i:Int) - s.depth) y:=by
 have hn:=r.h.n_eq
 rw [Zlo (r.lo i hi),Zlo y1]
 have c2:=ZqF r hi
 rw [hf] at c2
 obtain ⟨p1,p2⟩:=ZmR (g:=gB s one lv) (top:=s.top) (K:=kB s one lv) (x:=(i:Int) - s.depth) (by omega)
 have key:(pck (gB s one lv) s.top (kB s one lv) ((i:Int) - s.depth)).1<=csK (gB s one lv) (kB s one lv) ((i:Int) - s.depth) y:=by
  unfold csK
  split
  ·exact p2 y (by omega) y2
  ·have:y=(i:Int) - s.depth:=by omega
   rw [this]
   exact p1
 unfold gB kB at *
 omega
end My
set_option Elab.async false
set_option linter.all false
set_option maxRecDepth 100000
set_option exponentiation.threshold 9000
namespace My
open PySem PySem.Spec PyProof.Rows L2 Tw
theorem Zp4 (s:Shp) (y f:Int):Zdi (y - f) (0 - s.depth)=s.nx y f:=by
 unfold Shp.nx
 have e:0 - s.depth=-s.depth:=by omega
 rw [e]
theorem Zme {s:Shp} (h:s.Ok) {x y:Int} (x1:-s.depth<=x) (xy:x<=y) (y2:y<=s.top):Zb7 [.d s.d,.d (.int x),.d (.int y)]=.ret (.d (.int (s.ord x y))):=by
 have:=h.t0
 have:=h.d0
 have:=h.td
 have g1:=Zap h.start (by decide)
 have g2:=Zap (show nb 20 (1:Int) from Zbk (by decide) (by decide)) (by decide)
 have g3:=Zap (show nb 20 (0:Int) from Zbk (by decide) (by decide)) (by decide)
 have g4:=Zap h.piece (by decide)
 have g5:=Zap (show nb 20 (y - x) from Zbk (by show -1048576 < _; omega) (by show _ < 1048576; omega)) (by decide)
 have g6:=Zap (ZbY h.start (Za3 h.piece (show nb 20 (y - x) from Zbk (by show -1048576 < _; omega) (by show _ < 1048576; omega)))) (by decide)
 unfold Shp.ord
 by_cases hp:y > x
 ·rw [if_neg (by omega)]
  simp_arith [Zb7,decide_eq_true hp,if_true,g1,g2,g4,g5,g6,Int.mul_one]
 ·rw [if_pos (by omega)]
  have e:y - x=0:=by omega
  simp_arith [Zb7,decide_eq_false hp,g1,g3,g4,e,Int.mul_zero,Bool.false_eq_true,if_false,Int.add_zero]
theorem Zmd {t b:Int} (hb:0 < b) (nB:nb 7000 b):ZcL [.d (.int t),.d (.int b)]=.ret (.d (shD t b)):=by
 obtain ⟨z,rfl⟩:∃ z:Nat,b=(z:Int):=⟨b.toNat,by omega⟩
 have key:=euclid (p:=ZcG) (s:=ZcN) (E:=λa b'=>[.d (.int t),.d (.int z),.d (.int a),.d (.int b')]) (λa b=>by
  simp_arith [ZcG]
  by_cases h:b=0
  ·subst h; rfl
  ·rw [decide_eq_true h]
   congr 1
   simp
   omega) (λa b h=>by
  have h':(b:Int)≠0:=by omega
  simp_arith [ZcN,ZkA h',Zgd]) 8000 83999 t.natAbs z (Nat.lt_of_lt_of_le (show z < 2 ^ 7000 from by unfold nb at nB; rwa [Int.natAbs_natCast] at nB) (Nat.pow_le_pow_right (by decide) (by decide)))
 have e:2 * 8000+1+83999=100000:=rfl
 rw [e] at key
 have hd:=Gc.den_ne (t:=t) (b:=(z:Int)) (by omega)
 have hf:=Zap (Zm6 (t:=t) nB (by omega)) (by decide)
 have ed:Gc.den t (z:Int)=((Nat.gcd t.natAbs z:Nat):Int):=by unfold Gc.den Gc.gcdI; rw [if_neg (by omega),Int.natAbs_natCast]
 unfold shD Gc.lowT Gc.lowB
 rw [ed] at hd hf ⊢
 simp_arith [ZcL,ZhY,key,Zc3 hd hf]
end My
set_option Elab.async false
set_option linter.all false
set_option maxRecDepth 100000
set_option exponentiation.threshold 9000
namespace My
open PySem PySem.Spec PyProof.Rows L2 Tw
theorem Zmi {s:Shp} (d0:0<=s.depth) (y f:Int):(if y - f > 0 then s.keep * (y - f) else s.lack * (0 - (y - f) - Zdi 0 (0 - s.depth - (y - f)))+s.lost * Zdi 0 (0 - s.depth - (y - f)))=s.day y f:=by
 unfold Shp.day Shp.nx
 generalize y - f=r
 by_cases h:r > 0
 ·have e:Zdi r (-s.depth)=r:=by unfold Zdi; split <;> omega
  rw [e,if_pos h,if_pos h,Int.sub_self,Int.mul_zero,Int.add_zero]
 ·have e:Zdi r (-s.depth)=r+Zdi 0 (0 - s.depth - r):=by unfold Zdi; split <;> split <;> omega
  have h2:¬ Zdi r (-s.depth) > 0:=by unfold Zdi; split <;> omega
  rw [if_neg h,if_neg h2,e]
  generalize Zdi 0 (0 - s.depth - r)=z
  have e1:0 - r - z=-(r+z):=by omega
  have e2:r+z - r=z:=by omega
  rw [e1,e2]
theorem Zoj (s:Shp) (y f:Int):Zdd [.d s.d,.d (.int y),.d (.int f)]=.ret (.d (.int (s.nx y f))):=by
 simp_arith [Zdd,Zp4]
theorem Zqz {s:Shp} (h:s.Ok) {y f:Int} (y1:-s.depth<=y) (y2:y<=s.top) (f0:0<=f) (f1:f<=16):Zc0 [.d s.d,.d (.int y),.d (.int f)]=.ret (.d (.int (s.day y f))):=by
 have:=h.t0
 have d0:=h.d0
 have:=h.td
 have z1:0<=Zdi 0 (0 - s.depth - (y - f))/\Zdi 0 (0 - s.depth - (y - f))<=1000:=by unfold Zdi; split <;> omega
 have n1:nb 20 (y - f):=Zbk (by show -1048576 < _; omega) (by show _ < 1048576; omega)
 have n2:nb 20 (Zdi 0 (0 - s.depth - (y - f))):=Zbk (by show -1048576 < _; omega) (by show _ < 1048576; omega)
 have n3:nb 20 (0 - (y - f) - Zdi 0 (0 - s.depth - (y - f))):=Zbk (by show -1048576 < _; omega) (by show _ < 1048576; omega)
 have g1:=Zap h.keep (by decide)
 have g2:=Zap h.lack (by decide)
 have g3:=Zap h.lost (by decide)
 have g4:=Zap n1 (by decide)
 have g5:=Zap n2 (by decide)
 have g6:=Zap n3 (by decide)
 rw [<- Zmi d0]
 by_cases hr:y - f > 0
 ·rw [if_pos hr]
  simp_arith [Zc0,decide_eq_true hr,g1,g4]
 ·rw [if_neg hr]
  simp_arith [Zc0,decide_eq_false hr,g2,g3,g5,g6]
noncomputable def shr (p:Int×Int):PyData:=.tuple [.int p.1,.int p.2]
structure IsSh (p:Int×Int):Prop where
 pos:0 < p.2
 one:Nat.gcd p.1.natAbs p.2.natAbs=1
noncomputable def shB (p:Int×Int):Bool:=decide (0 < p.2) && (Nat.gcd p.1.natAbs p.2.natAbs == 1)
theorem ZfT (p:Int×Int):shB p=true ↔ IsSh p:=by
 unfold shB
 rw [Bool.and_eq_true,decide_eq_true_iff,beq_iff_eq]
 exact ⟨λ⟨a,b⟩=>⟨a,b⟩,λh=>⟨h.pos,h.one⟩⟩
theorem ZmD:((((2:Nat):Int)) == 2)=true:=rfl
theorem Znn:((((3:Nat):Int)) == 3)=true:=rfl
theorem Zn7 (n:Int):Zn9 "int" (tyD (.int n))=true:=rfl
theorem Zn8 (n:Int):Zn9 "bool" (tyD (.int n))=false:=rfl
theorem Zd5 (xs:List PyData):Zn9 "tuple" (tyD (.tuple xs))=true:=rfl
theorem ZdO (n:Int):ZbN [.d (.int n)]=.ret (.d (.bool true)):=by
 simp_arith [ZbN,Zn7,Zn8,Bool.not_false]
theorem Zm1 {p:Int×Int} (hn:nb 7000 p.2):Za0 [.d (shr p)]=.ret (.d (.bool (shB p))):=by
 obtain ⟨t,b⟩:=p
 have hn:nb 7000 b:=hn
 unfold shB shr
 show Za0 [.d (.tuple [.int t,.int b])]=.ret (.d (.bool (decide (0 < b) && (Nat.gcd t.natAbs b.natAbs == 1))))
 by_cases hb:0 < b
 ·obtain ⟨z,rfl⟩:∃ z:Nat,b=(z:Int):=⟨b.toNat,by omega⟩
  have key:=euclid (p:=ZaY) (s:=Zbw) (E:=λa b'=>[.d (.tuple [.int t,.int z]),.d (.int a),.d (.int b')]) (λa b=>by
   simp_arith [ZaY]
   by_cases h:b=0
   ·subst h; rfl
   ·rw [decide_eq_true h]
    congr 1
    simp
    omega) (λa b h=>by
   have h':(b:Int)≠0:=by omega
   simp_arith [Zbw,ZkA h',Zgd]) 8000 83999 t.natAbs z (Nat.lt_of_lt_of_le (show z < 2 ^ 7000 from by unfold nb at hn; rwa [Int.natAbs_natCast] at hn) (Nat.pow_le_pow_right (by decide) (by decide)))
  have e:2 * 8000+1+83999=100000:=rfl
  rw [e] at key
  have eg:(((Nat.gcd t.natAbs z:Nat):Int) == 1)=(Nat.gcd t.natAbs (z:Int).natAbs == 1):=by
   rw [Int.natAbs_natCast]
   by_cases h1:Nat.gcd t.natAbs z=1
   ·rw [h1]; rfl
   ·rw [beq_eq_false_iff_ne.mpr h1]
    exact beq_eq_false_iff_ne.mpr (by omega)
  have hb':(z:Int) > 0:=hb
  simp_arith [Za0,Zd5,ZmD,Bool.not_true,ZdO,ZhY,key,decide_eq_true hb',decide_eq_true hb,eg,Bool.true_and]
 ·have hw:∀ A B:Sl,whL ZaY Zbw 100000 [A,B,.d (.int b)]=.ret (.next [A,B,.d (.int b)]):=λA B=>by
   have e:(100000:Nat)=99999+1:=rfl
   have e1:ZaY [A,B,.d (.int b)]=.ret false:=by
    simp_arith [ZaY,decide_eq_false (show ¬ b > 0 from hb)]
   rw [e,whL,e1,Tr.ret_bind]
   rfl
  simp_arith [Za0,Zd5,ZmD,Bool.not_true,ZdO,hw,decide_eq_false (show ¬ b > 0 from hb),decide_eq_false hb,Bool.false_and]
noncomputable def ppD (m:Int×Int) (ws:List (Int×Int)) (ls:List Int):PyData:=.tuple [shr m,.tuple (ws.map shr),tI ls]
noncomputable def fmB (s:Shp) (ws:List (Int×Int)) (ls:List Int) (i:Nat):Prop:=(∃ p,ws[i]?=some p/\shB p=true)/\∃ y,ls[i]?=some y/\(i:Int) - s.depth<=y/\y<=s.top
theorem hf2 {s:Shp} {m:Int×Int} {ws:List (Int×Int)} {ls:List Int} (hw:∀ p∈ws,nb 7000 p.2) {i:Nat} (i1:i < ws.length) (i2:i < ls.length) (A B J:Sl) :
  (fmB s ws ls i/\∃ J',ZaL [.d s.d,.d (ppD m ws ls),A,B,.d (.int i),J]=.ret (.next [.d s.d,.d (ppD m ws ls),A,B,.d (.int i),J'])) \/
  (¬ fmB s ws ls i/\ZaL [.d s.d,.d (ppD m ws ls),A,B,.d (.int i),J]=.ret (.ret (.d (.bool false)))):=by
 have a1:atI (ws.map shr) (i:Int)=some (shr ws[i]):=ZcC (by omega) (by rw [List.getElem?_map,show ((i:Int)).toNat=i by omega,List.getElem?_eq_getElem i1]; rfl)
 have a2:atI (ls.map PyData.int) (i:Int)=some (.int ls[i]):=ZcC (by omega) (by rw [List.getElem?_map,show ((i:Int)).toNat=i by omega,List.getElem?_eq_getElem i2]; rfl)
 have e1:=Zm1 (hw ws[i] (List.getElem_mem i1))
 have g1:ws[i]?=some ws[i]:=List.getElem?_eq_getElem i1
 have g2:ls[i]?=some ls[i]:=List.getElem?_eq_getElem i2
 by_cases c1:shB ws[i]=true
 ·rw [c1] at e1
  by_cases c2:(i:Int) - s.depth<=ls[i]
  ·by_cases c3:ls[i]<=s.top
   ·refine .inl ⟨⟨⟨_,g1,c1⟩,_,g2,c2,c3⟩,.d (.int ls[i]),?_⟩
    simp_arith [ZaL,ppD,tI,a1,a2,e1,ZdO,Bool.not_true,decide_eq_true c2,decide_eq_true c3]
   ·refine .inr ⟨λ⟨_,y,h1,h2,h3⟩=>c3 (by rw [g2] at h1; cases h1; exact h3),?_⟩
    simp_arith [ZaL,ppD,tI,a1,a2,e1,ZdO,Bool.not_true,Bool.not_false,decide_eq_true c2,decide_eq_false c3]
  ·refine .inr ⟨λ⟨_,y,h1,h2,h3⟩=>c2 (by rw [g2] at h1; cases h1; exact h2),?_⟩
   simp_arith [ZaL,ppD,tI,a1,a2,e1,ZdO,Bool.not_true,Bool.not_false,decide_eq_false c2]
 ·rw [Bool.not_eq_true] at c1
  rw [c1] at e1
  refine .inr ⟨λ⟨⟨p,h1,h2⟩,_⟩=>(by rw [g1] at h1; cases h1; rw [c1] at h2; cases h2),?_⟩
  simp_arith [ZaL,ppD,tI,a1,a2,e1,Bool.not_false]
theorem hf1 {s:Shp} {n:Nat} {xs:List PyData} (hn:xs.length=n) (T A B:Sl):Zbx [.d s.d,T,.d (.int n),.d (.tuple xs),A,B]=.ret (.next [.d s.d,T,.d (.int n),.d (.tuple xs),A,B]):=by
 have e:(((xs.length:Nat):Int) == (n:Int))=true:=by rw [hn]; simp
 simp_arith [Zbx,Zd5,Bool.not_true,e]
theorem ZqA {s:Shp} (h:s.Ok) {m:Int×Int} {ws:List (Int×Int)} {ls:List Int} (hm:nb 7000 m.2) (hw:∀ p∈ws,nb 7000 p.2) (l1:ws.length=s.n) (l2:ls.length=s.n) :
  ((IsSh m/\∀ i,i < s.n->fmB s ws ls i)/\Za1 [.d s.d,.d (ppD m ws ls)]=.ret (.d (.bool true))) \/
  (¬ (IsSh m/\∀ i,i < s.n->fmB s ws ls i)/\Za1 [.d s.d,.d (ppD m ws ls)]=.ret (.d (.bool false))):=by
 have t0:=h.t0
 have d0:=h.d0
 have td:=h.td
 have hn:=h.n_eq
 have e1:=Zm1 hm
 by_cases c1:shB m=true
 ·rw [c1] at e1
  have en:s.top+s.depth+1=(s.n:Int):=by omega
  have r1:Zlk [.int (s.n:Int)]=.ret (ZbM 0 s.n):=ZeW (Zc2 (by omega) (by omega))
  have ec:L2.cutD [shr m,PyData.tuple (ws.map shr),tI ls] (some 1) none=[PyData.tuple (ws.map shr),tI ls]:=rfl
  have ef:Zdw (ZaU 3) Zbx [PyData.tuple (ws.map shr),tI ls] [.d s.d,.d (ppD m ws ls),.d (.int (s.n:Int)),.un,.un,.un]=.ret (.next [.d s.d,.d (ppD m ws ls),.d (.int (s.n:Int)),.d (tI ls),.un,.un]):=by
   have q1:=hf1 (s:=s) (n:=s.n) (xs:=ws.map shr) (by rw [List.length_map,l1]) (.d (ppD m ws ls)) .un .un
   have q2:=hf1 (s:=s) (n:=s.n) (xs:=ls.map PyData.int) (by rw [List.length_map,l2]) (.d (ppD m ws ls)) .un .un
   simp_arith only [ZbP,tI,q1,q2]
  have kf:=Zky (g:=ZaU 4) (s:=ZaL) (r:=Re.d (.bool false)) (xs:=ZbM 0 s.n) (ρ:=[.d s.d,.d (ppD m ws ls),.d (.int (s.n:Int)),.d (tI ls),.un,.un]) (λpre _=>¬ fmB s ws ls pre.length)
   (λ_ ρ=>∃ J4 J5:Sl,ρ=[.d s.d,.d (ppD m ws ls),.d (.int (s.n:Int)),.d (tI ls),J4,J5]) ⟨_,_,rfl⟩ (λpre x post ρ e hρ=>by
    obtain ⟨J4,J5,rfl⟩:=hρ
    obtain ⟨rfl,hpre⟩:=Zf1 e
    refine ⟨_,rfl,?_⟩
    have ex:(0:Int)+(pre.length:Int)=(pre.length:Int):=by omega
    rw [ex]
    rcases hf2 (s:=s) (m:=m) hw (i:=pre.length) (ls:=ls) (by omega) (by omega) (.d (.int (s.n:Int))) (.d (tI ls)) J5 with ⟨q1,J',q2⟩ | ⟨q1,q2⟩
    ·exact .inr ⟨λz=>z q1,_,q2,_,_,rfl⟩
    ·exact .inl ⟨q1,q2⟩)
  have all_of:(∀ p x q,ZbM 0 (s.n:Int)=p++x::q->¬ ¬ fmB s ws ls p.length)->∀ i,i < s.n->fmB s ws ls i:=λz i hi=>by
   have hl:i < (ZbM 0 (s.n:Int)).length:=by rw [Za4]; omega
   have z1:=z ((ZbM 0 (s.n:Int)).take i) _ ((ZbM 0 (s.n:Int)).drop (i+1)) (by rw [<- List.drop_eq_getElem_cons hl,List.take_append_drop])
   rw [List.length_take,Nat.min_eq_left (by omega)] at z1
   exact Classical.not_not.mp z1
  rcases kf with ⟨⟨p,x,q,q1,q2⟩,q3⟩ | ⟨q1,ρ2,q2,J4,J5,rfl⟩
  ·refine .inr ⟨λz=>q2 (z.2 _ (by have:=congrArg List.length q1; rw [Za4,List.length_append,List.length_cons] at this; omega)),?_⟩
   rw [ppD] at ef q3 ⊢
   simp_arith only [Za1,Zd5,Znn,Bool.not_true,e1,en,ec,ef,r1,q3]
  ·refine .inl ⟨⟨(ZfT m).mp c1,all_of q1⟩,?_⟩
   rw [ppD] at ef q2 ⊢
   simp_arith only [Za1,Zd5,Znn,Bool.not_true,e1,en,ec,ef,r1,q2]
 ·rw [Bool.not_eq_true] at c1
  rw [c1] at e1
  refine .inr ⟨λz=>(by rw [(ZfT m).mpr z.1] at c1; cases c1),?_⟩
  rw [ppD]
  simp_arith only [Za1,Zd5,Znn,Bool.not_true,e1,Bool.not_false]
end My
set_option Elab.async false
set_option linter.all false
set_option maxRecDepth 100000
set_option exponentiation.threshold 9000
namespace My
open PySem PySem.Spec PyProof.Rows L2 Tw Bar
noncomputable def Zc6:Int->List (Int×Int)->Int
 | D,[]=>D
 | D,p::ws=>Zc6 (D * p.2) ws
theorem Zna {c:Nat}:∀ {ws:List (Int×Int)} {b:Nat} {D:Int},nb b D->(∀ p∈ws,nb c p.2)->nb (b+c * ws.length) (Zc6 D ws)
 | [],b,D,h,_=>by rw [Zc6]; exact Zar h (by omega)
 | p::ws,b,D,h,hw=>by
  have ih:=Zna (Za3 h (hw p (by simp))) λq hq=>hw q (List.mem_cons_of_mem _ hq)
  rw [Zc6,List.length_cons,Nat.mul_succ]
  exact Zar ih (by omega)
theorem ZhU:∀ {ws:List (Int×Int)} {D:Int},0 < D->(∀ p∈ws,0 < p.2)->0 < Zc6 D ws
 | [],D,h,_=>h
 | p::ws,D,h,hw=>by rw [Zc6]; exact ZhU (Int.mul_pos h (hw p (by simp))) λq hq=>hw q (List.mem_cons_of_mem _ hq)
theorem Zgm:∀ {ws:List (Int×Int)} {D:Int},D ∣ Zc6 D ws
 | [],D=>Int.dvd_refl _
 | p::ws,D=>by rw [Zc6]; exact Int.dvd_trans (Int.dvd_mul_right D p.2) Zgm
theorem Zk0:∀ {ws:List (Int×Int)} {D:Int} {p:Int×Int},p∈ws->p.2 ∣ Zc6 D ws
 | q::ws,D,p,h=>by
  rw [Zc6]
  rcases List.mem_cons.mp h with rfl | h
  ·exact Int.dvd_trans (Int.dvd_mul_left D p.2) Zgm
  ·exact Zk0 h
theorem ZhL {k:Nat} {D c:Int} (hD:0 < D) (hc:0 < c) (h:nb k D):nb k (D.fdiv c):=by
 have e:D.fdiv c=D / c:=Int.fdiv_eq_ediv_of_nonneg _ (Int.le_of_lt hc)
 have e1:D / c<=D:=Int.ediv_le_self _ (Int.le_of_lt hD)
 have e2:0<=D / c:=Int.ediv_nonneg (Int.le_of_lt hD) (Int.le_of_lt hc)
 rw [e]
 unfold nb at *
 omega
noncomputable def ovr (D:Int) (p:Int×Int):Int:=p.1 * D.fdiv p.2
theorem ZpV {D:Int} {p:Int×Int} (hp:0 < p.2) (hd:p.2 ∣ D):ovr D p * p.2=p.1 * D:=by
 obtain ⟨q,rfl⟩:=hd
 unfold ovr
 rw [Int.fdiv_eq_ediv_of_nonneg _ (Int.le_of_lt hp),Int.mul_ediv_cancel_left _ (Int.ne_of_gt hp)]
 grind
noncomputable def LkS (s:Shp) (one:List Int) (A:Int->Int) (D M x y:Int):Prop:=one.sum * (M+A x)=vB s one A D x y/\∀ z,x<=z->z<=s.top->one.sum * (M+A x)<=vB s one A D x z
noncomputable abbrev lkE (s:Shp) (one:List Int) (T:PyData) (D:Int) (J4:Sl) (A:Int->Int) (M:Int) (k c9 c10 c11 c12 c13 c14 c15:Sl):List Sl:=[.d s.d,.d (tI one),.d T,.d (.int D),J4,.d (lI (s.row A)),.d (.int M),.d (.int one.sum),k,c9,c10,c11,c12,c13,c14,c15]
theorem lk2 {s:Shp} (h:s.Ok) {one:List Int} {y:Int} (y1:-s.depth<=y) (y2:y<=s.top) {A:Int->Int} {b:Nat} (hA:Bd s b A) {D:Int} (hD:nb b D) (hb:b<=5000) (T:PyData) (M:Int) (J4 k c9 c15:Sl) :
  ∀ (l:List Int) (q:Nat) (tot:Int) (J12 J13 J14:Sl),q+l.length<=16->(∀ w∈l,nb 30 w)->∃ K12 K13 K14:Sl,Zdw (ZbH (Zax (ZaU 12) (Zax (ZaU 13) ZbA))) Zch (enu q l) (lkE s one T D J4 A M k c9 (.d (.int y)) (.d (.int tot)) J12 J13 J14 c15)=.ret (.next (lkE s one T D J4 A M k c9 (.d (.int y)) (.d (.int (tot+ws (λf=>D * s.day y f+A (s.nx y f)) q l))) K12 K13 K14 c15))
 | [],q,tot,J12,J13,J14,_,_=>⟨J12,J13,J14,by rw [enu,for_nil,ws,Int.add_zero]⟩
 | w::l,q,tot,J12,J13,J14,hq,hw=>by
  have t0:=h.t0
  have d0:=h.d0
  have td:=h.td
  rw [List.length_cons] at hq
  have n1:=Zga s y q
  have n2:=Zf9 h y2 (show (0:Int)<=q by omega)
  have hy:nb 20 y:=Zbk (by show -1048576 < _; omega) (by show _ < 1048576; omega)
  have hf:nb 40 (q:Int):=Zbk (by show -1099511627776 < _; omega) (by show _ < 1099511627776; omega)
  have e1:=Zoj s y q
  have e2:=Zqz h y1 y2 (show (0:Int)<=q by omega) (by omega)
  have e3:=Zhv (f:=A) n1 n2
  have f1:=Zap hD (by omega)
  have f2:=Zap (ZfE h hy hf) (by decide)
  have f3:=Zap (hw w (by simp)) (by decide)
  have f4:=Zap (ZbY (Za3 hD (ZfE h hy hf)) (hA _ n1 n2)) (by omega)
  obtain ⟨K12,K13,K14,e⟩:=lk2 h y1 y2 hA hD hb T M J4 k c9 c15 l (q+1) (tot+w * (D * s.day y q+A (s.nx y q))) (.d (.int q)) (.d (.int w)) (.d (.int (A (s.nx y q)))) (by omega) λv hv=>hw v (List.mem_cons_of_mem _ hv)
  refine ⟨K12,K13,K14,?_⟩
  have et:Zch (lkE s one T D J4 A M k c9 (.d (.int y)) (.d (.int tot)) (.d (.int q)) (.d (.int w)) J14 c15)=.ret (.next (lkE s one T D J4 A M k c9 (.d (.int y)) (.d (.int (tot+w * (D * s.day y q+A (s.nx y q))))) (.d (.int q)) (.d (.int w)) (.d (.int (A (s.nx y q)))) c15)):=by
   simp_arith [Zch,lkE,lI,e1,e2,e3,f1,f2,f3,f4]
  have eg:(ZbH (Zax (ZaU 12) (Zax (ZaU 13) ZbA))) (.tuple [.int (q:Int),.int w]) (lkE s one T D J4 A M k c9 (.d (.int y)) (.d (.int tot)) J12 J13 J14 c15)=some (lkE s one T D J4 A M k c9 (.d (.int y)) (.d (.int tot)) (.d (.int q)) (.d (.int w)) J14 c15):=rfl
  rw [enu,ZbP,eg,Tr.of_some,Tr.ret_bind,ev_for2,et,Tr.ret_bind,ev_for3n,e,ws,Int.add_assoc]
theorem lk3 {s:Shp} (h:s.Ok) {one:List Int} (hd:DayB one) {A:Int->Int} {b:Nat} (hA:Bd s b A) {D:Int} (hD:nb b D) (hb:b<=5000) (T:PyData) (M:Int) (J4 c15:Sl) {i:Nat} (hi:i < s.n) :
  ∀ (m:Nat) (y:Int) (cs:List Int) (J10 J11 J12 J13 J14:Sl),(i:Int) - s.depth<=y->y+m=s.top+1->cs.length+m<=200->∃ K10 K11 K12 K13 K14:Sl,Zdw (ZaU 10) Zcg ((Zak y m).map PyData.int) (lkE s one T D J4 A M (.d (.int i)) (.own (cs.map PyData.int)) J10 J11 J12 J13 J14 c15)=.ret (.next (lkE s one T D J4 A M (.d (.int i)) (.own ((cs++(Zak y m).map λz=>vB s one A D ((i:Int) - s.depth) z).map PyData.int)) K10 K11 K12 K13 K14 c15))
 | 0,y,cs,J10,J11,J12,J13,J14,_,_,_=>⟨J10,J11,J12,J13,J14,by
  show Zdw _ _ [] _=_
  rw [for_nil]
  show _=Tr.ret (Ou.next (lkE s one T D J4 A M (.d (.int i)) (.own ((cs++[]).map PyData.int)) J10 J11 J12 J13 J14 c15))
  rw [List.append_nil]⟩
 | m+1,y,cs,J10,J11,J12,J13,J14,y1,ym,hc=>by
  have t0:=h.t0
  have d0:=h.d0
  have td:=h.td
  have hn:=h.n_eq
  have er:Zak y (m+1)=y::Zak (y+1) m:=by
   have:=Zd2 y 1 m
   rw [Nat.add_comm 1 m] at this
   rw [this]
   show [y+((0:Nat):Int)]++_=_
   have e0:y+((0:Nat):Int)=y:=by omega
   rw [e0]
   rfl
  have hy:nb 20 y:=Zbk (by show -1048576 < _; omega) (by show _ < 1048576; omega)
  have hx:nb 20 ((i:Int) - s.depth):=Zbk (by show -1048576 < _; omega) (by show _ < 1048576; omega)
  have eo:=Zme h (x:=(i:Int) - s.depth) (y:=y) (by omega) y1 (by omega)
  have on:nb 70 (s.ord ((i:Int) - s.depth) y):=by
   unfold Shp.ord
   refine ZgI (show (0:Int).natAbs < 2 ^ 70 by decide) (Zar (ZbY h.start (Za3 h.piece (ZcS hy hx))) (by decide))
  have sn:=ZbU hd
  have f1:=Zap hD (by omega)
  have f2:=Zap sn (by decide)
  have f3:=Zap (Za3 sn hD) (by omega)
  have f4:=Zap on (by decide)
  have hlen:=hd.len
  obtain ⟨K12,K13,K14,e2⟩:=lk2 h (one:=one) (y:=y) (by omega) (by omega) hA hD hb T M J4 (.d (.int i)) (.own (cs.map PyData.int)) c15 one 0 (one.sum * D * s.ord ((i:Int) - s.depth) y) J12 J13 J14 (by omega) hd.nb
  have hsm:small ((cs.map PyData.int).length+1)=true:=small_le (by rw [List.length_map]; omega)
  have ev:one.sum * D * s.ord ((i:Int) - s.depth) y+ws (λf=>D * s.day y f+A (s.nx y f)) 0 one=vB s one A D ((i:Int) - s.depth) y:=by
   unfold vB Shp.wg
   rw [Int.mul_comm one.sum D]
  rw [ev] at e2
  have et:Zcg (lkE s one T D J4 A M (.d (.int i)) (.own (cs.map PyData.int)) (.d (.int y)) J11 J12 J13 J14 c15)=.ret (.next (lkE s one T D J4 A M (.d (.int i)) (.own ((cs++[vB s one A D ((i:Int) - s.depth) y]).map PyData.int)) (.d (.int y)) (.d (.int (vB s one A D ((i:Int) - s.depth) y))) K12 K13 K14 c15)):=by
   simp only [lkE] at e2 ⊢
   simp_arith [Zcg,eo,f1,f2,f3,f4,Zl1,ZkF,e2,hsm]
   rw [List.map_append]
   rfl
  obtain ⟨k10,k11,k12,k13,k14,e⟩:=lk3 h hd hA hD hb T M J4 c15 hi m (y+1) (cs++[vB s one A D ((i:Int) - s.depth) y]) (.d (.int y)) (.d (.int (vB s one A D ((i:Int) - s.depth) y))) K12 K13 K14 (by omega) (by omega) (by
   rw [List.length_append,List.length_singleton]
   omega)
  refine ⟨k10,k11,k12,k13,k14,?_⟩
  have eg:ZaU 10 (.int y) (lkE s one T D J4 A M (.d (.int i)) (.own (cs.map PyData.int)) J10 J11 J12 J13 J14 c15)=some (lkE s one T D J4 A M (.d (.int i)) (.own (cs.map PyData.int)) (.d (.int y)) J11 J12 J13 J14 c15):=rfl
  rw [er,List.map_cons,ZbP,eg,Tr.of_some,Tr.ret_bind,ev_for2,et,Tr.ret_bind,ev_for3n,e,List.append_assoc]
  rfl
end My
set_option Elab.async false
set_option linter.all false
set_option maxRecDepth 100000
set_option exponentiation.threshold 9000
namespace My
open PySem PySem.Spec PyProof.Rows L2 Tw Bar
noncomputable def atS (s:Shp) (l:List Int) (x:Int):Int:=(l[(x+s.depth).toNat]?).getD 0
theorem Zny {s:Shp} (h:s.Ok) {l:List Int} (hl:l.length=s.n):s.row (atS s l)=l:=by
 have hn:=h.n_eq
 apply List.ext_getElem?
 intro i
 by_cases hi:i < s.n
 ·have e:=ZeD (s:=s) (f:=atS s l) (x:=(i:Int) - s.depth) (by omega) (by omega)
  have ei:((i:Int) - s.depth+s.depth).toNat=i:=by omega
  rw [ei] at e
  rw [e]
  unfold atS
  rw [ei,List.getElem?_eq_getElem (by omega)]
  rfl
 ·rw [List.getElem?_eq_none (by rw [Zhu]; omega),List.getElem?_eq_none (by omega)]
theorem ZqM {s:Shp} {l:List Int} {b:Nat} (h:∀ v∈l,nb b v):Bd s b (atS s l):=λx _ _=>by
 unfold atS
 cases e:l[(x+s.depth).toNat]? with
 | none=>exact Nat.pow_pos (by decide)
 | some v=>exact h v (List.mem_of_getElem? e)
noncomputable def lkA (s:Shp) (m:Int×Int) (ws:List (Int×Int)):Int->Int:=atS s (ws.map (ovr (Zc6 m.2 ws)))
structure LkP (s:Shp) (one:List Int) (m:Int×Int) (ws:List (Int×Int)) (ls:List Int):Prop where
 sm:IsSh m
 fm:∀ i,i < s.n->fmB s ws ls i
 lk:∀ i (h:i < ls.length),LkS s one (lkA s m ws) (Zc6 m.2 ws) (ovr (Zc6 m.2 ws) m) ((i:Int) - s.depth) ls[i]
theorem lk1 {c:Nat} (hc:c<=400) (X0 X1 X2:Sl) (R:List Sl):∀ (ws:List (Int×Int)) (b:Nat) (D:Int) (J4:Sl),nb b D->(∀ p∈ws,nb c p.2)->b+c * ws.length<=8000->∃ K4:Sl,Zdw (ZaU 4) Zci (ws.map shr) (X0::X1::X2::.d (.int D)::J4::R)=.ret (.next (X0::X1::X2::.d (.int (Zc6 D ws))::K4::R))
 | [],b,D,J4,_,_,_=>⟨J4,rfl⟩
 | p::ws,b,D,J4,h,hw,hl=>by
  rw [List.length_cons,Nat.mul_succ] at hl
  obtain ⟨K4,e⟩:=lk1 hc X0 X1 X2 R ws (b+c) (D * p.2) (.d (shr p)) (Za3 h (hw p (by simp))) (λq hq=>hw q (List.mem_cons_of_mem _ hq)) (by omega)
  refine ⟨K4,?_⟩
  have f1:=Zap h (by omega)
  have f2:=Zap (hw p (by simp)) (by omega)
  have et:Zci (X0::X1::X2::.d (.int D)::.d (shr p)::R)=.ret (.next (X0::X1::X2::.d (.int (D * p.2))::.d (shr p)::R)):=by
   simp_arith [Zci,shr,f1,f2]
  have eg:ZaU 4 (shr p) (X0::X1::X2::.d (.int D)::J4::R)=some (X0::X1::X2::.d (.int D)::.d (shr p)::R):=rfl
  rw [List.map_cons,ZbP,eg,Tr.of_some,Tr.ret_bind,ev_for2,et,Tr.ret_bind,ev_for3n,e,Zc6]
theorem lk4 {s:Shp} (h:s.Ok) {one:List Int} (hd:DayB one) {A:Int->Int} {b:Nat} (hA:Bd s b A) {D:Int} (hD:nb b D) (hb:b<=5000) {m:Int×Int} {ws:List (Int×Int)} {ls:List Int} {M:Int} (hM:nb b M) (J4:Sl) {i:Nat} (hi:i < s.n) (hl:ls.length=s.n) (y1:(i:Int) - s.depth<=ls[i]) (y2:ls[i]<=s.top) (J9 J10 J11 J12 J13 J14 J15:Sl) :
  (LkS s one A D M ((i:Int) - s.depth) ls[i]/\∃ K9 K10 K11 K12 K13 K14 K15:Sl,Zbm (lkE s one (ppD m ws ls) D J4 A M (.d (.int i)) J9 J10 J11 J12 J13 J14 J15)=.ret (.next (lkE s one (ppD m ws ls) D J4 A M (.d (.int i)) K9 K10 K11 K12 K13 K14 K15))) \/
  (¬ LkS s one A D M ((i:Int) - s.depth) ls[i]/\Zbm (lkE s one (ppD m ws ls) D J4 A M (.d (.int i)) J9 J10 J11 J12 J13 J14 J15)=.ret (.ret (.d (.bool false)))):=by
 have t0:=h.t0
 have d0:=h.d0
 have td:=h.td
 have hn:=h.n_eq
 obtain ⟨k10,k11,k12,k13,k14,e3⟩:=lk3 h hd hA hD hb (ppD m ws ls) M J4 J15 hi (s.top+1 - ((i:Int) - s.depth)).toNat ((i:Int) - s.depth) [] J10 J11 J12 J13 J14 (Int.le_refl _) (by omega) (by rw [List.length_nil]; omega)
 rw [List.nil_append] at e3
 have r1:ZoR [.int ((i:Int) - s.depth),.int (s.top+1)]=.ret ((Zak ((i:Int) - s.depth) (s.top+1 - ((i:Int) - s.depth)).toNat).map PyData.int):=ZmX (Zc2 (by omega) (by omega)) (Zc2 (by omega) (by omega))
 have ea:=Zhv (s:=s) (f:=A) (x:=(i:Int) - s.depth) (by omega) (by omega)
 have ei:(i:Int) - s.depth+s.depth=i:=by omega
 rw [ei] at ea
 have el:atI (ls.map PyData.int) (i:Int)=some (.int ls[i]):=ZcC (by omega) (by rw [List.getElem?_map,show ((i:Int)).toNat=i by omega,List.getElem?_eq_getElem (by omega)]; rfl)
 have hne:((Zak ((i:Int) - s.depth) (s.top+1 - ((i:Int) - s.depth)).toNat).map λz=>vB s one A D ((i:Int) - s.depth) z)≠[]:=by
  intro z
  have:=congrArg List.length z
  rw [List.length_map,ZaR,List.length_nil] at this
  omega
 have em:=ZnV _ hne
 obtain ⟨m1,m2⟩:=ZeQ hne
 have ev:atI (((Zak ((i:Int) - s.depth) (s.top+1 - ((i:Int) - s.depth)).toNat).map λz=>vB s one A D ((i:Int) - s.depth) z).map PyData.int) (ls[i] - i+s.depth)=some (.int (vB s one A D ((i:Int) - s.depth) ls[i])):=by
  refine ZcC (by omega) ?_
  rw [List.getElem?_map,List.getElem?_map]
  unfold Zak
  rw [List.getElem?_map,List.getElem?_range (by omega)]
  show some (PyData.int (vB s one A D ((i:Int) - s.depth) ((i:Int) - s.depth+((ls[i] - i+s.depth).toNat:Int))))=_
  have:(i:Int) - s.depth+((ls[i] - i+s.depth).toNat:Int)=ls[i]:=by omega
  rw [this]
 have f1:=Zap (ZbU hd) (by decide)
 have f2:=Zap (ZbY hM (hA ((i:Int) - s.depth) (by omega) (by omega))) (by omega)
 have inl:∀ z,(i:Int) - s.depth<=z->z<=s.top->vB s one A D ((i:Int) - s.depth) z∈(Zak ((i:Int) - s.depth) (s.top+1 - ((i:Int) - s.depth)).toNat).map λz=>vB s one A D ((i:Int) - s.depth) z:=λz z1 z2=>List.mem_map.mpr ⟨z,by
  unfold Zak
  exact List.mem_map.mpr ⟨(z - ((i:Int) - s.depth)).toNat,List.mem_range.mpr (by omega),by omega⟩,rfl⟩
 have key:LkS s one A D M ((i:Int) - s.depth) ls[i] ↔ (Zhk ((Zak ((i:Int) - s.depth) (s.top+1 - ((i:Int) - s.depth)).toNat).map λz=>vB s one A D ((i:Int) - s.depth) z)=one.sum * (M+A ((i:Int) - s.depth))/\vB s one A D ((i:Int) - s.depth) ls[i]=one.sum * (M+A ((i:Int) - s.depth))):=by
  constructor
  ·rintro ⟨q1,q2⟩
   refine ⟨Int.le_antisymm ?_ ?_,q1.symm⟩
   ·rw [q1]
    exact m2 _ (inl _ y1 y2)
   ·obtain ⟨z,z1,z2⟩:=List.mem_map.mp m1
    have:=Zd1 z1
    rw [<- z2]
    exact q2 z (by omega) (by omega)
  ·rintro ⟨q1,q2⟩
   refine ⟨q2.symm,λz z1 z2=>?_⟩
   rw [<- q1]
   exact m2 _ (inl z z1 z2)
 generalize hcs:(Zak ((i:Int) - s.depth) (s.top+1 - ((i:Int) - s.depth)).toNat).map (λz=>vB s one A D ((i:Int) - s.depth) z)=cs at *
 generalize hdue:one.sum * (M+A ((i:Int) - s.depth))=due at *
 generalize hv:vB s one A D ((i:Int) - s.depth) ls[i]=v at *
 simp only [lkE,List.map_nil,ppD,tI,lI] at e3 ea ⊢
 by_cases c1:Zhk cs=due
 ·by_cases c2:v=due
  ·refine .inl ⟨key.mpr ⟨c1,c2⟩,.own (cs.map PyData.int),k10,k11,k12,k13,k14,.d (.int due),?_⟩
   have b1:(!Zhk cs == due)=false:=by rw [c1]; simp
   have b2:(!v == due)=false:=by rw [c2]; simp
   simp_arith [Zbm,r1,e3,ea,el,f1,f2,hdue,em,ev,b1,b2]
  ·refine .inr ⟨λz=>c2 (key.mp z).2,?_⟩
   have b1:(!Zhk cs == due)=false:=by rw [c1]; simp
   have b2:(!v == due)=true:=by rw [beq_eq_false_iff_ne.mpr c2]; rfl
   simp_arith [Zbm,r1,e3,ea,el,f1,f2,hdue,em,ev,b1,b2]
 ·refine .inr ⟨λz=>c1 (key.mp z).1,?_⟩
  have b1:(!Zhk cs == due)=true:=by rw [beq_eq_false_iff_ne.mpr c1]; rfl
  simp_arith [Zbm,r1,e3,ea,el,f1,f2,hdue,em,b1]
theorem lkq {c:Nat} {D:Int} (hD:0 < D) {b:Nat} (nD:nb b D) (hb:b<=4000) (X:Sl):∀ ws:List (Int×Int),(∀ p∈ws,0 < p.2/\nb 400 p.2/\nb 2000 p.1)->Zdb (lc2 (ZaU 0) Zcc [X,.d (.int D)]) (ws.map shr)=.ret ((ws.map (ovr D)).map PyData.int)
 | [],_=>rfl
 | p::ws,hw=>by
  obtain ⟨p0,p1,p2⟩:=hw p (by simp)
  have f1:=Zap p2 (by decide)
  have f2:=Zap (ZhL hD p0 nD) (by omega)
  have ed:=Zc3 (m:=D) (n:=p.2) (by omega) (Zap p1 (by decide))
  have e0:lc2 (ZaU 0) Zcc [X,.d (.int D)] (shr p)=.ret (.int (ovr D p)):=by
   simp_arith [Zcc,shr,ed,f1,f2,ovr]
  rw [List.map_cons,Zdb,e0,Tr.ret_bind,lkq (c:=c) hD nD hb X ws λq hq=>hw q (List.mem_cons_of_mem _ hq)]
  rfl
theorem Zqy {s:Shp} (h:s.Ok) (n8:s.n<=9) {one:List Int} (hd:DayB one) {m:Int×Int} {ws:List (Int×Int)} {ls:List Int} (hm:nb 230 m.2/\nb 1800 m.1) (hw:∀ p∈ws,nb 230 p.2/\nb 1800 p.1) (l1:ws.length=s.n) (l2:ls.length=s.n) :
  (LkP s one m ws ls/\Zbf [.d s.d,.d (tI one),.d (ppD m ws ls)]=.ret (.d (.bool true)))\/(¬ LkP s one m ws ls/\Zbf [.d s.d,.d (tI one),.d (ppD m ws ls)]=.ret (.d (.bool false))):=by
 rcases ZqA h (m:=m) (ws:=ws) (ls:=ls) (Zar hm.1 (by decide)) (λp hp=>Zar (hw p hp).1 (by decide)) l1 l2 with ⟨⟨f1,f2⟩,ef⟩ | ⟨f1,ef⟩
 ·have hn:=h.n_eq
  have t0:=h.t0
  have d0:=h.d0
  have w0:∀ p∈ws,0 < p.2:=λp hp=>by
   obtain ⟨i,hi,rfl⟩:=List.mem_iff_getElem.mp hp
   obtain ⟨⟨q,h1,h2⟩,_⟩:=f2 i (by omega)
   rw [List.getElem?_eq_getElem hi] at h1
   cases h1
   exact ((ZfT _).mp h2).pos
  have hlv:∀ i (hi:i < ls.length),(i:Int) - s.depth<=ls[i]/\ls[i]<=s.top:=λi hi=>by
   obtain ⟨_,y,h1,h2,h3⟩:=f2 i (by omega)
   rw [List.getElem?_eq_getElem hi] at h1
   cases h1
   exact ⟨h2,h3⟩
  have hD:=ZhU f1.pos w0
  have nD:nb 2300 (Zc6 m.2 ws):=Zar (Zna (c:=230) hm.1 λp hp=>(hw p hp).1) (by rw [l1]; omega)
  obtain ⟨K4,e1⟩:=lk1 (c:=230) (by decide) (.d s.d) (.d (tI one)) (.d (ppD m ws ls)) [.un,.un,.un,.un,.un,.un,.un,.un,.un,.un,.un] ws 230 m.2 .un hm.1 (λp hp=>(hw p hp).1) (by rw [l1]; omega)
  have e2:=lkq (c:=0) hD nD (by decide) .un ws λp hp=>⟨w0 p hp,Zar (hw p hp).1 (by decide),Zar (hw p hp).2 (by decide)⟩
  have ed:=Zc3 (m:=Zc6 m.2 ws) (n:=m.2) (by have:=f1.pos; omega) (Zap hm.1 (by decide))
  have g1:=Zap hm.2 (by decide)
  have g2:=Zap (ZhL hD f1.pos nD) (by decide)
  have hsm:small (ws.map shr).length=true:=small_le (by rw [List.length_map]; omega)
  have nO:∀ p:Int×Int,0 < p.2->nb 1800 p.1->nb 4200 (ovr (Zc6 m.2 ws) p):=λp h1 h2=>Zar (Za3 h2 (ZhL hD h1 nD)) (by decide)
  have hA:Bd s 4200 (lkA s m ws):=ZqM λv hv=>by
   obtain ⟨p,hp,rfl⟩:=List.mem_map.mp hv
   exact nO p (w0 p hp) (hw p hp).2
  have er:(ws.map (ovr (Zc6 m.2 ws)))=s.row (lkA s m ws):=(Zny h (by rw [List.length_map,l1])).symm
  have hM:=nO m f1.pos hm.2
  have em:ovr (Zc6 m.2 ws) m=m.1 * (Zc6 m.2 ws).fdiv m.2:=rfl
  have elen:((s.row (lkA s m ws)).map PyData.int).length=s.n:=by rw [List.length_map,Zhu]
  have r1:Zlk [.int (s.n:Int)]=.ret (ZbM 0 s.n):=ZeW (Zc2 (by omega) (by omega))
  have kf:=Zky (g:=ZaU 8) (s:=Zbm) (r:=Re.d (.bool false)) (xs:=ZbM 0 s.n) (ρ:=lkE s one (ppD m ws ls) (Zc6 m.2 ws) K4 (lkA s m ws) (ovr (Zc6 m.2 ws) m) .un .un .un .un .un .un .un .un) (λpre _=>∃ hi:pre.length < ls.length,¬ LkS s one (lkA s m ws) (Zc6 m.2 ws) (ovr (Zc6 m.2 ws) m) ((pre.length:Int) - s.depth) ls[pre.length])
   (λ_ ρ=>∃ a b c d e f g k:Sl,ρ=lkE s one (ppD m ws ls) (Zc6 m.2 ws) K4 (lkA s m ws) (ovr (Zc6 m.2 ws) m) a b c d e f g k) ⟨_,_,_,_,_,_,_,_,rfl⟩ (λpre x post ρ e hρ=>by
    obtain ⟨a,b,c,d,e',f,g,k,rfl⟩:=hρ
    obtain ⟨rfl,hpre⟩:=Zf1 e
    refine ⟨_,rfl,?_⟩
    have ex:(0:Int)+(pre.length:Int)=(pre.length:Int):=by omega
    rw [ex]
    have hi:pre.length < ls.length:=by omega
    rcases lk4 h hd hA (Zar nD (by decide)) (by decide) (m:=m) (ws:=ws) (ls:=ls) hM K4 (i:=pre.length) (by omega) l2 (hlv _ hi).1 (hlv _ hi).2 b c d e' f g k with ⟨q1,a1,a2,a3,a4,a5,a6,a7,q2⟩ | ⟨q1,q2⟩
    ·exact .inr ⟨λ⟨_,z⟩=>z q1,_,q2,_,a1,a2,a3,a4,a5,a6,a7,rfl⟩
    ·exact .inl ⟨⟨hi,q1⟩,q2⟩)
  have all_of:(∀ p x q,ZbM 0 (s.n:Int)=p++x::q->¬ ∃ hi:p.length < ls.length,¬ LkS s one (lkA s m ws) (Zc6 m.2 ws) (ovr (Zc6 m.2 ws) m) ((p.length:Int) - s.depth) ls[p.length])->∀ i (hi:i < ls.length),LkS s one (lkA s m ws) (Zc6 m.2 ws) (ovr (Zc6 m.2 ws) m) ((i:Int) - s.depth) ls[i]:=λz i hi=>by
   have hl:i < (ZbM 0 (s.n:Int)).length:=by rw [Za4]; omega
   have z1:=z ((ZbM 0 (s.n:Int)).take i) _ ((ZbM 0 (s.n:Int)).drop (i+1)) (by rw [<- List.drop_eq_getElem_cons hl,List.take_append_drop])
   have el:((ZbM 0 (s.n:Int)).take i).length=i:=by rw [List.length_take,Nat.min_eq_left (by omega)]
   refine Classical.byContradiction λc=>z1 ?_
   rw [show (∃ hi:((ZbM 0 (s.n:Int)).take i).length < ls.length,¬ LkS s one (lkA s m ws) (Zc6 m.2 ws) (ovr (Zc6 m.2 ws) m) ((((ZbM 0 (s.n:Int)).take i).length:Int) - s.depth) ls[((ZbM 0 (s.n:Int)).take i).length]) ↔ ∃ hi:i < ls.length,¬ LkS s one (lkA s m ws) (Zc6 m.2 ws) (ovr (Zc6 m.2 ws) m) ((i:Int) - s.depth) ls[i] by simp only [el]]
   exact ⟨hi,c⟩
  simp only [lkE,lI] at kf
  rw [er] at e2
  rcases kf with ⟨⟨p,x,q,q1,⟨hi,q2⟩⟩,q3⟩ | ⟨q1,ρ2,q2,a,b,c,d,e,f,g,k,rfl⟩
  ·refine .inr ⟨λz=>q2 (z.lk _ hi),?_⟩
   rw [em] at q3
   simp only [ppD,shr] at e1 ef q3 ⊢
   simp_arith only [Zbf,ef,Bool.not_true,e1,hsm,e2,ed,g1,g2,Zfu,elen,r1,q3]
  ·refine .inl ⟨⟨f1,f2,all_of q1⟩,?_⟩
   rw [em] at q2
   simp only [ppD,shr] at e1 ef q2 ⊢
   simp_arith only [Zbf,ef,Bool.not_true,e1,hsm,e2,ed,g1,g2,Zfu,elen,r1,q2]
 ·refine .inr ⟨λz=>f1 ⟨z.sm,z.fm⟩,?_⟩
  simp_arith only [Zbf,ef,Bool.not_false]
end My
set_option Elab.async false
set_option linter.all false
set_option maxRecDepth 100000
set_option exponentiation.threshold 9000
namespace My
open PySem PySem.Spec PyProof.Rows L2 Tw Bar
theorem Zo0 {s:Shp} (h:s.Ok) {one:List Int} {A B:Int->Int} {D D' c e:Int} (hD:c * D=e * D') (hA:∀ x,-s.depth<=x->x<=s.top->c * A x=e * B x) {y:Int} (y2:y<=s.top):c * s.wg one y A D=e * s.wg one y B D':=by
 unfold Shp.wg
 rw [<- Zfq,<- Zfq]
 refine ZdB λf hf=>?_
 have k:=hA _ (Zga s y f) (Zf9 h y2 hf)
 rw [Int.mul_add,Int.mul_add,k,<- Int.mul_assoc,<- Int.mul_assoc,hD]
theorem ZmB {s:Shp} (h:s.Ok) {one:List Int} {A B:Int->Int} {D D' c e:Int} (hD:c * D=e * D') (hA:∀ x,-s.depth<=x->x<=s.top->c * A x=e * B x) {x y:Int} (y2:y<=s.top):c * vB s one A D x y=e * vB s one B D' x y:=by
 unfold vB
 rw [Int.mul_add,Int.mul_add,Zo0 h hD hA y2]
 have e1:c * (D * one.sum * s.ord x y)=c * D * (one.sum * s.ord x y):=by grind
 have e2:e * (D' * one.sum * s.ord x y)=e * D' * (one.sum * s.ord x y):=by grind
 rw [e1,e2,hD]
theorem ZnZ {s:Shp} (h:s.Ok) {one:List Int} {A B:Int->Int} {D D' c e M M':Int} (c0:0 < c) (e0:0 < e) (hD:c * D=e * D') (hM:c * M=e * M') (hA:∀ x,-s.depth<=x->x<=s.top->c * A x=e * B x) {x y:Int} (x1:-s.depth<=x) (x2:x<=s.top) (y2:y<=s.top) (k:LkS s one B D' M' x y):LkS s one A D M x y:=by
 obtain ⟨k1,k2⟩:=k
 have eq:c * (one.sum * (M+A x))=e * (one.sum * (M'+B x)):=by
  have:c * (one.sum * (M+A x))=one.sum * (c * M+c * A x):=by grind
  rw [this,hM,hA x x1 x2]
  grind
 refine ⟨Int.eq_of_mul_eq_mul_left (Int.ne_of_gt c0) ?_,λz z1 z2=>Int.le_of_mul_le_mul_left ?_ c0⟩
 ·rw [eq,ZmB h hD hA y2,k1]
 ·rw [eq,ZmB h hD hA z2]
  exact Int.mul_le_mul_of_nonneg_left (k2 z z1 z2) (Int.le_of_lt e0)
theorem Zid {s:Shp} {one:List Int} {lv:Nat->Int} (r:RuOk s one lv) {A A':Int->Int} {D D' M M':Int} (z0:A (-s.depth)=0) (z0':A' (-s.depth)=0) (D0':0 < D')
  (hle:∀ i,i < s.n->one.sum * (M+A ((i:Int) - s.depth))<=vB s one A D ((i:Int) - s.depth) (lv i)) (hown:∀ i,i < s.n->one.sum * (M'+A' ((i:Int) - s.depth))=vB s one A' D' ((i:Int) - s.depth) (lv i)) :
  D' * M < D * M'\/(D' * M=D * M'/\∀ i,i < s.n->D' * A ((i:Int) - s.depth)<=D * A' ((i:Int) - s.depth)):=by
 have h:=r.h
 have hn:=h.n_eq
 have t0:=h.t0
 have d0:=h.d0
 have ez:∀ (A:Int->Int) (M:Int),A (-s.depth)=0->∀ x,-s.depth<=x->x<=s.top->A x=if (x+s.depth).toNat=0 then 0 else (λl:Nat=>if l=0 then M else A ((l:Int) - s.depth)) (x+s.depth).toNat:=λA M z x x1 x2=>by
  by_cases c:(x+s.depth).toNat=0
  ·rw [if_pos c]
   have:x=-s.depth:=by omega
   rw [this,z]
  ·rw [if_neg c]
   show A x=if (x+s.depth).toNat=0 then M else A (((x+s.depth).toNat:Int) - s.depth)
   rw [if_neg c]
   congr 1
   omega
 have key:=improve (Zfy r) (by omega) (y:=λl=>D' * (λl:Nat=>if l=0 then M else A ((l:Int) - s.depth)) l - D * (λl:Nat=>if l=0 then M' else A' ((l:Int) - s.depth)) l) (s:=λi=>D' * (vB s one A D ((i:Int) - s.depth) (lv i) - one.sum * (M+A ((i:Int) - s.depth))))
  (λi hi=>Int.mul_nonneg (Int.le_of_lt D0') (by have:=hle i hi; omega))
  (λi hi=>by
   have a1:=ZeC r (λl:Nat=>if l=0 then M else A ((l:Int) - s.depth)) A (ez A M z0) D hi
   have a2:=ZeC r (λl:Nat=>if l=0 then M' else A' ((l:Int) - s.depth)) A' (ez A' M' z0') D' hi
   have a3:=hown i hi
   rw [Int.mul_add] at a3
   rw [Zcn,a1,a2,<- a3,if_pos rfl,if_pos rfl]
   grind)
 rcases key with k | ⟨k,k2⟩
 ·have k':D' * M - D * M' < 0:=k
  exact .inl (by omega)
 ·have k':D' * M - D * M'=0:=k
  refine .inr ⟨by omega,λi hi=>?_⟩
  by_cases c:i=0
  ·subst c
   have e:((0:Nat):Int) - s.depth=-s.depth:=by omega
   rw [e,z0,z0',Int.mul_zero,Int.mul_zero]
   exact Int.le_refl _
  ·have k3:D' * (if i=0 then M else A ((i:Int) - s.depth)) - D * (if i=0 then M' else A' ((i:Int) - s.depth))<=0:=k2 i (by omega) hi
   rw [if_neg c,if_neg c] at k3
   omega
theorem Zic {s:Shp} {one:List Int} {lv lv':Nat->Int} (r:RuOk s one lv) (r':RuOk s one lv') {A A':Int->Int} {D D' M M':Int} (z0:A (-s.depth)=0) (z0':A' (-s.depth)=0) (D0:0 < D) (D0':0 < D')
  (k:∀ i,i < s.n->LkS s one A D M ((i:Int) - s.depth) (lv i)) (k':∀ i,i < s.n->LkS s one A' D' M' ((i:Int) - s.depth) (lv' i)) :
  D' * M=D * M'/\∀ i,i < s.n->D' * A ((i:Int) - s.depth)=D * A' ((i:Int) - s.depth):=by
 have a:=Zid r' z0 z0' D0' (λi hi=>(k i hi).2 _ (r'.lo i hi) (r'.hi i hi)) (λi hi=>(k' i hi).1)
 have b:=Zid r z0' z0 D0 (λi hi=>(k' i hi).2 _ (r.lo i hi) (r.hi i hi)) (λi hi=>(k i hi).1)
 rcases a with a | ⟨a,a2⟩
 ·rcases b with b | ⟨b,_⟩ <;> omega
 ·rcases b with b | ⟨_,b2⟩
  ·omega
  ·exact ⟨a,λi hi=>Int.le_antisymm (a2 i hi) (b2 i hi)⟩
theorem ZeR {s:Shp} {one:List Int} {lv:Nat->Int} (r:RuOk s one lv) (hf:nxB s one lv=lv) {i:Nat} (hi:i < s.n):LkS s one (wB s one lv) (scB s one lv) (zB s one lv 0) ((i:Int) - s.depth) (lv i):=by
 refine ⟨ZkJ r hi,λz z1 z2=>?_⟩
 rw [ZkJ r hi]
 exact ZkK r hf hi z1 z2
theorem w_0 (s:Shp) (one:List Int) (lv:Nat->Int):wB s one lv (-s.depth)=0:=if_pos rfl
theorem Zo7 (s:Shp) (m x y:Int):(s.tm m).ord x y=m * s.ord x y:=by
 unfold Shp.ord Shp.tm
 by_cases c:y<=x
 ·rw [if_pos c,if_pos c,Int.mul_zero]
 ·rw [if_neg c,if_neg c,Int.mul_add,Int.mul_assoc]
theorem Zo4 (s:Shp) (one:List Int) (A:Int->Int) (D m x y:Int):vB (s.tm m) one (λz=>m * A z) D x y=m * vB s one A D x y:=by
 unfold vB Shp.wg
 have e:ws (λf=>D * (s.tm m).day y f+m * A ((s.tm m).nx y f)) 0 one=m * ws (λf=>D * s.day y f+A (s.nx y f)) 0 one:=by
  rw [<- Zfq]
  refine ZdB λf _=>?_
  rw [Zo8,Int.mul_add]
  have:(s.tm m).nx y f=s.nx y f:=rfl
  rw [this]
  grind
 rw [e,Zo7]
 grind
theorem Zqc {s:Shp} {one:List Int} {A:Int->Int} {D M m x y:Int} (hm:0 < m) (k:LkS s one A D M x y):LkS (s.tm m) one (λz=>m * A z) D (m * M) x y:=by
 obtain ⟨k1,k2⟩:=k
 have e:one.sum * (m * M+m * A x)=m * (one.sum * (M+A x)):=by grind
 refine ⟨by rw [e,Zo4,k1],λz z1 z2=>?_⟩
 rw [e,Zo4]
 exact Int.mul_le_mul_of_nonneg_left (k2 z z1 z2) (Int.le_of_lt hm)
theorem Zo3 (s:Shp) (one:List Int) (A:Int->Int) (D m x y:Int):vB s (one.map (m * ·)) A D x y=m * vB s one A D x y:=by
 unfold vB Shp.wg
 rw [Zjr,ZfO]
 grind
theorem Zqb {s:Shp} {one:List Int} {A:Int->Int} {D M m x y:Int} (hm:0 < m) (k:LkS s one A D M x y):LkS s (one.map (m * ·)) A D M x y:=by
 obtain ⟨k1,k2⟩:=k
 have e:(one.map (m * ·)).sum * (M+A x)=m * (one.sum * (M+A x)):=by rw [ZfO]; grind
 refine ⟨by rw [e,Zo3,k1],λz z1 z2=>?_⟩
 rw [e,Zo3]
 exact Int.mul_le_mul_of_nonneg_left (k2 z z1 z2) (Int.le_of_lt hm)
theorem Zmz {f:Int->Int}:∀ {l:List Int} {k:Nat},(∀ w∈l,0<=w)->(∀ x:Int,f x<=1)->ws f k l<=l.sum
 | [],k,_,_=>by rw [ws]; exact Int.le_refl _
 | w::l,k,h0,hf=>by
  have ih:=Zmz (l:=l) (k:=k+1) (λv hv=>h0 v (List.mem_cons_of_mem _ hv)) hf
  have h1:=Int.mul_le_mul_of_nonneg_left (hf k) (h0 w (by simp))
  rw [ws,List.sum_cons]
  omega
theorem ZjM {s:Shp} {one:List Int} {lv:Nat->Int} (r:RuOk s one lv) (s13:nb 13 one.sum):nb 208 (scB s one lv):=by
 refine d_nb (b:=13) r.n9 (λi j hi hj=>?_) (Nat.le_refl _)
 have p0:0<=prB s one (lv i) j:=ws_0 r.hd.w0 λx=>by split <;> decide
 have p1:prB s one (lv i) j<=one.sum:=Zmz r.hd.w0 λx=>by split <;> decide
 have sp:=r.hd.pos
 unfold eqB
 rw [if_neg (by omega)]
 split
 ·exact s13
 ·unfold nb at *
  split <;> omega
noncomputable def ZgM (t b:Int):Int×Int:=(Gc.lowT t b,Gc.lowB t b)
theorem Zc1 {t b:Int} (h:0 < b):IsSh (ZgM t b):=by
 obtain ⟨_,_,a,b⟩:=Gc.low_spec (t:=t) (b:=b) (by omega)
 exact ⟨a,b⟩
theorem Zkh {t b:Int} (h:0 < b):(ZgM t b).1 * b=t * (ZgM t b).2:=by
 obtain ⟨e1,e2,_,_⟩:=Gc.low_spec (t:=t) (b:=b) (by omega)
 show Gc.lowT t b * b=t * Gc.lowB t b
 generalize Gc.lowT t b=p at *
 generalize Gc.lowB t b=q at *
 generalize Gc.den t b=g at *
 rw [e1,e2]
 grind
theorem Zj7 {D t b:Int} (h:0 < b) (hd:(ZgM t b).2 ∣ D):b * ovr D (ZgM t b)=D * t:=by
 have e1:=ZpV (Zc1 h).pos hd
 have e2:=Zkh (t:=t) h
 have p:=(Zc1 (t:=t) h).pos
 refine Int.eq_of_mul_eq_mul_right (Int.ne_of_gt p) ?_
 have:b * ovr D (ZgM t b) * (ZgM t b).2=b * (ovr D (ZgM t b) * (ZgM t b).2):=by grind
 rw [this,e1]
 grind
theorem ZmJ {t b u c:Int} (hb:0 < b) (hc:0 < c) (h:t * c=u * b):shD t b=shD u c:=by
 obtain ⟨a1,a2,a3,a4⟩:=Gc.low_spec (t:=t) (b:=b) (by omega)
 obtain ⟨b1,b2,b3,b4⟩:=Gc.low_spec (t:=u) (b:=c) (by omega)
 have hd:Gc.den t b≠0:=Gc.den_ne (by omega)
 have he:Gc.den u c≠0:=Gc.den_ne (by omega)
 obtain ⟨e1,e2⟩:=Gc.low_same a3 b3 a4 b4 (by
  refine Int.eq_of_mul_eq_mul_left (Int.mul_ne_zero hd he) ?_
  have q1:Gc.den t b * Gc.den u c * (Gc.lowT t b * Gc.lowB u c)=(Gc.den t b * Gc.lowT t b) * (Gc.den u c * Gc.lowB u c):=by grind
  have q2:Gc.den t b * Gc.den u c * (Gc.lowT u c * Gc.lowB t b)=(Gc.den u c * Gc.lowT u c) * (Gc.den t b * Gc.lowB t b):=by grind
  rw [q1,q2,<- a1,<- a2,<- b1,<- b2,h])
 unfold shD
 rw [e1,e2]
noncomputable def shW (s:Shp) (one:List Int) (lv:Nat->Int):List (Int×Int):=(Zak (-s.depth) s.n).map λx=>ZgM (wB s one lv x) (scB s one lv)
theorem Zqa (s:Shp) (one:List Int) (lv:Nat->Int):lpB s one lv=ppD (ZgM (zB s one lv 0) (scB s one lv)) (shW s one lv) (lsB s lv):=by
 unfold lpB ppD shW
 rw [List.map_map]
 rfl
theorem Znv (s:Shp) (one:List Int) (lv:Nat->Int):(shW s one lv).length=s.n:=by unfold shW; rw [List.length_map,ZaR]
theorem Zgb (s:Shp) (lv:Nat->Int):(lsB s lv).length=s.n:=by unfold lsB; rw [List.length_map,List.length_range]
theorem ZmU {s:Shp} {lv:Nat->Int} {i:Nat} (hi:i < (lsB s lv).length):(lsB s lv)[i]=lv i:=by
 have e:(lsB s lv)[i]?=some (lv i):=by
  rw [Zgb] at hi
  unfold lsB
  rw [List.getElem?_map,List.getElem?_range hi]
  rfl
 rw [List.getElem?_eq_getElem hi] at e
 exact Option.some.inj e
theorem ZmK {s:Shp} {one:List Int} {lv:Nat->Int} {i:Nat} (hi:i < s.n):(shW s one lv)[i]?=some (ZgM (wB s one lv ((i:Int) - s.depth)) (scB s one lv)):=by
 unfold shW Zak
 rw [List.map_map,List.getElem?_map,List.getElem?_range hi]
 have:-s.depth+(i:Int)=(i:Int) - s.depth:=by omega
 show some (ZgM (wB s one lv (-s.depth+(i:Int))) _)=_
 rw [this]
theorem Zn0 {s:Shp} {one:List Int} {lv:Nat->Int} (r:RuOk s one lv) (hf:nxB s one lv=lv):LkP s one (ZgM (zB s one lv 0) (scB s one lv)) (shW s one lv) (lsB s lv):=by
 have sp:=ZbX r
 have h:=r.h
 have hn:=h.n_eq
 refine ⟨Zc1 sp,λi hi=>⟨⟨_,ZmK hi,(ZfT _).mpr (Zc1 sp)⟩,lv i,?_,r.lo i hi,r.hi i hi⟩,λi hi=>?_⟩
 ·have hi':i < (lsB s lv).length:=by rw [Zgb]; exact hi
  rw [List.getElem?_eq_getElem hi',ZmU hi']
 ·rw [ZmU hi]
  rw [Zgb] at hi
  have w0:∀ p∈shW s one lv,0 < p.2:=λp hp=>by
   unfold shW at hp
   obtain ⟨x,_,rfl⟩:=List.mem_map.mp hp
   exact (Zc1 sp).pos
  refine ZnZ h sp (ZhU (Zc1 sp).pos w0) (Int.mul_comm _ _) (Zj7 sp Zgm) (λx x1 x2=>?_) (by omega) (by omega) (r.hi i hi) (ZeR r hf hi)
  have hk:(x+s.depth).toNat < s.n:=by omega
  have ex:(((x+s.depth).toNat:Nat):Int) - s.depth=x:=by omega
  have e1:=ZmK (one:=one) (lv:=lv) hk
  rw [ex] at e1
  unfold lkA atS
  rw [List.getElem?_map,e1]
  exact Zj7 sp (Zk0 (List.mem_of_getElem? e1))
end My
set_option Elab.async false
set_option linter.all false
set_option maxRecDepth 100000
set_option exponentiation.threshold 9000
namespace My
open PySem PySem.Spec PyProof.Rows L2 Tw
theorem ZaX (n:Int):ZaK [.pen,.d (.int n)]=.draw n λr=>.ret (.d (.int r)):=rfl
theorem Znw:Al (ZcM [.pen]) 3 λr=>∃ p:Int,r=.d (.int p)/\0<=p/\p<=1000000:=by
 simp_arith [ZcM,ZaX]
 refine Zck (n:=2) (by decide) (by decide) (by decide) λw w0 w1=>?_
 by_cases c:w < 4
 ·simp_arith [ZaX,decide_eq_true c]
  refine Zck (n:=1) (by decide) (by decide) (by decide) λf f0 f1=>?_
  have g1:fit f=true:=Zap (show nb 20 f from Zbk (by show -1048576 < _; omega) (by show _ < 1048576; omega)) (by decide)
  have g2:fit (1:Int)=true:=Zap (show nb 20 (1:Int) from Zbk (by decide) (by decide)) (by decide)
  have g3:fit (0:Int)=true:=Zap (show nb 20 (0:Int) from Zbk (by decide) (by decide)) (by decide)
  by_cases c2:w > 0
  ·simp_arith [ZaX,decide_eq_true c2,if_true,g1,g2,Int.mul_one]
   refine ZcE ?_
   exact ⟨f,rfl,by omega,by omega⟩
  ·simp_arith [ZaX,decide_eq_false c2,Bool.false_eq_true,if_false,g1,g3,Int.mul_zero]
   refine ZcE ?_
   exact ⟨0,rfl,by decide,by decide⟩
 ·simp_arith [ZaX,decide_eq_false c]
  refine Zck (n:=1) (by decide) (by decide) (by decide) λa a0 a1=>?_
  try simp_arith [ZaX]
  refine Zck (n:=0) (by decide) (by decide) (by decide) λb b0 b1=>?_
  obtain ⟨y,hy,y0,y1⟩:=ZnE (xs:=[PyData.int a,.int (1000000 - b)]) (lo:=0) (hi:=1000000) (r:=w - 4) (by simp [Zi6]; omega) (by omega) (by simp; omega)
  have e6:(10:Int) ^ Int.toNat 6=1000000:=rfl
  simp_arith [ZaX,e6,hy]
  exact ZcE ⟨y,rfl,y0,y1⟩
theorem Zlv {ns:List Int} (hl:ns.length<=100) (A B C:Sl):Al (Zb8 [.pen,A,B,.own (ns.map PyData.int),C]) 3 λo=>∃ y:Int,o=.next [.pen,A,B,.own ((ns++[y]).map PyData.int),C]/\0<=y/\y<=1000:=by
 have hs:small ((ns.map PyData.int).length+1)=true:=small_le (by rw [List.length_map]; omega)
 simp_arith [Zb8,ZaX]
 refine Zck (n:=2) (by decide) (by decide) (by decide) λa a0 a1=>?_
 try simp_arith [ZaX]
 refine Zck (n:=1) (by decide) (by decide) (by decide) λb b0 b1=>?_
 try simp_arith [ZaX]
 refine Zck (n:=0) (by decide) (by decide) (by decide) λw w0 w1=>?_
 obtain ⟨y,hy,y0,y1⟩:=ZnE (xs:=[PyData.int 0,.int 1,.int a,.int b]) (lo:=0) (hi:=1000) (by simp [Zi6]; omega) w0 w1
 simp_arith [ZaX,hy,hs]
 have em:ns.map PyData.int++[PyData.int y]=(ns++[y]).map PyData.int:=by rw [List.map_append]; rfl
 rw [em]
 exact ZcE ⟨y,rfl,y0,y1⟩
structure WtAt (many k:Nat) (ls:List Int):Prop where
 len:ls.length=many
 le:∀ n∈ls,0<=n/\n<=1000
 at':∃ v,ls[k]?=some v/\1<=v
theorem ZgB {many k:Nat} (m1:many<=20) (hk:k < many):Al (ZbC [.pen,.d (.int many),.d (.int k)]) (3 * many) λr=>∃ ls:List Int,r=.d (tI ls)/\WtAt many k ls:=by
 have r1:Zlk [.int (many:Int)]=.ret (ZbM 0 many):=ZeW (Zc2 (by omega) (by omega))
 simp_arith only [ZbC,ZaX,r1]
 refine ZcO (n:=3 * many) (n':=0) (P:=λo=>∃ (ns:List Int) (C:Sl),o=.next [.pen,.d (.int many),.d (.int k),.own (ns.map PyData.int),C]/\ns.length=many/\∀ n∈ns,0<=n/\n<=1000) ?_ (by omega) ?_
 ·refine ZhW (n:=3) (λpre ρ=>∃ (ns:List Int) (C:Sl),ρ=[.pen,.d (.int many),.d (.int k),.own (ns.map PyData.int),C]/\ns.length=pre.length/\∀ n∈ns,0<=n/\n<=1000) ⟨[],_,rfl,rfl,λ_ q=>by cases q⟩ (by rw [Za4]; omega) ?_ ?_
  ·rintro pre x post ρ e ⟨ns,C,rfl,hl,hn⟩
   obtain ⟨rfl,hpre⟩:=Zf1 e
   refine ⟨_,rfl,Zk7 (Zlv (by omega) _ _ _) (Nat.le_refl _) ?_⟩
   rintro _ ⟨y,rfl,y0,y1⟩
   refine ⟨_,rfl,ns++[y],_,rfl,by simp [hl],λn hn'=>?_⟩
   rcases List.mem_append.mp hn' with hq | hq
   ·exact hn n hq
   ·simp at hq
    subst hq
    exact ⟨y0,y1⟩
  ·rintro ρ ⟨ns,C,rfl,hl,hn⟩
   rw [Za4] at hl
   exact ⟨ns,C,rfl,by omega,hn⟩
 ·rintro _ ⟨ns,C,rfl,hl,hn⟩
  have hkl:k < ns.length:=by omega
  have hi:ixN (ns.map PyData.int).length (k:Int)=some k:=by
   rw [List.length_map]
   unfold ixN
   rw [if_pos (by omega),if_pos (by omega)]
   congr 1
  have hat:atI (ns.map PyData.int) (k:Int)=some (.int ns[k]):=ZcC (by omega) (by rw [List.getElem?_map,show ((k:Int)).toNat=k by omega,List.getElem?_eq_getElem hkl]; rfl)
  have hv:=hn ns[k] (List.getElem_mem hkl)
  have es:(ns.map PyData.int).set k (.int (Zdi 1 ns[k]))=(ns.set k (Zdi 1 ns[k])).map PyData.int:=List.map_set.symm
  have hm:1<=Zdi 1 ns[k]/\Zdi 1 ns[k]<=1000:=by unfold Zdi; split <;> omega
  simp_arith only [ZaX,hat,ZhM hi,es]
  refine ZcE ⟨ns.set k (Zdi 1 ns[k]),rfl,by rw [List.length_set,hl],λn hn'=>?_,Zdi 1 ns[k],by rw [List.getElem?_set_self hkl],hm.1⟩
  rcases List.mem_or_eq_of_mem_set hn' with q | q
  ·exact hn n q
  ·subst q; omega
structure Cs (s:Shp) (one:List Int):Prop where
 dr:s.Dr
 td:s.top+s.depth<=7
 len:one.length<=8
 le:∀ n∈one,0<=n/\n<=1000
 big:∃ (k:Nat) (v:Int),s.top+s.depth<=k/\one[k]?=some v/\1<=v
theorem Zie:∀ {ns:List Int} {k i:Nat} {v:Int},ns[i]?=some v->0 < v->((k+i:Nat):Int)∈snF k ns
 | [],k,i,v,h,_=>by simp at h
 | n::ns,k,0,v,h,hv=>by
  simp at h
  subst h
  rw [snF,if_pos hv]
  exact List.mem_cons_self ..
 | n::ns,k,i+1,v,h,hv=>by
  have ih:=Zie (ns:=ns) (k:=k+1) (i:=i) (by simpa using h) hv
  have e:k+1+i=k+(i+1):=by omega
  rw [e] at ih
  rw [snF]
  split
  ·exact List.mem_cons_of_mem _ ih
  ·exact ih
theorem Zl7 {one:List Int} {k:Nat} {v:Int} (h:one[k]?=some v) (hv:1<=v):(k:Int)<=great one:=by
 have hm:=Zie (k:=0) h (by omega)
 rw [Nat.zero_add] at hm
 exact (Zcu (List.ne_nil_of_mem hm)).2 _ hm
theorem ZjG {c:Int}:∀ {l:List Int},(∀ n∈l,0<=n/\n<=c)->0<=l.sum/\l.sum<=c * l.length
 | [],_=>by simp
 | n::l,h=>by
  have ih:=ZjG (l:=l) λv hv=>h v (List.mem_cons_of_mem _ hv)
  have h1:=h n (by simp)
  rw [List.sum_cons,List.length_cons,Int.natCast_add,Int.mul_add]
  simp only [Int.natCast_one,Int.mul_one]
  omega
theorem Cs.gr {s:Shp} {one:List Int} (h:Cs s one):s.top+s.depth<=great one:=by
 obtain ⟨k,v,h1,h2,h3⟩:=h.big
 exact Int.le_trans h1 (Zl7 h2 h3)
theorem Cs.ps {s:Shp} {one:List Int} (h:Cs s one):∃ w∈one,w > 0:=by
 obtain ⟨k,v,h1,h2,h3⟩:=h.big
 exact ⟨v,List.mem_of_getElem? h2,by omega⟩
theorem Cs.ok {s:Shp} {one:List Int} (h:Cs s one):DayOk 8 one:=⟨h.len,h.ps,λn hn=>by have:=h.le n hn; omega⟩
theorem Cs.B {s:Shp} {one:List Int} (h:Cs s one):DayB one:=h.ok.B (by decide)
theorem Cs.n8 {s:Shp} {one:List Int} (h:Cs s one):s.n<=8:=by have:=h.td; have:=h.dr.ok.n_eq; omega
theorem Cs.s13 {s:Shp} {one:List Int} (h:Cs s one):nb 13 one.sum:=by
 obtain ⟨a,b⟩:=ZjG h.le
 have:=h.len
 exact Zbk (by show -8192 < _; omega) (by show _ < 8192; omega)
theorem WtAt.cs {s:Shp} {many k:Nat} {ls:List Int} (h:WtAt many k ls) (hs:s.Dr) (t7:s.top+s.depth<=7) (hk:s.top+s.depth<=k) (m8:many<=8):Cs s ls:=by
 obtain ⟨v,h1,h2⟩:=h.at'
 exact ⟨hs,t7,by rw [h.len]; exact m8,h.le,k,v,hk,h1,h2⟩
theorem Zpn {few:Int} (f0:0<=few) (f1:few<=7):Al (Zde [.pen,.d (.int few)]) 60 λr=>∃ (s:Shp) (one:List Int),r=.d (.tuple [s.d,tI one])/\Cs s one:=by
 have r1:Zlk [.int 7]=.ret (ZbM 0 7):=ZeW rfl
 have hs:small (ZbM 0 7).length=true:=small_le (by rw [Za4]; decide)
 simp_arith [Zde,ZaX]
 refine Zck (n:=59) (by decide) (by decide) (by decide) λt t0 t1=>?_
 obtain ⟨y,hy,y0,y1⟩:=ZnE (xs:=[PyData.int 8,.int (few+1)]) (lo:=1) (hi:=8) (r:=if decide (t > 0)=true then 1 else 0) (by simp [Zi6]; omega) (by split <;> omega) (by simp; split <;> omega)
 simp_arith [ZaX,hy]
 refine Zck (n:=58) (by omega) (by omega) (by decide) λpc p0 p1=>?_
 try simp_arith [ZaX]
 refine Zck (n:=57) (by omega) (by omega) (by decide) λd d0 d1=>?_
 simp_arith [ZaX,r1,hs]
 refine ZcO (n:=21) (n':=36) (ZqQ (n:=3) (P:=Zi6 0 1000000) (Q:=λys=>∃ ps:List Int,ys=ps.map PyData.int/\ps.length=7/\∀ p∈ps,0<=p/\p<=1000000) (by rw [Za4]; decide) (λx hx=>?_) λys hl hys=>?_) (by decide) ?_
 ·simp_arith [Zeb,ZaX]
  refine ZcO (n:=3) (n':=0) Znw (by decide) ?_
  rintro _ ⟨p,rfl,p0,p1⟩
  simp_arith [ZaX]
  exact ZcE ⟨p,rfl,p0,p1⟩
 ·obtain ⟨ps,rfl,hp⟩:=ZeV hys
  rw [List.length_map,Za4] at hl
  exact ⟨ps,rfl,hl,hp⟩
 ·rintro _ ⟨ps,rfl,hpl,hp⟩
  obtain ⟨a1,a2,a3,a4,a5,a6,a7,rfl⟩:=list7 hpl
  simp_arith [ZaX]
  refine Zck (n:=35) (by omega) (by omega) (by decide) λq q0 q1=>?_
  try simp_arith [ZaX]
  refine Zck (n:=34) (by omega) (by omega) (by decide) λu u0 u1=>?_
  obtain ⟨many,em⟩:∃ many:Nat,pc+1+q=(many:Int):=⟨(pc+1+q).toNat,by omega⟩
  obtain ⟨k,ek⟩:∃ k:Nat,pc+u=(k:Int):=⟨(pc+u).toNat,by omega⟩
  rw [em] at u1
  simp_arith [ZaX,em,ek]
  refine ZcO (n:=3 * many) (n':=0) (ZgB (by omega) (by omega)) (by omega) ?_
  rintro _ ⟨ls,rfl,hls⟩
  simp_arith [ZaX]
  have hd:(Shp.mk (pc - d) d a1 a2 a3 a4 a5 a6 a7).Dr:=⟨by show 0<=pc - d; omega,d0,by show pc - d+d<=39; omega,hp⟩
  exact ZcE ⟨⟨pc - d,d,a1,a2,a3,a4,a5,a6,a7⟩,ls,by rw [<- ZmI],hls.cs hd (by show pc - d+d<=7; omega) (by show pc - d+d<=_; omega) (by omega)⟩
end My
set_option Elab.async false
set_option linter.all false
set_option maxRecDepth 100000
set_option exponentiation.threshold 9000
namespace My
open PySem PySem.Spec PyProof.Rows L2 Tw Bar
theorem ZnR (a b:Int):Zby neD (shD a b) (shD a b)=.ret (.bool false):=by
 unfold shD
 rw [Zp6 rfl rfl (λa b z=>by cases z.1)]
 simp [PyData.eqv,PyData.eqvAll]
theorem Zkf {ns:List Int} (h:ns≠[]):cb1 Zem [tI ns]=.ret (.int (ZgL ns)):=by
 unfold cb1 Zem onL tI
 simp [h]
theorem ZiE (s:Shp):sl3 s.d none (some 2)=.ret (.tuple [.int s.top,.int s.depth]):=by unfold Shp.d; rfl
theorem ZgU (s:Shp):sl3 s.d (some 2) none=.ret (.tuple [.int s.start,.int s.piece,.int s.keep,.int s.lack,.int s.lost,.int s.back,.int s.late]):=by unfold Shp.d; rfl
theorem Zip {h:PyData->Tr PyData} {f:Int->Int}:∀ {l:List Int},(∀ p∈l,h (.int p)=.ret (.int (f p)))->Zdb h (l.map PyData.int)=.ret ((l.map f).map PyData.int)
 | [],_=>rfl
 | p::l,hp=>by
  have ih:=Zip (h:=h) (f:=f) (l:=l) λq hq=>hp q (List.mem_cons_of_mem _ hq)
  rw [List.map_cons,Zdb,hp p (by simp),Tr.ret_bind,ih]
  rfl
theorem lp_0 (s:Shp) (one:List Int) (lv:Nat->Int):Zby ixD (lpB s one lv) (.int 0)=.ret (shD (zB s one lv 0) (scB s one lv)):=by
 unfold lpB
 rw [ev_ixT,at_0]
 rfl
theorem sh_0 (t b:Int):Zby ixD (shD t b) (.int 0)=.ret (.int (Gc.lowT t b)):=by
 unfold shD
 rw [ev_ixT,at_0]
 rfl
theorem sh_1 (t b:Int):Zby ixD (shD t b) (.int 1)=.ret (.int (Gc.lowB t b)):=by
 unfold shD
 rw [ev_ixT,at_1]
 rfl
structure Lst (s:Shp) (one:List Int) (lv:Nat->Int):Prop where
 r:RuOk s one lv
 st:nxB s one lv=lv
 e:ZbD [.d s.d,.d (tI one)]=.ret (.d (lpB s one lv))
theorem Cs.lst {s:Shp} {one:List Int} (h:Cs s one):∃ lv,Lst s one lv:=by
 obtain ⟨lv,r,hf,e⟩:=ZkI h.dr.ok h.n8 h.B h.gr h.ps
 exact ⟨lv,r,hf,e⟩
theorem Lst.look {s:Shp} {one:List Int} {lv:Nat->Int} (h:Lst s one lv) (c:Cs s one):Zbf [.d s.d,.d (tI one),.d (lpB s one lv)]=.ret (.d (.bool true)):=by
 have sp:=ZbX h.r
 have ns:=ZjM h.r c.s13
 have nz:∀ {t:Int},nb 1702 t->nb 230 (ZgM t (scB s one lv)).2/\nb 1800 (ZgM t (scB s one lv)).1:=λht=>by
  obtain ⟨a,b⟩:=ZmV ht ns (by omega)
  exact ⟨Zar b (by decide),Zar a (by decide)⟩
 rw [Zqa]
 rcases Zqy c.dr.ok (by have:=c.n8; omega) c.B (m:=ZgM (zB s one lv 0) (scB s one lv)) (ws:=shW s one lv) (ls:=lsB s lv) (nz (z_nb h.r (by have:=c.dr.ok.n_eq; have:=c.dr.t0; have:=c.dr.d0; omega))) (λp hp=>by
   unfold shW at hp
   obtain ⟨x,hx,rfl⟩:=List.mem_map.mp hp
   have:=Zd1 hx
   have:=c.dr.ok.n_eq
   exact nz (w_bd h.r x (by omega) (by omega))) (Znv s one lv) (Zgb s lv) with ⟨_,e⟩ | ⟨q,_⟩
 ·exact e
 ·exact absurd (Zn0 h.r h.st) q
theorem tmDr {s:Shp} (hs:s.Dr) {m:Int} (m0:0<=m) (hm:∀ p∈[s.start,s.piece,s.keep,s.lack,s.lost,s.back,s.late],m * p<=1000000):(s.tm m).Dr:=by
 refine ⟨hs.t0,hs.d0,hs.td,λn hn=>?_⟩
 have hp:=hs.p
 simp only [List.mem_cons,List.not_mem_nil,or_false,forall_eq_or_imp,forall_eq] at hp hn hm
 obtain ⟨h1,h2,h3,h4,h5,h6,h7⟩:=hp
 obtain ⟨k1,k2,k3,k4,k5,k6,k7⟩:=hm
 rcases hn with rfl | rfl | rfl | rfl | rfl | rfl | rfl
 ·exact ⟨Int.mul_nonneg m0 h1.1,k1⟩
 ·exact ⟨Int.mul_nonneg m0 h2.1,k2⟩
 ·exact ⟨Int.mul_nonneg m0 h3.1,k3⟩
 ·exact ⟨Int.mul_nonneg m0 h4.1,k4⟩
 ·exact ⟨Int.mul_nonneg m0 h5.1,k5⟩
 ·exact ⟨Int.mul_nonneg m0 h6.1,k6⟩
 ·exact ⟨Int.mul_nonneg m0 h7.1,k7⟩
theorem ZqH {N g r p:Int} (g1:1<=g) (r0:0<=r) (r1:r < N.fdiv g) (p0:0<=p) (pg:p<=g):(1+r) * p<=N:=by
 have e:N.fdiv g=N / g:=Int.fdiv_eq_ediv_of_nonneg _ (by omega)
 rw [e] at r1
 have a:=Int.mul_le_mul_of_nonneg_left pg (show 0<=1+r by omega)
 have b:(1+r) * g<=N / g * g:=Int.mul_le_mul_of_nonneg_right (by omega) (by omega)
 have c:=Int.ediv_mul_le N (show g≠0 by omega)
 omega
theorem Zm9 {N g:Int} (N0:0<=N) (g1:1<=g) (gN:g<=N):0 < N.fdiv g/\N.fdiv g<=N:=by
 have e:N.fdiv g=N / g:=Int.fdiv_eq_ediv_of_nonneg _ (by omega)
 rw [e]
 exact ⟨(by have:=Int.ediv_le_ediv (show 0 < g by omega) gN; rw [Int.ediv_self (by omega)] at this; omega),Int.ediv_le_self _ N0⟩
theorem Cs.tm {s:Shp} {one:List Int} (c:Cs s one) {m:Int} (m0:0<=m) (hm:∀ p∈[s.start,s.piece,s.keep,s.lack,s.lost,s.back,s.late],m * p<=1000000):Cs (s.tm m) one:=⟨tmDr c.dr m0 hm,c.td,c.len,c.le,c.big⟩
theorem Cs.wm {s:Shp} {one:List Int} (c:Cs s one) {m:Int} (m0:1<=m) (hm:∀ p∈one,m * p<=1000):Cs s (one.map (m * ·)):=by
 refine ⟨c.dr,c.td,by rw [List.length_map]; exact c.len,λn hn=>?_,?_⟩
 ·obtain ⟨p,hp,rfl⟩:=List.mem_map.mp hn
  exact ⟨Int.mul_nonneg (by omega) (c.le p hp).1,hm p hp⟩
 ·obtain ⟨k,v,h1,h2,h3⟩:=c.big
  refine ⟨k,m * v,h1,by rw [List.getElem?_map,h2]; rfl,?_⟩
  have:=Int.mul_le_mul_of_nonneg_left h3 (show 0<=m by omega)
  omega
theorem RuOk.to {s s':Shp} {one one':List Int} {lv:Nat->Int} (r:RuOk s one lv) (c:Cs s' one') (et:s'.top=s.top) (ed:s'.depth=s.depth):RuOk s' one' lv:=by
 have en:s'.n=s.n:=by unfold Shp.n; rw [et,ed]
 exact ⟨c.dr.ok,by rw [en]; exact r.n9,c.B,c.gr,c.ps,λi hi=>by rw [ed]; exact r.lo i (by omega),λi hi=>by rw [et]; exact r.hi i (by omega)⟩
theorem ZnX {s:Shp} {one:List Int} {lv lv':Nat->Int} {m:Int} (m0:0 < m) (h:Lst s one lv) (h':Lst (s.tm m) one lv') (c':Cs (s.tm m) one):shD (zB (s.tm m) one lv' 0) (scB (s.tm m) one lv')=shD (Gc.lowT (zB s one lv 0) (scB s one lv) * m) (Gc.lowB (zB s one lv 0) (scB s one lv)):=by
 have sp:=ZbX h.r
 have sp':=ZbX h'.r
 obtain ⟨k,_⟩:=Zic (h.r.to c' rfl rfl) h'.r (A:=λz=>m * wB s one lv z) (A':=wB (s.tm m) one lv') (D:=scB s one lv) (M:=m * zB s one lv 0) (by show m * wB s one lv (-s.depth)=0; rw [w_0,Int.mul_zero]) (w_0 _ _ _) sp sp' (λi hi=>Zqc m0 (ZeR h.r h.st hi)) (λi hi=>ZeR h'.r h'.st hi)
 have e:=Zkh (t:=zB s one lv 0) sp
 have e:Gc.lowT (zB s one lv 0) (scB s one lv) * scB s one lv=zB s one lv 0 * Gc.lowB (zB s one lv 0) (scB s one lv):=e
 refine ZmJ sp' (Zc1 sp).pos ?_
 refine Int.eq_of_mul_eq_mul_left (Int.ne_of_gt sp) ?_
 generalize Gc.lowT (zB s one lv 0) (scB s one lv)=p at *
 generalize Gc.lowB (zB s one lv 0) (scB s one lv)=q at *
 generalize zB s one lv 0=z at *
 generalize zB (s.tm m) one lv' 0=z' at *
 generalize scB s one lv=c at *
 generalize scB (s.tm m) one lv'=c' at *
 have e1:c * (z' * q)=c * z' * q:=by grind
 have e2:c * (p * m * c')=p * c * (m * c'):=by grind
 rw [e1,e2,<- k,e]
 grind
theorem ZnW {s:Shp} {one:List Int} {lv lv':Nat->Int} {m:Int} (m0:0 < m) (h:Lst s one lv) (h':Lst s (one.map (m * ·)) lv') (c':Cs s (one.map (m * ·))):shD (zB s (one.map (m * ·)) lv' 0) (scB s (one.map (m * ·)) lv')=shD (zB s one lv 0) (scB s one lv):=by
 have sp:=ZbX h.r
 have sp':=ZbX h'.r
 obtain ⟨k,_⟩:=Zic (h.r.to c' rfl rfl) h'.r (A:=wB s one lv) (A':=wB s (one.map (m * ·)) lv') (D:=scB s one lv) (M:=zB s one lv 0) (w_0 _ _ _) (w_0 _ _ _) sp sp' (λi hi=>Zqb m0 (ZeR h.r h.st hi)) (λi hi=>ZeR h'.r h'.st hi)
 refine ZmJ sp' sp ?_
 rw [Int.mul_comm,<- k,Int.mul_comm]
end My
set_option Elab.async false
set_option linter.all false
set_option maxRecDepth 100000
set_option exponentiation.threshold 9000
namespace My
open PySem PySem.Spec PyProof.Rows L2 Tw Bar
theorem Znx {s:Shp} {one:List Int} (c:Cs s one):Zfw (.tuple [s.d,tI one])=true:=by
 refine rp_ok (ZmM (xs:=[s.d,tI one]) (k:=1) (n:=40000) λx hx=>?_) (by decide) (by show 2 * 40000+2 * 2+10<=10000000; decide)
 simp only [List.mem_cons,List.not_mem_nil,or_false] at hx
 rcases hx with rfl | rfl
 ·exact ZfZ (Zpr c.dr.ok) (Nat.le_refl _) (by decide)
 ·exact Zpt c.B
theorem turn (J2 J3 J4 J5 J6 J7 J8 J9 J10 J11:Sl):Al (ZhI [.un,.pen,J2,J3,J4,J5,J6,J7,J8,J9,J10,J11]) 90 λo=>∃ K3 K4 K5 K6 K7 K8 K9 K10 K11:Sl,o=.next [.un,.pen,J2,K3,K4,K5,K6,K7,K8,K9,K10,K11]:=by
 simp_arith only [ZhI,ZaX]
 refine ZcO (n:=60) (n':=30) (Zpn (few:=4) (by decide) (by decide)) (by decide) ?_
 rintro _ ⟨s,one,rfl,c⟩
 obtain ⟨lv,L⟩:=c.lst
 have rp:=Znx c
 have el:=L.look c
 have e1:=L.e
 have h:=c.dr.ok
 have hp:=c.dr.p
 have em:cb1 Zem [.tuple [.int s.start,.int s.piece,.int s.keep,.int s.lack,.int s.lost,.int s.back,.int s.late,.int 1]]=.ret (.int (ZgL [s.start,s.piece,s.keep,s.lack,s.lost,s.back,s.late,1])):=Zkf (ns:=[s.start,s.piece,s.keep,s.lack,s.lost,s.back,s.late,1]) (by simp)
 obtain ⟨x1,x2⟩:=Zcu (ns:=[s.start,s.piece,s.keep,s.lack,s.lost,s.back,s.late,1]) (by simp)
 generalize ZgL [s.start,s.piece,s.keep,s.lack,s.lost,s.back,s.late,1]=mx at *
 have mx1:1<=mx:=x2 1 (by simp)
 have mx2:mx<=1000000:=by
  simp only [List.mem_cons,List.not_mem_nil,or_false] at x1
  simp only [List.mem_cons,List.not_mem_nil,or_false,forall_eq_or_imp,forall_eq] at hp
  obtain ⟨h1,h2,h3,h4,h5,h6,h7⟩:=hp
  rcases x1 with rfl | rfl | rfl | rfl | rfl | rfl | rfl | rfl
  ·exact h1.2
  ·exact h2.2
  ·exact h3.2
  ·exact h4.2
  ·exact h5.2
  ·exact h6.2
  ·exact h7.2
  ·decide
 have ep:Zby ZpL (.int 10) (.int 6)=.ret (.int 1000000):=rfl
 have ef:Zby Zdj (.int 1000000) (.int mx)=.ret (.int ((1000000:Int).fdiv mx)):=Zc3 (by omega) (Zap (show nb 20 mx from Zbk (by show -1048576 < _; omega) (by show _ < 1048576; omega)) (by decide))
 obtain ⟨w0,w1⟩:=Zm9 (N:=1000000) (g:=mx) (by decide) mx1 mx2
 simp_arith only [ZaX,Zof rp,e1,el,Bool.not_true,Zlt,ZgU,em,ep,ef]
 refine Zck (n:=29) w0 (by omega) (by decide) λr r0 r1=>?_
 have hm:∀ p∈[s.start,s.piece,s.keep,s.lack,s.lost,s.back,s.late],(1+r) * p<=1000000:=λp hq=>by
  have hpp:=hp p hq
  refine ZqH mx1 r0 r1 hpp.1 (x2 p ?_)
  simp only [List.mem_cons,List.not_mem_nil,or_false] at hq ⊢
  omega
 have c1:=c.tm (show 0<=1+r by omega) hm
 obtain ⟨lv1,L1⟩:=c1.lst
 have nm:nb 20 (1+r):=Zbk (by show -1048576 < _; omega) (by show _ < 1048576; omega)
 have gm:=Zap nm (by decide)
 have et:∀ p∈[s.start,s.piece,s.keep,s.lack,s.lost,s.back,s.late],Zhx [.d (.int p),.d (.int (1+r))]=.ret (.int ((1+r) * p)):=λp hq=>by
  have hpp:=hp p hq
  have g2:=Zap (show nb 20 p from Zbk (by show -1048576 < _; omega) (by show _ < 1048576; omega)) (by decide)
  simp_arith only [Zhx,gm,g2]
  rw [Int.mul_comm]
 simp only [List.mem_cons,List.not_mem_nil,or_false,forall_eq_or_imp,forall_eq] at et
 obtain ⟨et1,et2,et3,et4,et5,et6,et7⟩:=et
 have ed:PyData.tuple [.int s.top,.int s.depth,.int ((1+r) * s.start),.int ((1+r) * s.piece),.int ((1+r) * s.keep),.int ((1+r) * s.lack),.int ((1+r) * s.lost),.int ((1+r) * s.back),.int ((1+r) * s.late)]=(s.tm (1+r)).d:=ZmI
 have sp:=ZbX L.r
 have ns:=ZjM L.r c.s13
 have hn:=h.n_eq
 have t0:=h.t0
 have d0:=h.d0
 obtain ⟨nt,nbt⟩:=ZmV (z_nb L.r (show 0 < s.n by omega)) ns (by omega)
 have gt:=Zap nt (by decide)
 have es:=Zmd (t:=Gc.lowT (zB s one lv 0) (scB s one lv) * (1+r)) (b:=Gc.lowB (zB s one lv 0) (scB s one lv)) (Zc1 sp).pos (Zar nbt (by decide))
 have mt:=ZnX (show 0 < 1+r by omega) L L1 c1
 have ne1:Zby neD (shD (zB (s.tm (1+r)) one lv1 0) (scB (s.tm (1+r)) one lv1)) (shD (Gc.lowT (zB s one lv 0) (scB s one lv) * (1+r)) (Gc.lowB (zB s one lv 0) (scB s one lv)))=.ret (.bool false):=by rw [mt]; exact ZnR _ _
 have el1:=L1.look c1
 have eL1:=L1.e
 have hne:one≠[]:=by
  obtain ⟨w,hw,_⟩:=c.ps
  exact List.ne_nil_of_mem hw
 have em2:=Zkf hne
 obtain ⟨v1,v2⟩:=Zcu hne
 generalize ZgL one=wx at *
 have wx1:1<=wx:=by
  obtain ⟨w,hw,hw0⟩:=c.ps
  have:=v2 w hw
  omega
 have wx2:=(c.le wx v1).2
 have ef2:Zby Zdj (.int 1000) (.int wx)=.ret (.int ((1000:Int).fdiv wx)):=Zc3 (by omega) (Zap (show nb 20 wx from Zbk (by show -1048576 < _; omega) (by show _ < 1048576; omega)) (by decide))
 obtain ⟨u0,u1⟩:=Zm9 (N:=1000) (g:=wx) (by decide) wx1 wx2
 simp_arith only [ZaX,ZgU,ZiE,et1,et2,et3,et4,et5,et6,et7,ed,eL1,el1,Bool.not_true,lp_0,sh_0,sh_1,gm,gt,es,ne1,em2,ef2]
 refine Zck (n:=28) u0 (by omega) (by decide) λq q0 q1=>?_
 have c2:=c.wm (m:=1+q) (by omega) λp hq=>ZqH wx1 q0 q1 (c.le p hq).1 (v2 p hq)
 obtain ⟨lv2,L2'⟩:=c2.lst
 have nq:nb 20 (1+q):=Zbk (by show -1048576 < _; omega) (by show _ < 1048576; omega)
 have gq:=Zap nq (by decide)
 have et2:=Zip (h:=lc2 (ZaU 0) Zhw [.un,.d (.int (1+q))]) (f:=((1+q) * ·)) (l:=one) λp hq=>by
  have hpp:=c.le p hq
  have g2:=Zap (show nb 20 p from Zbk (by show -1048576 < _; omega) (by show _ < 1048576; omega)) (by decide)
  simp_arith only [Zhw,gq,g2]
  rw [Int.mul_comm]
 have et3:PyData.tuple ((one.map ((1+q) * ·)).map PyData.int)=tI (one.map ((1+q) * ·)):=rfl
 have hs2:small (one.map PyData.int).length=true:=small_le (by rw [List.length_map]; have:=c.len; omega)
 have mw:=ZnW (show 0 < 1+q by omega) L L2' c2
 have eL2:=L2'.e
 obtain ⟨k,ek⟩:∃ k:Nat,s.top+s.depth=(k:Int):=⟨(s.top+s.depth).toNat,by omega⟩
 have td:=c.td
 have ek1:(k:Int)+1=((k+1:Nat):Int):=rfl
 simp_arith only [ZaX,Zl1,hs2,et2,et3,eL2,lp_0,mw,ZnR,ek,ek1]
 refine ZcO (n:=3 * (k+1)) (n':=0) (ZgB (many:=k+1) (k:=k) (by omega) (by omega)) (by omega) ?_
 rintro _ ⟨ls,rfl,hls⟩
 have c3:=hls.cs c.dr c.td (by omega) (by omega)
 obtain ⟨lv3,L3⟩:=c3.lst
 have eL3:=L3.e
 have el3:=L3.look c3
 simp_arith only [ZaX,eL3,el3,e1,Bool.not_true,lp_0,ZnR]
 exact ZcE ⟨_,_,_,_,_,_,_,_,_,rfl⟩
theorem law_true:Al (ZlU law0) 2000 λo=>o=.ret (.d (.bool true)):=by
 have r3:Zlk [.int 3]=.ret (ZbM 0 3):=ZeW rfl
 simp_arith [ZlU,law0,ZaX,r3]
 refine ZcO (n:=270) (n':=0) (P:=λo=>∃ ρ,o=.next ρ) ?_ (by decide) ?_
 ·refine ZqR (n:=90) (λρ=>∃ J2 J3 J4 J5 J6 J7 J8 J9 J10 J11:Sl,ρ=[.un,.pen,J2,J3,J4,J5,J6,J7,J8,J9,J10,J11]) ⟨_,_,_,_,_,_,_,_,_,_,rfl⟩ (by rw [Za4]; decide) ?_ (λρ _=>⟨ρ,rfl⟩)
  rintro x ρ hx ⟨J2,J3,J4,J5,J6,J7,J8,J9,J10,J11,rfl⟩
  refine ⟨_,rfl,Zk7 (turn (.d x) J3 J4 J5 J6 J7 J8 J9 J10 J11) (Nat.le_refl _) ?_⟩
  rintro _ ⟨K3,K4,K5,K6,K7,K8,K9,K10,K11,rfl⟩
  exact ⟨_,rfl,_,_,_,_,_,_,_,_,_,_,rfl⟩
 ·rintro _ ⟨ρ,rfl⟩
  simp_arith [ZaX]
  exact ZcE rfl
end My
set_option Elab.async false
set_option linter.all false
set_option maxRecDepth 100000
open PySem PySem.W PyProof.Rows L2
set_option maxRecDepth 100000 in
set_option maxHeartbeats 0 in
theorem PySem.Challenge.cw_twomarks_k36_lasting_papers_told_holds : PySem.Challenge.rw_twomarks_k36_lasting_papers_told.Holds := by
 refine My.hd ?_
 k_fill
 refine L2.walk_ofK (l:=PySem.Challenge.rw_twomarks_k36_lasting_papers_told) (n:=63) (k:=8) (x:="_law_script") (CX:=CX0) (sp:=L2.spLaw) rfl (by decide) rfl ⟨rfl,by decide,by decide,rfl⟩ (λw h Y=>PySem.W.kIn_of Y) ?F ?S ?C
 case F =>
  intro w mg fa h KX G hmg
  have d_stocks:Def (L2.KOf KX) mg "stocks" My.s_stocks ["shop"]:=by
   dsimp only [L2.KOf]
   refine' L2.def_mk KX G ?a ?l ?c ?k ?b
   (case a=>k_is); (case l=>k_is); (case c=>k_is); (case k=>k_is)
   (case b=>intro _ _ _ _ _ _ us hl; obtain ⟨_,rfl⟩:=L2.len1 hl; rfl)
  have d_greatest_seen:Def (L2.KOf KX) mg "greatest_seen" My.s_greatest_seen ["day"]:=by
   dsimp only [L2.KOf]
   refine' L2.def_mk KX G ?a ?l ?c ?k ?b
   (case a=>k_is); (case l=>k_is); (case c=>k_is); (case k=>k_is)
   (case b=>intro _ _ _ _ _ _ us hl; obtain ⟨_,rfl⟩:=L2.len1 hl; rfl)
  have d_order_cost:Def (L2.KOf KX) mg "order_cost" My.s_order_cost ["shop","stock","level"]:=by
   dsimp only [L2.KOf]
   refine' L2.def_mk KX G ?a ?l ?c ?k ?b
   (case a=>k_is); (case l=>k_is); (case c=>k_is); (case k=>k_is)
   (case b=>intro _ _ _ _ _ _ us hl; obtain ⟨_,_,_,rfl⟩:=L2.len3 hl; rfl)
  have d_next_stock:Def (L2.KOf KX) mg "next_stock" My.s_next_stock ["shop","level","fall"]:=by
   dsimp only [L2.KOf]
   refine' L2.def_mk KX G ?a ?l ?c ?k ?b
   (case a=>k_is); (case l=>k_is); (case c=>k_is); (case k=>k_is)
   (case b=>intro _ _ _ _ _ _ us hl; obtain ⟨_,_,_,rfl⟩:=L2.len3 hl; rfl)
  have d_day_cost:Def (L2.KOf KX) mg "day_cost" My.s_day_cost ["shop","level","fall"]:=by
   dsimp only [L2.KOf]
   refine' L2.def_mk KX G ?a ?l ?c ?k ?b
   (case a=>k_is); (case l=>k_is); (case c=>k_is); (case k=>k_is)
   (case b=>intro _ _ _ _ _ _ us hl; obtain ⟨_,_,_,rfl⟩:=L2.len3 hl; rfl)
  have d_common_divisor:Def (L2.KOf KX) mg "common_divisor" My.s_common_divisor ["one","other"]:=by
   dsimp only [L2.KOf]
   refine' L2.def_mk KX G ?a ?l ?c ?k ?b
   (case a=>k_is); (case l=>k_is); (case c=>k_is); (case k=>k_is)
   (case b=>intro _ _ _ _ _ _ us hl; obtain ⟨_,_,rfl⟩:=L2.len2 hl; rfl)
  have d_share:Def (L2.KOf KX) mg "share" My.s_share ["top","bottom"]:=by
   dsimp only [L2.KOf]
   refine' L2.def_mk KX G ?a ?l ?c ?k ?b
   (case a=>k_is); (case l=>k_is); (case c=>k_is); (case k=>k_is)
   (case b=>intro _ _ _ _ _ _ us hl; obtain ⟨_,_,rfl⟩:=L2.len2 hl; rfl)
  have d_weighed:Def (L2.KOf KX) mg "weighed" My.s_weighed ["shop","day","level","ahead","scale"]:=by
   dsimp only [L2.KOf]
   refine' L2.def_mk KX G ?a ?l ?c ?k ?b
   (case a=>k_is); (case l=>k_is); (case c=>k_is); (case k=>k_is)
   (case b=>intro _ _ _ _ _ _ us hl; obtain ⟨_,_,_,_,_,rfl⟩:=L2.len5 hl; rfl)
  have d_level_sums:Def (L2.KOf KX) mg "level_sums" My.s_level_sums ["shop","day","ahead","scale"]:=by
   dsimp only [L2.KOf]
   refine' L2.def_mk KX G ?a ?l ?c ?k ?b
   (case a=>k_is); (case l=>k_is); (case c=>k_is); (case k=>k_is)
   (case b=>intro _ _ _ _ _ _ us hl; obtain ⟨_,_,_,_,rfl⟩:=L2.len4 hl; rfl)
  have d_cheapest_from:Def (L2.KOf KX) mg "cheapest_from" My.s_cheapest_from ["shop","low","by_level","scale"]:=by
   dsimp only [L2.KOf]
   refine' L2.def_mk KX G ?a ?l ?c ?k ?b
   (case a=>k_is); (case l=>k_is); (case c=>k_is); (case k=>k_is)
   (case b=>intro _ _ _ _ _ _ us hl; obtain ⟨_,_,_,_,rfl⟩:=L2.len4 hl; rfl)
  have d_cheapest:Def (L2.KOf KX) mg "cheapest" My.s_cheapest ["shop","by_level","scale"]:=by
   dsimp only [L2.KOf]
   refine' L2.def_mk KX G ?a ?l ?c ?k ?b
   (case a=>k_is); (case l=>k_is); (case c=>k_is); (case k=>k_is)
   (case b=>intro _ _ _ _ _ _ us hl; obtain ⟨_,_,_,rfl⟩:=L2.len3 hl; rfl)
  have d_ask_lasting:Def (L2.KOf KX) mg "ask_lasting" My.s_ask_lasting ["shop","one"]:=by
   dsimp only [L2.KOf]
   refine' L2.def_mk KX G ?a ?l ?c ?k ?b
   (case a=>k_is); (case l=>k_is); (case c=>k_is); (case k=>k_is)
   (case b=>intro _ _ _ _ _ _ us hl; obtain ⟨_,_,rfl⟩:=L2.len2 hl; rfl)
  have d_equation:Def (L2.KOf KX) mg "equation" My.s_equation ["shop","one","stock","level"]:=by
   dsimp only [L2.KOf]
   refine' L2.def_mk KX G ?a ?l ?c ?k ?b
   (case a=>k_is); (case l=>k_is); (case c=>k_is); (case k=>k_is)
   (case b=>intro _ _ _ _ _ _ us hl; obtain ⟨_,_,_,_,rfl⟩:=L2.len4 hl; rfl)
  have d_solved:Def (L2.KOf KX) mg "solved" My.s_solved ["rows"]:=by
   dsimp only [L2.KOf]
   refine' L2.def_mk KX G ?a ?l ?c ?k ?b
   (case a=>k_is); (case l=>k_is); (case c=>k_is); (case k=>k_is)
   (case b=>intro _ _ _ _ _ _ us hl; obtain ⟨_,rfl⟩:=L2.len1 hl; rfl)
  have d_mean_and_worths:Def (L2.KOf KX) mg "mean_and_worths" My.s_mean_and_worths ["shop","one","levels"]:=by
   dsimp only [L2.KOf]
   refine' L2.def_mk KX G ?a ?l ?c ?k ?b
   (case a=>k_is); (case l=>k_is); (case c=>k_is); (case k=>k_is)
   (case b=>intro _ _ _ _ _ _ us hl; obtain ⟨_,_,_,rfl⟩:=L2.len3 hl; rfl)
  have d_best_of_all:Def (L2.KOf KX) mg "best_of_all" My.s_best_of_all ["shop","one"]:=by
   dsimp only [L2.KOf]
   refine' L2.def_mk KX G ?a ?l ?c ?k ?b
   (case a=>k_is); (case l=>k_is); (case c=>k_is); (case k=>k_is)
   (case b=>intro _ _ _ _ _ _ us hl; obtain ⟨_,_,rfl⟩:=L2.len2 hl; rfl)
  have d_lasting:Def (L2.KOf KX) mg "lasting" My.s_lasting ["shop","one"]:=by
   dsimp only [L2.KOf]
   refine' L2.def_mk KX G ?a ?l ?c ?k ?b
   (case a=>k_is); (case l=>k_is); (case c=>k_is); (case k=>k_is)
   (case b=>intro _ _ _ _ _ _ us hl; obtain ⟨_,_,rfl⟩:=L2.len2 hl; rfl)
  have d__law_pen:Def (L2.KOf KX) mg "_law_pen" My.s__law_pen ["_law_script"]:=by
   dsimp only [L2.KOf]
   refine' L2.def_mk KX G ?a ?l ?c ?k ?b
   (case a=>k_is); (case l=>k_is); (case c=>k_is); (case k=>k_is)
   (case b=>intro _ _ _ _ _ _ us hl; obtain ⟨_,rfl⟩:=L2.len1 hl; rfl)
  have d__law_mixed:Def (L2.KOf KX) mg "_law_mixed" My.s__law_mixed ["_law_cell","_law_k"]:=by
   dsimp only [L2.KOf]
   refine' L2.def_mk KX G ?a ?l ?c ?k ?b
   (case a=>k_is); (case l=>k_is); (case c=>k_is); (case k=>k_is)
   (case b=>intro _ _ _ _ _ _ us hl; obtain ⟨_,_,rfl⟩:=L2.len2 hl; rfl)
  have d__law_take:Def (L2.KOf KX) mg "_law_take" My.s__law_take ["_law_pen_here","_law_most"]:=by
   dsimp only [L2.KOf]
   refine' L2.def_mk KX G ?a ?l ?c ?k ?b
   (case a=>k_is); (case l=>k_is); (case c=>k_is); (case k=>k_is)
   (case b=>intro _ _ _ _ _ _ us hl; obtain ⟨_,_,rfl⟩:=L2.len2 hl; rfl)
  have d__law_price:Def (L2.KOf KX) mg "_law_price" My.s__law_price ["_law_pen_here"]:=by
   dsimp only [L2.KOf]
   refine' L2.def_mk KX G ?a ?l ?c ?k ?b
   (case a=>k_is); (case l=>k_is); (case c=>k_is); (case k=>k_is)
   (case b=>intro _ _ _ _ _ _ us hl; obtain ⟨_,rfl⟩:=L2.len1 hl; rfl)
  have d__law_weights:Def (L2.KOf KX) mg "_law_weights" My.s__law_weights ["_law_pen_here","_law_many","_law_at"]:=by
   dsimp only [L2.KOf]
   refine' L2.def_mk KX G ?a ?l ?c ?k ?b
   (case a=>k_is); (case l=>k_is); (case c=>k_is); (case k=>k_is)
   (case b=>intro _ _ _ _ _ _ us hl; obtain ⟨_,_,_,rfl⟩:=L2.len3 hl; rfl)
  have d__law_case:Def (L2.KOf KX) mg "_law_case" My.s__law_case ["_law_pen_here","_law_few"]:=by
   dsimp only [L2.KOf]
   refine' L2.def_mk KX G ?a ?l ?c ?k ?b
   (case a=>k_is); (case l=>k_is); (case c=>k_is); (case k=>k_is)
   (case b=>intro _ _ _ _ _ _ us hl; obtain ⟨_,_,rfl⟩:=L2.len2 hl; rfl)
  have d__law_order:Def (L2.KOf KX) mg "_law_order" My.s__law_order ["_law_shop","_law_stock","_law_level"]:=by
   dsimp only [L2.KOf]
   refine' L2.def_mk KX G ?a ?l ?c ?k ?b
   (case a=>k_is); (case l=>k_is); (case c=>k_is); (case k=>k_is)
   (case b=>intro _ _ _ _ _ _ us hl; obtain ⟨_,_,_,rfl⟩:=L2.len3 hl; rfl)
  have d__law_next:Def (L2.KOf KX) mg "_law_next" My.s__law_next ["_law_shop","_law_level","_law_fall"]:=by
   dsimp only [L2.KOf]
   refine' L2.def_mk KX G ?a ?l ?c ?k ?b
   (case a=>k_is); (case l=>k_is); (case c=>k_is); (case k=>k_is)
   (case b=>intro _ _ _ _ _ _ us hl; obtain ⟨_,_,_,rfl⟩:=L2.len3 hl; rfl)
  have d__law_day:Def (L2.KOf KX) mg "_law_day" My.s__law_day ["_law_shop","_law_level","_law_fall"]:=by
   dsimp only [L2.KOf]
   refine' L2.def_mk KX G ?a ?l ?c ?k ?b
   (case a=>k_is); (case l=>k_is); (case c=>k_is); (case k=>k_is)
   (case b=>intro _ _ _ _ _ _ us hl; obtain ⟨_,_,_,rfl⟩:=L2.len3 hl; rfl)
  have d__law_whole:Def (L2.KOf KX) mg "_law_whole" My.s__law_whole ["_law_thing"]:=by
   dsimp only [L2.KOf]
   refine' L2.def_mk KX G ?a ?l ?c ?k ?b
   (case a=>k_is); (case l=>k_is); (case c=>k_is); (case k=>k_is)
   (case b=>intro _ _ _ _ _ _ us hl; obtain ⟨_,rfl⟩:=L2.len1 hl; rfl)
  have d__law_is_share:Def (L2.KOf KX) mg "_law_is_share" My.s__law_is_share ["_law_thing"]:=by
   dsimp only [L2.KOf]
   refine' L2.def_mk KX G ?a ?l ?c ?k ?b
   (case a=>k_is); (case l=>k_is); (case c=>k_is); (case k=>k_is)
   (case b=>intro _ _ _ _ _ _ us hl; obtain ⟨_,rfl⟩:=L2.len1 hl; rfl)
  have d__law_has_form:Def (L2.KOf KX) mg "_law_has_form" My.s__law_has_form ["_law_shop","_law_thing"]:=by
   dsimp only [L2.KOf]
   refine' L2.def_mk KX G ?a ?l ?c ?k ?b
   (case a=>k_is); (case l=>k_is); (case c=>k_is); (case k=>k_is)
   (case b=>intro _ _ _ _ _ _ us hl; obtain ⟨_,_,rfl⟩:=L2.len2 hl; rfl)
  have d__law_look:Def (L2.KOf KX) mg "_law_look" My.s__law_look ["_law_shop","_law_one","_law_thing"]:=by
   dsimp only [L2.KOf]
   refine' L2.def_mk KX G ?a ?l ?c ?k ?b
   (case a=>k_is); (case l=>k_is); (case c=>k_is); (case k=>k_is)
   (case b=>intro _ _ _ _ _ _ us hl; obtain ⟨_,_,_,rfl⟩:=L2.len3 hl; rfl)
  have d__law_share:Def (L2.KOf KX) mg "_law_share" My.s__law_share ["_law_top","_law_bottom"]:=by
   dsimp only [L2.KOf]
   refine' L2.def_mk KX G ?a ?l ?c ?k ?b
   (case a=>k_is); (case l=>k_is); (case c=>k_is); (case k=>k_is)
   (case b=>intro _ _ _ _ _ _ us hl; obtain ⟨_,_,rfl⟩:=L2.len2 hl; rfl)
  have d_law:Def (L2.KOf KX) mg "law" My.s_law ["_law_script"]:=by
   dsimp only [L2.KOf]
   refine' L2.def_mk KX G ?a ?l ?c ?k ?b
   (case a=>k_is); (case l=>k_is); (case c=>k_is); (case k=>k_is)
   (case b=>intro _ _ _ _ _ _ us hl; obtain ⟨_,rfl⟩:=L2.len1 hl; rfl)
  have T:My.Txt (L2.KOf KX) mg:=by
   dsimp only [L2.KOf] at *
   refine' My.txt_mk KX G ?z_len ?z_abs ?z_max ?z_min ?z_repr ?z_int ?z_list ?z_tuple ?z_bool ?z_range ?z_isinstance ?z_zip ?z_sum ?z_enumerate ?z_ValueError ?z_reversed ?z_TOP ?z_DEPTH ?z_START ?z_PIECE ?z_KEEP ?z_LACK ?z_LOST d_stocks d_greatest_seen d_order_cost d_next_stock d_day_cost d_common_divisor d_share d_weighed d_level_sums d_cheapest_from d_cheapest d_ask_lasting d_equation d_solved d_mean_and_worths d_best_of_all d_lasting d__law_pen d__law_mixed d__law_take d__law_price d__law_weights d__law_case d__law_order d__law_next d__law_day d__law_whole d__law_is_share d__law_has_form d__law_look d__law_share d_law
   (case z_len=>k_is)
   (case z_abs=>k_is)
   (case z_max=>k_is)
   (case z_min=>k_is)
   (case z_repr=>k_is)
   (case z_int=>k_is)
   (case z_list=>k_is)
   (case z_tuple=>k_is)
   (case z_bool=>k_is)
   (case z_range=>k_is)
   (case z_isinstance=>k_is)
   (case z_zip=>k_is)
   (case z_sum=>k_is)
   (case z_enumerate=>k_is)
   (case z_ValueError=>k_is)
   (case z_reversed=>k_is)
   (case z_TOP=>k_is)
   (case z_DEPTH=>k_is)
   (case z_START=>k_is)
   (case z_PIECE=>k_is)
   (case z_KEEP=>k_is)
   (case z_LACK=>k_is)
   (case z_LOST=>k_is)
  obtain ⟨f,fd,F,hm,_⟩:=T.d_law.ex
  have e0:=hmg.symm.trans hm
  cases e0
  refine ⟨fd,?_,λbase _ _=>My.ok_law T F (L2.Tr.ok_mono (L2.Tr.all_ok My.law_true.out (by decide)) λ_ _ h=>h.2)⟩
  obtain ⟨oc,od,kV,doc,pm,an,cdv,ct,osl,rfl,lk,hcd⟩:=F.ex
  exact λs u=>.of_eq rfl
 case S=>exact λK H a ns hl _ hS=>⟨a,ns,rfl,hS,hl,λ_=>rfl⟩
 case C=>exact λ_ _ _ _ z=>z

