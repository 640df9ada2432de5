import PyProof.Rows.All
import Wide.All
import OpenK.AllK
import Wide.FinOn
import Lean
import PyProof.EqAt
import PyProof.EqKinds
import PyProof.TupleCall
import PySem.Challenge.RW_twomarks_k02_shares_made
set_option Elab.async false
set_option linter.all false
set_option maxRecDepth 100000
set_option maxHeartbeats 0
noncomputable abbrev My.vw : PySem.Program := PySem.W.view
  PySem.Challenge.rw_twomarks_k02_shares_made.row.prog [1, 2, 3, 4, 5, 6, 7, 8, 9, 11, 13, 14, 15, 17, 18, 19, 20, 21, 22, 23, 24]
local macro_rules
  | `(tactic| o_head $H:term) => `(tactic| (
    refine PySem.W.holds_open (q := My.vw) (loose := [])
      (Xt := fun s => PySem.W.xlAt My.vw [] s && PySem.W.recOk
        (PySem.W.RowW.records PySem.Challenge.rw_twomarks_k02_shares_made.row.toRowW) s)
      (XP := PySem.W.XL My.vw []) (Yf := ($H).obs)
      (Ya := ($H).val) (YP := ($H).says) (N := 20000) ?hl
      ($H).of ($H).keeps (fun s e => PySem.W.xl_of s
        (Bool.and_eq_true_iff.mp e).1) PySem.W.XL.keeps
      (by rfl) (by rfl) (by rfl)
      (fun s e => PySem.W.recFacts_of
        (Bool.and_eq_true_iff.mp e).2)
      (by rfl) (by assumption) (by decide +kernel)
      ⟨rfl, rfl, rfl, rfl, rfl, by decide +kernel⟩ ?hw ?hc
    (case hl => intro w; kernel_rfl)))
open_top My.hd for PySem.Challenge.rw_twomarks_k02_shares_made
set_option maxHeartbeats 200000
set_option Elab.async false
set_option linter.all false
set_option maxRecDepth 100000
namespace L2
open PySem PySem.Spec PyProof.Rows
noncomputable abbrev Key:=Sum Int Str
noncomputable def keyIs:Key→Value→Bool
  | .inl k,v=>Value.isInt k v
  | .inr x,v=>Value.isStrOf x v
noncomputable def keyH (w:World):Key→Int
  | .inl k=>hashInt k
  | .inr x=>hashStr w x
theorem keyIs_shape:∀ {k:Key} {v:Value},keyIs k v=true→(∃ i t,k=Sum.inl i∧v=Value.int i t)∨(∃ x t,k=Sum.inr x∧v=Value.str x t)
  | .inl i,v,h=>by
    obtain ⟨t,e⟩:=Value.isInt_shape (k:=i) (v:=v) h
    exact .inl ⟨i,t,rfl,e⟩
  | .inr x,v,h=>by
    obtain ⟨t,e⟩:=Value.isStrOf_shape (x:=x) (v:=v) h
    exact .inr ⟨x,t,rfl,e⟩
theorem keyIs_int (i:Int) (t:Tok):keyIs (.inl i) (.int i t)=true:=by simp [keyIs,Value.isInt]
theorem keyIs_str (x:Str) (t:Tok):keyIs (.inr x) (.str x t)=true:=by simp [keyIs,Value.isStrOf]
theorem key_ll (a b:Int):decide ((Sum.inl a:Key)=Sum.inl b)=(a == b):=by
  by_cases e:a=b
  · subst e; simp
  · have h:¬ (Sum.inl a:Key)=Sum.inl b:=fun q=>e (Sum.inl.inj q)
    rw [decide_eq_false h]
    exact (beq_eq_false_iff_ne.mpr e).symm
theorem key_rr (a b:Str):decide ((Sum.inr a:Key)=Sum.inr b)=decide (a=b):=by
  by_cases e:a=b
  · subst e; simp
  · have h:¬ (Sum.inr a:Key)=Sum.inr b:=fun q=>e (Sum.inr.inj q)
    rw [decide_eq_false h,decide_eq_false e]
theorem key_lr (a:Int) (b:Str):decide ((Sum.inl a:Key)=Sum.inr b)=false:=decide_eq_false (fun q=>nomatch q)
theorem key_rl (a:Str) (b:Int):decide ((Sum.inr a:Key)=Sum.inl b)=false:=decide_eq_false (fun q=>nomatch q)

noncomputable def mixKind (prog:Program) (w:World):PySem.KeyKind prog w Key where
  is:=keyIs
  hash:=keyH w
  inj:=fun v a b ha hb=>by
    rcases keyIs_shape ha with ⟨i,t,rfl,rfl⟩ | ⟨x,t,rfl,rfl⟩
    · rcases keyIs_shape hb with ⟨j,u,rfl,e⟩ | ⟨y,u,rfl,e⟩
      · injection e with e1 _; rw [e1]
      · exact nomatch e
    · rcases keyIs_shape hb with ⟨j,u,rfl,e⟩ | ⟨y,u,rfl,e⟩
      · exact nomatch e
      · injection e with e1 _; rw [e1]
  byValue:=fun k v h=>by
    rcases keyIs_shape h with ⟨i,t,rfl,rfl⟩ | ⟨x,t,rfl,rfl⟩ <;> rfl
  pyHash:=fun hv h=>by
    rcases keyIs_shape hv with ⟨i,t,rfl,rfl⟩ | ⟨x,t,rfl,rfl⟩
    · exact wpAny_pyHash_int h
    · exact wpAny_pyHash_str h
  eqBool:=fun hu hv h=>by
    rcases keyIs_shape hu with ⟨i,t,rfl,rfl⟩ | ⟨x,t,rfl,rfl⟩
    · rcases keyIs_shape hv with ⟨j,u,rfl,rfl⟩ | ⟨y,u,rfl,rfl⟩
      · rw [key_ll] at h; exact wpAny_eqBool_int h
      · rw [key_lr] at h; exact SeqAt.EqAt.int_str i t y u _ _ _ _ h
    · rcases keyIs_shape hv with ⟨j,u,rfl,rfl⟩ | ⟨y,u,rfl,rfl⟩
      · rw [key_rl] at h; exact SeqAt.EqAt.str_int x t j u _ _ _ _ h
      · rw [key_rr] at h; exact wpAny_eqBool_str h
  «strs»:=fun k x t v h=>by
    rcases keyIs_shape h with ⟨i,u,rfl,e⟩ | ⟨y,u,rfl,e⟩
    · exact nomatch e
    · injection e with e1 _
      subst e1
      cases v <;> rfl

theorem mixKind_int (prog:Program) (w:World) (i:Int) (t:Tok):(mixKind prog w).is (.inl i) (.int i t)=true:=keyIs_int i t
theorem mixKind_str (prog:Program) (w:World) (x:Str) (t:Tok):(mixKind prog w).is (.inr x) (.str x t)=true:=keyIs_str x t
end L2
namespace L2
open PySem PySem.Spec PyProof.Rows
inductive V where
  | non | bl (b:Bool) | int (i:Int) | str (x:Str) | byt (b:Array UInt8) | flt (b:UInt64) | ref (a:Addr) | ty (n:String)
  deriving DecidableEq

noncomputable def RelV:V→Value→Prop
  | .non,u=>u=Value.none
  | .bl b,u=>u=Value.bool b
  | .int i,u=>∃ t,u=Value.int i t
  | .str x,u=>∃ t,u=Value.str x t
  | .byt b,u=>∃ t,u=Value.bytes b t
  | .flt b,u=>∃ t,u=Value.float b t
  | .ref a,u=>u=Value.ref a
  | .ty n,u=>u=Value.type n

noncomputable abbrev Vals:List V→List Value→Prop:=Paired RelV
theorem Vals.length {xs:List V} {us:List Value} (r:Vals xs us):xs.length=us.length:=Paired.length r
theorem Vals.get {xs:List V} {us:List Value} {i:Nat} {x:V} (h:Vals xs us) (e:xs[i]?=some x):∃ u,us[i]?=some u∧RelV x u:=by
  induction h generalizing i with
  | nil=>cases e
  | cons r t ih=>cases i with | zero=>cases e; exact ⟨_,rfl,r⟩ | succ i=>exact ih (i:=i) e
theorem Vals.append {xs ys:List V} {us ws:List Value} (h:Vals xs us) (s:Vals ys ws):Vals (xs++ys) (us++ws):=by
  induction h with
  | nil=>exact s
  | cons r t ih=>exact .cons r ih
theorem Vals.take {xs:List V} {us:List Value} (n:Nat) (h:Vals xs us):Vals (xs.take n) (us.take n):=by
  induction h generalizing n with
  | nil=>rw [List.take_nil,List.take_nil]; exact .nil
  | cons r t ih=>cases n with | zero=>exact .nil | succ n=>exact .cons r (ih n)
theorem Vals.drop {xs:List V} {us:List Value} (n:Nat) (h:Vals xs us):Vals (xs.drop n) (us.drop n):=by
  induction h generalizing n with
  | nil=>rw [List.drop_nil,List.drop_nil]; exact .nil
  | cons r t ih=>cases n with | zero=>exact .cons r t | succ n=>exact ih n
noncomputable def RelO:Option V→Option Value→Prop
  | some v,some u=>RelV v u
  | none,none=>True
  | _,_=>False
noncomputable def KV {κ:Type}:List (κ×V)→List (κ×Value)→Prop:=Paired fun (p:κ×V) (q:κ×Value)=>p.1=q.1∧RelV p.2 q.2

noncomputable def kV:Key→V
  | .inl i=>.int i
  | .inr x=>.str x

inductive HO where
  /-- a list -/
  | lst (xs:List V)
  /-- a tuple (never changes) -/
  | tup (xs:List V)
  /-- a dict whose keys are ints and texts; one whose keys are tuples of ints and texts (the empty one is both) -/
  | dK (kvs:List (Key×V)) | dT (kvs:List (List Key×V))
  /-- a set of ints: its members,its size -/
  | set (S:Int→Bool) (n:Nat)
  /-- an instance of the class at C,its dict at dx,its attributes -/
  | ins (C dx:Addr) (fs:List (Str×V))
  /-- the dict of the instance at x -/
  | own (x:Addr)
  /-- the dict of an exception -/
  | xd (fs:List (Str×V))
  /-- a bound method,f of x -/
  | met (f x:Addr)
  /-- a range object lo,lo+1,.. below hi -/
  | rng (lo hi:Int)
  /-- a thing that is known to the object (the script; a dict while a loop walks it): read,never written while it is so -/
  | frz (o:Obj) (u:HO)
  /-- a code object's table -/
  | tbl (ps:Array Value)
  /-- any other thing,by what is true of its one object (a def of one's own: SetO a S n:=HO.ext fun h=>..) -/
  | ext (φ:Heap→Prop)

noncomputable abbrev Hp:=Addr→Option HO
noncomputable def upd (H:Hp) (a:Addr) (o:HO):Hp:=fun b=>if b=a then some o else H b
theorem upd_same {H:Hp} {a:Addr} {o:HO}:upd H a o a=some o:=by unfold upd; rw [if_pos rfl]
theorem upd_ne {H:Hp} {a b:Addr} {o:HO} (h:b≠a):upd H a o b=H b:=by unfold upd; rw [if_neg h]
theorem ne_of {H:Hp} {a b:Addr} {o u:HO} (h:H a=some o) (h':H b=some u) (d:o≠u):a≠b:=by
  intro e; subst e; rw [h] at h'; exact d (Option.some.inj h')
theorem ne_of_none {H:Hp} {a b:Addr} {o:HO} (h:H a=some o) (h':H b=none):a≠b:=by
  intro e; subst e; rw [h] at h'; cases h'

section
variable (P:Program) (w:World)
noncomputable def ObjOk (H:Hp) (h:Heap) (a:Addr):HO→Prop
  | .lst xs=>xs.length≤sizeLine∧∃ (its:List Value) (n:Nat),Vals xs its∧h.get? a=some { cls:=.type "list",data:=.seq its.toArray n }
  | .tup xs=>xs.length≤sizeLine∧∃ its:List Value,Vals xs its∧IsTup h a its.toArray
  | .dK kvs=>kvs.length≤sizeLine∧(a == sysModules)=false∧∃ vs,KV kvs vs∧h.DictOf (mixKind P w) a vs
  | .dT kvs=>kvs.length≤sizeLine∧(a == sysModules)=false∧∃ xs:List (List Key×Addr×Value),
      Paired (fun (p:List Key×V) (q:List Key×Addr×Value)=>p.1=q.1∧H q.2.1=some (.tup (p.1.map kV))∧RelV p.2 q.2.2) kvs xs ∧
      ∃ o es ep,h.get? a=some o∧o.ExactDict∧o.data=.dict es ep∧es.toList=xs.map (entryOfKey (tupleKind (mixKind P w)))∧(xs.map (·.1)).Nodup
  | .set S n=>h.SetOf (intKind P w) a S n
  | .ins C dx fs=>H dx=some (.own a)∧fs.length≤1000∧dx≠a∧h.get? a=some (PySem.W.instObj C dx) ∧
      ∃ mA,h.Ns1 dx mA∧(∀ f,RelO (fs.lookup f) (mA f))∧PySem.Within mA (fs.map (·.1))
  | .own _=>∃ o,h.get? a=some o
  | .xd fs=>∃ mA,h.Ns1 a mA∧∀ f,RelO (fs.lookup f) (mA f)
  | .rng lo hi=>∃ t u v,h.get? a=some { cls:=.type "range",data:=.fields #[.int lo t,.int hi u,.int 1 v] }
  | .frz o u=>h.get? a=some o∧ObjOk H h a u
  | .tbl ps=>h.get? a=some { cls:=.none,data:=.fields ps }
  | .met f x=>h.get? a=some (PySem.W.methodObj (.ref f) (.ref x))
  | .ext φ=>φ h∧(∃ o,h.get? a=some o)∧∀ h1 h2:Heap,φ h1→(∀ o,h1.get? a=some o→h2.get? a=some o)→φ h2
noncomputable def HOk (H:Hp) (h:Heap):Prop:=∀ a o,H a=some o→ObjOk P w H h a o
end
section
variable {P:Program} {w:World} {H H':Hp} {h h':Heap} {a:Addr} {o:HO}
theorem ObjOk.lt (x:ObjOk P w H h a o):a < h.objs.size:=by
  cases o with
  | lst xs=>obtain ⟨_,_,_,_,e⟩:=x; exact Heap.lt_size e
  | tup xs=>obtain ⟨_,_,_,p⟩:=x; exact p.lt
  | dK kvs=>obtain ⟨_,_,_,_,o,_,_,e,_⟩:=x; exact Heap.lt_size e
  | dT kvs=>obtain ⟨_,_,_,_,o,_,_,e,_⟩:=x; exact Heap.lt_size e
  | set S n=>obtain ⟨o,_,_,_,e,_⟩:=x; exact Heap.lt_size e
  | ins C dx fs=>obtain ⟨_,_,_,e,_⟩:=x; exact Heap.lt_size e
  | own y=>obtain ⟨_,e⟩:=x; exact Heap.lt_size e
  | xd fs=>obtain ⟨_,⟨_,_,_,e,_⟩,_⟩:=x; exact Heap.lt_size e
  | rng lo hi=>obtain ⟨_,_,_,e⟩:=x; exact Heap.lt_size e
  | frz ob u=>obtain ⟨e,_⟩:=x; exact Heap.lt_size e
  | tbl ps=>exact Heap.lt_size (show h.get? a=some _ from x)
  | met f y=>exact Heap.lt_size (show h.get? a=some _ from x)
  | ext φ=>obtain ⟨_,⟨_,e⟩,_⟩:=x; exact Heap.lt_size e
theorem Paired.mapP {α β:Type} {F G:α→β→Prop} {l₁:List α} {l₂:List β} (h:Paired F l₁ l₂) (f:∀ a b,F a b→G a b):Paired G l₁ l₂:=by
  induction h with
  | nil=>exact .nil
  | cons r t ih=>exact .cons (f _ _ r) ih
theorem ObjOk.stay (x:ObjOk P w H h a o) (k:∀ b u,(b=a∨H b=some (.own a))→h.get? b=some u→h'.get? b=some u)
    (ho:∀ b,H b=some (.own a)→H' b=some (.own a)) (ht:∀ b xs,H b=some (.tup xs)→H' b=some (.tup xs)):ObjOk P w H' h' a o:=by
  induction o with
  | lst xs=>obtain ⟨z,its,n,r,e⟩:=x; exact ⟨z,its,n,r,k _ _ (.inl rfl) e⟩
  | tup xs=>obtain ⟨z,its,r,ob,e,c⟩:=x; exact ⟨z,its,r,ob,k _ _ (.inl rfl) e,c⟩
  | dK kvs=>obtain ⟨z,y,vs,r,ob,es,ep,e,c⟩:=x; exact ⟨z,y,vs,r,ob,es,ep,k _ _ (.inl rfl) e,c⟩
  | dT kvs =>
    obtain ⟨z,y,xs,r,ob,es,ep,e,c⟩:=x
    exact ⟨z,y,xs,Paired.mapP r fun p q z=>⟨z.1,ht _ _ z.2.1,z.2.2⟩,ob,es,ep,k _ _ (.inl rfl) e,c⟩
  | set S n=>obtain ⟨ob,es,ep,t,e,c⟩:=x; exact ⟨ob,es,ep,t,k _ _ (.inl rfl) e,c⟩
  | ins C dx fs =>
    obtain ⟨d,z,ne,e,mA,⟨od,es,ep,e2,c⟩,r⟩:=x
    exact ⟨ho _ d,z,ne,k _ _ (.inl rfl) e,mA,⟨od,es,ep,k _ _ (.inr d) e2,c⟩,r⟩
  | own y=>obtain ⟨ob,e⟩:=x; exact ⟨ob,k _ _ (.inl rfl) e⟩
  | xd fs=>obtain ⟨mA,⟨od,es,ep,e,c⟩,r⟩:=x; exact ⟨mA,⟨od,es,ep,k _ _ (.inl rfl) e,c⟩,r⟩
  | rng lo hi=>obtain ⟨t,u,v,e⟩:=x; exact ⟨t,u,v,k _ _ (.inl rfl) e⟩
  | frz ob u ih=>obtain ⟨e,q⟩:=x; exact ⟨k _ _ (.inl rfl) e,ih q⟩
  | tbl ps =>
    have e:h.get? a=some { cls:=.none,data:=.fields ps }:=x
    show h'.get? a=some { cls:=.none,data:=.fields ps }
    exact k a _ (.inl rfl) e
  | met f y =>
    have e:h.get? a=some (PySem.W.methodObj (.ref f) (.ref y)):=x
    show h'.get? a=some (PySem.W.methodObj (.ref f) (.ref y))
    exact k a _ (.inl rfl) e
  | ext φ=>obtain ⟨p,⟨o,e⟩,st⟩:=x; exact ⟨st _ _ p fun o q=>k _ _ (.inl rfl) q,⟨o,k _ _ (.inl rfl) e⟩,st⟩
theorem HOk.lt (x:HOk P w H h) (e:H a=some o):a < h.objs.size:=(x a o e).lt
theorem HOk.fresh (x:HOk P w H h) (e:h.objs.size≤a):H a=none:=by
  cases q:H a with
  | none=>rfl
  | some u=>exact absurd (Nat.lt_of_lt_of_le (x.lt q) e) (Nat.lt_irrefl _)
theorem HOk.kept (x:HOk P w H h) (k:∀ b u,h.get? b=some u→h'.get? b=some u):HOk P w H h':=fun a o e =>
  (x a o e).stay (fun b u _ q=>k b u q) (fun _ q=>q) fun _ _ q=>q
theorem HOk.laid (x:HOk P w H h) (k:∀ b u,h.get? b=some u→h'.get? b=some u) (hp:h.objs.size≤a) (new:ObjOk P w (upd H a o) h' a o):HOk P w (upd H a o) h':=fun b u e=>by
  have hn:=x.fresh hp
  by_cases hb:b=a
  · subst hb; rw [upd_same] at e; cases e; exact new
  · rw [upd_ne hb] at e
    exact (x b u e).stay (fun c v _ q=>k c v q) (fun c q=>by rw [upd_ne (ne_of_none q hn)]; exact q) fun c xs q=>by rw [upd_ne (ne_of_none q hn)]; exact q
end
noncomputable def Rd (H:Hp) (a:Addr) (u:HO):Prop:=H a=some u∨∃ o,H a=some (.frz o u)
theorem Rd.ok {P:Program} {w:World} {H:Hp} {h:Heap} {a:Addr} {u:HO} (r:Rd H a u) (x:HOk P w H h):ObjOk P w H h a u:=by
  rcases r with r | ⟨o,r⟩
  · exact x a u r
  · obtain ⟨_,q⟩:=x a _ r
    exact q
noncomputable def Mut:Option HO→Prop
  | some (.lst _)=>True
  | some (.dK _)=>True
  | some (.dT _)=>True
  | some (.set _ _)=>True
  | some (.ins _ _ _)=>True
  | some (.ext _)=>True
  | _=>False
section
variable {P:Program} {w:World} {H:Hp} {h h':Heap} {x e:Addr} {o':HO}
theorem HOk.write (ok:HOk P w H h) (mu:Mut (H x)) (he:e=x∨H e=some (.own x)) (k:∀ b u,b≠e→h.get? b=some u→h'.get? b=some u) (heo:∃ u,h'.get? e=some u)
    (new:ObjOk P w (upd H x o') h' x o'):HOk P w (upd H x o') h':=fun b u q=>by
  have nown:∀ c y,H c=some (.own y)→c≠x:=fun c y r z=>by subst z; rw [r] at mu; exact mu
  have ntup:∀ c xs,H c=some (.tup xs)→c≠x:=fun c xs r z=>by subst z; rw [r] at mu; exact mu
  by_cases hb:b=x
  · subst hb; rw [upd_same] at q; cases q; exact new
  · rw [upd_ne hb] at q
    by_cases hbe:b=e
    · have q':H b=some (.own x):=by
        rcases he with z | z
        · exact absurd (hbe.trans z) hb
        · rw [hbe]; exact z
      rw [q] at q'; cases q'
      obtain ⟨v,hv⟩:=heo
      exact ⟨v,by rw [hbe]; exact hv⟩
    · refine (ok b u q).stay (fun c v hc r=>k c v ?_ r) (fun c r=>by rw [upd_ne (nown c b r)]; exact r) fun c xs r=>by rw [upd_ne (ntup c xs r)]; exact r
      rcases hc with rfl | hc
      · exact hbe
      · rintro rfl
        rcases he with z | z
        · exact nown c b hc z
        · rw [hc] at z; cases z; exact hb rfl
end
structure Un (fs ex:List Addr) (H H':Hp) (h h':Heap):Prop where
  keep:∀ b o,h.get? b=some o→H b=none→b ∉ fs→b ∉ ex→h'.get? b=some o
  slot:∀ b o,h.get? b=some o→H b=none→b∈fs→b ∉ ex→∃ sl,h'.get? b=some { o with slots:=sl }
  free:∀ b o,h.get? b=some o→H b=none→b ∉ ex→H' b=none
  there:∀ b o,h.get? b=some o→b ∉ ex→∃ o',h'.get? b=some o'
  tups:∀ b xs,H b=some (.tup xs)→H' b=some (.tup xs)
  frzs:∀ b o u,H b=some (.frz o u)→H' b=some (.frz o u)
  tbls:∀ b ps,H b=some (.tbl ps)→∃ more,H' b=some (.tbl (ps++more))
section
variable {fs fs' ex ex':List Addr} {H H1 H2:Hp} {h h1 h2 h':Heap} {a x e:Addr} {o:HO}
theorem Un.any (u:Un fs ex H H1 h h1) {b:Addr} {ob:Obj} (q:h.get? b=some ob) (n:H b=none) (hx:b ∉ ex):∃ sl,h1.get? b=some { ob with slots:=sl }:=by
  by_cases hb:b∈fs
  · exact u.slot b ob q n hb hx
  · exact ⟨ob.slots,u.keep b ob q n hb hx⟩
theorem Un.kept (k:∀ b u,h.get? b=some u→h'.get? b=some u):Un fs ex H H h h' :=
  ⟨fun b ob q _ _ _=>k b ob q,fun b ob q _ _ _=>⟨ob.slots,k b ob q⟩,fun _ _ _ n _=>n,fun b ob q _=>⟨ob,k b ob q⟩,fun _ _ q=>q,fun _ _ _ q=>q,fun _ ps q=>⟨#[],by rw [q]; simp⟩⟩
theorem Un.refl:Un fs ex H H h h:=Un.kept fun _ _ q=>q
theorem Un.laid (k:∀ b u,h.get? b=some u→h'.get? b=some u) (hp:h.objs.size≤a) (hn:H a=none):Un fs ex H (upd H a o) h h' where
  keep:=fun b u q _ _ _=>k b u q
  slot:=fun b u q _ _ _=>⟨u.slots,k b u q⟩
  free:=fun b u q n _=>by rw [upd_ne (Nat.ne_of_lt (Nat.lt_of_lt_of_le (Heap.lt_size q) hp))]; exact n
  there:=fun b u q _=>⟨u,k b u q⟩
  tups:=fun b xs q=>by rw [upd_ne (ne_of_none q hn)]; exact q
  frzs:=fun b u xs q=>by rw [upd_ne (ne_of_none q hn)]; exact q
  tbls:=fun b ps q=>⟨#[],by rw [upd_ne (ne_of_none q hn),q]; simp⟩
theorem Un.write (mu:Mut (H x)) (he:e=x∨H e=some (.own x)) (k:∀ b u,b≠e→h.get? b=some u→h'.get? b=some u) (heo:∃ u,h'.get? e=some u):Un fs ex H (upd H x o) h h':=by
  have hx:∀ b,H b=none→b≠x:=fun b n z=>by subst z; rw [n] at mu; exact mu
  have hb:∀ b,H b=none→b≠e:=fun b n z=>by
    subst z
    rcases he with r | r
    · exact hx b n r
    · rw [n] at r; cases r
  have hm:∀ b u,H b=some u→¬ Mut (some u)→b≠x:=fun b u q nm z=>by subst z; rw [q] at mu; exact nm mu
  refine ⟨fun b u q n _ _=>k b u (hb b n) q,fun b u q n _ _=>⟨u.slots,k b u (hb b n) q⟩,fun b u q n _=>by rw [upd_ne (hx b n)]; exact n,fun b u q _=>?_,
    fun b xs q=>by rw [upd_ne (hm b _ q fun z=>z)]; exact q,fun b u xs q=>by rw [upd_ne (hm b _ q fun z=>z)]; exact q,fun b ps q=>⟨#[],by rw [upd_ne (hm b _ q fun z=>z),q]; simp⟩⟩
  by_cases hbe:b=e
  · subst hbe; exact heo
  · exact ⟨u,k b u hbe q⟩
end
noncomputable def trk (h:Heap) (H:Hp):List Addr:=(List.range h.objs.size).filter fun a=>(H a).isSome
noncomputable def hidT (h:Heap) (H:Hp):Heap:=PySem.W.hideAll h (trk h H)
theorem hidT_size (h:Heap) (H:Hp):(hidT h H).objs.size=h.objs.size:=PySem.W.hideAll_size _ _
theorem hidT_get {h:Heap} {H:Hp} {b:Addr} {o:Obj} (e:h.get? b=some o) (n:H b=none):(hidT h H).get? b=some o :=
  PySem.W.hideAll_get _ e fun hm=>by
    have q:(H b).isSome=true:=(List.mem_filter.mp hm).2
    rw [n] at q; simp at q
theorem of_hidT {h:Heap} {H:Hp} {b:Addr} {o:Obj} (e:(hidT h H).get? b=some o):h.get? b=some o∧H b=none:=by
  have e':h.get? b=some o:=PySem.W.of_hideAll (trk h H) e
  refine ⟨e',?_⟩
  cases q:H b with
  | none=>rfl
  | some x =>
    have hm:b∈trk h H:=List.mem_filter.mpr ⟨List.mem_range.mpr (Heap.lt_size e'),by simp [q]⟩
    have z:(hidT h H).get? b=none:=PySem.W.hideAll_none (trk h H) hm
    rw [z] at e; cases e

noncomputable def allNews (g h:Heap) (L:Addr):List (Addr×Obj):=(List.range h.objs.size).filterMap fun a=>if a=L∨(g.get? a).isSome=true then none else (h.get? a).map fun o=>(a,o)
noncomputable def rest (g h:Heap) (L d:Addr):List (Addr×Obj):=(allNews g h L).filter fun p=>decide (p.1≠d)
end L2
namespace L2
open PySem PySem.Spec PyProof.Rows
structure Mod (K:PySem.W.Frag) (mg:Str→Option Value) (base:Heap):Prop where
  kin:K.In base
  glob:base.Ns mainGlobals mg
  blt:∃ mb,base.Ns builtinsNs mb∧∀ x:Str,x≠"__name__"→mb x=bootBuiltins x
  nolimit:base.NoLimit
  nodig:base.NoDigits

structure Cx where
  prog:Program
  w:World
  K:PySem.W.Frag
  mg:Str→Option Value
  base:Heap
  A:Around
  N:List Str
  s₀:Shared
  H₀:Hp
  env:Env
  outer:List Env
  stack:List Env
  ex:List Addr
  fn:Str→Bool
  calm:Bool
  pn:List (Addr×Obj)
  xe:Value→Shared→Prop
noncomputable def frs (l:List Env):List Addr:=l.filterMap (·.frame)
noncomputable abbrev Cx.fs (X:Cx):List Addr:=frs X.outer

noncomputable def Vis (sc:Scope) (x:Str):Prop:=sc.names.lookup x=some .local∨sc.names.lookup x=some .cell∨sc.names.lookup x=some .free
noncomputable def Loc (sc:Scope) (x:Str):Prop:=sc.names.lookup x=some .local∨sc.names.lookup x=some .cell
noncomputable def Look (env:Env) (h:Heap) (m:Str→Option Value) (x:Str) (u:Value):Prop :=
  (env.kindOf x=some .local∧m x=some u)∨((env.kindOf x=some .cell∨env.kindOf x=some .free)∧∃ c,env.cells.lookup x=some c∧h.IsCell c (some u))

structure Cx.Ok (X:Cx):Prop where
  mod:Mod X.K X.mg X.base
  kind:X.env.scope.kind=.function
  glob:X.env.globals=mainGlobals
  blt:X.env.builtins=builtinsNs
  above:X.s₀.heap.objs.size≤X.env.locals
  inj:∀ x y c,X.env.cells.lookup x=some c→X.env.cells.lookup y=some c→x=y
  has:∀ x,(X.env.kindOf x=some .cell∨X.env.kindOf x=some .free)→∃ c,X.env.cells.lookup x=some c
  cab:∀ x c,X.fn x=true→X.env.cells.lookup x=some c→X.s₀.heap.objs.size≤c
  hd:X.calm=true→X.A.handled=none
  frames:X.A.frames=some X.stack
  stk:X.stack=X.outer∨(X.stack=X.env::X.outer∧X.env.frame=some X.env.locals)
  exf:∀ b∈X.ex,b≠X.env.locals∧∀ x c,X.env.cells.lookup x=some c→c≠b
  bs:∀ b o,X.base.get? b=some o→X.s₀.heap.get? b=some o∧X.H₀ b=none
  bsz:X.base.objs.size≤X.s₀.heap.objs.size
  noex:∀ b o,X.base.get? b=some o→b ∉ X.ex
  exfs:∀ b∈X.ex,b ∉ X.fs
  funs:X.s₀.heap.FunFrames X.base X.outer
  frf:∀ b∈X.fs,X.H₀ b=none

structure Inv (X:Cx) (pins:List (Addr×Obj)) (σ:List (Option V)) (H:Hp) (s:Shared):Prop where
  ok:X.Ok
  os:s.os=X.s₀.os
  bare:AllBare s.gens
  base:Un X.fs X.ex X.H₀ H X.s₀.heap s.heap
  loc:∃ m,s.heap.Ns X.env.locals m∧∀ (i:Nat) (x:Str) (v:V),X.N[i]?=some x→σ[i]?=some (some v)→Vis X.env.scope x→∃ u,RelV v u∧Look X.env s.heap m x u
  cell:∀ x c,X.env.cells.lookup x=some c→∃ v,s.heap.IsCell c v
  free:H X.env.locals=none
  freeC:∀ x c,X.env.cells.lookup x=some c→H c=none
  pin:∀ p∈X.pn++pins,s.heap.get? p.1=some p.2∧H p.1=none∧p.1≠X.env.locals∧p.1 ∉ X.fs∧∀ v,p.2.data≠.cell v
  hok:HOk X.prog X.w H s.heap
  len:σ.length=X.N.length

section
variable {X:Cx} {pins:List (Addr×Obj)} {σ:List (Option V)} {H H':Hp} {s:Shared} {h':Heap}
theorem Cx.Ok.nofr (ok:X.Ok) {b:Addr} {o:Obj} (e:X.base.get? b=some o):b ∉ X.fs:=fun hb=>by
  have:=(ok.funs.mem hb).1
  rw [e] at this; cases this
theorem Inv.bs (I:Inv X pins σ H s):∀ b o,X.base.get? b=some o→s.heap.get? b=some o∧H b=none:=fun b o e =>
  ⟨I.base.keep b o (I.ok.bs b o e).1 (I.ok.bs b o e).2 (I.ok.nofr e) (I.ok.noex b o e),I.base.free b o (I.ok.bs b o e).1 (I.ok.bs b o e).2 (I.ok.noex b o e)⟩
theorem Inv.bk (I:Inv X pins σ H s):∀ b o,X.base.get? b=some o→s.heap.get? b=some o:=fun b o e=>(I.bs b o e).1
theorem Inv.mod (I:Inv X pins σ H s):Mod X.K X.mg X.base:=I.ok.mod
theorem Inv.kIn (I:Inv X pins σ H s):X.K.In s.heap:=I.ok.mod.kin.keeps I.bk
theorem Inv.lt (I:Inv X pins σ H s):X.env.locals < s.heap.objs.size:=let ⟨_,hn,_⟩:=I.loc; hn.lt
theorem Inv.sz (I:Inv X pins σ H s):X.s₀.heap.objs.size≤s.heap.objs.size:=Nat.le_trans I.ok.above (Nat.le_of_lt I.lt)
theorem Inv.nofs (I:Inv X pins σ H s) {a:Addr} (h:s.heap.objs.size≤a):a ∉ X.fs:=fun hb=>by
  obtain ⟨_,o,ho,_⟩:=I.ok.funs.mem hb
  exact absurd (Nat.lt_of_lt_of_le (Heap.lt_size ho) (Nat.le_trans I.sz h)) (Nat.lt_irrefl _)
theorem Inv.cne (I:Inv X pins σ H s):∀ x c,X.env.cells.lookup x=some c→c≠X.env.locals:=fun x c e z=>by
  obtain ⟨v,o,ho,hd⟩:=I.cell x c e
  obtain ⟨m,⟨o',es,ep,ho',hd',_⟩,_⟩:=I.loc
  rw [z,ho'] at ho; cases ho; rw [hd'] at hd; cases hd
theorem Inv.funs (I:Inv X pins σ H s):s.heap.FunFrames X.base X.outer:=by
  have all:∀ (l:List Env),(∀ b∈frs l,b∈X.fs)→X.s₀.heap.FunFrames X.base l→s.heap.FunFrames X.base l:=by
    intro l
    induction l with
    | nil=>intro _ _; trivial
    | cons env r ih =>
      intro hs hl
      obtain ⟨hk,⟨L,o,hf,hn,ho,hd⟩,hr⟩:=hl
      have hL:L∈X.fs:=hs L (by unfold frs; rw [List.filterMap_cons,hf]; exact List.mem_cons_self)
      obtain ⟨sl,e⟩:=I.base.slot L o ho (I.ok.frf L hL) hL fun z=>I.ok.exfs L z hL
      exact ⟨hk,⟨L,_,hf,hn,e,hd⟩,ih (fun b hb=>hs b (by unfold frs; rw [List.filterMap_cons,hf]; exact List.mem_cons_of_mem _ hb)) hr⟩
  exact all X.outer (fun _ hb=>hb) I.ok.funs

theorem Inv.stack (I:Inv X pins σ H s):s.heap.FunFrames X.base X.stack:=by
  rcases I.ok.stk with e | ⟨e,hf⟩
  · rw [e]; exact I.funs
  · rw [e]
    obtain ⟨m,hn,_⟩:=I.loc
    refine .cons (by rw [I.ok.kind]; decide) hf hn ?_ I.funs
    exact Heap.get?_none_of_le (Nat.le_trans I.ok.bsz I.ok.above)
theorem Inv.stkSub (I:Inv X pins σ H s):∀ b∈frs X.stack,b∈X.env.locals::X.fs:=fun b hb=>by
  rcases I.ok.stk with e | ⟨e,hf⟩
  · rw [e] at hb; exact List.mem_cons_of_mem _ hb
  · rw [e] at hb
    unfold frs at hb
    rw [List.filterMap_cons,hf] at hb
    exact hb
theorem Inv.stkFree (I:Inv X pins σ H s):∀ b∈frs X.stack,H b=none:=fun b hb=>by
  rcases List.mem_cons.mp (I.stkSub b hb) with e | hb
  · rw [e]; exact I.free
  · obtain ⟨_,o,ho,_⟩:=I.ok.funs.mem hb
    exact I.base.free b o ho (I.ok.frf b hb) fun z=>I.ok.exfs b z hb

theorem Inv.step {g':Array GenState} {t':Nat} {d':Drawn} {ch:List Addr} (I:Inv X pins σ H s)
    (hch:∀ b∈ch,(b∈X.ex∨X.s₀.heap.objs.size≤b)∧b≠X.env.locals∧(∀ x c,X.env.cells.lookup x=some c→c≠b)∧∀ p∈X.pn++pins,p.1≠b)
    (keep:∀ b o,b≠X.env.locals→b ∉ X.fs→b ∉ ch→s.heap.get? b=some o→H b=none→h'.get? b=some o)
    (slot:∀ b o,b≠X.env.locals→b∈X.fs→b ∉ ch→s.heap.get? b=some o→H b=none→∃ sl,h'.get? b=some { o with slots:=sl }) (free:∀ b o,b ∉ ch→s.heap.get? b=some o→H b=none→H' b=none)
    (there:∀ b o,b ∉ ch→s.heap.get? b=some o→∃ o',h'.get? b=some o')
    (tups:∀ b xs,H b=some (.tup xs)→H' b=some (.tup xs)) (frzs:∀ b o u,H b=some (.frz o u)→H' b=some (.frz o u)) (tbls:∀ b ps,H b=some (.tbl ps)→∃ more,H' b=some (.tbl (ps++more)))
    (ns:∀ m,s.heap.Ns X.env.locals m→h'.Ns X.env.locals m) (hok:HOk X.prog X.w H' h') (hg:AllBare g') :
    Inv X pins σ H' { s with heap:=h',gens:=g',drawn:=d',toks:=t' }:=by
  have neL:∀ b o,X.s₀.heap.get? b=some o→b≠X.env.locals:=fun b o e=>Nat.ne_of_lt (Nat.lt_of_lt_of_le (Heap.lt_size e) I.ok.above)
  have neC:∀ b o,X.s₀.heap.get? b=some o→b ∉ X.ex→b ∉ ch:=fun b o e hx hb=>by
    rcases (hch b hb).1 with z | z
    · exact hx z
    · exact absurd (Nat.lt_of_lt_of_le (Heap.lt_size e) z) (Nat.lt_irrefl _)
  have cellK:∀ x c,X.env.cells.lookup x=some c→∀ v,s.heap.IsCell c v→h'.IsCell c v:=fun x c e v hz0=>by
    obtain ⟨o,ho,hd⟩:=hz0
    have nch:c ∉ ch:=fun z=>(hch c z).2.2.1 x c e rfl
    by_cases hc:c∈X.fs
    · obtain ⟨sl,q⟩:=slot c o (I.cne x c e) hc nch ho (I.freeC x c e)
      exact ⟨_,q,hd⟩
    · exact ⟨o,keep c o (I.cne x c e) hc nch ho (I.freeC x c e),hd⟩
  refine ⟨I.ok,I.os,hg,⟨fun b o e n hb hx=>?_,fun b o e n hb hx=>?_,fun b o e n hx=>?_,fun b o e hx=>?_,fun b xs e=>tups b xs (I.base.tups b xs e),fun b o xs e=>frzs b o xs (I.base.frzs b o xs e),fun b ps e=>?_⟩,?_,fun x c e=>?_,?_,fun x c e=>?_,fun p hp=>?_,hok,I.len⟩
  · exact keep b o (neL b o e) hb (neC b o e hx) (I.base.keep b o e n hb hx) (I.base.free b o e n hx)
  · obtain ⟨sl,e1⟩:=I.base.slot b o e n hb hx
    obtain ⟨sl',e2⟩:=slot b _ (neL b o e) hb (neC b o e hx) e1 (I.base.free b o e n hx)
    exact ⟨sl',e2⟩
  · obtain ⟨o',e1⟩:=I.base.there b o e hx
    exact free b o' (neC b o e hx) e1 (I.base.free b o e n hx)
  · obtain ⟨o',e1⟩:=I.base.there b o e hx
    exact there b o' (neC b o e hx) e1
  · obtain ⟨m1,e1⟩:=I.base.tbls b ps e
    obtain ⟨m2,e2⟩:=tbls b _ e1
    exact ⟨m1++m2,by rw [e2,Array.append_assoc]⟩
  · obtain ⟨m,hn,hl⟩:=I.loc
    refine ⟨m,ns m hn,fun i x v e1 e2 e3=>?_⟩
    obtain ⟨u,r,l⟩:=hl i x v e1 e2 e3
    refine ⟨u,r,?_⟩
    rcases l with l | ⟨k,c,e,z⟩
    · exact .inl l
    · exact .inr ⟨k,c,e,cellK x c e _ z⟩
  · obtain ⟨v,z⟩:=I.cell x c e
    exact ⟨v,cellK x c e v z⟩
  · obtain ⟨m,⟨o,_,_,ho,_⟩,_⟩:=I.loc
    exact free _ o (fun z=>(hch _ z).2.1 rfl) ho I.free
  · obtain ⟨v,o,ho,hd⟩:=I.cell x c e
    exact free c o (fun z=>(hch c z).2.2.1 x c e rfl) ho (I.freeC x c e)
  · obtain ⟨e,n,ne,nf,d⟩:=I.pin p hp
    have nch:p.1 ∉ ch:=fun z=>(hch p.1 z).2.2.2 p hp rfl
    exact ⟨keep p.1 p.2 ne nf nch e n,free p.1 p.2 nch e n,ne,nf,d⟩
theorem Inv.un {t':Nat} (I:Inv X pins σ H s) (u:Un X.fs [] H H' s.heap h') (hok:HOk X.prog X.w H' h'):Inv X pins σ H' { s with heap:=h',toks:=t' }:=by
  obtain ⟨m,⟨o,es,ep,ho,r⟩,_⟩:=id I.loc
  obtain ⟨sl,hL⟩:=u.any ho I.free (by simp)
  exact I.step (g':=s.gens) (d':=s.drawn) (ch:=[]) (fun _ z=>nomatch z) (fun b o _ hb _ e n=>u.keep b o e n hb (by simp)) (fun b o _ hb _ e n=>u.slot b o e n hb (by simp)) (fun b o _ e n=>u.free b o e n (by simp)) (fun b o _ e=>u.there b o e (by simp)) u.tups u.frzs u.tbls (fun m' hm=>by
    obtain ⟨o',es',ep',ho',r'⟩:=hm
    rw [ho] at ho'; cases ho'
    exact ⟨_,es',ep',hL,r'⟩) hok I.bare
theorem Inv.call {g':Array GenState} {t':Nat} {d':Drawn} {ch:List Addr} (I:Inv X pins σ H s) (u:Un (frs X.stack) ch H H' s.heap h') (hok:HOk X.prog X.w H' h') (hg:AllBare g')
    (hch:∀ b∈ch,(b∈X.ex∨X.s₀.heap.objs.size≤b)∧b≠X.env.locals∧(∀ x c,X.env.cells.lookup x=some c→c≠b)∧∀ p∈X.pn++pins,p.1≠b) :
    Inv X pins σ H' { s with heap:=h',gens:=g',drawn:=d',toks:=t' }:=by
  obtain ⟨m,⟨o,es,ep,ho,r⟩,_⟩:=id I.loc
  obtain ⟨sl,hL⟩:=u.any ho I.free fun z=>(hch _ z).2.1 rfl
  exact I.step (ch:=ch) hch (fun b o hL hb hc e n=>u.keep b o e n (fun z=>(List.mem_cons.mp (I.stkSub b z)).elim hL hb) hc) (fun b o _ _ hc e n=>u.any e n hc) (fun b o hc e n=>u.free b o e n hc) (fun b o hc e=>u.there b o e hc) u.tups u.frzs u.tbls (fun m' hm=>by
    obtain ⟨o',es',ep',ho',r'⟩:=hm
    rw [ho] at ho'; cases ho'
    exact ⟨_,es',ep',hL,r'⟩) hok hg
theorem Inv.turned {t':Nat} {it:Addr} (I:Inv X pins σ H s) (k:∀ b o,b≠it→s.heap.get? b=some o→h'.get? b=some o) (hn:H it=none) (hL:it≠X.env.locals)
    (h1:it∈X.ex∨X.s₀.heap.objs.size≤it) (h2:∀ x c,X.env.cells.lookup x=some c→c≠it) (h3:∀ p∈X.pn++pins,p.1≠it):Inv X pins σ H { s with heap:=h',toks:=t' }:=by
  have nit:∀ b u,H b=some u→b≠it:=fun b u e z=>by rw [z,hn] at e; cases e
  refine I.step (g':=s.gens) (d':=s.drawn) (ch:=[it]) (fun b hb=>?_) (fun b o _ _ hc e _=>k b o (fun z=>hc (by simp [z])) e) (fun b o _ _ hc e _=>⟨o.slots,k b o (fun z=>hc (by simp [z])) e⟩) (fun _ _ _ _ n=>n)
    (fun b o hc e=>⟨o,k b o (fun z=>hc (by simp [z])) e⟩) (fun _ _ e=>e) (fun _ _ _ e=>e) (fun b ps e=>⟨#[],by rw [e]; simp⟩) (fun m hm=>?_) (fun b u e=>?_) I.bare
  · have e:b=it:=by simpa using hb
    subst e
    exact ⟨h1,hL,h2,h3⟩
  · obtain ⟨o,es,ep,ho,r⟩:=hm
    exact ⟨o,es,ep,k _ o (Ne.symm hL) ho,r⟩
  · refine (I.hok b u e).stay (fun c v hc q=>k c v ?_ q) (fun _ q=>q) fun _ _ q=>q
    rcases hc with z | z
    · rw [z]; exact nit b u e
    · exact nit c _ z
theorem Inv.tok (I:Inv X pins σ H s) (t:Nat):Inv X pins σ H { s with toks:=t }:=I.un (h':=s.heap) (t':=t) Un.refl I.hok
theorem Inv.kept {t':Nat} (I:Inv X pins σ H s) (k:∀ b u,s.heap.get? b=some u→h'.get? b=some u):Inv X pins σ H { s with heap:=h',toks:=t' }:=I.un (Un.kept k) (I.hok.kept k)
theorem Inv.laid {a:Addr} {o:HO} {t':Nat} (I:Inv X pins σ H s) (k:∀ b u,s.heap.get? b=some u→h'.get? b=some u) (hp:s.heap.objs.size≤a) (new:ObjOk X.prog X.w (upd H a o) h' a o) :
    Inv X pins σ (upd H a o) { s with heap:=h',toks:=t' }:=I.un (Un.laid k hp (I.hok.fresh hp)) (I.hok.laid k hp new)
theorem Inv.write {x e:Addr} {o:HO} {t':Nat} (I:Inv X pins σ H s) (mu:Mut (H x)) (he:e=x∨H e=some (.own x)) (k:∀ b u,b≠e→s.heap.get? b=some u→h'.get? b=some u) (heo:∃ u,h'.get? e=some u)
    (new:ObjOk X.prog X.w (upd H x o) h' x o):Inv X pins σ (upd H x o) { s with heap:=h',toks:=t' }:=I.un (Un.write mu he k heo) (I.hok.write mu he k heo new)
theorem Inv.pins_of {pins':List (Addr×Obj)} (I:Inv X pins σ H s) (h:∀ p∈pins',s.heap.get? p.1=some p.2∧H p.1=none∧p.1≠X.env.locals∧p.1 ∉ X.fs∧∀ v,p.2.data≠.cell v):Inv X pins' σ H s :=
  ⟨I.ok,I.os,I.bare,I.base,I.loc,I.cell,I.free,I.freeC,fun p hp=>(List.mem_append.mp hp).elim (fun z=>I.pin p (List.mem_append_left _ z)) (h p),I.hok,I.len⟩

theorem nodup_ix {N:List Str} (hN:N.Nodup) {i j:Nat} {x:Str} (a:N[i]?=some x) (b:N[j]?=some x):i=j:=by
  obtain ⟨h1,e1⟩:=List.getElem?_eq_some_iff.mp a
  obtain ⟨h2,e2⟩:=List.getElem?_eq_some_iff.mp b
  exact (List.getElem_inj hN).mp (e1.trans e2.symm)

theorem store_ok2 {M:Model} {A:Around} {E:Value→Shared→Prop} {i:Nat} {x:Str} {v:V} {u:Value} {Q:Unit→Shared→Prop} (I:Inv X pins σ H s) (hN:X.N.Nodup) (hi:X.N[i]?=some x) (hx:Loc X.env.scope x) (r:RelV v u)
    (h:∀ s',Inv X pins (σ.set i (some v)) H s'→(∃ a,Heap.SameBut a s.heap s'.heap∧(a=X.env.locals∨X.env.cells.lookup x=some a))→Q () s') (hf:X.fn x=true∨X.env.scope.names.lookup x=some .local:=by first | exact .inl rfl | exact .inr rfl | assumption):wpAny M A (storeName X.env x u) Q E s:=by
  obtain ⟨m,hn,hl⟩:=id I.loc
  have hcls:(X.env.scope.kind == .class || (X.env.scope.kind == .module && X.env.locals != X.env.globals))=false:=by rw [I.ok.kind]; rfl
  have hiσ:i < σ.length:=by rw [I.len]; exact (List.getElem?_eq_some_iff.mp hi).1
  have cne:=I.cne
  have tracked:∀ {a:Addr} {h':Heap},(∃ o,s.heap.get? a=some o∧H a=none)→Heap.SameBut a s.heap h'→HOk X.prog X.w H h':=fun {a h'} ha hs b ob e=>by
    obtain ⟨_,_,hfree⟩:=ha
    refine (I.hok b ob e).stay (fun c w' hc q=>(hs.2 c ?_).trans q) (fun _ q=>q) fun _ _ q=>q
    rintro rfl
    rcases hc with rfl | hc
    · rw [hfree] at e; cases e
    · rw [hfree] at hc; cases hc
  rcases hx with hk | hk
  · refine wpAny_storeName_local hk hn (fun h' hn' hs=>?_) hcls
    obtain ⟨oL,_,_,hoL,_⟩:=id hn
    refine h _ ⟨I.ok,I.os,I.bare,⟨fun b o e n hb hx=>?_,fun b o e n hb hx=>?_,I.base.free,fun b o e hx=>?_,I.base.tups,I.base.frzs,I.base.tbls⟩,⟨_,hn',fun j y v' e1 e2 e3=>?_⟩,fun y c e=>?_,I.free,I.freeC,fun p hp=>?_,tracked ⟨oL,hoL,I.free⟩ hs,by simpa using I.len⟩ ⟨_,hs,.inl rfl⟩
    · exact (hs.2 b (Nat.ne_of_lt (Nat.lt_of_lt_of_le (Heap.lt_size e) I.ok.above))).trans (I.base.keep b o e n hb hx)
    · obtain ⟨sl,e1⟩:=I.base.slot b o e n hb hx
      exact ⟨sl,(hs.2 b (Nat.ne_of_lt (Nat.lt_of_lt_of_le (Heap.lt_size e) I.ok.above))).trans e1⟩
    · obtain ⟨o',e1⟩:=I.base.there b o e hx
      exact ⟨o',(hs.2 b (Nat.ne_of_lt (Nat.lt_of_lt_of_le (Heap.lt_size e) I.ok.above))).trans e1⟩
    · by_cases hj:j=i
      · subst hj
        rw [hi] at e1; cases e1
        rw [List.getElem?_set_self hiσ] at e2
        cases e2
        exact ⟨u,r,.inl ⟨hk,by simp⟩⟩
      · rw [List.getElem?_set_ne (Ne.symm hj)] at e2
        obtain ⟨u',r',q⟩:=hl j y v' e1 e2 e3
        refine ⟨u',r',?_⟩
        rcases q with ⟨k,e⟩ | ⟨k,c,e,z⟩
        · refine .inl ⟨k,?_⟩
          have:y≠x:=fun e=>hj (nodup_ix hN e1 (e ▸ hi))
          simp [this,e]
        · exact .inr ⟨k,c,e,z.sameBut hs (cne y c e)⟩
    · obtain ⟨w',z⟩:=I.cell y c e
      exact ⟨w',z.sameBut hs (cne y c e)⟩
    · obtain ⟨e,n,ne,nf,d⟩:=I.pin p hp
      exact ⟨(hs.2 p.1 ne).trans e,n,ne,nf,d⟩
  · have hfn:X.fn x=true:=by
      rcases hf with z | z
      · exact z
      · rw [z] at hk; cases hk
    obtain ⟨c,hc⟩:=I.ok.has x (.inl hk)
    obtain ⟨w',z⟩:=I.cell x c hc
    refine wpAny_storeName_cell I.ok.kind hk hc z (fun h' hc' hs=>?_)
    obtain ⟨oc,hoc,hocd⟩:=id z
    refine h { s with heap:=h' } ⟨I.ok,I.os,I.bare,⟨fun b o e n hb hx=>?_,fun b o e n hb hx=>?_,I.base.free,fun b o e hx=>?_,I.base.tups,I.base.frzs,I.base.tbls⟩,⟨m,hn.sameBut hs (Ne.symm (cne x c hc)),fun j y v' e1 e2 e3=>?_⟩,fun y c' e=>?_,I.free,I.freeC,fun p hp=>?_,tracked ⟨oc,hoc,I.freeC x c hc⟩ hs,by simpa using I.len⟩ ⟨c,hs,.inr hc⟩
    · exact (hs.2 b (Nat.ne_of_lt (Nat.lt_of_lt_of_le (Heap.lt_size e) (I.ok.cab x c hfn hc)))).trans (I.base.keep b o e n hb hx)
    · obtain ⟨sl,e1⟩:=I.base.slot b o e n hb hx
      exact ⟨sl,(hs.2 b (Nat.ne_of_lt (Nat.lt_of_lt_of_le (Heap.lt_size e) (I.ok.cab x c hfn hc)))).trans e1⟩
    · obtain ⟨o',e1⟩:=I.base.there b o e hx
      exact ⟨o',(hs.2 b (Nat.ne_of_lt (Nat.lt_of_lt_of_le (Heap.lt_size e) (I.ok.cab x c hfn hc)))).trans e1⟩
    · by_cases hj:j=i
      · subst hj
        rw [hi] at e1; cases e1
        rw [List.getElem?_set_self hiσ] at e2
        cases e2
        exact ⟨u,r,.inr ⟨.inl hk,c,hc,hc'⟩⟩
      · rw [List.getElem?_set_ne (Ne.symm hj)] at e2
        obtain ⟨u',r',q⟩:=hl j y v' e1 e2 e3
        refine ⟨u',r',?_⟩
        rcases q with q | ⟨k,c',e,z'⟩
        · exact .inl q
        · refine .inr ⟨k,c',e,z'.sameBut hs ?_⟩
          rintro rfl
          exact hj (nodup_ix hN e1 (I.ok.inj _ _ _ e hc ▸ hi))
    · by_cases hcc:c'=c
      · subst hcc; exact ⟨_,hc'⟩
      · obtain ⟨w2,z2⟩:=I.cell y c' e
        exact ⟨w2,z2.sameBut hs hcc⟩
    · obtain ⟨e,n,ne,nf,d⟩:=I.pin p hp
      refine ⟨(hs.2 p.1 ?_).trans e,n,ne,nf,d⟩
      intro q
      rw [q,hoc] at e
      have q':oc=p.2:=Option.some.inj e
      exact d w' (by rw [← q']; exact hocd)
theorem store_ok {M:Model} {A:Around} {E:Value→Shared→Prop} {i:Nat} {x:Str} {v:V} {u:Value} {Q:Unit→Shared→Prop} (I:Inv X pins σ H s) (hN:X.N.Nodup) (hi:X.N[i]?=some x) (hx:Loc X.env.scope x) (r:RelV v u)
    (h:∀ s',Inv X pins (σ.set i (some v)) H s'→Q () s') (hf:X.fn x=true∨X.env.scope.names.lookup x=some .local:=by first | exact .inl rfl | exact .inr rfl | assumption):wpAny M A (storeName X.env x u) Q E s :=
  store_ok2 I hN hi hx r (fun s' I' _=>h s' I') hf
theorem Inv.call' {s':Shared} {ch:List Addr} (I:Inv X pins σ H s) (ho:s'.os=s.os) (u:Un (frs X.stack) ch H H' s.heap s'.heap) (hok:HOk X.prog X.w H' s'.heap) (hg:AllBare s'.gens)
    (hch:∀ b∈ch,(b∈X.ex∨X.s₀.heap.objs.size≤b)∧b≠X.env.locals∧(∀ x c,X.env.cells.lookup x=some c→c≠b)∧∀ p∈X.pn++pins,p.1≠b):Inv X pins σ H' s':=by
  obtain ⟨h',g',d',t',o'⟩:=s'
  have e:o'=s.os:=ho
  subst e
  exact I.call (g':=g') (t':=t') (d':=d') u hok hg hch
end
noncomputable abbrev XK:=Value→Option Addr→Hp→Prop
noncomputable abbrev St:=List (Option V)
noncomputable abbrev VK:=V→Hp→Prop
noncomputable abbrev TE:=St→Hp→VK→Prop
noncomputable abbrev TT:=St→Hp→(Bool→Hp→Prop)→Prop
noncomputable abbrev TA:=St→Hp→(List V→Hp→Prop)→Prop
structure Ends where
  nx:St→Hp→Prop
  rt:VK
  bk:St→Hp→Prop:=fun _ _=>False
  ct:St→Hp→Prop:=fun _ _=>False
noncomputable abbrev TS:=Ends→St→Hp→Prop

noncomputable def EP (X:Cx) (pins:List (Addr×Obj)) (σ:St) (Q:VK) (u:Value) (s':Shared):Prop:=∃ v H',Inv X pins σ H' s'∧RelV v u∧Q v H'
noncomputable def TP (X:Cx) (pins:List (Addr×Obj)) (σ:St) (Q:Bool→Hp→Prop) (b:Bool) (s':Shared):Prop:=∃ H',Inv X pins σ H' s'∧Q b H'
noncomputable def AP (X:Cx) (pins:List (Addr×Obj)) (σ:St) (Q:List V→Hp→Prop) (us:List Value) (s':Shared):Prop:=∃ vs H',Inv X pins σ H' s'∧Vals vs us∧Q vs H'
noncomputable def SP (X:Cx) (pins:List (Addr×Obj)) (D:Ends) (f:Flow) (s':Shared):Prop :=
  match f with
  | .next=>∃ σ' H',Inv X pins σ' H' s'∧D.nx σ' H'
  | .brk=>∃ σ' H',Inv X pins σ' H' s'∧D.bk σ' H'
  | .cont=>∃ σ' H',Inv X pins σ' H' s'∧D.ct σ' H'
  | .ret u=>∃ v σ' H',Inv X pins σ' H' s'∧RelV v u∧D.rt v H'

noncomputable def PE (X:Cx) (e:Expr) (t:TE):Prop :=
  ∀ (pins:List (Addr×Obj)) (s:Shared) (σ:St) (H:Hp) (Q:VK),Inv X pins σ H s→t σ H Q→wpAny (model X.prog X.w) X.A (eval e X.env) (EP X pins σ Q) X.xe s
noncomputable def PT (X:Cx) (e:Expr) (t:TT):Prop :=
  ∀ (pins:List (Addr×Obj)) (s:Shared) (σ:St) (H:Hp) (Q:Bool→Hp→Prop),Inv X pins σ H s→t σ H Q→wpAny (model X.prog X.w) X.A (isTrue e X.env (eval e X.env)) (TP X pins σ Q) X.xe s
noncomputable def PW (X:Cx) (e:Expr) (t:TT):Prop :=
  ∀ (whole:Sem Value) (pins:List (Addr×Obj)) (s:Shared) (σ:St) (H:Hp) (Q:Bool→Hp→Prop),Inv X pins σ H s→t σ H Q→wpAny (model X.prog X.w) X.A (isTrue e X.env whole) (TP X pins σ Q) X.xe s
theorem PW.pt {X:Cx} {e:Expr} {t:TT} (h:PW X e t):PT X e t:=h _
noncomputable def PA (X:Cx) (es:List Expr) (t:TA):Prop :=
  ∀ (pos:Pos) (pins:List (Addr×Obj)) (s:Shared) (σ:St) (H:Hp) (Q:List V→Hp→Prop),Inv X pins σ H s→t σ H Q→wpAny (model X.prog X.w) X.A (spliced (backTo pos (starEach es X.env))) (AP X pins σ Q) X.xe s
noncomputable def PS (X:Cx) (st:Stmt) (t:TS):Prop :=
  ∀ (pins:List (Addr×Obj)) (s:Shared) (σ:St) (H:Hp) (D:Ends),Inv X pins σ H s→t D σ H→wpAny (model X.prog X.w) X.A (exec st X.env) (SP X pins D) X.xe s
noncomputable def PSs (X:Cx) (st:List Stmt) (t:TS):Prop :=
  ∀ (pins:List (Addr×Obj)) (s:Shared) (σ:St) (H:Hp) (D:Ends),Inv X pins σ H s→t D σ H→wpAny (model X.prog X.w) X.A (execs st X.env) (SP X pins D) X.xe s
theorem thn {α:Type} {t:Sem α} {Q Q':α→Shared→Prop} {M:Model} {A:Around} {E:Value→Shared→Prop} {s:Shared} (h:wpAny M A t Q E s) (hQ:∀ a s,Q a s→Q' a s):wpAny M A t Q' E s:=wpAny_mono h hQ fun _ _ x=>x
end L2
namespace L2
open PySem PySem.Spec PyProof.Rows
section
variable {X:Cx}
noncomputable def tVar (i:Nat):TE:=fun σ H Q=>∃ v,σ[i]?=some (some v)∧Q v H
noncomputable def tC (v:V):TE:=fun _ H Q=>Q v H
theorem pe_var {i:Nat} {x:Str} {pos:Pos} (hN:X.N[i]?=some x) (hv:Vis X.env.scope x) (hd:(x == ("__debug__":Str))=false:=by decide) (hcd:(x == ("__classdict__":Str))=false:=by decide):PE X (.Name x pos) (tVar i):=by
  intro pins s σ H Q I h
  obtain ⟨v,e,h⟩:=h
  obtain ⟨m,hn,hl⟩:=I.loc
  obtain ⟨u,r,l⟩:=hl i x v hN e hv
  have fin:EP X pins σ Q u s:=⟨v,H,I,r,h⟩
  rcases l with ⟨hk,hm⟩ | ⟨hk,c,hc,hcell⟩
  · exact wpAny_Name (wpAny_loadName_local I.ok.kind hk hn hm fin) hd
  · rcases hk with hk | hk
    · exact wpAny_Name (wpAny_loadName_cell I.ok.kind hk hc hcell fin) hd
    · exact wpAny_Name (wpAny_loadName_free I.ok.kind hk hc hcell fin hcd) hd
theorem pe_int {i j pos}:PE X (.Constant (.int i) j pos) (tC (.int i)):=fun _ _ _ H _ I h=>wpAny_Constant_int ⟨.int i,H,I.tok _,⟨_,rfl⟩,h⟩
theorem pe_bl {b j pos}:PE X (.Constant (.bool b) j pos) (tC (.bl b)):=fun _ _ _ H _ I h=>Constant_bool ⟨.bl b,H,I,rfl,h⟩
theorem pe_non {j pos}:PE X (.Constant .none j pos) (tC .non):=fun _ _ _ H _ I h=>Constant_none ⟨.non,H,I,rfl,h⟩
theorem pe_str {x j pos}:PE X (.Constant (.str x) j pos) (tC (.str x)):=fun _ _ _ H _ I h=>Calls.Constant_str ⟨.str x,H,I.tok _,⟨_,rfl⟩,h⟩

noncomputable def Gl (X:Cx) (x:Str):Prop:=X.env.kindOf x=some .globalImplicit
theorem ld_glob {E:Value→Shared→Prop} {pins:List (Addr×Obj)} {s:Shared} {σ:St} {H:Hp} {x:Str} {u:Value} {pos:Pos} {Q:Value→Shared→Prop} (I:Inv X pins σ H s) (hg:Gl X x) (hm:X.mg x=some u) (h:Q u s)
    (hd:(x == ("__debug__":Str))=false:=by decide):wpAny (model X.prog X.w) X.A (eval (.Name x pos) X.env) Q E s :=
  Calls.Name_function_global I.ok.kind hg (Calls.loadGlobal_global (by rw [I.ok.glob]; exact I.mod.glob.keeps I.bk) hm h) hd
theorem ld_blt {E:Value→Shared→Prop} {pins:List (Addr×Obj)} {s:Shared} {σ:St} {H:Hp} {x:Str} {u:Value} {pos:Pos} {Q:Value→Shared→Prop} (I:Inv X pins σ H s) (hg:Gl X x) (hm:X.mg x=none) (hv:bootBuiltins x=some u) (h:Q u s)
    (hn:x≠"__name__":=by decide) (hd:(x == ("__debug__":Str))=false:=by decide):wpAny (model X.prog X.w) X.A (eval (.Name x pos) X.env) Q E s:=by
  obtain ⟨mb,h1,h2⟩:=I.mod.blt
  exact Calls.Name_function_global I.ok.kind hg (Calls.loadGlobal_builtin (by rw [I.ok.glob]; exact I.mod.glob.keeps I.bk) hm (by rw [I.ok.blt]; exact h1.keeps I.bk) ((h2 x hn).trans hv) h) hd
theorem pe_glob {x:Str} {v:V} {u:Value} {pos:Pos} (hg:Gl X x) (hm:X.mg x=some u) (r:RelV v u) (hd:(x == ("__debug__":Str))=false:=by decide):PE X (.Name x pos) (tC v) :=
  fun _ _ _ H _ I h=>ld_glob I hg hm ⟨v,H,I,r,h⟩ hd
theorem pe_bltn {x:Str} {v:V} {u:Value} {pos:Pos} (hg:Gl X x) (hm:X.mg x=none) (hv:bootBuiltins x=some u) (r:RelV v u) (hn:x≠"__name__":=by decide) (hd:(x == ("__debug__":Str))=false:=by decide):PE X (.Name x pos) (tC v) :=
  fun _ _ _ H _ I h=>ld_blt I hg hm hv ⟨v,H,I,r,h⟩ hn hd

variable {a b:Expr} {ta tb:TE} {pos:Pos}
noncomputable def tB (t:TE):TT:=fun σ H Q=>t σ H fun x H1=>∃ c,x=.bl c∧Q c H1
theorem pt_val {e:Expr} {t:TE} (h:PE X e t) (he:∀ whole,isTrue e X.env whole=(do let v ← whole; standAt e.pos; holding [v] (truthy v)):=by intro _; rfl):PT X e (tB t):=by
  intro pins s σ H Q I hw
  refine isTrue_plain (thn (h pins s σ H _ I hw) fun v s1 hz0=>?_) (he _)
  obtain ⟨x,H1,I1,r1,q1⟩:=hz0
  obtain ⟨d,rfl,q⟩:=q1
  cases r1
  exact wpAny_truthy_bool ⟨H1,I1,q⟩

variable {tA tB':TT} {rest:List Expr}
noncomputable def tOr (t u:TT):TT:=fun σ H Q=>t σ H fun c H1=>if c=true then Q true H1 else u σ H1 Q
noncomputable def tNot (t:TT):TT:=fun σ H Q=>t σ H fun c H1=>Q (!c) H1
theorem pw_or1 (ha:PT X a tA):PW X (.BoolOp .Or [a] pos) tA:=by
  intro wh pins s σ H Q I h
  refine isTrue_or (thn (ha pins s σ H Q I h) fun c s1 e=>?_)
  cases c with
  | false=>exact isTrue_or_nil e
  | true=>exact e
theorem pw_or (ha:PT X a tA) (hb:PW X (.BoolOp .Or (b::rest) pos) tB'):PW X (.BoolOp .Or (a::b::rest) pos) (tOr tA tB'):=by
  intro wh pins s σ H Q I h
  refine isTrue_or (thn (ha pins s σ H _ I h) fun c s1 hz0=>?_)
  obtain ⟨H1,I1,q1⟩:=hz0
  cases c with
  | true=>exact ⟨H1,I1,q1⟩
  | false=>exact hb wh pins s1 σ H1 Q I1 q1
theorem pt_not (ha:PT X a tA):PT X (.UnaryOp .Not a pos) (tNot tA):=by
  intro pins s σ H Q I h
  exact isTrue_not (ha pins s σ H (fun c H1=>Q (!c) H1) I h)
noncomputable def tAndV (ta tb:TE):TE:=fun σ H Q=>ta σ H fun x H1=>∃ c,x=.bl c∧if c=true then tb σ H1 Q else Q (.bl false) H1
noncomputable def tNotV (ta:TE):TE:=fun σ H Q=>ta σ H fun x H1=>∃ c,x=.bl c∧Q (.bl (!c)) H1
theorem pe_one {op} {t:TE} (h:PE X a t):PE X (.BoolOp op [a] pos) t:=fun pins s σ H Q I hw=>BoolOp_one (h pins s σ H Q I hw)
theorem pe_and (ha:PE X a ta) (hb:PE X (.BoolOp .And (b::rest) pos) tb):PE X (.BoolOp .And (a::b::rest) pos) (tAndV ta tb):=by
  intro pins s σ H Q I h
  refine BoolOp_and (thn (ha pins s σ H _ I h) fun v s1 hz0=>?_)
  obtain ⟨x,H1,I1,r1,q1⟩:=hz0
  obtain ⟨c,rfl,q1⟩:=q1
  cases r1
  refine wpAny_truthy_bool ?_
  cases c with
  | true=>exact hb pins s1 σ H1 Q I1 q1
  | false=>exact ⟨.bl false,H1,I1,rfl,q1⟩
theorem pe_not (ha:PE X a ta):PE X (.UnaryOp .Not a pos) (tNotV ta):=by
  intro pins s σ H Q I h
  refine UnaryOp_ (thn (ha pins s σ H _ I h) fun v s1 hz0=>?_)
  obtain ⟨x,H1,I1,r1,q1⟩:=hz0
  obtain ⟨c,rfl,q1⟩:=q1
  cases r1
  exact not_of (wpAny_truthy_bool ⟨.bl (!c),H1,I1,rfl,q1⟩)
end
end L2
namespace L2
open PySem PySem.Spec PyProof.Rows
noncomputable def SqL (K:PySem.W.Frag) (H:Hp) (a:Addr) (xs:List V):Prop :=
  Rd H a (.lst xs) ∨
    ∃ (o:Obj) (its:Array Value) (n:Nat),K.lookup a=some o∧o.cls=.type "list"∧o.dict=none∧o.data=.seq its n∧its.size≤sizeLine∧Vals xs its.toList
noncomputable def SqT (K:PySem.W.Frag) (H:Hp) (a:Addr) (xs:List V):Prop :=
  Rd H a (.tup xs) ∨
    ∃ (o:Obj) (its:Array Value) (n:Nat),K.lookup a=some o∧o.cls=.type "tuple"∧o.data=.seq its n∧its.size≤sizeLine∧Vals xs its.toList
noncomputable def absV:Value→Option V
  | .none=>some .non
  | .bool b=>some (.bl b)
  | .int i _=>some (.int i)
  | .str x _=>some (.str x)
  | .bytes b _=>some (.byt b)
  | .float b _=>some (.flt b)
  | .ref a=>some (.ref a)
  | .type n=>some (.ty n)
  | _=>none
theorem RelV.abs {x:V} {u:Value} (r:RelV x u):absV u=some x:=by
  cases x with
  | non=>cases r; rfl
  | bl _=>cases r; rfl
  | int _=>obtain ⟨t,rfl⟩:=r; rfl
  | str _=>obtain ⟨t,rfl⟩:=r; rfl
  | byt _=>obtain ⟨t,rfl⟩:=r; rfl
  | flt _=>obtain ⟨t,rfl⟩:=r; rfl
  | ref _=>cases r; rfl
  | ty _=>cases r; rfl
theorem RelV.inj {x y:V} {u:Value} (r:RelV x u) (q:RelV y u):x=y:=Option.some.inj (r.abs.symm.trans q.abs)
theorem Vals.inj {xs ys:List V} {us:List Value} (h:Vals xs us) (h':Vals ys us):xs=ys:=by
  induction h generalizing ys with
  | nil=>cases h'; rfl
  | cons r t ih=>cases h' with | cons r' t'=>rw [r.inj r',ih t']
section
variable {X:Cx} {pins:List (Addr×Obj)} {σ:St} {H:Hp} {s:Shared} {a:Addr} {xs ys:List V}
theorem SqL.of {K:PySem.W.Frag} (h:H a=some (.lst xs)):SqL K H a xs:=.inl (.inl h)
theorem SqT.of {K:PySem.W.Frag} (h:H a=some (.tup xs)):SqT K H a xs:=.inl (.inl h)
theorem Inv.list (I:Inv X pins σ H s) (h:SqL X.K H a xs):∃ its:List Value,Vals xs its∧PlainL s.heap a its.toArray∧xs.length≤sizeLine:=by
  rcases h with h | ⟨o,its,n,hk,hc,hd,hs,hz,r⟩
  · obtain ⟨z,its,n,r,e⟩:=h.ok I.hok
    exact ⟨its,r,⟨_,n,e,rfl,rfl,rfl⟩,z⟩
  · refine ⟨its.toList,r,⟨o,n,I.kIn a o hk,hc,hd,by simpa using hs⟩,?_⟩
    have e:=r.length
    simp only [Array.length_toList] at e
    omega
theorem Inv.tuple (I:Inv X pins σ H s) (h:SqT X.K H a xs):∃ its:List Value,Vals xs its∧IsTup s.heap a its.toArray∧xs.length≤sizeLine:=by
  rcases h with h | ⟨o,its,n,hk,hc,hs,hz,r⟩
  · obtain ⟨z,its,r,p⟩:=h.ok I.hok
    exact ⟨its,r,p,z⟩
  · refine ⟨its.toList,r,⟨o,I.kIn a o hk,hc,n,by simpa using hs⟩,?_⟩
    have e:=r.length
    simp only [Array.length_toList] at e
    omega
theorem Inv.list_inj (I:Inv X pins σ H s) (h:SqL X.K H a xs) (h':SqL X.K H a ys):xs=ys:=by
  obtain ⟨its,r,⟨o,n,e,_,_,d⟩,_⟩:=I.list h
  obtain ⟨its',r',⟨o',n',e',_,_,d'⟩,_⟩:=I.list h'
  rw [e] at e'; cases e'
  rw [d] at d'
  injection d' with d1 _
  have:its=its':=by simpa using congrArg Array.toList d1
  subst this
  exact r.inj r'
theorem Inv.tuple_inj (I:Inv X pins σ H s) (h:SqT X.K H a xs) (h':SqT X.K H a ys):xs=ys:=by
  obtain ⟨its,r,⟨o,e,_,n,d⟩,_⟩:=I.tuple h
  obtain ⟨its',r',⟨o',e',_,n',d'⟩,_⟩:=I.tuple h'
  rw [e] at e'; cases e'
  rw [d] at d'
  injection d' with d1 _
  have:its=its':=by simpa using congrArg Array.toList d1
  subst this
  exact r.inj r'
end
noncomputable abbrev Cx.wish (X:Cx) (E:Value→Shared→Prop):Cx:={ X with xe:=E }
noncomputable abbrev Cx.nox (X:Cx):Cx:=X.wish fun _ _=>False
theorem Cx.Ok.wish {X:Cx} (ok:X.Ok) (E:Value→Shared→Prop):(X.wish E).Ok :=
  ⟨ok.mod,ok.kind,ok.glob,ok.blt,ok.above,ok.inj,ok.has,ok.cab,ok.hd,ok.frames,ok.stk,ok.exf,ok.bs,ok.bsz,ok.noex,ok.exfs,ok.funs,ok.frf⟩
theorem Cx.Ok.unwish {X:Cx} {E:Value→Shared→Prop} (ok:(X.wish E).Ok):X.Ok :=
  ⟨ok.mod,ok.kind,ok.glob,ok.blt,ok.above,ok.inj,ok.has,ok.cab,ok.hd,ok.frames,ok.stk,ok.exf,ok.bs,ok.bsz,ok.noex,ok.exfs,ok.funs,ok.frf⟩
section
variable {X:Cx} {pins:List (Addr×Obj)} {σ:St} {H:Hp} {s:Shared} {E:Value→Shared→Prop}
theorem Inv.wish (I:Inv X pins σ H s) (E:Value→Shared→Prop):Inv (X.wish E) pins σ H s:=⟨I.ok.wish E,I.os,I.bare,I.base,I.loc,I.cell,I.free,I.freeC,I.pin,I.hok,I.len⟩
theorem Inv.unwish (I:Inv (X.wish E) pins σ H s):Inv X pins σ H s:=⟨I.ok.unwish,I.os,I.bare,I.base,I.loc,I.cell,I.free,I.freeC,I.pin,I.hok,I.len⟩
theorem SP.unwish {D:Ends} {f:Flow} {s':Shared} (h:SP (X.wish E) pins D f s'):SP X pins D f s':=by
  cases f with
  | next=>obtain ⟨σ',H',I,q⟩:=h; exact ⟨σ',H',I.unwish,q⟩
  | brk=>obtain ⟨σ',H',I,q⟩:=h; exact ⟨σ',H',I.unwish,q⟩
  | cont=>obtain ⟨σ',H',I,q⟩:=h; exact ⟨σ',H',I.unwish,q⟩
  | ret u=>obtain ⟨v,σ',H',I,r,q⟩:=h; exact ⟨v,σ',H',I.unwish,r,q⟩
theorem PSs.nox {st:List Stmt} {t:TS} (h:PSs X.nox st t):PSs X st t:=fun pins s σ H D I hw =>
  wpAny_mono (h pins s σ H D (I.wish _) hw) (fun _ _ q=>q.unwish) fun _ _ z=>False.elim z
end
section
variable {X:Cx} {st:Stmt} {rest:List Stmt} {t u:TS} {e:Expr} {te:TE} {pos:Pos}
noncomputable def tNext:TS:=fun D σ H=>D.nx σ H
noncomputable def tSeq (t u:TS):TS:=fun D σ H=>t { D with nx:=u D } σ H
theorem pss_nil:PSs X [] tNext:=fun _ _ σ H _ I h=>wpAny_execs_nil ⟨σ,H,I,h⟩
theorem pss_cons (h1:PS X st t) (h2:PSs X rest u):PSs X (st::rest) (tSeq t u):=by
  intro pins s σ H D I h
  refine wpAny_execs_cons (thn (h1 pins s σ H { D with nx:=u D } I h) fun f s1 q=>?_)
  cases f with
  | next =>
    obtain ⟨σ',H',I',q⟩:=q
    exact h2 pins s1 σ' H' D I' q
  | ret v=>exact q
  | brk=>exact q
  | cont=>exact q
theorem pss_one (h1:PS X st t):PSs X [st] t:=by
  intro pins s σ H D I h
  refine wpAny_execs_cons (thn (h1 pins s σ H D I h) fun f s1 q=>?_)
  cases f with
  | next=>exact wpAny_execs_nil q
  | ret v=>exact q
  | brk=>exact q
  | cont=>exact q
theorem Inv.quiet {pins:List (Addr×Obj)} {σ:St} {H:Hp} {s:Shared} (I:Inv X pins σ H s):interactive X.env=false:=by simp [interactive,I.ok.kind]
noncomputable def tRet (te:TE):TS:=fun D σ H=>te σ H D.rt
theorem ps_ret (he:PE X e te):PS X (.Return (some e) pos) (tRet te):=by
  intro pins s σ H D I h
  exact wpAny_Return_some (thn (he pins s σ H _ I h) fun v s1 ⟨x,H1,I1,r1,q1⟩=>⟨x,σ,H1,I1,r1,q1⟩)
noncomputable def tIfS (c:TT) (t u:TS):TS:=fun D σ H=>c σ H fun b H1=>if b=true then t D σ H1 else u D σ H1
theorem ps_if {c:Expr} {a b:List Stmt} {tc:TT} (hc:PT X c tc) (ha:PSs X a t) (hb:PSs X b u):PS X (.If c a b pos) (tIfS tc t u):=by
  intro pins s σ H D I h
  refine wpAny_If (thn (hc pins s σ H _ I h) fun d s1 hz0=>?_)
  obtain ⟨H1,I1,q1⟩:=hz0
  cases d with
  | true=>exact ha pins s1 σ H1 D I1 q1
  | false=>exact hb pins s1 σ H1 D I1 q1
noncomputable def tNever:TS:=fun _ _ _=>False
theorem pss_never {sts:List Stmt}:PSs X sts tNever:=fun _ _ _ _ _ _ h=>h.elim
end
noncomputable abbrev TG:=V→St→Hp→(St→Hp→Prop)→Prop
noncomputable abbrev TGs:=List V→St→Hp→(St→Hp→Prop)→Prop
noncomputable def PG (X:Cx) (target:Expr) (t:TG):Prop :=
  ∀ (pins:List (Addr×Obj)) (s:Shared) (σ:St) (H:Hp) (v:V) (u:Value) (Q:St→Hp→Prop),Inv X pins σ H s→RelV v u→t v σ H Q →
    wpAny (model X.prog X.w) X.A (assign target X.env u) (fun _ s'=>∃ σ' H',Inv X pins σ' H' s'∧Q σ' H') X.xe s
noncomputable def PGs (X:Cx) (ts:List Expr) (t:TGs):Prop :=
  ∀ (pins:List (Addr×Obj)) (s:Shared) (σ:St) (H:Hp) (vs:List V) (us:List Value) (Q:St→Hp→Prop),Inv X pins σ H s→Vals vs us→t vs σ H Q →
    wpAny (model X.prog X.w) X.A (assignInOrder ((assignEach ts X.env).map (·.2)) us) (fun _ s'=>∃ σ' H',Inv X pins σ' H' s'∧Q σ' H') X.xe s
section
variable {X:Cx} {pos:Pos}
noncomputable def gName (i:Nat):TG:=fun v σ H Q=>Q (σ.set i (some v)) H
theorem pg_name {i:Nat} {x:Str} (hN:X.N.Nodup) (hi:X.N[i]?=some x) (hx:Loc X.env.scope x) (hf:X.fn x=true∨X.env.scope.names.lookup x=some .local:=by first | exact .inl rfl | exact .inr rfl | assumption):PG X (.Name x pos) (gName i):=by
  intro pins s σ H v u Q I r h
  exact wpAny_assign_Name (store_ok I hN hi hx r (fun s' I'=>⟨_,H,I',h⟩) hf)
noncomputable def gNil:TGs:=fun vs σ H Q=>vs=[]∧Q σ H
noncomputable def gCons (t:TG) (u:TGs):TGs:=fun vs σ H Q=>∃ v r,vs=v::r∧t v σ H fun σ' H'=>u r σ' H' Q
theorem pgs_nil:PGs X [] gNil:=by
  intro pins s σ H vs us Q I r h
  obtain ⟨e,h⟩:=h
  subst e
  cases r
  exact assignInOrder_nil ⟨σ,H,I,h⟩
theorem pgs_cons {e:Expr} {es:List Expr} {t:TG} {u:TGs} (h1:PG X e t) (h2:PGs X es u)
    (hs:(assignEach (e::es) X.env).map (·.2)=assign e X.env::(assignEach es X.env).map (·.2):=by rfl):PGs X (e::es) (gCons t u):=by
  intro pins s σ H vs us Q I r h
  obtain ⟨v,vr,e1,h⟩:=h
  subst e1
  cases r with
  | cons r rr =>
    rw [hs]
    refine assignInOrder_cons (thn (h1 pins s σ H _ _ _ I r h) fun _ s1 hz0=>?_)
    obtain ⟨σ1,H1,I1,q1⟩:=hz0
    exact h2 pins s1 σ1 H1 _ _ Q I1 rr q1
noncomputable def gTup (K:PySem.W.Frag) (n:Nat) (t:TGs):TG:=fun v σ H Q=>∃ a xs,v=.ref a∧SqT K H a xs∧xs.length=n∧t xs σ H Q
theorem pg_tup {es:List Expr} {k:Nat} {t:TGs} {n:Nat} (hc:X.calm=true) (h:PGs X es t)
    (hn:(assignEach es X.env).length=n:=by rfl) (hst:(assignEach es X.env).findIdx? (·.1)=none:=by rfl):PG X (.Tuple es k pos) (gTup X.K n t):=by
  intro pins s σ H v u Q I r hw
  obtain ⟨a,xs,e1,hq,hl,hw⟩:=hw
  subst e1
  cases r
  obtain ⟨its,rv,ht,hz⟩:=I.tuple hq
  refine assign_Tuple_tuple (I.ok.hd hc) ht (by simp [hn,← hl,rv.length]) hst fun h' hx=>?_
  have I1:Inv X pins σ H { s with heap:=h' }:=I.kept (t':=s.toks) fun b o e=>hx b o (Nat.ne_of_lt (Heap.lt_size e)) e
  exact h pins _ σ H xs _ Q I1 (by simpa using rv) hw
noncomputable def tAsg (te:TE) (g:TG):TS:=fun D σ H=>te σ H fun x H1=>g x σ H1 D.nx
theorem ps_asg {tg e:Expr} {te:TE} {g:TG} (he:PE X e te) (hg:PG X tg g) (hs:swapsWithSole [tg] e pos.line X.env=pure false:=by rfl) (hw:swappedStores [tg] e X.env=pure none:=by rfl)
    (h1:(assignEach [tg] X.env).map (·.2)=[assign tg X.env]:=by rfl):PS X (.Assign [tg] e pos) (tAsg te g):=by
  intro pins s σ H D I h
  refine wpAny_Assign_stores (thn (he pins s σ H _ I h) fun v s1 hz0=>?_) hs hw
  obtain ⟨x,H1,I1,r1,q1⟩:=hz0
  rw [h1]
  exact thn (hg pins s1 σ H1 x v _ I1 r1 q1) fun _ s2 q=>q
theorem ps_set {i:Nat} {x:Str} {e:Expr} {te:TE} {pos':Pos} (hN:X.N.Nodup) (hi:X.N[i]?=some x) (hx:Loc X.env.scope x) (he:PE X e te) (hs:swapsWith e (some (.Name x pos')) pos.line X.env=pure false:=by rfl) (hf:X.fn x=true∨X.env.scope.names.lookup x=some .local:=by first | exact .inl rfl | exact .inr rfl | assumption) :
    PS X (.Assign [.Name x pos'] e pos) (tAsg te (gName i)):=by
  intro pins s σ H D I h
  refine wpAny_Assign_Name (thn (he pins s σ H _ I h) fun v s1 hz0=>?_) hs
  obtain ⟨y,H1,I1,r1,q1⟩:=hz0
  exact store_ok I1 hN hi hx r1 (fun s2 I2=>⟨_,H1,I2,q1⟩) hf
noncomputable def tPar (i j:Nat) (ta:TA):TS:=fun D σ H=>ta σ H fun vs H1=>∃ v w,vs=[v,w]∧D.nx ((σ.set i (some v)).set j (some w)) H1
theorem ps_par {i j:Nat} {x y:Str} {a b:Expr} {ta:TA} {px py pt:Pos} {kt k2 pt2} (hc:X.calm=true) (hN:X.N.Nodup) (hi:X.N[i]?=some x) (hj:X.N[j]?=some y) (hij:i≠j)
    (hx:X.env.scope.names.lookup x=some .local) (hy:X.env.scope.names.lookup y=some .local) (ha:PA X [a,b] ta)
    (hw:swappedStores [.Tuple [.Name x px,.Name y py] kt pt] (.Tuple [a,b] k2 pt2) X.env=pure (some [x,y]))
    (hs:swapsWithSole [.Tuple [.Name x px,.Name y py] kt pt] (.Tuple [a,b] k2 pt2) pos.line X.env=pure false:=by rfl) :
    PS X (.Assign [.Tuple [.Name x px,.Name y py] kt pt] (.Tuple [a,b] k2 pt2) pos) (tPar i j ta):=by
  intro pins s σ H D I h
  rw [exec_Assign_arm]
  refine wpAny_bind (wpAny_standAt ?_)
  rw [hs]
  refine wpAny_bind (wpAny_pure ?_)
  rw [if_neg (by decide)]
  refine wpAny_bind (Tuple_ (thn (ha _ pins s σ H _ I h) fun us s1 hz0=>?_))
  obtain ⟨vs,H1,I1,r1,q1⟩:=hz0
  obtain ⟨v,w,e1,q1⟩:=q1
  subst e1
  obtain ⟨u1,u2,rfl,rv,rw'⟩:∃ u1 u2,us=[u1,u2]∧RelV v u1∧RelV w u2:=by
    cases r1 with
    | cons p q =>
      cases q with
      | cons p' q' =>
        cases q'
        exact ⟨_,_,rfl,p,p'⟩
  refine wpAny_newObj_type ?_ (by show 2≤sizeLine; decide)
  have I2:Inv X pins σ H1 { s1 with heap:=s1.heap.push { cls:=.type "tuple",data:=.seq [u1,u2].toArray } }:=I1.kept (t':=s1.toks) fun b o e=>Heap.get?_push_of_some _ e
  rw [hw]
  refine wpAny_bind (wpAny_pure ?_)
  show wpAny (model X.prog X.w) X.A (do rule "assign.swapped-stores"; let items ← unpackItems (.ref s1.heap.objs.size) 2 none; assignInOrder [fun v=>bindName X.env y v,fun v=>bindName X.env x v] items.reverse; pure Flow.next) _ _ _
  refine wpAny_bind (wpAny_rule (wpAny_bind (unpackItems_tuple (items:=#[u1,u2]) (I.ok.hd hc) (IsTup.new s1.heap _) fun h' hx'=>?_)))
  have I3:=I2.kept (h':=h') (t':=s1.toks) fun b o e=>hx' b o (Nat.ne_of_lt (Heap.lt_size e)) e
  show wpAny _ _ (assignInOrder [fun v=>bindName X.env y v,fun v=>bindName X.env x v] [u2,u1] >>= fun _=>pure Flow.next) _ _ _
  refine wpAny_bind (assignInOrder_cons (wpAny_bindName (store_ok I3 hN hj (.inl hy) rw' (fun s2 I4=>?_) (.inr hy))))
  refine assignInOrder_cons (wpAny_bindName (store_ok I4 hN hi (.inl hx) rv (fun s3 I5=>assignInOrder_nil (wpAny_pure ?_)) (.inr hx)))
  rw [List.set_comm _ _ (Ne.symm hij)] at I5
  exact ⟨_,H1,I5,q1⟩
end
section
variable {X:Cx} {pos:Pos}
noncomputable def tWhile (c:TT) (tb:TS):TS:=fun D σ H=>∃ W:Nat→St→Hp→Prop,(∃ m,W m σ H)∧∀ m σ H,W m σ H →
  c σ H fun b H1=>if b=true then ∃ N:St→Hp→Prop,(∀ σ' H',N σ' H'→∃ m',m' < m∧W m' σ' H')∧tb { D with nx:=N,ct:=N,bk:=D.nx } σ H1 else D.nx σ H1
theorem ps_while {c:Expr} {body:List Stmt} {tc:TT} {tb:TS} (hp:PassesOwn (model X.prog X.w) X.A X.env X.xe) (hc:PT X c tc) (hb:PSs X body tb):PS X (.While c body [] pos) (tWhile tc tb):=by
  intro pins s σ H D I h
  obtain ⟨W,⟨m0,w0⟩,turn⟩:=h
  refine wpAny_While (codeAny_whileLoop (fun n s'=>∃ σ' H',Inv X pins σ' H' s'∧W n σ' H') ?_ m0 ⟨σ,H,I,w0⟩)
  rintro n s1 ⟨σ1,H1,I1,w1⟩
  refine wpAny_passesOwn hp (thn (hc pins s1 σ1 H1 _ I1 (turn n σ1 H1 w1)) fun b s2 hz0=>?_)
  obtain ⟨H2,I2,q2⟩:=hz0
  cases b with
  | true =>
    obtain ⟨N,hN,q2⟩:=q2
    rw [if_pos rfl]
    refine wpAny_passesOwn hp (thn (hb pins s2 σ1 H2 _ I2 q2) fun f s3 q3=>?_)
    cases f with
    | next =>
      obtain ⟨σ3,H3,I3,n3⟩:=q3
      obtain ⟨m',hm,w3⟩:=hN σ3 H3 n3
      exact ⟨m',hm,σ3,H3,I3,w3⟩
    | cont =>
      obtain ⟨σ3,H3,I3,n3⟩:=q3
      obtain ⟨m',hm,w3⟩:=hN σ3 H3 n3
      exact ⟨m',hm,σ3,H3,I3,w3⟩
    | brk=>exact q3
    | ret v=>exact q3
  | false =>
    rw [if_neg Bool.false_ne_true]
    exact wpAny_execs_nil ⟨σ1,H2,I2,q2⟩
end
structure It where
  go:Nat→Hp→Prop
  yld:Nat→Hp→V→Hp→Prop
  stop:Nat→Hp→Prop
noncomputable def FpOk (X:Cx) (pins:List (Addr×Obj)) (H:Hp) (b:Addr):Prop :=
  H b=none∧b≠X.env.locals∧b ∉ X.fs∧(b∈X.ex∨X.s₀.heap.objs.size≤b)∧(∀ x c,X.env.cells.lookup x=some c→c≠b)∧∀ p∈X.pn++pins,p.1≠b
theorem Inv.fpOk {X:Cx} {pins:List (Addr×Obj)} {σ:St} {H H':Hp} {s:Shared} {b:Addr} (I:Inv X pins σ H s) (hb:s.heap.objs.size≤b) (hn:H' b=none):FpOk X pins H' b:=by
  refine ⟨hn,Nat.ne_of_gt (Nat.lt_of_lt_of_le I.lt hb),I.nofs hb,.inr (Nat.le_trans I.sz hb),fun x c e z=>?_,fun p hp z=>?_⟩
  · obtain ⟨v,q⟩:=I.cell x c e
    exact absurd (Nat.lt_of_lt_of_le q.lt (by rw [z]; exact hb)) (Nat.lt_irrefl _)
  · exact absurd (Nat.lt_of_lt_of_le (Heap.lt_size (I.pin p hp).1) (by rw [z]; exact hb)) (Nat.lt_irrefl _)
structure Turn (P:Program) (w:World) (K:PySem.W.Frag) (tg:Expr) (J:It) (fp:List Addr) (it:Addr) (tn:Nat→Heap→Prop):Prop where
  mem:it∈fp
  obj:∀ i h,tn i h→∀ b∈fp,∃ o,h.get? b=some o∧∀ v,o.data≠.cell v
  keep:∀ i h h',tn i h→(∀ b∈fp,∀ o,h.get? b=some o→h'.get? b=some o)→tn i h'
  item:∀ (X:Cx),X.prog=P→X.w=w→X.K=K→X.calm=true→∀ (i:Nat) (pins:List (Addr×Obj)) (s:Shared) (σ:St) (H:Hp) (E:Value→Shared→Prop),Inv X pins σ H s→(∀ b∈fp,FpOk X pins H b)→tn i s.heap→J.go i H →
    wpAny (model P w) X.A (pyNext (.ref it)) (fun r s1=>∃ u,r=some u ∧
      wpAny (model P w) X.A (letOwnedTupleGo tg (.ref it) u) (fun _ s2=>∃ x H',Inv X pins σ H' s2∧RelV x u∧J.yld i H x H'∧tn (i+1) s2.heap∧∀ b∈fp,H' b=none) E s1) E s
  done:∀ (X:Cx),X.prog=P→X.w=w→X.K=K→X.calm=true→∀ (i:Nat) (pins:List (Addr×Obj)) (s:Shared) (σ:St) (H:Hp) (E:Value→Shared→Prop),Inv X pins σ H s→(∀ b∈fp,FpOk X pins H b)→tn i s.heap→J.stop i H →
    wpAny (model P w) X.A (pyNext (.ref it)) (fun r s1=>r=none∧Inv X pins σ H s1) E s
  self:∀ (A:Around) (i:Nat) (s:Shared) (Q:Value→Shared→Prop) (E:Value→Shared→Prop),tn i s.heap→Q (.ref it) s→wpAny (model P w) A (pyIter (.ref it)) Q E s
noncomputable abbrev TI:=St→Hp→(It→Hp→Prop)→Prop
noncomputable def PIE (X:Cx) (pins:List (Addr×Obj)) (σ:St) (tg:Expr) (R:It→Hp→Prop) (itv:Value) (s2:Shared):Prop :=
  ∃ (it:Addr) (fp:List Addr) (tn:Nat→Heap→Prop) (J:It) (H':Hp),itv=.ref it∧Inv X pins σ H' s2∧Turn X.prog X.w X.K tg J fp it tn∧tn 0 s2.heap∧(∀ b∈fp,FpOk X pins H' b)∧R J H'
noncomputable def PI (X:Cx) (tg iter:Expr) (wi:TI):Prop :=
  ∀ (pins:List (Addr×Obj)) (s:Shared) (σ:St) (H:Hp) (R:It→Hp→Prop),Inv X pins σ H s→wi σ H R →
    wpAny (model X.prog X.w) X.A (eval iter X.env) (fun v s1=>wpAny (model X.prog X.w) X.A (pyIter v) (PIE X pins σ tg R) X.xe s1) X.xe s

theorem go_of {M:Model} {A:Around} {E:Value→Shared→Prop} {s:Shared} {tg:Expr} {it:Addr} {u:Value} {o:Obj} {n:String} {vs:Array Value} {Q:Unit→Shared→Prop} (ho:s.heap.get? it=some o) (hc:o.cls=.type n) (hd:o.data=.fields vs)
    (hn:["enumerate","zip","dict_itemiterator","dict_reverseitemiterator","odict_iterator","itertools.zip_longest","itertools.pairwise"].contains n=false) (hQ:Q () s):wpAny M A (letOwnedTupleGo tg (.ref it) u) Q E s:=by
  unfold letOwnedTupleGo
  cases tg <;> first
    | exact wpAny_pure hQ
    | (cases u <;> first
        | exact wpAny_pure hQ
        | (refine wpAny_bind (wpAny_load ho ?_)
           rw [hc,hd]
           show wpAny M A (if (["enumerate","zip","dict_itemiterator","dict_reverseitemiterator","odict_iterator","itertools.zip_longest","itertools.pairwise"].contains n && vs[0]? == some (rawInt _))=true then _ else _) Q E s
           rw [if_neg (by intro h; rw [hn,Bool.false_and] at h; cases h)]
           exact wpAny_pure hQ))

noncomputable def Itl (K:PySem.W.Frag) (a:Addr):It :=
  ⟨fun i H=>∃ xs x,SqL K H a xs∧xs[i]?=some x,fun i H x H'=>H'=H∧∀ xs,SqL K H a xs→xs[i]?=some x,fun i H=>∃ xs,SqL K H a xs∧xs.length≤i⟩
noncomputable def Itt (K:PySem.W.Frag) (a:Addr):It :=
  ⟨fun i H=>∃ xs x,SqT K H a xs∧xs[i]?=some x,fun i H x H'=>H'=H∧∀ xs,SqT K H a xs→xs[i]?=some x,fun i H=>∃ xs,SqT K H a xs∧xs.length≤i⟩
noncomputable def Itr (lo:Int) (n:Nat):It:=⟨fun i _=>i < n,fun i H x H'=>H'=H∧x=.int (lo+i),fun i _=>n≤i⟩
theorem turn_list {P:Program} {w:World} {K:PySem.W.Frag} {tg:Expr} (a it:Addr):Turn P w K tg (Itl K a) [it] it (fun i h=>h.IsListIter it a i) where
  mem:=by simp
  obj:=fun i h st b hb=>by
    have e:b=it:=by simpa using hb
    subst e
    obtain ⟨o,e,c,d⟩:=st
    exact ⟨o,e,fun v z=>by rw [d] at z; cases z⟩
  keep:=fun i h h' st k=>st.at fun o e=>k it (by simp) o e
  item:=by
    intro X hP hw hK hc i pins s σ H E I hf st hg
    subst hP hw hK
    obtain ⟨xs,x,hq,hx⟩:=hg
    obtain ⟨its,rv,p,hz⟩:=I.list hq
    obtain ⟨u,hu,ru⟩:=rv.get hx
    obtain ⟨f0,f1,f2,f3,f4,f5⟩:=hf it (by simp)
    refine wpAny_pyNext_list_item st p.isList (x:=u) (by simpa using hu) fun h' st' sb=>?_
    have I1:Inv X pins σ H { s with heap:=h' }:=I.turned (t':=s.toks) (fun b o hb e=>(sb.2 b hb).trans e) f0 f1 f3 f4 f5
    obtain ⟨o,e,c,d⟩:=id st'
    exact ⟨u,rfl,go_of (s:={ s with heap:=h' }) e c d (by decide) ⟨x,H,I1,ru,⟨rfl,fun ys hy=>by rw [I.list_inj hy hq]; exact hx⟩,st',fun b hb=>(hf b hb).1⟩⟩
  done:=by
    intro X hP hw hK hc i pins s σ H E I hf st hg
    subst hP hw hK
    obtain ⟨xs,hq,hx⟩:=hg
    obtain ⟨its,rv,p,hz⟩:=I.list hq
    obtain ⟨f0,f1,f2,f3,f4,f5⟩:=hf it (by simp)
    have hl:=rv.length
    exact wpAny_pyNext_list_end (I.ok.hd hc) st p.isList (by simp; omega) fun h' eb=>⟨rfl,I.turned (t':=s.toks) (fun b o hb e=>eb b o hb e) f0 f1 f3 f4 f5⟩
  self:=fun _ _ _ _ _ st h=>wpAny_pyIter_listiter st h
theorem turn_tuple {P:Program} {w:World} {K:PySem.W.Frag} {tg:Expr} (a it:Addr):Turn P w K tg (Itt K a) [it] it (fun i h=>h.IsTupleIter it a i) where
  mem:=by simp
  obj:=fun i h st b hb=>by
    have e:b=it:=by simpa using hb
    subst e
    obtain ⟨o,e,c,d⟩:=st
    exact ⟨o,e,fun v z=>by rw [d] at z; cases z⟩
  keep:=fun i h h' st k=>st.at fun o e=>k it (by simp) o e
  item:=by
    intro X hP hw hK hc i pins s σ H E I hf st hg
    subst hP hw hK
    obtain ⟨xs,x,hq,hx⟩:=hg
    obtain ⟨its,rv,p,hz⟩:=I.tuple hq
    obtain ⟨u,hu,ru⟩:=rv.get hx
    obtain ⟨f0,f1,f2,f3,f4,f5⟩:=hf it (by simp)
    refine wpAny_pyNext_tuple_item st (show s.heap.IsTuple a its.toArray from p) (x:=u) (by simpa using hu) fun h' st' sb=>?_
    have I1:Inv X pins σ H { s with heap:=h' }:=I.turned (t':=s.toks) (fun b o hb e=>(sb.2 b hb).trans e) f0 f1 f3 f4 f5
    obtain ⟨o,e,c,d⟩:=id st'
    exact ⟨u,rfl,go_of (s:={ s with heap:=h' }) e c d (by decide) ⟨x,H,I1,ru,⟨rfl,fun ys hy=>by rw [I.tuple_inj hy hq]; exact hx⟩,st',fun b hb=>(hf b hb).1⟩⟩
  done:=by
    intro X hP hw hK hc i pins s σ H E I hf st hg
    subst hP hw hK
    obtain ⟨xs,hq,hx⟩:=hg
    obtain ⟨its,rv,p,hz⟩:=I.tuple hq
    obtain ⟨f0,f1,f2,f3,f4,f5⟩:=hf it (by simp)
    have hl:=rv.length
    exact wpAny_pyNext_tuple_end (I.ok.hd hc) st (show s.heap.IsTuple a its.toArray from p) (by simp; omega) fun h' eb=>⟨rfl,I.turned (t':=s.toks) (fun b o hb e=>eb b o hb e) f0 f1 f3 f4 f5⟩
  self:=fun _ _ _ _ _ st h=>wpAny_pyIter_tupleiter st h
theorem turn_range {P:Program} {w:World} {K:PySem.W.Frag} {tg:Expr} (it:Addr) (lo:Int) (n:Nat):Turn P w K tg (Itr lo n) [it] it (fun i h=>IsRangeIter h it (lo+(i:Nat) * 1) ((n:Int) - (i:Nat)) 1) where
  mem:=by simp
  obj:=fun i h st b hb=>by
    have e:b=it:=by simpa using hb
    subst e
    exact ⟨_,st,fun v z=>by
      have z':Data.fields _=Data.cell v:=z
      cases z'⟩
  keep:=fun i h h' st k=>k it (by simp) _ st
  item:=by
    intro X hP hw hK hc i pins s σ H E I hf st hg
    subst hP hw hK
    obtain ⟨f0,f1,f2,f3,f4,f5⟩:=hf it (by simp)
    have W:=Walks.range (prog:=X.prog) (w:=X.w) (I.ok.hd hc) it lo 1 n
    refine W.item i s _ _ hg st fun v h' tk hv st' kk=>?_
    obtain ⟨t,rfl⟩:=hv
    have I1:Inv X pins σ H { s with heap:=h',toks:=tk }:=I.turned (fun b o hb e=>kk b o (by simpa using hb) e) f0 f1 f3 f4 f5
    refine ⟨_,rfl,go_of (s:={ s with heap:=h',toks:=tk }) (n:="range_iterator") st' rfl rfl (by decide) ⟨.int (lo+i),H,I1,⟨t,?_⟩,⟨rfl,rfl⟩,st',fun b hb=>(hf b hb).1⟩⟩
    rw [Int.mul_one]
  done:=by
    intro X hP hw hK hc i pins s σ H E I hf st hg
    subst hP hw hK
    obtain ⟨f0,f1,f2,f3,f4,f5⟩:=hf it (by simp)
    exact wpAny_pyNext_range_end (I.ok.hd hc) st (by have:n≤i:=hg; omega) fun h' eb=>⟨rfl,I.turned (t':=s.toks) (fun b o hb e=>eb b o hb e) f0 f1 f3 f4 f5⟩
  self:=fun _ _ _ _ _ st h=>wpAny_pyIter_rangeiter st h
end L2
namespace L2
open PySem PySem.Spec PyProof.Rows
section
variable {X:Cx} {tg:Expr}
theorem range_it {pins:List (Addr×Obj)} {σ:St} {H:Hp} {s:Shared} {R:It→Hp→Prop} {E:Value→Shared→Prop} {lo hi:Int} {t u v:Tok} {tk:Nat} (I:Inv X pins σ H s) (h1:-(2 ^ 62)≤lo) (h2:lo < 2 ^ 62) (h3:-(2 ^ 62)≤hi) (h4:hi < 2 ^ 62)
    (q:R (Itr lo (hi - lo).toNat) H):wpAny (model X.prog X.w) X.A (pyIter (.ref s.heap.objs.size)) (PIE X pins σ tg R) E { s with heap:=s.heap.push { cls:=.type "range",data:=.fields #[.int lo t,.int hi u,.int 1 v] },toks:=tk }:=by
  refine wpAny_pyIter_range (IsRange.new ..) (small_one h1 h2 h3 h4) ?_
  have I1:Inv X pins σ H { s with heap:=s.heap.push { cls:=.type "range",data:=.fields #[.int lo t,.int hi u,.int 1 v] },toks:=tk }:=I.kept fun b o e=>Heap.get?_push_of_some _ e
  refine ⟨(s.heap.push { cls:=.type "range",data:=.fields #[.int lo t,.int hi u,.int 1 v] }).objs.size,[(s.heap.push { cls:=.type "range",data:=.fields #[.int lo t,.int hi u,.int 1 v] }).objs.size],_,_,H,rfl,
    I1.kept (t':=tk) fun b o e=>Heap.get?_push_of_some _ e,turn_range _ lo (hi - lo).toNat,?_,fun b hb=>?_,q⟩
  · have e1:lo+((0:Nat):Int) * 1=lo:=by simp
    have e2:(((hi - lo).toNat:Nat):Int) - ((0:Nat):Int)=Builtin.Range.rangeSize lo hi 1:=by rw [rangeSize_one]; split <;> omega
    show IsRangeIter _ _ (lo+((0:Nat):Int) * 1) ((((hi - lo).toNat:Nat):Int) - ((0:Nat):Int)) 1
    rw [e1,e2]
    exact Heap.get?_push_size _ rfl
  · have e:b=(s.heap.push { cls:=.type "range",data:=.fields #[.int lo t,.int hi u,.int 1 v] }).objs.size:=by simpa using hb
    subst e
    exact I1.fpOk (Nat.le_refl _) (I1.hok.fresh (Nat.le_refl _))
noncomputable def iRng1 (ta:TA):TI:=fun σ H R=>ta σ H fun vs H1=>∃ j:Int,vs=[.int j]∧-(2 ^ 62)≤j∧j < 2 ^ 62∧R (Itr 0 j.toNat) H1
theorem pi_range1 {a:Expr} {ta:TA} {p pos:Pos} (hg:Gl X "range") (hm:X.mg "range"=none) (ha:PA X [a] ta) (hs:starEach [a] X.env=[(false,eval a X.env)]:=by rfl):PI X tg (.Call (.Name "range" p) [a] [] pos) (iRng1 ta):=by
  intro pins s σ H R I h
  refine Call_ (ld_blt I hg hm boot_range (PyProof.Rows.callWith_type1 (thn (ha pos pins s σ H _ I h) fun us s1 hz0=>?_) hs rfl))
  obtain ⟨vs,H1,I1,r1,q1⟩:=hz0
  obtain ⟨j,e,q1,q2,q⟩:=q1
  subst e
  cases r1 with
  | cons r rr =>
    cases rr
    obtain ⟨t,rfl⟩:=r
    exact call_range_1 (range_it I1 (by omega) (by omega) q1 q2 (by simpa using q))
noncomputable def tFor (wi:TI) (g:TG) (tb:TS):TS:=fun D σ H=>wi σ H fun J H1=>∃ W:Nat→Nat→St→Hp→Prop,(∃ m,W 0 m σ H1)∧∀ i m σ H,W i m σ H →
  (J.stop i H∧D.nx σ H)∨(J.go i H∧∃ N:St→Hp→Prop,(∀ σ' H',N σ' H'→∃ m',m' < m∧W (i+1) m' σ' H')∧∀ x H',J.yld i H x H'→g x σ H' fun σ2 H2=>tb { D with nx:=N,ct:=N,bk:=D.nx } σ2 H2)
noncomputable def pinsAt (fp:List Addr) (h:Heap):List (Addr×Obj):=fp.filterMap fun b=>(h.get? b).map fun o=>(b,o)
theorem mem_pinsAt {fp:List Addr} {h:Heap} {b:Addr} {o:Obj} (hb:b∈fp) (e:h.get? b=some o):(b,o)∈pinsAt fp h:=List.mem_filterMap.mpr ⟨b,hb,by rw [e]; rfl⟩
theorem of_pinsAt {fp:List Addr} {h:Heap} {p:Addr×Obj} (hp:p∈pinsAt fp h):p.1∈fp∧h.get? p.1=some p.2:=by
  obtain ⟨b,hb,e⟩:=List.mem_filterMap.mp hp
  cases q:h.get? b with
  | none=>rw [q] at e; cases e
  | some o =>
    rw [q] at e
    have e':(b,o)=p:=Option.some.inj e
    subst e'
    exact ⟨hb,q⟩
theorem Inv.pinned {pins:List (Addr×Obj)} {σ:St} {H:Hp} {s:Shared} {fp:List Addr} (I:Inv X pins σ H s) (hf:∀ b∈fp,FpOk X pins H b) (ho:∀ b∈fp,∃ o,s.heap.get? b=some o∧∀ v,o.data≠.cell v):Inv X (pins++pinsAt fp s.heap) σ H s :=
  I.pins_of fun p hp=>(List.mem_append.mp hp).elim (fun z=>I.pin p (List.mem_append_right _ z)) fun z=>by
    obtain ⟨hb,e⟩:=of_pinsAt z
    obtain ⟨f0,f1,f2,_⟩:=hf p.1 hb
    obtain ⟨o,e',d⟩:=ho p.1 hb
    rw [e] at e'; cases e'
    exact ⟨e,f0,f1,f2,d⟩
theorem Inv.unpinned {pins pl:List (Addr×Obj)} {σ:St} {H:Hp} {s:Shared} (I:Inv X (pins++pl) σ H s):Inv X pins σ H s:=I.pins_of fun p hp=>I.pin p (List.mem_append_right _ (List.mem_append_left _ hp))
theorem ps_for {iter:Expr} {body:List Stmt} {wi:TI} {g:TG} {tb:TS} {pos:Pos} (hp:PassesOwn (model X.prog X.w) X.A X.env X.xe) (hc:X.calm=true) (hi:PI X tg iter wi) (hg:PG X tg g) (hb:PSs X body tb)
    (hs:∀ x,foldedSetIterable iter X.env x=pure x:=by intro _; rfl):PS X (.For tg iter body [] pos) (tFor wi g tb):=by
  intro pins s σ H D I h
  refine wpAny_For (thn (hi pins s σ H _ I h) fun v s1 h1=>thn h1 fun itv s2 h2=>?_) hs
  obtain ⟨it,fp,tn,J,H2,e,I2,T,st2,f2,W,⟨m0,w0⟩,turn⟩:=h2
  subst e
  -- what stays true of the iterator's objects through the loop
  have stat:∀ {H':Hp},(∀ b∈fp,H' b=none)→∀ b∈fp,FpOk X pins H' b:=fun hn b hb=>⟨hn b hb,(f2 b hb).2⟩
  refine codeAny_forLoop_any (fun n s'=>∃ i σ' H',Inv X pins σ' H' s'∧tn i s'.heap∧(∀ b∈fp,H' b=none)∧W i n σ' H') ?_ m0 ⟨0,σ,H2,I2,st2,fun b hb=>(f2 b hb).1,w0⟩
  rintro n s3 ⟨i,σ3,H3,I3,st3,fr3,w3⟩
  rcases turn i n σ3 H3 w3 with ⟨stop,qn⟩ | ⟨go,N,hN,step⟩
  · refine wpAny_passesOwn hp (thn (T.done X rfl rfl rfl hc i pins s3 σ3 H3 X.xe I3 (stat fr3) st3 stop) fun r s4 hz0=>?_)
    obtain ⟨hr,I4⟩:=hz0
    subst hr
    exact wpAny_execs_nil ⟨σ3,H3,I4,qn⟩
  · refine wpAny_passesOwn hp (thn (T.item X rfl rfl rfl hc i pins s3 σ3 H3 X.xe I3 (stat fr3) st3 go) fun r s4 hz0=>?_)
    obtain ⟨u,hr,h4⟩:=hz0
    subst hr
    refine wpAny_passesOwn hp (thn h4 fun _ s5 hz0=>?_)
    obtain ⟨x,H5,I5,r5,y5,st5,fr5⟩:=hz0
    have I5':=I5.pinned (stat fr5) (T.obj _ _ st5)
    refine wpAny_passesOwn hp (thn (hg _ s5 σ3 H5 x u _ I5' r5 (step x H5 y5)) fun _ s6 hz0=>?_)
    obtain ⟨σ6,H6,I6,q6⟩:=hz0
    refine wpAny_passesOwn hp (thn (hb _ s6 σ6 H6 _ I6 q6) fun f s7 q7=>?_)
    have again:∀ {σ7:St} {H7:Hp},Inv X (pins++pinsAt fp s5.heap) σ7 H7 s7→N σ7 H7→∃ m,m < n∧∃ i σ' H',Inv X pins σ' H' s7∧tn i s7.heap∧(∀ b∈fp,H' b=none)∧W i m σ' H':=fun {σ7 H7} I7 n7=>by
      obtain ⟨m',hm,w7⟩:=hN σ7 H7 n7
      refine ⟨m',hm,i+1,σ7,H7,I7.unpinned,T.keep _ _ _ st5 fun b hb o e=>(I7.pin (b,o) (List.mem_append_right _ (List.mem_append_right _ (mem_pinsAt hb e)))).1,fun b hb=>?_,w7⟩
      obtain ⟨o,e,d⟩:=T.obj _ _ st5 b hb
      exact (I7.pin (b,o) (List.mem_append_right _ (List.mem_append_right _ (mem_pinsAt hb e)))).2.1
    cases f with
    | next=>obtain ⟨σ7,H7,I7,n7⟩:=q7; exact again I7 n7
    | cont=>obtain ⟨σ7,H7,I7,n7⟩:=q7; exact again I7 n7
    | brk=>obtain ⟨σ7,H7,I7,q7⟩:=q7; exact ⟨σ7,H7,I7.unpinned,q7⟩
    | ret v=>obtain ⟨x7,σ7,H7,I7,r7,q7⟩:=q7; exact ⟨x7,σ7,H7,I7.unpinned,r7,q7⟩
end
end L2
namespace L2
open PySem PySem.Spec PyProof.Rows
noncomputable abbrev R2:=V→V→Hp→VK→Prop
noncomputable def OpR (X:Cx) (f:Value→Value→Sem Value) (r:R2):Prop :=
  ∀ (pins:List (Addr×Obj)) (s:Shared) (σ:St) (H:Hp) (x y:V) (v u:Value) (Q:VK),Inv X pins σ H s→RelV x v→RelV y u→r x y H Q →
    wpAny (model X.prog X.w) X.A (f v u) (EP X pins σ Q) X.xe s
noncomputable def UnR (X:Cx) (f:Value→Sem Value) (r:V→Hp→VK→Prop):Prop :=
  ∀ (pins:List (Addr×Obj)) (s:Shared) (σ:St) (H:Hp) (x:V) (v:Value) (Q:VK),Inv X pins σ H s→RelV x v→r x H Q →
    wpAny (model X.prog X.w) X.A (f v) (EP X pins σ Q) X.xe s
noncomputable def CallR (X:Cx) (f:Value) (r:List V→Hp→VK→Prop):Prop :=
  ∀ (pins:List (Addr×Obj)) (s:Shared) (σ:St) (H:Hp) (xs:List V) (us:List Value) (Q:VK),Inv X pins σ H s→Vals xs us→r xs H Q →
    wpAny (model X.prog X.w) X.A (call f us) (EP X pins σ Q) X.xe s
noncomputable def TruR (X:Cx) (r:V→Hp→(Bool→Hp→Prop)→Prop):Prop :=
  ∀ (pins:List (Addr×Obj)) (s:Shared) (σ:St) (H:Hp) (x:V) (v:Value) (Q:Bool→Hp→Prop),Inv X pins σ H s→RelV x v→r x H Q →
    wpAny (model X.prog X.w) X.A (truthy v) (TP X pins σ Q) X.xe s

noncomputable def tOp (r:R2) (ta tb:TE):TE:=fun σ H Q=>ta σ H fun x H1=>tb σ H1 fun y H2=>r x y H2 Q
noncomputable def tUn (r:V→Hp→VK→Prop) (ta:TE):TE:=fun σ H Q=>ta σ H fun x H1=>r x H1 Q
noncomputable def rI (C:Int→Int→Prop) (g:Int→Int→V):R2:=fun x y H Q=>∃ i j,x=.int i∧y=.int j∧C i j∧Q (g i j) H
noncomputable def rI0 (g:Int→Int→V):R2:=fun x y H Q=>∃ i j,x=.int i∧y=.int j∧Q (g i j) H
noncomputable def rU (g:Int→V):V→Hp→VK→Prop:=fun x H Q=>∃ i,x=.int i∧Q (g i) H

section
variable {X:Cx} {a b c:Expr} {ta tb tc:TE} {pos:Pos}
theorem binT (ha:PE X a ta) (hb:PE X b tb) {pins:List (Addr×Obj)} {s:Shared} {σ:St} {H:Hp} {R:V→V→Hp→Prop} (I:Inv X pins σ H s)
    (h:ta σ H fun x H1=>tb σ H1 fun y H2=>R x y H2) {Q:Value→Shared→Prop} {f:Value→Value→Sem Value}
    (hf:∀ v u s2 x y H2,Inv X pins σ H2 s2→RelV x v→RelV y u→R x y H2→wpAny (model X.prog X.w) X.A (f v u) Q X.xe s2) :
    wpAny (model X.prog X.w) X.A (eval a X.env) (fun v s₁=>wpAny (model X.prog X.w) X.A (eval b X.env) (fun u s₂=>wpAny (model X.prog X.w) X.A (f v u) Q X.xe s₂) X.xe s₁) X.xe s:=by
  refine thn (ha pins s σ H _ I h) fun v s1 hz0=>?_
  obtain ⟨x,H1,I1,r1,q1⟩:=hz0
  refine thn (hb pins s1 σ H1 _ I1 q1) fun u s2 hz0=>?_
  obtain ⟨y,H2,I2,r2,q2⟩:=hz0
  exact hf v u s2 x y H2 I2 r1 r2 q2

theorem pe_op {op:Operator} {r:R2} (ho:OpR X (binaryOp op) r) (ha:PE X a ta) (hb:PE X b tb):PE X (.BinOp a op b pos) (tOp r ta tb):=by
  intro pins s σ H Q I h
  exact wpAny_BinOp (binT ha hb I h fun v u s2 x y H2 I2 rx ry q=>ho pins s2 σ H2 x y v u Q I2 rx ry q)
theorem pe_un {op:UnaryOp} {r:V→Hp→VK→Prop} (ho:UnR X (unaryOp op) r) (ha:PE X a ta):PE X (.UnaryOp op a pos) (tUn r ta):=by
  intro pins s σ H Q I h
  exact UnaryOp_ (thn (ha pins s σ H _ I h) fun v s1 ⟨x,H1,I1,r1,q1⟩=>ho pins s1 σ H1 x v Q I1 r1 q1)
theorem opI {f:Value→Value→Sem Value} {C:Int→Int→Prop} {g:Int→Int→Int}
    (rule:∀ (i j:Int) (t u:Tok) (s:Shared) (Q:Value→Shared→Prop) (E:Value→Shared→Prop),C i j→Q (.int (g i j) s.toks) { s with toks:=s.toks+1 }→wpAny (model X.prog X.w) X.A (f (.int i t) (.int j u)) Q E s) :
    OpR X f (rI C fun i j=>.int (g i j)):=by
  intro pins s σ H x y v u Q I rx ry h
  obtain ⟨i,j,rfl,rfl,hc,q⟩:=h
  obtain ⟨t,rfl⟩:=rx
  obtain ⟨t',rfl⟩:=ry
  exact rule i j t t' s _ _ hc ⟨.int (g i j),H,I.tok _,⟨_,rfl⟩,q⟩
theorem opI0 {f:Value→Value→Sem Value} {g:Int→Int→Int}
    (rule:∀ (i j:Int) (t u:Tok) (s:Shared) (Q:Value→Shared→Prop) (E:Value→Shared→Prop),Q (.int (g i j) s.toks) { s with toks:=s.toks+1 }→wpAny (model X.prog X.w) X.A (f (.int i t) (.int j u)) Q E s) :
    OpR X f (rI0 fun i j=>.int (g i j)):=by
  intro pins s σ H x y v u Q I rx ry h
  obtain ⟨i,j,rfl,rfl,q⟩:=h
  obtain ⟨t,rfl⟩:=rx
  obtain ⟨t',rfl⟩:=ry
  exact rule i j t t' s _ _ ⟨.int (g i j),H,I.tok _,⟨_,rfl⟩,q⟩
theorem opB0 {f:Value→Value→Sem Value} {g:Int→Int→Bool}
    (rule:∀ (i j:Int) (t u:Tok) (s:Shared) (Q:Value→Shared→Prop) (E:Value→Shared→Prop),Q (.bool (g i j)) s→wpAny (model X.prog X.w) X.A (f (.int i t) (.int j u)) Q E s) :
    OpR X f (rI0 fun i j=>.bl (g i j)):=by
  intro pins s σ H x y v u Q I rx ry h
  obtain ⟨i,j,rfl,rfl,q⟩:=h
  obtain ⟨t,rfl⟩:=rx
  obtain ⟨t',rfl⟩:=ry
  exact rule i j t t' s _ _ ⟨.bl (g i j),H,I,rfl,q⟩

noncomputable def CDiv (i j:Int):Prop:=0 < j∧j < 1073741824
noncomputable def CPow (i j:Int):Prop:=0≤j∧j≤1000000∧i.natAbs < 2 ^ 64
noncomputable def CMul (i j:Int):Prop:=(-(2 ^ 64) < i∧i < 2 ^ 64)∨(-(2 ^ 64) < j∧j < 2 ^ 64)
theorem CMul.ok {i j:Int} (h:CMul i j):IntMulOk i j:=by
  rcases h with ⟨h1,h2⟩ | ⟨h1,h2⟩
  · exact .of_left (intBits_le_64 h1 h2)
  · exact .of_right (intBits_le_64 h1 h2)
theorem op_add:OpR X (binaryOp .Add) (rI0 fun i j=>.int (i+j)):=opI0 fun _ _ _ _ _ _ _ q=>add_int q
theorem op_sub:OpR X (binaryOp .Sub) (rI0 fun i j=>.int (i - j)):=opI0 fun _ _ _ _ _ _ _ q=>sub_int q
theorem op_mul:OpR X (binaryOp .Mult) (rI CMul fun i j=>.int (i * j)):=opI fun _ _ _ _ _ _ _ hc q=>mul_int q hc.ok
theorem op_fdiv:OpR X (binaryOp .FloorDiv) (rI CDiv fun i j=>.int (i / j)):=opI fun i j _ _ _ _ _ hc q=>by
  have h1:(0:Int) < j:=hc.1
  have h2:j < 1073741824:=hc.2
  exact floordiv_int (by omega) (by rw [Int.fdiv_eq_ediv_of_nonneg i (by omega)]; exact q) (.inl (PyProof.noPylong_small (by omega)))
theorem op_mod:OpR X (binaryOp .Mod) (rI (fun _ j=>0 < j) fun i j=>.int (i % j)):=opI fun i j _ _ _ _ _ hc q=>by
  have h1:(0:Int) < j:=hc
  exact mod_int' (by omega) (by rw [Int.fmod_eq_emod_of_nonneg i (by omega)]; exact q)
theorem op_modN:OpR X (binaryOp .Mod) (rI (fun _ j=>j≠0) fun i j=>.int (i.fmod j)):=opI fun _ _ _ _ _ _ _ hc q=>mod_int' hc q
theorem op_pow:OpR X (binaryOp .Pow) (rI CPow fun i j=>.int (i ^ j.toNat)):=opI fun _ _ _ _ _ _ _ hc q=>pow_int_small hc.1 hc.2.1 hc.2.2 q
theorem unI {f:Value→Sem Value} {g:Int→Int}
    (rule:∀ (i:Int) (t:Tok) (s:Shared) (Q:Value→Shared→Prop) (E:Value→Shared→Prop),Q (.int (g i) s.toks) { s with toks:=s.toks+1 }→wpAny (model X.prog X.w) X.A (f (.int i t)) Q E s) :
    UnR X f (rU fun i=>.int (g i)):=by
  intro pins s σ H x v Q I rx h
  obtain ⟨i,rfl,q⟩:=h
  obtain ⟨t,rfl⟩:=rx
  exact rule i t s _ _ ⟨.int (g i),H,I.tok _,⟨_,rfl⟩,q⟩
theorem un_neg:UnR X (unaryOp .USub) (rU fun i=>.int (-i)):=unI fun _ _ _ _ _ q=>neg_int q
end
noncomputable def scal:V→V→Bool
  | .non,.non=>true | .non,.int _=>true | .int _,.non=>true | .non,.bl _=>true | .bl _,.non=>true | .non,.str _=>true | .str _,.non=>true
  | .int _,.int _=>true | .bl _,.bl _=>true | .str _,.str _=>true | .byt _,.byt _=>true
  | .int _,.str _=>true | .str _,.int _=>true | .bl _,.str _=>true | .str _,.bl _=>true
  | _,_=>false
noncomputable def rEq:R2:=fun x y H Q=>scal x y=true∧Q (.bl (decide (x=y))) H
noncomputable def rNe:R2:=fun x y H Q=>scal x y=true∧Q (.bl (!decide (x=y))) H

theorem dec_int {i j:Int}:decide (V.int i=V.int j)=(i == j):=by
  rw [Bool.eq_iff_iff]
  simp
theorem dec_bl {i j:Bool}:decide (V.bl i=V.bl j)=(i == j):=by
  rw [Bool.eq_iff_iff]
  simp
theorem dec_str {i j:Str}:decide (V.str i=V.str j)=(i == j):=by
  rw [Bool.eq_iff_iff]
  simp
theorem dec_byt {i j:Array UInt8}:decide (V.byt i=V.byt j)=(i.toList == j.toList):=by
  rw [Bool.eq_iff_iff]
  cases i
  cases j
  simp

section
variable {X:Cx} {a b c:Expr} {ta tb tc:TE} {pos:Pos}
theorem fin_bl {pins:List (Addr×Obj)} {σ:St} {H:Hp} {s:Shared} {Q:VK} {k k':Bool} (I:Inv X pins σ H s) (q:Q (.bl k) H) (e:k=k'):EP X pins σ Q (.bool k') s:=by
  subst e
  exact ⟨.bl k,H,I,rfl,q⟩
theorem op_eq:OpR X (compareOp .Eq) rEq:=by
  intro pins s σ H x y v u Q I rx ry h
  obtain ⟨hs,q⟩:=h
  cases x with
  | non =>
    cases rx
    cases y with
    | non=>cases ry; exact PySem.EqNone.eq_none_none (fin_bl I q (by simp))
    | bl j=>cases ry; exact PySem.EqNone.eq_none_bool (fin_bl I q (by simp))
    | int j=>obtain ⟨t',rfl⟩:=ry; exact PySem.EqNone.eq_none_int (fin_bl I q (by simp))
    | str j=>obtain ⟨t',rfl⟩:=ry; exact PySem.EqNone.eq_none_str (fin_bl I q (by simp))
    | _=>exact absurd (show false=true from hs) Bool.false_ne_true
  | bl i =>
    cases rx
    cases y with
    | non=>cases ry; exact PySem.EqNone.eq_bool_none (fin_bl I q (by simp))
    | bl j=>cases ry; exact eq_bool (fin_bl I q dec_bl)
    | str j=>obtain ⟨t',rfl⟩:=ry; exact PySem.EqMixed.eq_bool_str (fin_bl I q (by simp))
    | _=>exact absurd (show false=true from hs) Bool.false_ne_true
  | int i =>
    obtain ⟨t,rfl⟩:=rx
    cases y with
    | non=>cases ry; exact PySem.EqNone.eq_int_none (fin_bl I q (by simp))
    | int j=>obtain ⟨t',rfl⟩:=ry; exact eq_int (fin_bl I q dec_int)
    | str j=>obtain ⟨t',rfl⟩:=ry; exact PySem.EqMixed.eq_int_str (fin_bl I q (by simp))
    | _=>exact absurd (show false=true from hs) Bool.false_ne_true
  | str i =>
    obtain ⟨t,rfl⟩:=rx
    cases y with
    | non=>cases ry; exact PySem.EqNone.eq_str_none (fin_bl I q (by simp))
    | bl j=>cases ry; exact PySem.EqMixed.eq_str_bool (fin_bl I q (by simp))
    | int j=>obtain ⟨t',rfl⟩:=ry; exact PySem.EqMixed.eq_str_int (fin_bl I q (by simp))
    | str j=>obtain ⟨t',rfl⟩:=ry; exact eq_str (fin_bl I q dec_str)
    | _=>exact absurd (show false=true from hs) Bool.false_ne_true
  | byt i =>
    obtain ⟨t,rfl⟩:=rx
    cases y with
    | byt j=>obtain ⟨t',rfl⟩:=ry; exact PySem.W.eq_bytes (fin_bl I q dec_byt)
    | _=>exact absurd (show false=true from hs) Bool.false_ne_true
  | _=>cases y <;> exact absurd (show false=true from hs) Bool.false_ne_true
theorem op_ne:OpR X (compareOp .NotEq) rNe:=by
  intro pins s σ H x y v u Q I rx ry h
  obtain ⟨hs,q⟩:=h
  cases x with
  | non =>
    cases rx
    cases y with
    | non=>cases ry; exact PySem.EqNone.ne_none_none (fin_bl I q (by simp))
    | bl j=>cases ry; exact PySem.EqNone.ne_none_bool (fin_bl I q (by simp))
    | int j=>obtain ⟨t',rfl⟩:=ry; exact PySem.EqNone.ne_none_int (fin_bl I q (by simp))
    | str j=>obtain ⟨t',rfl⟩:=ry; exact PySem.EqNone.ne_none_str (fin_bl I q (by simp))
    | _=>exact absurd (show false=true from hs) Bool.false_ne_true
  | bl i =>
    cases rx
    cases y with
    | non=>cases ry; exact PySem.EqNone.ne_bool_none (fin_bl I q (by simp))
    | bl j=>cases ry; exact ne_bool (fin_bl I q (congrArg not dec_bl))
    | str j=>obtain ⟨t',rfl⟩:=ry; exact PySem.EqMixed.ne_bool_str (fin_bl I q (by simp))
    | _=>exact absurd (show false=true from hs) Bool.false_ne_true
  | int i =>
    obtain ⟨t,rfl⟩:=rx
    cases y with
    | non=>cases ry; exact PySem.EqNone.ne_int_none (fin_bl I q (by simp))
    | int j=>obtain ⟨t',rfl⟩:=ry; exact ne_int (fin_bl I q (congrArg not dec_int))
    | str j=>obtain ⟨t',rfl⟩:=ry; exact PySem.EqMixed.ne_int_str (fin_bl I q (by simp))
    | _=>exact absurd (show false=true from hs) Bool.false_ne_true
  | str i =>
    obtain ⟨t,rfl⟩:=rx
    cases y with
    | non=>cases ry; exact PySem.EqNone.ne_str_none (fin_bl I q (by simp))
    | bl j=>cases ry; exact PySem.EqMixed.ne_str_bool (fin_bl I q (by simp))
    | int j=>obtain ⟨t',rfl⟩:=ry; exact PySem.EqMixed.ne_str_int (fin_bl I q (by simp))
    | str j=>obtain ⟨t',rfl⟩:=ry; exact ne_str (fin_bl I q (congrArg not dec_str))
    | _=>exact absurd (show false=true from hs) Bool.false_ne_true
  | byt i =>
    obtain ⟨t,rfl⟩:=rx
    cases y with
    | byt j=>obtain ⟨t',rfl⟩:=ry; exact PySem.W.ne_bytes (fin_bl I q (congrArg not dec_byt))
    | _=>exact absurd (show false=true from hs) Bool.false_ne_true
  | _=>cases y <;> exact absurd (show false=true from hs) Bool.false_ne_true

theorem op_lt:OpR X (compareOp .Lt) (rI0 fun i j=>.bl (decide (i < j))):=opB0 fun _ _ _ _ _ _ _ q=>lt_int q
theorem op_gt:OpR X (compareOp .Gt) (rI0 fun i j=>.bl (decide (j < i))):=opB0 fun _ _ _ _ _ _ _ q=>gt_int q
theorem op_ge:OpR X (compareOp .GtE) (rI0 fun i j=>.bl (decide (j≤i))):=opB0 fun _ _ _ _ _ _ _ q=>ge_int q
theorem OpR.or {f:Value→Value→Sem Value} {r r':R2} (h:OpR X f r) (h':OpR X f r'):OpR X f (fun x y H Q=>r x y H Q∨r' x y H Q):=by
  intro pins s σ H x y v u Q I rx ry q
  rcases q with q | q
  · exact h pins s σ H x y v u Q I rx ry q
  · exact h' pins s σ H x y v u Q I rx ry q

theorem nomark (b:Expr) {op:CmpOp} (h:op≠.In:=by decide) (h2:op≠.NotIn:=by decide):behindInMarks op b=false:=by
  have e1:(op == CmpOp.In)=false:=by cases op <;> first | rfl | exact absurd rfl h
  have e2:(op == CmpOp.NotIn)=false:=by cases op <;> first | rfl | exact absurd rfl h2
  cases b <;> first | rfl | (show (_ && (op == CmpOp.In || op == CmpOp.NotIn) && _)=false; rw [e1,e2,Bool.or_false,Bool.and_false,Bool.false_and])
theorem pe_cmpR {op:CmpOp} {r:R2} (ho:OpR X (compareOp op) r) (ha:PE X a ta) (hb:PE X b tb) (hm:behindInMarks op b=false):PE X (.Compare a [op] [b] pos) (tOp r ta tb):=by
  intro pins s σ H Q I h
  exact wpAny_Compare1 (binT ha hb I h fun v u s2 x y H2 I2 rx ry q=>ho pins s2 σ H2 x y v u Q I2 rx ry q) hm
noncomputable def tTest (t:TE):TT:=fun σ H Q=>t σ H fun x H'=>∃ k,x=.bl k∧Q k H'
theorem pt_cmpR {op:CmpOp} {r:R2} (ho:OpR X (compareOp op) r) (ha:PE X a ta) (hb:PE X b tb) (hm:behindInMarks op b=false):PT X (.Compare a [op] [b] pos) (tTest (tOp r ta tb)):=by
  intro pins s σ H Q I h
  refine wpAny_isTrue_Compare1 (thn (ha pins s σ H _ I h) fun v s1 ⟨x,H1,I1,r1,q1⟩=>thn (hb pins s1 σ H1 _ I1 q1) fun u s2 ⟨y,H2,I2,r2,q2⟩ =>
    thn (ho pins s2 σ H2 x y v u _ I2 r1 r2 q2) fun c s3 ⟨z,H3,I3,r3,k,e,q3⟩=>?_) hm
  subst e
  cases r3
  exact wpAny_truthy_bool ⟨H3,I3,q3⟩
noncomputable def TruV (K:PySem.W.Frag) (x:V) (H:Hp) (k:Bool):Prop :=
  match x with
  | .non=>k=false
  | .bl b=>k=b
  | .int i=>k=(i != 0)
  | .str y=>y.length≤sizeLine∧k=((y.length:Int) != 0)
  | .byt y=>y.size≤sizeLine∧k=((y.size:Int) != 0)
  | .ref p=>(∃ xs,SqL K H p xs∧k=!xs.isEmpty)∨(∃ xs,SqT K H p xs∧k=!xs.isEmpty)∨∃ kvs,H p=some (.dK kvs)∧k=!kvs.isEmpty
  | _=>False
theorem isEmpty_kv {κ:Type} {kvs:List (κ×V)} {vs:List (κ×Value)} (r:KV kvs vs):(!vs.isEmpty)=!kvs.isEmpty:=by
  cases r <;> rfl
theorem isEmpty_of {xs:List V} {its:List Value} (r:Vals xs its):(!its.toArray.isEmpty)=!xs.isEmpty:=by
  cases r <;> simp
theorem line63:(sizeLine:Nat) < 2 ^ 63:=by rw [sizeLine_eq]; decide
theorem tru_ok:TruR X (fun x H Q=>∃ k,TruV X.K x H k∧Q k H):=by
  intro pins s σ H x v Q I rx h
  obtain ⟨k,e,q⟩:=h
  have hl:=line63
  have hs:sizeLine=16777216:=sizeLine_eq
  cases x with
  | non =>
    cases rx
    have e':k=false:=e
    subst e'
    exact truthy_none ⟨H,I,q⟩
  | bl b =>
    cases rx
    have e':k=b:=e
    subst e'
    exact wpAny_truthy_bool ⟨H,I,q⟩
  | int i =>
    obtain ⟨t,rfl⟩:=rx
    have e':k=(i != 0):=e
    subst e'
    exact PySem.P.truthy_int ⟨H,I,q⟩
  | str y =>
    obtain ⟨t,rfl⟩:=rx
    obtain ⟨hy,e'⟩:y.length≤sizeLine∧k=((y.length:Int) != 0):=e
    subst e'
    exact PySem.P.truthy_str (by omega) ⟨H,I.tok _,q⟩
  | byt y =>
    obtain ⟨t,rfl⟩:=rx
    obtain ⟨hy,e'⟩:y.size≤sizeLine∧k=((y.size:Int) != 0):=e
    subst e'
    exact PySem.W.truthy_bytes (by omega) ⟨H,I.tok _,q⟩
  | ref p =>
    cases rx
    have e':(∃ xs,SqL X.K H p xs∧k=!xs.isEmpty)∨(∃ xs,SqT X.K H p xs∧k=!xs.isEmpty)∨∃ kvs,H p=some (.dK kvs)∧k=!kvs.isEmpty:=e
    rcases e' with ⟨xs,hx,e'⟩ | ⟨xs,hx,e'⟩ | ⟨kvs,hx,e'⟩
    · subst e'
      obtain ⟨its,r,pl,hz⟩:=I.list hx
      have hlen:=r.length
      exact wpAny_truthy_list pl.isList (by simp only [List.size_toArray]; omega) ⟨H,I.tok _,by rw [isEmpty_of r]; exact q⟩
    · subst e'
      obtain ⟨its,r,pl,hz⟩:=I.tuple hx
      have hlen:=r.length
      exact truthy_tuple pl (by simp only [List.size_toArray]; omega) ⟨H,I.tok _,by rw [isEmpty_of r]; exact q⟩
    · subst e'
      obtain ⟨hz,hS,vs,r,m⟩:kvs.length≤sizeLine∧(p == sysModules)=false∧∃ vs,KV kvs vs∧s.heap.DictOf (mixKind X.prog X.w) p vs:=I.hok p _ hx
      have hlen:kvs.length=vs.length:=Paired.length r
      exact wpAny_truthy_dict hS m (by omega) ⟨H,I.tok _,by rw [isEmpty_kv r]; exact q⟩
  | _=>exact (show False from e).elim
theorem pt_truth (ha:PE X a ta) (he:∀ whole,isTrue a X.env whole=(do let v ← whole; standAt a.pos; holding [v] (truthy v))) :
    PT X a (fun σ H Q=>ta σ H fun x H'=>∃ k,TruV X.K x H' k∧Q k H'):=by
  intro pins s σ H Q I h
  exact isTrue_plain (thn (ha pins s σ H _ I h) fun v s1 ⟨x,H1,I1,r1,q1⟩=>tru_ok pins s1 σ H1 x v Q I1 r1 q1) (he _)

theorem vals1 {x:V} {us:List Value} (r:Vals [x] us):∃ u,us=[u]∧RelV x u:=by
  cases r with
  | cons r1 r2=>cases r2; exact ⟨_,rfl,r1⟩
theorem vals2 {x y:V} {us:List Value} (r:Vals [x,y] us):∃ u w',us=[u,w']∧RelV x u∧RelV y w':=by
  cases r with
  | cons r1 r2 =>
    cases r2 with
    | cons r3 r4=>cases r4; exact ⟨_,_,rfl,r1,r3⟩
theorem call_abs:CallR X (.builtin "abs") (fun xs H Q=>∃ i,xs=[.int i]∧Q (.int (if i < 0 then -i else i)) H):=by
  intro pins s σ H xs us Q I r h
  obtain ⟨i,rfl,q⟩:=h
  obtain ⟨u,rfl,t,rfl⟩:=vals1 r
  exact call_abs_int fun u tk=>⟨.int (if i < 0 then -i else i),H,I.tok _,⟨_,rfl⟩,q⟩
theorem call_max2 (hc:X.calm=true):CallR X (.builtin "max") (fun xs H Q=>∃ i j,xs=[.int i,.int j]∧Q (.int (if j > i then j else i)) H):=by
  intro pins s σ H xs us Q I r h
  obtain ⟨i,j,rfl,q⟩:=h
  obtain ⟨u,w',rfl,⟨t,rfl⟩,⟨t',rfl⟩⟩:=vals2 r
  refine max_two_ints (I.ok.hd hc) fun h' tk k=>⟨_,H,I.kept k,?_,q⟩
  by_cases hj:j > i
  · rw [if_pos hj,if_pos hj]; exact ⟨_,rfl⟩
  · rw [if_neg hj,if_neg hj]; exact ⟨_,rfl⟩
theorem call_min2 (hc:X.calm=true):CallR X (.builtin "min") (fun xs H Q=>∃ i j,xs=[.int i,.int j]∧Q (.int (if j < i then j else i)) H):=by
  intro pins s σ H xs us Q I r h
  obtain ⟨i,j,rfl,q⟩:=h
  obtain ⟨u,w',rfl,⟨t,rfl⟩,⟨t',rfl⟩⟩:=vals2 r
  refine min_two_ints (I.ok.hd hc) fun h' tk k=>⟨_,H,I.kept k,?_,q⟩
  by_cases hj:j < i
  · rw [if_pos hj,if_pos hj]; exact ⟨_,rfl⟩
  · rw [if_neg hj,if_neg hj]; exact ⟨_,rfl⟩
theorem call_int1:CallR X (.type "int") (fun xs H Q=>(∃ i,xs=[.int i]∧Q (.int i) H)∨∃ k,xs=[.bl k]∧Q (.int (if k then 1 else 0)) H):=by
  intro pins s σ H xs us Q I r h
  rcases h with ⟨i,rfl,q⟩ | ⟨k,rfl,q⟩
  · obtain ⟨u,rfl,t,rfl⟩:=vals1 r
    exact call_int_int ⟨.int i,H,I,⟨_,rfl⟩,q⟩
  · obtain ⟨u,rfl,r1⟩:=vals1 r
    cases r1
    exact call_int_bool ⟨.int (if k then 1 else 0),H,I.tok _,⟨_,rfl⟩,q⟩
end
end L2
namespace L2
open PySem PySem.Spec PyProof.Rows
structure ObjM (h:Heap) (x dx C:Addr) (mA:Str→Option Value):Prop where
  obj:h.get? x=some (PySem.W.instObj C dx)
  ns:h.Ns1 dx mA
  ne:dx≠x

theorem lookIn_ns {h:Heap} {dx:Addr} {mA:Str→Option Value} (n:h.Ns1 dx mA):∃ od,h.get? dx=some od∧∀ name,PySem.W.lookIn name od=some (mA name):=by
  obtain ⟨o,es,ep,ho,hd,hk,_,hm⟩:=n
  refine ⟨o,ho,fun name=>?_⟩
  have e:=hm name
  unfold nsFind findBy at e
  rw [← Array.find?_toList] at e
  unfold PySem.W.lookIn
  rw [hd]
  dsimp only
  split
  · rename_i y q
    rw [q] at e
    exact congrArg some e
  · rename_i q
    rw [q] at e
    have a:es.toList.any (·.refKey)=false:=by
      rw [List.any_eq_false]
      intro y hy
      obtain ⟨z,t,hkey⟩:=hk y (Array.mem_toList_iff.mp hy)
      simp [DictEntry.refKey,hkey]
    have a':¬ es.toList.any (·.refKey)=true:=by rw [a]; exact Bool.false_ne_true
    rw [if_neg a']
    exact congrArg some e

theorem ObjM.look {h:Heap} {x dx C:Addr} {mA:Str→Option Value} (I:ObjM h x dx C mA):∃ od,PySem.W.InstAt h x (PySem.W.instObj C dx) C (some od)∧∀ name,PySem.W.lookIn name od=some (mA name) :=
  let ⟨od,ho,hl⟩:=lookIn_ns I.ns
  ⟨od,⟨I.obj,rfl,rfl,ho⟩,hl⟩

section
variable {prog:Program} {w:World} {A:Around} {E:Value→Shared→Prop} {s:Shared} {K:PySem.W.Frag} {x dx C f:Addr} {mA:Str→Option Value} {name:Str} {v:Value}
end
theorem RelO.some_of {v:V} {o:Option Value} (r:RelO (some v) o):∃ u,o=some u∧RelV v u:=by
  cases o with
  | none=>exact (show False from r).elim
  | some u=>exact ⟨u,rfl,r⟩
section
variable {P:Program} {w:World} {H H':Hp} {h h':Heap} {a C dx:Addr} {fs fs':List (Str×V)}
theorem ins_get (hok:HOk P w H h) (e:H a=some (.ins C dx fs)):∃ mA,ObjM h a dx C mA∧(∀ f,RelO (fs.lookup f) (mA f))∧PySem.Within mA (fs.map (·.1))∧fs.length≤1000∧H dx=some (.own a):=by
  obtain ⟨d,z,ne,ob,mA,n,r,q⟩:=(show ObjOk P w H h a (.ins C dx fs) from hok a _ e)
  exact ⟨mA,⟨ob,n,ne⟩,r,q,z,d⟩
end
structure Cls (K:PySem.W.Frag) (C:Addr):Prop where
  pg:PySem.W.plainGet K C Str.empty=true
  hd:PySem.W.hasDictIn K C=true
  po:PySem.W.plainOver K C=true
  sa:PySem.W.findIn K (.ref C) "__setattr__"=some (some (.builtin "object.__setattr__"))
theorem Cls.get {K:PySem.W.Frag} {C:Addr} (c:Cls K C) (f:Str):PySem.W.plainGet K C f=true:=c.pg
section
variable {X:Cx} {pins:List (Addr×Obj)} {σ:St} {H:Hp} {s:Shared} {a C dx:Addr} {fs:List (Str×V)} {f:Str} {v:V} {A:Around} {E:Value→Shared→Prop}
end
section
variable {X:Cx} {o e value:Expr} {f:Str} {pos pos' tpos:Pos} {ta tv:TE}
end
section
variable {X:Cx} {pins:List (Addr×Obj)} {σ:St} {H:Hp} {s:Shared} {A:Around} {E:Value→Shared→Prop} {Q:Value→Shared→Prop} {c:Value} {b:Bool}
inductive TyOf (K:PySem.W.Frag) (H:Hp):V→Value→Prop where
  | non:TyOf K H .non (.type "NoneType")
  | bl (x:Bool):TyOf K H (.bl x) (.type "bool")
  | int (i:Int):TyOf K H (.int i) (.type "int")
  | str (x:Str):TyOf K H (.str x) (.type "str")
  | flt (x:UInt64):TyOf K H (.flt x) (.type "float")
  | lst {a:Addr} {xs:List V} (e:H a=some (.lst xs)):TyOf K H (.ref a) (.type "list")
  | frz {a:Addr} {o:Obj} {xs:List V} (e:H a=some (.frz o (.lst xs))):TyOf K H (.ref a) (.type "list")
  | tup {a:Addr} {xs:List V} (e:H a=some (.tup xs)):TyOf K H (.ref a) (.type "tuple")
  | dK {a:Addr} {kvs:List (Key×V)} (e:H a=some (.dK kvs)):TyOf K H (.ref a) (.type "dict")
  | dT {a:Addr} {kvs:List (List Key×V)} (e:H a=some (.dT kvs)):TyOf K H (.ref a) (.type "dict")
  | ins {a C dx:Addr} {fs:List (Str×V)} (e:H a=some (.ins C dx fs)) (cl:Cls K C) (ha:PySem.W.findIn K (.ref C) "__class__"=some (some (.builtin "object.__class__")))
      (hn:PySem.W.specialIn K (.builtin "object.__class__") "__get__"=some (some (.builtin "getset_descriptor.__get__"))) (htk:PySem.W.takesIn K (.builtin "object.__class__")=some true)
      (hm:PySem.W.mroIn K C (.type "object")=some true):TyOf K H (.ref a) (.ref C)
theorem isinst_ok {x:V} {u t:Value} (I:Inv X pins σ H s) (rx:RelV x u) (ty:TyOf X.K H x t) (e:PySem.W.kitOne X.K t c=some b) (h:∀ tk,Q (.bool b) { s with toks:=tk }) :
    wpAny (model X.prog X.w) A (call (.builtin "isinstance") [u,c]) Q E s:=by
  cases ty with
  | non=>cases (show u=Value.none from rx); exact PySem.W.kia_one PySem.W.kitx_none I.kIn True.intro e (fun z=>nomatch z) h
  | bl y=>cases (show u=Value.bool y from rx); exact PySem.W.kia_one PySem.W.kitx_bool I.kIn True.intro e (fun z=>nomatch z) h
  | int i=>obtain ⟨t,q⟩:=(show ∃ t,u=Value.int i t from rx); cases q; exact PySem.W.kia_one PySem.W.kitx_int I.kIn True.intro e (fun z=>nomatch z) h
  | str y=>obtain ⟨t,q⟩:=(show ∃ t,u=Value.str y t from rx); cases q; exact PySem.W.kia_one PySem.W.kitx_str I.kIn True.intro e (fun z=>nomatch z) h
  | flt y=>obtain ⟨t,q⟩:=(show ∃ t,u=Value.float y t from rx); cases q; exact PySem.W.kia_one PySem.W.kitx_float I.kIn True.intro e (fun z=>nomatch z) h
  | @lst a xs ea =>
    cases (show u=Value.ref a from rx)
    obtain ⟨_,_,n,_,h1⟩:=(show ObjOk X.prog X.w H s.heap a (.lst xs) from I.hok a _ ea)
    exact PySem.W.kia_one PySem.W.kitx_list I.kIn ⟨_,h1,rfl⟩ e (fun z=>nomatch z) h
  | @frz a ob xs ea =>
    cases (show u=Value.ref a from rx)
    obtain ⟨_,_,_,n,_,h1⟩:=(show ObjOk X.prog X.w H s.heap a (.frz ob (.lst xs)) from I.hok a _ ea)
    exact PySem.W.kia_one PySem.W.kitx_list I.kIn ⟨_,h1,rfl⟩ e (fun z=>nomatch z) h
  | @tup a xs ea =>
    cases (show u=Value.ref a from rx)
    obtain ⟨_,_,_,p⟩:=(show ObjOk X.prog X.w H s.heap a (.tup xs) from I.hok a _ ea)
    obtain ⟨o,h1,h2,_⟩:=p
    exact PySem.W.kia_one PySem.W.kitx_tuple I.kIn ⟨o,h1,h2⟩ e (fun z=>nomatch z) h
  | @dK a kvs ea =>
    cases (show u=Value.ref a from rx)
    obtain ⟨_,_,vs,_,p⟩:=(show ObjOk X.prog X.w H s.heap a (.dK kvs) from I.hok a _ ea)
    obtain ⟨o,es,ep,h1,h2,_⟩:=p
    exact PySem.W.kia_one PySem.W.kitx_dict I.kIn ⟨o,h1,h2.1⟩ e (fun z=>nomatch z) h
  | @dT a kvs ea =>
    cases (show u=Value.ref a from rx)
    obtain ⟨_,_,xs,_,o,es,ep,h1,h2,_⟩:=(show ObjOk X.prog X.w H s.heap a (.dT kvs) from I.hok a _ ea)
    exact PySem.W.kia_one PySem.W.kitx_dict I.kIn ⟨o,h1,h2.1⟩ e (fun z=>nomatch z) h
  | @ins a C dx fs ea cl ha hn htk hm =>
    cases (show u=Value.ref a from rx)
    obtain ⟨mA,O,_⟩:=ins_get I.hok ea
    obtain ⟨od,J,_⟩:=O.look
    exact PySem.W.kia_one (PySem.W.kitx_own (cl.get _) cl.hd ha hn htk hm) I.kIn J e (fun z=>nomatch z) h
end
end L2
namespace L2
open PySem PySem.Spec PyProof.Rows
structure Room (k:Nat) (A:Around):Prop where
  hd:A.handled=none
  dp:A.depth+3 * k+5 < recursionLimit
  un:A.units+16 * k+200 < cLine
  gd:A.guards=some []
theorem Room.mono {j k:Nat} {A:Around} (r:Room k A) (h:j≤k):Room j A:=⟨r.hd,by have:=r.dp; omega,by have:=r.un; omega,r.gd⟩
theorem Room.deeper {k:Nat} {A:Around} (r:Room (k+1) A) (env:Env):Room k (A.deeper env) :=
  ⟨r.hd,by have:=r.dp; show A.depth+1+3 * k+5 < _; omega,by have:=r.un; show A.units+3+16 * k+200 < _; omega,r.gd⟩
theorem Room.depth {k:Nat} {A:Around} (r:Room k A):A.depth < recursionLimit:=by have:=r.dp; omega
theorem Room.units {k:Nat} {A:Around} (r:Room k A):A.units+64 < cLine:=by have:=r.un; omega
noncomputable def tNil:TA:=fun _ H Q=>Q [] H
noncomputable def tCons (ta:TE) (tr:TA):TA:=fun σ H Q=>ta σ H fun x H1=>tr σ H1 fun xs H2=>Q (x::xs) H2
section
variable {X:Cx} {e:Expr} {es:List Expr} {te:TE} {t:TA} {pos:Pos}
theorem pa_nil:PA X [] tNil:=fun _ _ _ _ H Q I h=>Calls.spliced_nil ⟨[],H,I,.nil,h⟩
theorem pa_cons (ha:PE X e te) (hr:PA X es t) (hs:starEach (e::es) X.env=(false,eval e X.env)::starEach es X.env:=by rfl):PA X (e::es) (tCons te t):=by
  intro pos pins s σ H Q I h
  rw [hs]
  show wpAny _ _ (spliced ((false,eval e X.env)::backTo pos (starEach es X.env))) _ _ s
  refine Calls.spliced_cons (thn (ha pins s σ H _ I h) fun u s1 hz0=>?_)
  obtain ⟨x,H1,I1,r1,q1⟩:=hz0
  exact thn (hr pos pins s1 σ H1 _ I1 q1) fun us s2 hz0=>by
    obtain ⟨xs,H2,I2,r2,q2⟩:=hz0
    exact ⟨x::xs,H2,I2,.cons r1 r2,q2⟩

noncomputable def tTup (t:TA):TE:=fun σ H Q=>t σ H fun xs H1=>xs.length≤sizeLine∧∀ p,H1 p=none→Q (.ref p) (upd H1 p (.tup xs))
noncomputable def tLst (t:TA):TE:=fun σ H Q=>t σ H fun xs H1=>xs.length≤sizeLine∧∀ p,H1 p=none→Q (.ref p) (upd H1 p (.lst xs))
theorem pe_tup {x1} (h:PA X es t):PE X (.Tuple es x1 pos) (tTup t):=by
  intro pins s σ H Q I hq
  refine wpAny_Tuple_spliced (thn (h pos pins s σ H _ I hq) fun us s1 ⟨xs,H1,I1,r,z,q⟩=>⟨by rw [← r.length]; exact z,?_⟩)
  have hf:H1 s1.heap.objs.size=none:=I1.hok.fresh (Nat.le_refl _)
  refine ⟨.ref s1.heap.objs.size,upd H1 s1.heap.objs.size (.tup xs),I1.laid (t':=s1.toks) (fun b u e=>Heap.get?_push_of_some _ e) (Nat.le_refl _) ?_,rfl,q _ hf⟩
  exact ⟨z,us,r,⟨_,Heap.get?_push_size _ rfl,rfl,_,rfl⟩⟩
theorem pe_lst (h:PA X es t):PE X (.List es pos) (tLst t):=by
  intro pins s σ H Q I hq
  refine wpAny_List_spliced (thn (h pos pins s σ H _ I hq) fun us s1 ⟨xs,H1,I1,r,z,q⟩=>⟨by rw [← r.length]; exact z,?_⟩)
  have hf:H1 s1.heap.objs.size=none:=I1.hok.fresh (Nat.le_refl _)
  refine ⟨.ref s1.heap.objs.size,upd H1 s1.heap.objs.size (.lst xs),I1.laid (t':=s1.toks) (fun b u e=>Heap.get?_push_of_some _ e) (Nat.le_refl _) ?_,rfl,q _ hf⟩
  exact ⟨z,us,0,r,Heap.get?_push_size _ rfl⟩
end
noncomputable abbrev Sp:=List V→Hp→VK→XK→Prop
noncomputable abbrev CXT:=List Env→Hp→Shared→XK→Value→Shared→Prop

structure Env0 (P:Program) (w:World) (K:PySem.W.Frag) (mg:Str→Option Value) (base:Heap) (A:Around) (outer:List Env) (s:Shared) (H:Hp):Prop where
  frames:A.frames=some outer
  mod:Mod K mg base
  bs:∀ b o,base.get? b=some o→s.heap.get? b=some o∧H b=none
  bsz:base.objs.size≤s.heap.objs.size
  funs:s.heap.FunFrames base outer
  frf:∀ b∈frs outer,H b=none
  hok:HOk P w H s.heap
  bare:AllBare s.gens
noncomputable def CE (outer:List Env) (P:Program) (w:World) (H:Hp) (s:Shared) (Q:VK) (u:Value) (s':Shared):Prop :=
  ∃ v H',s'.os=s.os∧AllBare s'.gens∧Un (frs outer) [] H H' s.heap s'.heap∧HOk P w H' s'.heap∧RelV v u∧Q v H'
noncomputable def CR (CX:CXT) (outer:List Env) (P:Program) (w:World) (H:Hp) (s:Shared) (Q:VK) (E:XK) (r:Result) (s':Shared):Prop :=
  match r with
  | .ok (.ret u)=>CE outer P w H s Q u s'
  | .ok _=>False
  | .error e=>CX outer H s E e s'
structure FnOk (P:Program) (w:World) (K:PySem.W.Frag) (mg:Str→Option Value) (base:Heap) (CX:CXT) (k:Nat) (f:Addr) (fd:FuncData) (ps:List Str) (sp:Sp):Prop where
  len:∀ vs H Q E,sp vs H Q E→vs.length=ps.length
  run:∀ (A:Around) (outer:List Env) (s:Shared) (H:Hp) (args:Args) (us:List Value) (vs:List V) (Q:VK) (E:XK),Room k A→Env0 P w K mg base A outer s H→BindsTo s fd args (ps.zip us)→Vals vs us→sp vs H Q E →
    codeAny (model P w) A (.call (.ref f) args) (CR CX outer P w H s Q E) s
theorem FnOk.imp {P:Program} {w:World} {K:PySem.W.Frag} {mg:Str→Option Value} {base:Heap} {CX:CXT} {k:Nat} {f:Addr} {fd:FuncData} {ps:List Str} {sp sp':Sp} (F:FnOk P w K mg base CX k f fd ps sp)
    (h:∀ vs H Q E,sp' vs H Q E→sp vs H Q E):FnOk P w K mg base CX k f fd ps sp' :=
  ⟨fun vs H Q E q=>F.len vs H Q E (h _ _ _ _ q),fun A outer s H args us vs Q E hr he hb hv hs=>F.run A outer s H args us vs Q E hr he hb hv (h _ _ _ _ hs)⟩

section
variable {X:Cx} {pins:List (Addr×Obj)} {σ:St} {H:Hp} {s s':Shared}
theorem Inv.env0 (I:Inv X pins σ H s):Env0 X.prog X.w X.K X.mg X.base X.A X.stack s H :=
  ⟨I.ok.frames,I.ok.mod,I.bs,Nat.le_trans I.ok.bsz I.sz,I.stack,I.stkFree,I.hok,I.bare⟩
theorem Inv.after {Q:VK} {u:Value} (I:Inv X pins σ H s) (h:CE X.stack X.prog X.w H s Q u s'):EP X pins σ Q u s':=by
  obtain ⟨v,H',os,bare,un,hok,r,q⟩:=h
  obtain ⟨hh,g,d,t,os'⟩:=s'
  obtain rfl:os'=s.os:=os
  exact ⟨v,H',I.call (h':=hh) (g':=g) (d':=d) (t':=t) (ch:=[]) un hok bare (fun b z=>absurd z (by simp)),r,q⟩
end
noncomputable def tCall (sp:Sp) (dvs:List V) (E:XK) (t:TA):TE:=fun σ H Q=>t σ H fun vs H1=>sp (vs++dvs) H1 Q E
noncomputable def Binds (K:PySem.W.Frag) (fd:FuncData) (ps:List Str) (ds:List Value):Prop :=
  ∀ (s:Shared) (us:List Value),K.In s.heap→(us++ds).length=ps.length→BindsTo s fd ⟨us,[]⟩ (ps.zip (us++ds))
theorem Binds.all {K:PySem.W.Frag} {fd:FuncData} {ps:List Str} (h:∀ us:List Value,us.length=ps.length→bindArgs fd ⟨us,[]⟩=pure (ps.zip us)):Binds K fd ps []:=fun s us _ hl=>by
  rw [List.append_nil] at hl ⊢
  exact .of_eq (h us hl)

noncomputable def Passes (CX:CXT) (X:Cx) (E:XK):Prop:=∀ (pins:List (Addr×Obj)) (σ:St) (H:Hp) (s:Shared) (e:Value) (s':Shared),Inv X pins σ H s→CX X.stack H s E e s'→X.xe e s'

section
variable {X:Cx} {CX:CXT} {k:Nat} {f C:Addr} {fd:FuncData} {ps:List Str} {sp:Sp} {dvs:List V} {ds:List Value} {E:XK} {x m:Str} {p pos apos:Pos} {e o:Expr} {es:List Expr} {ta:TE} {t:TA}
theorem run_fn {pins:List (Addr×Obj)} {σ:St} {H:Hp} {s:Shared} {Q:VK} {us:List Value} {vs:List V} (F:FnOk X.prog X.w X.K X.mg X.base CX k f fd ps sp) (hr:Room k X.A) (hb:Binds X.K fd ps ds) (hd:Vals dvs ds) (hx:Passes CX X E)
    (I:Inv X pins σ H s) (r:Vals vs us) (h:sp (vs++dvs) H Q E):wpAny (model X.prog X.w) X.A (call (.ref f) us) (EP X pins σ Q) X.xe s:=by
  have r2:Vals (vs++dvs) (us++ds):=r.append hd
  have hl:(us++ds).length=ps.length:=by rw [← r2.length]; exact F.len _ _ _ _ h
  refine wpAny_call (codeAny_mono (F.run X.A X.stack s H ⟨us,[]⟩ (us++ds) (vs++dvs) Q E hr I.env0 (hb s us I.kIn hl) r2 h) fun r s' hq=>?_)
  cases r with
  | error e=>exact hx pins σ H s e s' I hq
  | ok fl =>
    cases fl with
    | ret u=>exact I.after hq
    | next=>exact False.elim hq
    | brk=>exact False.elim hq
    | cont=>exact False.elim hq

theorem pe_call (F:FnOk X.prog X.w X.K X.mg X.base CX k f fd ps sp) (hr:Room k X.A) (hg:Gl X x) (hm:X.mg x=some (.ref f)) (hk:PySem.W.keepIn X.K (.ref f)=true) (hb:Binds X.K fd ps ds) (hd:Vals dvs ds) (hx:Passes CX X E)
    (ha:PA X (e::es) t) (hdb:(x == ("__debug__":Str))=false:=by decide) (he:starEach (e::es) X.env=(false,eval e X.env)::starEach es X.env:=by rfl) (hpl:(backTo pos (starEach es X.env)).any (·.1)=false:=by rfl) :
    PE X (.Call (.Name x p) (e::es) [] pos) (tCall sp dvs E t):=by
  intro pins s σ H Q I h
  refine wpAny_Call_Name_kw (ld_glob I hg hm ?_ hdb)
  refine PySem.W.callWith_K (h₀:=X.base) I.ok.mod.kin hk (thn (ha pos pins s σ H _ I h) fun us s1 ⟨vs,H1,I1,r,q⟩=>⟨I1.kIn,?_⟩) he hpl
  exact run_fn F hr hb hd hx I1 r q
end
noncomputable def PK (X:Cx) (kws:List Keyword) (t:TA):Prop :=
  ∀ (pos:Pos) (pins:List (Addr×Obj)) (s:Shared) (σ:St) (H:Hp) (Q:List V→Hp→Prop),Inv X pins σ H s→t σ H Q→wpAny (model X.prog X.w) X.A (evalAll ((backToKw pos (keywordEach kws X.env)).map (·.2))) (AP X pins σ Q) X.xe s
section
variable {X:Cx} {CX:CXT} {k:Nat} {f C:Addr} {fd:FuncData} {ps ks:List Str} {sp:Sp} {E:XK} {x m:Str} {p pos apos kpos:Pos} {e o:Expr} {es:List Expr} {kws:List Keyword} {te ta:TE} {t tk:TA} {nm:Option Str}
variable {g:List Value→List Value→List Value} {gV:List V→List V→List V}
end
structure FnScope (N P:List Str) (sc:Scope):Prop where
  kind:sc.kind=.function
  co:sc.isCoroutine=false
  gen:sc.isGenerator=false
  nd:N.Nodup
  pre:N.take P.length=P
  par:∀ x∈P,sc.names.lookup x=some .local∨sc.names.lookup x=some .cell
  nofree:∀ y∈sc.names,y.2≠.free

theorem bindL_out {kindOf:Str→Option NameKind} {x:Str}:∀ {binds:List (Str×Value)} {m:Str→Option Value},(∀ v,(x,v) ∉ binds)→bindL kindOf binds m x=m x
  | [],_,_=>rfl
  | (n,v)::r,m,h=>by
    unfold bindL
    rw [bindL_out fun w hw=>h w (List.mem_cons_of_mem _ hw)]
    split
    · have:x≠n:=by rintro rfl; exact h v List.mem_cons_self
      simp [this]
    · rfl
theorem bindC_out {kindOf:Str→Option NameKind} {x:Str}:∀ {binds:List (Str×Value)} {m:Str→Option Value},(∀ v,(x,v) ∉ binds)→bindC kindOf binds m x=m x
  | [],_,_=>rfl
  | (n,v)::r,m,h=>by
    unfold bindC
    rw [bindC_out fun w hw=>h w (List.mem_cons_of_mem _ hw)]
    split
    · rfl
    · have:x≠n:=by rintro rfl; exact h v List.mem_cons_self
      simp [this]
theorem bindL_get {kindOf:Str→Option NameKind} {x:Str} {v:Value}:∀ {P:List Str} {vs:List Value} {i:Nat} {m:Str→Option Value},P.Nodup→P[i]?=some x→vs[i]?=some v→kindOf x=some .local →
    bindL kindOf (P.zip vs) m x=some v
  | [],_,_,_,_,h,_,_=>by simp at h
  | _::_,[],_,_,_,_,h,_=>by simp at h
  | p::P,w::vs,0,m,nd,h1,h2,hk=>by
    simp at h1 h2; subst h1; subst h2
    show bindL kindOf ((p,w)::P.zip vs) m p=_
    unfold bindL
    rw [bindL_out fun v hv=>(List.nodup_cons.mp nd).1 (List.of_mem_zip hv).1,if_pos hk]
    simp
  | p::P,w::vs,i+1,m,nd,h1,h2,hk=>by
    show bindL kindOf ((p,w)::P.zip vs) m x=_
    unfold bindL
    exact bindL_get (i:=i) (List.nodup_cons.mp nd).2 (by simpa using h1) (by simpa using h2) hk
theorem bindC_get {kindOf:Str→Option NameKind} {x:Str} {v:Value}:∀ {P:List Str} {vs:List Value} {i:Nat} {m:Str→Option Value},P.Nodup→P[i]?=some x→vs[i]?=some v→kindOf x≠some .local →
    bindC kindOf (P.zip vs) m x=some v
  | [],_,_,_,_,h,_,_=>by simp at h
  | _::_,[],_,_,_,_,h,_=>by simp at h
  | p::P,w::vs,0,m,nd,h1,h2,hk=>by
    simp at h1 h2; subst h1; subst h2
    show bindC kindOf ((p,w)::P.zip vs) m p=_
    unfold bindC
    rw [bindC_out fun v hv=>(List.nodup_cons.mp nd).1 (List.of_mem_zip hv).1,if_neg hk]
    simp
  | p::P,w::vs,i+1,m,nd,h1,h2,hk=>by
    show bindC kindOf ((p,w)::P.zip vs) m x=_
    unfold bindC
    exact bindC_get (i:=i) (List.nodup_cons.mp nd).2 (by simpa using h1) (by simpa using h2) hk

noncomputable def start (N:List Str) (vs:List V):St:=vs.map some++List.replicate (N.length - vs.length) none

noncomputable def cxOf (CX:CXT) (P:Program) (w:World) (K:PySem.W.Frag) (mg:Str→Option Value) (base:Heap) (N:List Str) (qual:Str) (scope:Scope) (f:Addr) (cd:Value) (A:Around) (outer:List Env) (s:Shared) (H:Hp) (E:XK):Cx where
  prog:=P
  w:=w
  K:=K
  mg:=mg
  base:=base
  A:=A.deeper (envOfC qual scope s.heap.objs.size f cd)
  N:=N
  s₀:=s
  H₀:=H
  env:=envOfC qual scope s.heap.objs.size f cd
  outer:=outer
  stack:=envOfC qual scope s.heap.objs.size f cd::outer
  ex:=[]
  calm:=true
  fn:=fun _=>true
  pn:=[]
  xe:=fun e s'=>wpAny (model P w) (A.deeper (envOfC qual scope s.heap.objs.size f cd)) (leaving (envOfC qual scope s.heap.objs.size f cd) e) (fun _ s''=>CX outer H s E e s'') (fun e' s''=>CX outer H s E e' s'') s'

theorem cell_has {sc:Scope} {n:Nat} {x:Str} (h:sc.names.lookup x=some .cell):∃ c,(cellsFrom n sc.names []).lookup x=some c:=by
  have q:=PySem.W.cellsFrom_some sc.names n [] (.inl h)
  exact Option.isSome_iff_exists.mp q

theorem inv_start {CX:CXT} {P:Program} {w:World} {K:PySem.W.Frag} {mg:Str→Option Value} {base:Heap} {N ps:List Str} {qual:Str} {scope:Scope} {f:Addr} {cd:Value} {A:Around} {outer:List Env} {s s1:Shared} {H:Hp} {E:XK} {us:List Value} {vs:List V}
    (S:FnScope N ps scope) (hd:A.handled=none) (e0:Env0 P w K mg base A outer s H) (hl:vs.length=ps.length) (r:Vals vs us)
    (x:InCallC s s.heap.objs.size (bindL (envOfC qual scope s.heap.objs.size f cd).kindOf (ps.zip us) fun _=>none) (cellsFrom (s.heap.objs.size+1) scope.names []) (bindC (envOfC qual scope s.heap.objs.size f cd).kindOf (ps.zip us) fun _=>none) s1) :
    Inv (cxOf CX P w K mg base N qual scope f cd A outer s H E) [] (start N vs) H s1:=by
  have hpl:ps.length≤N.length:=by have:=congrArg List.length S.pre; rw [List.length_take] at this; omega
  obtain ⟨h1,tk,rfl,hk⟩:=x.done
  have noA:∀ b:Addr,b ∉ (cxOf CX P w K mg base N qual scope f cd A outer s H E).ex:=fun b z=>absurd (show b∈([]:List Addr) from z) (by simp)
  refine ⟨⟨e0.mod,S.kind,rfl,rfl,Nat.le_refl _,fun y z c h1 h2=>?_,fun y hy=>?_,fun y c _ h=>?_,fun _=>hd,Around.frames_deeper e0.frames,.inr ⟨rfl,rfl⟩,fun b z=>absurd z (noA b),e0.bs,e0.bsz,fun b _ _=>noA b,fun b z=>absurd z (noA b),e0.funs,e0.frf⟩,
    rfl,e0.bare,Un.kept hk,⟨_,x.toInCall.ns,fun i y v h1 h2 h3=>?_⟩,fun y c h=>⟨_,x.cell y c h⟩,e0.hok.fresh (Nat.le_refl _),fun y c h=>?_,fun p hp=>absurd (show p∈([]:List (Addr×Obj)) from hp) (by simp),e0.hok.kept hk,?_⟩
  · exact name_of_addr x.apart (PySem.mem_of_lookup h1) (PySem.mem_of_lookup h2)
  · have hy:scope.names.lookup y=some .cell∨scope.names.lookup y=some .free:=hy
    rcases hy with hy | hy
    · exact cell_has hy
    · exact absurd rfl (S.nofree _ (PySem.mem_of_lookup hy))
  · exact Nat.le_of_lt (x.above y c (PySem.mem_of_lookup h))
  · have hi:i < vs.length:=by
      unfold start at h2
      by_cases hi:i < vs.length
      · exact hi
      · rw [List.getElem?_append_right (by simpa using hi)] at h2
        rw [List.getElem?_replicate] at h2
        split at h2 <;> cases h2
    have ha:vs[i]?=some v:=by
      unfold start at h2
      rw [List.getElem?_append_left (by simpa using hi),List.getElem?_map] at h2
      cases e:vs[i]? with
      | none=>rw [e] at h2; cases h2
      | some a=>rw [e] at h2; cases h2; rfl
    obtain ⟨u,hu,rv⟩:=r.get ha
    have hp:ps[i]?=some y:=by
      rw [← S.pre,List.getElem?_take_of_lt (by omega)]; exact h1
    have ndP:ps.Nodup:=by rw [← S.pre]; exact S.nd.sublist (List.take_sublist _ _)
    refine ⟨u,rv,?_⟩
    rcases S.par y (List.mem_of_getElem? hp) with k | k
    · exact .inl ⟨k,bindL_get ndP hp hu k⟩
    · obtain ⟨c,e⟩:=cell_has (n:=s.heap.objs.size+1) k
      refine .inr ⟨.inl k,c,e,?_⟩
      have q:=x.cell y c e
      rw [bindC_get ndP hp hu (by show scope.names.lookup y≠_; rw [k]; decide)] at q
      exact q
  · exact e0.hok.fresh (Nat.le_of_lt (x.above y c (PySem.mem_of_lookup h)))
  · unfold start
    show _=N.length
    rw [List.length_append,List.length_map,List.length_replicate]
    omega

theorem fn_of {CX:CXT} {P:Program} {w:World} {K:PySem.W.Frag} {mg:Str→Option Value} {base:Heap} {k:Nat} {f:Addr} {name qual:Str} {params:Arguments} {body:List Stmt} {scope:Scope} {dV kV doc pm cdv ct oc:Value} {an od:Option Addr}
    {osl:Array (Option Value)} {N ps:List Str} {sp:Sp} (lk:K.lookup f=some ⟨oc,od,.func (PySem.W.fnOf name qual params body scope dV kV doc pm an cdv ct),osl⟩) (hcd:PySem.W.codeIn K cdv qual=true) (S:FnScope N ps scope)
    (len:∀ vs H Q E,sp vs H Q E→vs.length=ps.length)
    (hbody:∀ (A:Around) (outer:List Env) (s:Shared) (H:Hp) (vs:List V) (Q:VK) (E:XK),Room k (A.deeper (envOfC qual scope s.heap.objs.size f cdv))→sp vs H Q E →
      ∃ t,PSs (cxOf CX P w K mg base N qual scope f cdv A outer s H E) body t∧t { nx:=fun _ H'=>Q .non H',rt:=Q } (start N vs) H) :
    FnOk P w K mg base CX (k+1) f (PySem.W.fnOf name qual params body scope dV kV doc pm an cdv ct) ps sp:=by
  refine ⟨len,fun A outer s H args us vs Q E hr e0 hb r hsp=>?_⟩
  have hl:=len _ _ _ _ hsp
  have KX:K.In s.heap:=e0.mod.kin.keeps fun b o e=>(e0.bs b o e).1
  have lim:s.heap.NoLimit:=e0.mod.nolimit.keeps fun b o e=>(e0.bs b o e).1
  have hkind:∀ y∈ps.zip us,scope.names.lookup y.1=some .local∨(scope.names.lookup y.1=some .cell∧((cellsFrom (s.heap.objs.size+1) scope.names []).lookup y.1).isSome=true):=fun ⟨n,v⟩ hy=>by
    rcases S.par n (List.of_mem_zip hy).1 with q | q
    · exact .inl q
    · exact .inr ⟨q,PySem.W.cellsFrom_some _ _ _ (.inl q)⟩
  refine codeAny_call_function hr.depth (KX _ _ lk) rfl S.co S.gen rfl (PySem.W.codeRec_of KX hcd) (hb _ _ _ _ ?_)
  refine wpAny_newFunctionEnv_cells S.kind hkind fun env he s1 x=>?_
  subst he
  refine ⟨lim.keeps x.toInCall.keep,codeAny_func ?_⟩
  obtain ⟨t,ht,hq⟩:=hbody A outer s H vs Q E (hr.deeper _) hsp
  have I:Inv (cxOf CX P w K mg base N qual scope f cdv A outer s H E) [] (start N vs) H s1:=inv_start S hr.hd e0 hl r x
  refine wpAny_mono (ht [] s1 (start N vs) H _ I hq) (fun fl s' hs=>?_) fun e s' hs=>hs
  have fin:∀ {σ':St} {H':Hp} {v:V} {u:Value},Inv (cxOf CX P w K mg base N qual scope f cdv A outer s H E) [] σ' H' s'→RelV v u→Q v H'→CE outer P w H s Q u s' :=
    fun {σ' H' v u} J rv q=>⟨v,H',J.os,J.bare,J.base,J.hok,rv,q⟩
  cases fl with
  | ret u =>
    obtain ⟨v,σ',H',J,rv,q⟩:=hs
    exact fin J rv q
  | next =>
    obtain ⟨σ',H',J,q⟩:=hs
    exact fin (v:=V.non) (u:=Value.none) J rfl q
  | brk =>
    obtain ⟨_,_,_,q⟩:=hs
    exact False.elim q
  | cont =>
    obtain ⟨_,_,_,q⟩:=hs
    exact False.elim q
end L2
namespace L2
open PySem PySem.Spec PyProof.Rows
section
variable {X:Cx} {x:Str} {p pos:Pos} {e:Expr} {es:List Expr} {t:TA} {id T:String} {r:List V→Hp→VK→Prop}
noncomputable def tCB (r:List V→Hp→VK→Prop) (t:TA):TE:=fun σ H Q=>t σ H fun vs H1=>r vs H1 Q
theorem pe_callB (hc:CallR X (.builtin id) r) (hg:Gl X x) (hm:X.mg x=none) (hv:bootBuiltins x=some (.builtin id)) (ha:PA X (e::es) t) (hn:x≠"__name__":=by decide) (hdb:(x == ("__debug__":Str))=false:=by decide)
    (he:starEach (e::es) X.env=(false,eval e X.env)::starEach es X.env:=by rfl) (hpl:(backTo pos (starEach es X.env)).any (·.1)=false:=by rfl):PE X (.Call (.Name x p) (e::es) [] pos) (tCB r t):=by
  intro pins s σ H Q I h
  refine wpAny_Call_Name_kw (ld_blt I hg hm hv ?_ hn hdb)
  exact PyProof.Rows.callWith_builtin1 (thn (ha pos pins s σ H _ I h) fun us s1 ⟨vs,H1,I1,r1,q1⟩=>hc pins s1 σ H1 vs us Q I1 r1 q1) he hpl
theorem pe_callTy (hc:CallR X (.type T) r) (hg:Gl X x) (hm:X.mg x=none) (hv:bootBuiltins x=some (.type T)) (ha:PA X (e::es) t) (hn:x≠"__name__":=by decide) (hdb:(x == ("__debug__":Str))=false:=by decide)
    (he:starEach (e::es) X.env=(false,eval e X.env)::starEach es X.env:=by rfl) (hpl:(backTo pos (starEach es X.env)).any (·.1)=false:=by rfl):PE X (.Call (.Name x p) (e::es) [] pos) (tCB r t):=by
  intro pins s σ H Q I h
  refine wpAny_Call_Name_kw (ld_blt I hg hm hv ?_ hn hdb)
  exact PyProof.Rows.callWith_type1 (thn (ha pos pins s σ H _ I h) fun us s1 ⟨vs,H1,I1,r1,q1⟩=>hc pins s1 σ H1 vs us Q I1 r1 q1) he hpl
end
end L2
namespace HT
open PySem PyProof.Rows
noncomputable def lexLt:List Int→List Int→Bool
  | [],[]=>false
  | [],_::_=>true
  | _::_,[]=>false
  | x::xs,y::ys=>if x=y then lexLt xs ys else decide (x < y)
theorem lexLt_cons (x y:Int) (xs ys:List Int):lexLt (x::xs) (y::ys)=if x=y then lexLt xs ys else decide (x < y):=rfl
theorem lexLt_nil_nil:lexLt [] []=false:=rfl
section
open PySem.SeqAt
open PySem.AutoSeq1 (wpAny_loadPart')
open PySem.MeetsSeq PySem.MeetsSeq2 PySem.MeetsSeq3
end
section
variable {prog:Program} {w:World} {A:Around} {E:Value→Shared→Prop} {s:Shared}
theorem cat_tup {t b:Addr} {vs ws:List Value} {Q:Value→Shared→Prop} (ht:IsTup s.heap t vs.toArray) (hb:IsTup s.heap b ws.toArray) (hv:vs≠[])
    (h1:ws=[]→Q (.ref t) s) (h2:ws≠[]→Q (.ref s.heap.objs.size) { s with heap:=s.heap.push { cls:=.type "tuple",data:=.seq (vs++ws).toArray } })
    (hsz:vs.length+ws.length≤sizeLine):wpAny (model prog w) A (binaryOp .Add (.ref t) (.ref b)) Q E s:=by
  obtain ⟨⟨cls,dd,data,sl⟩,ho,hc,n,hd⟩:=id ht
  obtain ⟨⟨cls2,dd2,data2,sl2⟩,ho2,hc2,n2,hd2⟩:=id hb
  simp only at hc hd hc2 hd2
  subst hc hd hc2 hd2
  have e:vs.toArray++ws.toArray=(vs++ws).toArray:=by simp
  by_cases hw:ws=[]
  · exact concat_meets ⟨_,ho,rfl⟩ ⟨_,ho2,rfl⟩ noFill_tuple_add seq_tuple_add PySem.F.slot_tuple_add PySem.F.entry_tuple_add (PySem.F.args_tuple_add_2 _ _)
      (tuple_addW1 t b vs.toArray ws.toArray n n2 dd dd2 sl sl2 (by simpa using hv) (by simp [hw])) ⟨ho,ho2,h1 hw⟩
  · refine concat_meets ⟨_,ho,rfl⟩ ⟨_,ho2,rfl⟩ noFill_tuple_add seq_tuple_add PySem.F.slot_tuple_add PySem.F.entry_tuple_add (PySem.F.args_tuple_add_2 _ _)
      (tuple_addW2 t b vs.toArray ws.toArray n n2 dd dd2 sl sl2 (by simpa using hv) (by simpa using hw) (by rw [List.size_toArray,List.size_toArray]; exact hsz)) ⟨ho,ho2,?_⟩
    rw [e]
    exact h2 hw

noncomputable def sIx (n d:Nat):Option Int→Nat
  | none=>d
  | some v=>if v < 0 then (v+(n:Int)).toNat else min v.toNat n
theorem sIx_nat (n d k:Nat):sIx n d (some (k:Int))=min k n:=by
  show (if (k:Int) < 0 then ((k:Int)+(n:Int)).toNat else min (k:Int).toNat n)=min k n
  rw [if_neg (by omega),Int.toNat_natCast]
end
end HT
namespace L2
open PySem PySem.Spec PyProof.Rows
noncomputable abbrev TO:=St→Hp→(Option Int→Hp→Prop)→Prop
noncomputable def PO (X:Cx) (e:Option Expr) (t:TO):Prop :=
  ∀ (pins:List (Addr×Obj)) (s:Shared) (σ:St) (H:Hp) (Q:Option Int→Hp→Prop),Inv X pins σ H s→t σ H Q →
    wpAny (model X.prog X.w) X.A (evalPart e X.env) (fun u s'=>∃ o H',Inv X pins σ H' s'∧IsPart u o∧Q o H') X.xe s
noncomputable def tNoPart:TO:=fun _ H Q=>Q none H
noncomputable def tPart (t:TE):TO:=fun σ H Q=>t σ H fun x H1=>∃ i,x=.int i∧Q (some i) H1

section
variable {X:Cx} {e:Expr} {te:TE} {lo hi:Option Expr} {tl th:TO} {pos p2:Pos}
theorem po_none:PO X none tNoPart:=by
  intro pins s σ H Q I h
  rw [evalPart_none]
  exact wpAny_pure ⟨none,H,I,.none,h⟩
theorem po_some (h:PE X e te):PO X (some e) (tPart te):=by
  intro pins s σ H Q I hw
  rw [evalPart_some]
  refine thn (h pins s σ H _ I hw) fun u s1 hz0=>?_
  obtain ⟨x,H1,I1,r1,q1⟩:=hz0
  obtain ⟨i,rfl,q⟩:=q1
  obtain ⟨t,rfl⟩:=r1
  exact ⟨some i,H1,I1,.int i t,q⟩

noncomputable def SlR (X:Cx) (r:V→Option Int→Option Int→Hp→VK→Prop):Prop :=
  ∀ (pins:List (Addr×Obj)) (s:Shared) (σ:St) (H:Hp) (x:V) (v vl vu:Value) (lo hi:Option Int) (sl:Addr) (Q:VK),Inv X pins σ H s→RelV x v→s.heap.IsSliceOf sl vl vu .none→IsPart vl lo→IsPart vu hi→r x lo hi H Q →
    ∃ T id,typeLookup (.type T) "__getitem__"=pure (some (.builtin id))∧s.TypeIs v T∧wpAny (model X.prog X.w) X.A (getItem v (.ref sl)) (EP X pins σ Q) X.xe s
noncomputable def tSl (r:V→Option Int→Option Int→Hp→VK→Prop) (te:TE) (tl th:TO):TE:=fun σ H Q=>te σ H fun x H1=>tl σ H1 fun l H2=>th σ H2 fun u H3=>r x l u H3 Q
theorem pe_slice {r:V→Option Int→Option Int→Hp→VK→Prop} (hr:SlR X r) (he:PE X e te) (hl:PO X lo tl) (hu:PO X hi th):PE X (.Subscript e (.Slice lo hi none p2) pos) (tSl r te tl th):=by
  intro pins s σ H Q I h
  refine Subscript_ (thn (he pins s σ H _ I h) fun v s1 hz0=>?_)
  obtain ⟨x,H1,I1,r1,q1⟩:=hz0
  refine wpAny_Slice (thn (hl pins s1 σ H1 _ I1 q1) fun vl s2 ⟨l,H2,I2,pl,q2⟩=>thn (hu pins s2 σ H2 _ I2 q2) fun vu s3 hz0=>?_)
  obtain ⟨u,H3,I3,pu,q3⟩:=hz0
  rw [evalPart_none]
  refine wpAny_pure ?_
  have I4:Inv X pins σ H3 { s3 with heap:=s3.heap.push { cls:=.type "slice",data:=.fields #[vl,vu,.none] } }:=I3.kept (t':=s3.toks) fun b ob q=>Heap.get?_push_of_some _ q
  obtain ⟨T,id,hT,ht,hg⟩:=hr pins { s3 with heap:=s3.heap.push { cls:=.type "slice",data:=.fields #[vl,vu,.none] } } σ H3 x v vl vu l u s3.heap.objs.size Q I4 r1 (Heap.IsSliceOf.new ..) pl pu q3
  show wpAny (model X.prog X.w) X.A (subscriptTail e (.Slice lo hi none p2) v (.ref s3.heap.objs.size)) (EP X pins σ Q) X.xe { s3 with heap:=s3.heap.push { cls:=.type "slice",data:=.fields #[vl,vu,.none] } }
  exact tail_any (ops:=[.ref s3.heap.objs.size,v]) ht hT hg (by with_unfolding_all rfl)

noncomputable def cutV (xs:List V) (lo hi:Option Int):List V:=(xs.drop (HT.sIx xs.length 0 lo)).take (HT.sIx xs.length xs.length hi - HT.sIx xs.length 0 lo)
theorem cutV_length (xs:List V) (lo hi:Option Int):(cutV xs lo hi).length≤xs.length:=by
  unfold cutV
  rw [List.length_take,List.length_drop]
  exact Nat.le_trans (Nat.min_le_right _ _) (Nat.sub_le _ _)
noncomputable def rCatT (K:PySem.W.Frag):R2:=fun x y H Q=>∃ a b xs ys,x=.ref a∧y=.ref b∧SqT K H a xs∧SqT K H b ys∧xs≠[]∧xs.length+ys.length≤sizeLine ∧
  (ys=[]→Q (.ref a) H)∧(ys≠[]→∀ p,H p=none→Q (.ref p) (upd H p (.tup (xs++ys))))
theorem Vals.nil_iff {xs:List V} {us:List Value} (r:Vals xs us):us=[] ↔ xs=[]:=by
  cases r with
  | nil=>simp
  | cons _ _=>simp
theorem op_catT:OpR X (binaryOp .Add) (rCatT X.K):=by
  intro pins s σ H x y v u Q I rx ry h
  obtain ⟨a,b,xs,ys,rfl,rfl,ha,hb,hx,hz,q1,q2⟩:=h
  cases rx
  cases ry
  obtain ⟨its,r1,p1,_⟩:=I.tuple ha
  obtain ⟨its2,r2,p2,_⟩:=I.tuple hb
  refine HT.cat_tup p1 p2 (fun z=>hx (r1.nil_iff.mp z)) (fun z=>⟨.ref a,H,I,rfl,q1 (r2.nil_iff.mp z)⟩) (fun z=>?_) (by rw [← r1.length,← r2.length]; exact hz)
  refine ⟨.ref s.heap.objs.size,_,I.laid (t':=s.toks) (o:=.tup (xs++ys)) (fun b ob q=>Heap.get?_push_of_some _ q) (Nat.le_refl _) ?_,rfl,q2 (fun w=>z (r2.nil_iff.mpr w)) _ (I.hok.fresh (Nat.le_refl _))⟩
  exact ⟨by rw [List.length_append]; exact hz,_,r1.append r2,IsTup.new _ _⟩
end
end L2
namespace L2
open PySem PySem.Spec PyProof.Rows
noncomputable def ixN (n:Nat) (i:Int):Option Nat:=if 0≤i then (if i < n then some i.toNat else none) else if -(n:Int)≤i then some (i+n).toNat else none
noncomputable def atI {α:Type} (xs:List α) (i:Int):Option α:=(ixN xs.length i).bind fun j=>xs[j]?
theorem ixN_seq {n:Nat} {i:Int} {j:Nat} (h:ixN n i=some j):seqIndex? i n=some j∧j < n∧-(n:Int)≤i∧i < n:=by
  unfold ixN at h
  by_cases h0:0≤i
  · rw [if_pos h0] at h
    by_cases h1:i < n
    · rw [if_pos h1] at h
      have e:i.toNat=j:=Option.some.inj h
      exact ⟨by rw [seqIndex_of h0 h1,e],by omega,by omega,h1⟩
    · rw [if_neg h1] at h; cases h
  · rw [if_neg h0] at h
    by_cases h1:-(n:Int)≤i
    · rw [if_pos h1] at h
      have e:(i+n).toNat=j:=Option.some.inj h
      exact ⟨by rw [seqIndex_neg (by omega) h1,e],by omega,h1,by omega⟩
    · rw [if_neg h1] at h; cases h
theorem atI_get {α:Type} {xs:List α} {i:Int} {v:α} (h:atI xs i=some v):∃ j,seqIndex? i xs.length=some j∧xs[j]?=some v∧j < xs.length∧-(xs.length:Int)≤i∧i < xs.length:=by
  unfold atI at h
  cases e:ixN xs.length i with
  | none=>rw [e] at h; cases h
  | some j =>
    rw [e] at h
    obtain ⟨h1,h2,h3,h4⟩:=ixN_seq e
    exact ⟨j,h1,h,h2,h3,h4⟩
theorem atI_nat {α:Type} {xs:List α} {j:Nat} {v:α} (h:xs[j]?=some v):atI xs (j:Int)=some v:=by
  have hj:j < xs.length:=(List.getElem?_eq_some_iff.mp h).1
  have e:ixN xs.length (j:Int)=some j:=by
    unfold ixN
    rw [if_pos (by omega),if_pos (by omega)]; simp
  unfold atI; rw [e]; exact h
noncomputable def PlainIx (b:Expr):Prop:=∀ o i,subscripted b false o i=operate [o,i] (getItem o i)
noncomputable def IxR (X:Cx) (r:R2):Prop :=
  ∀ (value slice:Expr) (pins:List (Addr×Obj)) (s:Shared) (σ:St) (H:Hp) (x y:V) (v u:Value) (Q:VK),Inv X pins σ H s→RelV x v→RelV y u→r x y H Q →
    subscripted slice false v u=operate [v,u] (getItem v u)→wpAny (model X.prog X.w) X.A (subscriptTail value slice v u) (EP X pins σ Q) X.xe s
section
variable {X:Cx} {a b:Expr} {ta tb:TE} {pos:Pos}
theorem IxR.or {r r':R2} (h:IxR X r) (h':IxR X r'):IxR X (fun x y H Q=>r x y H Q∨r' x y H Q):=by
  intro value slice pins s σ H x y v u Q I rx ry q hs
  rcases q with q | q
  · exact h value slice pins s σ H x y v u Q I rx ry q hs
  · exact h' value slice pins s σ H x y v u Q I rx ry q hs
theorem pe_ix {r:R2} (hr:IxR X r) (ha:PE X a ta) (hb:PE X b tb) (hs:PlainIx b):PE X (.Subscript a b pos) (tOp r ta tb):=by
  intro pins s σ H Q I h
  exact Subscript_ (binT ha hb I h fun v u s2 x y H2 I2 rx ry q=>hr a b pins s2 σ H2 x y v u Q I2 rx ry q (hs _ _))

noncomputable def rIxL (K:PySem.W.Frag):R2:=fun x y H Q=>∃ p xs i v,x=.ref p∧y=.int i∧SqL K H p xs∧atI xs i=some v∧Q v H
noncomputable def rIxT (K:PySem.W.Frag):R2:=fun x y H Q=>∃ p xs i v,x=.ref p∧y=.int i∧SqT K H p xs∧atI xs i=some v∧Q v H
noncomputable def rIxS:R2:=fun x y H Q=>∃ z i c,x=.str z∧y=.int i∧z.length≤sizeLine∧atI z.cps.toList i=some c∧Q (.str ⟨#[c]⟩) H
theorem ix_list:IxR X (rIxL X.K):=by
  intro value slice pins s σ H x y v u Q I rx ry h hs
  obtain ⟨p,xs,i,z,rfl,rfl,hq,he,q⟩:=h
  cases rx
  obtain ⟨t,rfl⟩:=ry
  obtain ⟨its,r,pl,hz⟩:=I.list hq
  obtain ⟨j,h1,h2,h3,h4,h5⟩:=atI_get he
  obtain ⟨w,ew,rw'⟩:=r.get h2
  have hl:=r.length
  have hn:=line63
  have fin:EP X pins σ Q w s:=⟨z,H,I,rw',q⟩
  by_cases h0:0≤i
  · have hj:i.toNat=j:=by
      rw [seqIndex_of h0 h5] at h1
      exact Option.some.inj h1
    exact item_listR pl.isList h0 (by omega) (by rw [hj]; simpa using ew) fin hs
  · have hj:(i+(its.toArray.size:Int)).toNat=j:=by
      rw [seqIndex_neg (by omega) h4] at h1
      rw [List.size_toArray,← hl]
      exact Option.some.inj h1
    exact subscriptTail_builtinR (x:=w) pl.isList.typeIs slot_list_getitem.lookup
      (wpAny_getItem_list_neg (Q:=fun r s'=>r=w∧EP X pins σ Q r s') pl.isList (by omega) (by rw [List.size_toArray] <;> omega) (by omega) (by rw [hj]; simpa using ew) ⟨rfl,fin⟩) hs
theorem ix_tup:IxR X (rIxT X.K):=by
  intro value slice pins s σ H x y v u Q I rx ry h hs
  obtain ⟨p,xs,i,z,rfl,rfl,hq,he,q⟩:=h
  cases rx
  obtain ⟨t,rfl⟩:=ry
  obtain ⟨its,r,pl,hz⟩:=I.tuple hq
  obtain ⟨j,h1,h2,h3,h4,h5⟩:=atI_get he
  obtain ⟨w,ew,rw'⟩:=r.get h2
  have hl:=r.length
  have hn:=line63
  have fin:EP X pins σ Q w s:=⟨z,H,I,rw',q⟩
  exact subscriptTail_builtinR (x:=w) pl.typeIs slot_tuple_getitem.lookup
    (getItem_tuple (j:=j) (Q:=fun r s'=>r=w∧EP X pins σ Q r s') pl (by omega) (by omega) (by rw [List.size_toArray,← hl]; exact h1) (by simpa using ew) ⟨rfl,fin⟩) hs
theorem ix_str:IxR X rIxS:=by
  intro value slice pins s σ H x y v u Q I rx ry h hs
  obtain ⟨z,i,c,rfl,rfl,hz,he,q⟩:=h
  obtain ⟨t,rfl⟩:=rx
  obtain ⟨t',rfl⟩:=ry
  obtain ⟨j,h1,h2,h3,h4,h5⟩:=atI_get he
  have hl:z.cps.toList.length=z.length:=by simp [Str.length]
  rw [hl] at h1 h4 h5
  have hn:=line63
  exact tail_any (typeIs_str s z t) slot_str_getitem.lookup (getItem_str (c:=c) (by
    have e1:decide (i < -(2 ^ 63:Int))=false:=decide_eq_false (by omega)
    have e2:decide (i ≥ 2 ^ 63)=false:=decide_eq_false (by omega)
    rw [e1,e2,Bool.or_false]) (by rw [h1]; simpa using h2) ⟨.str ⟨#[c]⟩,H,I.tok _,⟨_,rfl⟩,q⟩) hs
noncomputable def rIx (K:PySem.W.Frag):R2:=fun x y H Q=>rIxL K x y H Q∨rIxT K x y H Q∨rIxS x y H Q
theorem ix_seq:IxR X (rIx X.K):=ix_list.or (ix_tup.or ix_str)

theorem cut_lo {n:Nat} {i:Int} (h:i < 0):max 0 (min (i+(n:Int)) n)=(((i+n).toNat:Nat):Int):=by
  rw [Int.min_eq_left (by omega),Int.ofNat_toNat,Int.max_comm]
theorem cut_hi {n:Nat} {i:Int} (h:¬ i < 0):max 0 (min i (n:Int))=((min i.toNat n:Nat):Int):=by
  obtain ⟨k,rfl⟩:=Int.eq_ofNat_of_zero_le (Int.not_lt.mp h)
  rw [Int.toNat_natCast,← Lean.Omega.Int.ofNat_min]
  exact Int.max_eq_right (Int.natCast_nonneg _)
theorem slice_bounds (lo hi:Option Int) (n:Nat):(sliceBounds lo hi none n).1=((HT.sIx n 0 lo:Nat):Int)∧(sliceBounds lo hi none n).2.1=((HT.sIx n n hi:Nat):Int)∧(sliceBounds lo hi none n).2.2=1:=by
  refine ⟨?_,?_,rfl⟩
  · cases lo with
    | none=>simp [sliceBounds,HT.sIx]
    | some i =>
      simp only [sliceBounds,HT.sIx,Option.getD_none,show (1:Int) > 0 by decide,if_true]
      by_cases h:i < 0
      · simp only [h,if_true]
        exact cut_lo h
      · simp only [h,if_false]
        exact cut_hi h
  · cases hi with
    | none=>simp [sliceBounds,HT.sIx]
    | some i =>
      simp only [sliceBounds,HT.sIx,Option.getD_none,show (1:Int) > 0 by decide,if_true]
      by_cases h:i < 0
      · simp only [h,if_true]
        exact cut_lo h
      · simp only [h,if_false]
        exact cut_hi h
theorem slicePick_cut (its:List Value) (lo hi:Option Int):slicePick its.toArray lo hi none=((its.drop (HT.sIx its.length 0 lo)).take (HT.sIx its.length its.length hi - HT.sIx its.length 0 lo)).toArray:=by
  obtain ⟨h1,h2,h3⟩:=slice_bounds lo hi its.toArray.size
  unfold slicePick
  rw [h1,h2,h3]
  simp only [sliceRange_one,pick_run,List.size_toArray] <;> rfl
noncomputable def rSlL (K:PySem.W.Frag):V→Option Int→Option Int→Hp→VK→Prop:=fun x lo hi H Q=>∃ a xs,x=.ref a∧SqL K H a xs∧∀ p,H p=none→Q (.ref p) (upd H p (.lst (cutV xs lo hi)))
theorem sl_list:SlR X (rSlL X.K):=by
  intro pins s σ H x v vl vu lo hi sl Q I rx hs pl pu h
  obtain ⟨a,xs,rfl,hx,q⟩:=h
  cases rx
  obtain ⟨its,r,ht,hz⟩:=I.list hx
  have hlen:=r.length
  refine ⟨"list",_,slot_list_getitem.lookup,ht.isList.typeIs,?_⟩
  refine wpAny_getItem_list_slice ht.isList hs pl pu .none (by simp) ?_ (by rw [List.size_toArray] <;> omega)
  rw [slicePick_cut,← hlen]
  refine ⟨.ref s.heap.objs.size,_,I.laid (t':=s.toks) (o:=.lst (cutV xs lo hi)) (fun b ob q=>Heap.get?_push_of_some _ q) (Nat.le_refl _) ?_,rfl,q _ (I.hok.fresh (Nat.le_refl _))⟩
  exact ⟨Nat.le_trans (cutV_length xs lo hi) hz,_,0,(r.drop (HT.sIx xs.length 0 lo)).take (HT.sIx xs.length xs.length hi - HT.sIx xs.length 0 lo),Heap.get?_push_size _ rfl⟩

theorem call_len_seq:CallR X (.builtin "len") (fun xs H Q=>∃ p ys,xs=[.ref p]∧(SqL X.K H p ys∨SqT X.K H p ys)∧Q (.int ys.length) H):=by
  intro pins s σ H xs us Q I r h
  obtain ⟨p,ys,rfl,hq,q⟩:=h
  obtain ⟨u,rfl,rx⟩:=vals1 r
  cases rx
  have hn:=line63
  rcases hq with hq | hq
  · obtain ⟨its,r',pl,hz⟩:=I.list hq
    have hlen:=r'.length
    exact Calls.call_len_list pl.isList (by simp only [List.size_toArray] <;> omega) ⟨.int ys.length,H,I.tok _,⟨s.toks+1,by rw [List.size_toArray,hlen]⟩,q⟩
  · obtain ⟨its,r',pl,hz⟩:=I.tuple hq
    have hlen:=r'.length
    exact len_tuple pl (by simp only [List.size_toArray] <;> omega) ⟨.int ys.length,H,I.tok _,⟨s.toks+1,by rw [List.size_toArray,hlen]⟩,q⟩
theorem call_list_of:CallR X (.type "list") (fun xs H Q=>∃ p ys,xs=[.ref p]∧(SqL X.K H p ys∨SqT X.K H p ys)∧∀ l,H l=none→Q (.ref l) (upd H l (.lst ys))):=by
  intro pins s σ H xs us Q I r h
  obtain ⟨p,ys,rfl,hq,q⟩:=h
  obtain ⟨u,rfl,rx⟩:=vals1 r
  cases rx
  have fin:∀ (its:List Value),Vals ys its→ys.length≤sizeLine→∀ (h':Heap) (c':Nat),(∀ b o',s.heap.get? b=some o'→h'.get? b=some o') →
      h'.get? s.heap.objs.size=some { cls:=.type "list",dict:=none,data:=.seq its.toArray c',slots:=#[] }→EP X pins σ Q (.ref s.heap.objs.size) { s with heap:=h' }:=fun its r' hz h' c' kp e =>
    ⟨.ref s.heap.objs.size,_,I.laid (t':=s.toks) kp (Nat.le_refl _) (show ObjOk X.prog X.w _ h' _ (.lst ys) from ⟨hz,its,c',r',e⟩),rfl,q _ (I.hok.fresh (Nat.le_refl _))⟩
  rcases hq with hq | hq
  · obtain ⟨its,r',pl,hz⟩:=I.list hq
    have hlen:=r'.length
    obtain ⟨o,ho,hc,n,hd⟩:=pl.isList
    exact call_list_seq p (.inl rfl) ho hc hd (fun h' c' kp e=>fin its r' hz h' c' kp e) (by simp only [List.size_toArray] <;> omega)
  · obtain ⟨its,r',pl,hz⟩:=I.tuple hq
    have hlen:=r'.length
    obtain ⟨o,ho,hc,n,hd⟩:=pl
    exact call_list_seq p (.inr rfl) ho hc hd (fun h' c' kp e=>fin its r' hz h' c' kp e) (by simp only [List.size_toArray] <;> omega)
variable {o e:Expr} {es:List Expr} {to:TE} {t:TA} {name:Str} {apos cpos:Pos} {T id:String} {r:V→List V→Hp→VK→Prop}
end
end L2
namespace L2
open PySem PySem.Spec PyProof.Rows
theorem Vals.rep {xs:List V} {us:List Value} (h:Vals xs us):∀ k:Nat,Vals (List.replicate k xs).flatten (List.replicate k us).flatten
  | 0=>.nil
  | k+1=>by
    rw [List.replicate_succ,List.replicate_succ,List.flatten_cons,List.flatten_cons]
    exact Vals.append h (Vals.rep h k)
theorem foldl_rep (its:List Value):∀ (k:Nat) (acc:List Value),
    List.foldl (fun x1 x2=>x1++x2) acc.toArray (List.replicate k its.toArray)=(acc++(List.replicate k its).flatten).toArray
  | 0,acc=>by simp
  | k+1,acc=>by
    have e:acc.toArray++its.toArray=(acc++its).toArray:=by simp
    have e2:(acc++its)++(List.replicate k its).flatten=acc++(List.replicate (k+1) its).flatten:=by
      rw [List.replicate_succ,List.flatten_cons,List.append_assoc]
    rw [← e2,← foldl_rep its k (acc++its),← e,List.replicate_succ,List.foldl_cons]

section
variable {X:Cx} {pins:List (Addr×Obj)} {σ:St} {H:Hp} {s:Shared} {l b:Addr} {xs ys zs:List V}
theorem Inv.lnew {its:List Value} {t':Nat} (I:Inv X pins σ H s) (hv:Vals ys its) (hz:ys.length≤sizeLine) :
    Inv X pins σ (upd H s.heap.objs.size (.lst ys)) { s with heap:=s.heap.push { cls:=.type "list",data:=.seq its.toArray },toks:=t' } :=
  I.laid (fun _ _ q=>Heap.get?_push_of_some _ q) (Nat.le_refl _) ⟨hz,its,0,hv,Heap.get?_push_size _ rfl⟩
theorem Inv.fresh (I:Inv X pins σ H s):H s.heap.objs.size=none:=I.hok.fresh (Nat.le_refl _)
theorem Inv.lstM (I:Inv X pins σ H s) (hH:H l=some (.lst xs)):xs.length≤sizeLine∧∃ (its:List Value) (n:Nat),Vals xs its∧xs.length=its.length∧s.heap.get? l=some { cls:=.type "list",data:=.seq its.toArray n }:=by
  obtain ⟨z,its,n,r,e⟩:=I.hok l _ hH
  exact ⟨z,its,n,r,r.length,e⟩

theorem notLongL {n:Nat} (h:n≤sizeLine):Builtin.List.listTooLong n=false:=by
  unfold Builtin.List.listTooLong
  exact decide_eq_false (by omega)
end
section
variable {X:Cx}
noncomputable def rCat:R2:=fun x y H Q=>∃ l b xs zs,x=.ref l∧y=.ref b∧H l=some (.lst xs)∧H b=some (.lst zs)∧xs.length+zs.length≤sizeLine∧∀ p,H p=none→Q (.ref p) (upd H p (.lst (xs++zs)))
theorem op_cat:OpR X (binaryOp .Add) rCat:=by
  intro pins s σ H x y v u Q I rx ry h
  obtain ⟨l,b,xs,zs,rfl,rfl,hH,hB,hz,q⟩:=h
  cases rx
  cases ry
  obtain ⟨z,its,n,r,hl,e⟩:=I.lstM hH
  obtain ⟨z2,its2,n2,r2,hl2,e2⟩:=I.lstM hB
  refine PySem.P.add_list e e2 ?_ (by rw [List.size_toArray,List.size_toArray]; omega)
  have ea:its.toArray++its2.toArray=(its++its2).toArray:=by simp
  rw [ea]
  exact ⟨.ref _,_,I.lnew (t':=s.toks) (r.append r2) (by rw [List.length_append]; omega),rfl,q _ I.fresh⟩
noncomputable def rRep:R2:=fun x y H Q=>∃ l k xs,x=.ref l∧y=.int k∧H l=some (.lst xs)∧-(2 ^ 63)≤k∧k < 2 ^ 63∧xs.length * k.toNat≤sizeLine ∧
  ∀ p,H p=none→Q (.ref p) (upd H p (.lst (List.replicate k.toNat xs).flatten))
theorem len_rep {α:Type} (xs:List α) (k:Nat):(List.replicate k xs).flatten.length=k * xs.length:=by
  induction k with
  | zero=>simp
  | succ k ih=>rw [List.replicate_succ,List.flatten_cons,List.length_append,ih,Nat.succ_mul,Nat.add_comm]
theorem op_rep:OpR X (binaryOp .Mult) rRep:=by
  intro pins s σ H x y v u Q I rx ry h
  obtain ⟨l,k,xs,rfl,rfl,hH,h1,h2,hz,q⟩:=h
  cases rx
  obtain ⟨t,rfl⟩:=ry
  obtain ⟨z,its,n,r,hl,e⟩:=I.lstM hH
  have hlen:its.toArray.size * k.toNat≤sizeLine:=by rw [List.size_toArray,← hl]; exact hz
  have hcap:¬ its.toArray.size * k.toNat > (2 ^ 63 - 1) / 8:=by
    have:(sizeLine:Nat)≤(2 ^ 63 - 1) / 8:=by decide
    omega
  have hfit:¬ (!Builtin.List.listFitsIndex k)=true:=by
    rw [fitsIndex_both h1 h2]
    exact Bool.false_ne_true
  have hlong:¬ Builtin.List.listTooLong (its.toArray.size * k.toNat)=true:=by
    rw [notLongL hlen]
    exact Bool.false_ne_true
  have hnew:List.foldl (fun x1 x2=>x1++x2) #[] (List.replicate (if its.toArray.isEmpty=true then 0 else k.toNat) its.toArray)=(List.replicate k.toNat its).flatten.toArray:=by
    have f0:∀ m:Nat,List.foldl (fun x1 x2=>x1++x2) #[] (List.replicate m its.toArray)=(List.replicate m its).flatten.toArray:=fun m=>by
      have:=foldl_rep its m []
      rw [List.nil_append] at this
      exact this
    rw [f0]
    cases its with
    | nil=>simp
    | cons a r'=>rw [if_neg (by simp)]
  refine wpAny_binaryOp_repeat_ref (T:="list") (U:="int") (by decide) ⟨_,e,rfl⟩ (fun s'=>typeIs_int s' k t) noFill_list_mul F.fills_int_mul F.slot_int_rmul repeat_list F.slot_int_index.lookup
    (call_meets F.slot_int_rmul (typeIs_int s k t) F.entry_int_rmul (F.args_int_rmul_2 _ _) (int___rmul___int_list k t l its.toArray n)
      ⟨e,rfl,⟨_,e,rfl⟩,call_meets F.slot_list_mul ⟨_,e,rfl⟩ F.entry_list_mul (F.args_list_mul_2 _ _) (AutoListH.list___mul___list_int_3 l its.toArray n k t hfit hcap hlong) ⟨e,?_⟩⟩)
  rw [hnew]
  exact ⟨.ref _,_,I.lnew (t':=s.toks) (r.rep k.toNat) (by rw [len_rep,Nat.mul_comm]; exact hz),rfl,q _ I.fresh⟩

end
section
variable {prog:Program} {w:World} {A:Around} {E:Value→Shared→Prop} {s:Shared}
end
section
variable {X:Cx}
end
end L2
namespace L2
open PySem PySem.Spec PyProof.Rows
section
variable {κ:Type} [DecidableEq κ]
noncomputable def valV (kvs:List (κ×V)) (k:κ):Option V:=(kvs.find? fun kv=>decide (kv.1=k)).map (·.2)
noncomputable def putK (kvs:List (κ×V)) (k:κ) (v:V):List (κ×V) :=
  if (kvs.any fun kv=>decide (kv.1=k))=true then kvs.map (fun kv=>if kv.1=k then (kv.1,v) else kv) else kvs++[(k,v)]
theorem valV_pos {p:κ×V} {r:List (κ×V)} {k:κ} (e:p.1=k):valV (p::r) k=some p.2:=by simp [valV,List.find?_cons,e]
theorem valV_neg {p:κ×V} {r:List (κ×V)} {k:κ} (e:¬ p.1=k):valV (p::r) k=valV r k:=by simp [valV,List.find?_cons,e]
theorem valV_any (k:κ):∀ kvs:List (κ×V),(kvs.any fun kv=>decide (kv.1=k))=(valV kvs k).isSome
  | []=>rfl
  | p::r=>by
    rw [List.any_cons]
    by_cases e:p.1=k
    · simp only [valV_pos e,decide_eq_true e,Bool.true_or,Option.isSome_some]
    · rw [valV_neg e,decide_eq_false e,Bool.false_or]; exact valV_any k r
theorem length_putK (kvs:List (κ×V)) (k:κ) (v:V):(putK kvs k v).length≤kvs.length+1:=by
  unfold putK
  split
  · rw [List.length_map]; omega
  · rw [List.length_append,List.length_cons,List.length_nil]; omega
theorem RelO.isSome_eq {o:Option V} {u:Option Value} (r:RelO o u):o.isSome=u.isSome:=by
  cases o with
  | none=>cases u with
    | none=>rfl
    | some _=>exact (show False from r).elim
  | some _=>cases u with
    | none=>exact (show False from r).elim
    | some _=>rfl
theorem KV.val {kvs:List (κ×V)} {vs:List (κ×Value)} (r:KV kvs vs) (k:κ):RelO (valV kvs k) (valueAt vs k):=by
  unfold KV at r
  induction r with
  | nil=>exact True.intro
  | @cons p q ps qs h t ih =>
    obtain ⟨h1,h2⟩:=h
    by_cases e:p.1=k
    · have e':q.1=k:=h1.symm.trans e
      have b:valueAt (q::qs) k=some q.2:=by simp [valueAt,List.find?_cons,e']
      rw [valV_pos e,b]; exact h2
    · have e':¬ q.1=k:=fun z=>e (h1.trans z)
      have b:valueAt (q::qs) k=valueAt qs k:=by simp [valueAt,List.find?_cons,e']
      rw [valV_neg e,b]; exact ih
theorem KV.any {kvs:List (κ×V)} {vs:List (κ×Value)} (r:KV kvs vs) (k:κ):(kvs.any fun kv=>decide (kv.1=k))=vs.any fun kv=>decide (kv.1=k):=by
  unfold KV at r
  induction r with
  | nil=>rfl
  | cons h t ih=>rw [List.any_cons,List.any_cons,ih,h.1]
theorem KV.repl {kvs:List (κ×V)} {vs:List (κ×Value)} (r:KV kvs vs) (k:κ) {y:V} {u:Value} (ry:RelV y u) :
    KV (kvs.map fun kv=>if kv.1=k then (kv.1,y) else kv) (vs.map fun kv=>if kv.1=k then (kv.1,u) else kv):=by
  unfold KV at r ⊢
  induction r with
  | nil=>exact .nil
  | @cons p q ps qs h t ih =>
    rw [List.map_cons,List.map_cons]
    refine .cons ?_ ih
    obtain ⟨h1,h2⟩:=h
    by_cases e:p.1=k
    · rw [if_pos e,if_pos (h1.symm.trans e)]; exact ⟨h1,ry⟩
    · rw [if_neg e,if_neg (fun z=>e (h1.trans z))]; exact ⟨h1,h2⟩
theorem KV.put {kvs:List (κ×V)} {vs:List (κ×Value)} (r:KV kvs vs) (k:κ) {y:V} {u:Value} (ry:RelV y u):KV (putK kvs k y) (stored vs k u):=by
  unfold putK stored
  rw [r.any k]
  by_cases e:(vs.any fun kv=>decide (kv.1=k))=true
  · rw [if_pos e,if_pos e]; exact r.repl k ry
  · rw [if_neg e,if_neg e]; exact Paired.snoc r ⟨rfl,ry⟩
theorem KV.length {kvs:List (κ×V)} {vs:List (κ×Value)} (r:KV kvs vs):kvs.length=vs.length:=Paired.length r
end
theorem kV_is {P:Program} {w:World} {k:Key} {u:Value} (r:RelV (kV k) u):(mixKind P w).is k u=true:=by
  cases k with
  | inl i=>obtain ⟨t,e⟩:=(show ∃ t,u=Value.int i t from r); subst e; exact mixKind_int P w i t
  | inr x=>obtain ⟨t,e⟩:=(show ∃ t,u=Value.str x t from r); subst e; exact mixKind_str P w x t
theorem items_are {P:Program} {w:World}:∀ {ks:List Key} {us:List Value},Vals (ks.map kV) us→ItemsAre (mixKind P w) ks us
  | [],_,r=>by rw [List.map_nil] at r; cases r; exact .nil
  | k::ks,_,r=>by
    rw [List.map_cons] at r
    cases r with
    | cons h t=>exact .cons (kV_is h) (items_are t)

noncomputable abbrev KT (H:Hp):List (List Key×V)→List (List Key×Addr×Value)→Prop:=Paired fun p q=>p.1=q.1∧H q.2.1=some (.tup (p.1.map kV))∧RelV p.2 q.2.2
theorem KT.val {H:Hp} {kvs:List (List Key×V)} {xs:List (List Key×Addr×Value)} (r:KT H kvs xs) (k:List Key):RelO (valV kvs k) ((atKey xs k).map (·.2)):=by
  induction r with
  | nil=>exact True.intro
  | @cons p q ps qs h t ih =>
    obtain ⟨h1,_,h2⟩:=h
    by_cases e:p.1=k
    · have e':q.1=k:=h1.symm.trans e
      have b:atKey (q::qs) k=some q.2:=by simp [atKey,List.find?_cons,e']
      rw [valV_pos e,b]; exact h2
    · have e':¬ q.1=k:=fun z=>e (h1.trans z)
      have b:atKey (q::qs) k=atKey qs k:=by simp [atKey,List.find?_cons,e']
      rw [valV_neg e,b]; exact ih
theorem KT.repl {H:Hp} {kvs:List (List Key×V)} {xs:List (List Key×Addr×Value)} (r:KT H kvs xs) (k:List Key) {y:V} {u:Value} (ry:RelV y u) :
    KT H (kvs.map fun kv=>if kv.1=k then (kv.1,y) else kv) (xs.map (putAt k u)):=by
  induction r with
  | nil=>exact .nil
  | @cons p q ps qs h t ih =>
    rw [List.map_cons,List.map_cons]
    refine .cons ?_ ih
    obtain ⟨h1,h2,h3⟩:=h
    unfold putAt
    by_cases e:p.1=k
    · rw [if_pos e,if_pos (h1.symm.trans e)]; exact ⟨h1,h2,ry⟩
    · rw [if_neg e,if_neg (fun z=>e (h1.trans z))]; exact ⟨h1,h2,h3⟩
theorem KT.put {H:Hp} {kvs:List (List Key×V)} {xs:List (List Key×Addr×Value)} (r:KT H kvs xs) (k:List Key) {b:Addr} {y:V} {u:Value} (hb:H b=some (.tup (k.map kV))) (ry:RelV y u) :
    KT H (putK kvs k y) (storedH xs k b u):=by
  have e:(kvs.any fun kv=>decide (kv.1=k))=(atKey xs k).isSome:=by
    rw [valV_any,(r.val k).isSome_eq,Option.isSome_map]
  unfold putK storedH
  rw [e]
  by_cases q:(atKey xs k).isSome=true
  · rw [if_pos q,if_pos q]; exact r.repl k ry
  · rw [if_neg q,if_neg q]; exact Paired.snoc r ⟨rfl,hb,ry⟩
theorem KT.keeps {H H':Hp} {kvs:List (List Key×V)} {xs:List (List Key×Addr×Value)} (r:KT H kvs xs) (ht:∀ b ys,H b=some (.tup ys)→H' b=some (.tup ys)):KT H' kvs xs :=
  Paired.mapP r fun _ _ z=>⟨z.1,ht _ _ z.2.1,z.2.2⟩

section
variable {P:Program} {w:World} {H:Hp} {h:Heap} {a:Addr}
theorem rd_of {u:HO} (ok:HOk P w H h) (e:Rd H a u):ObjOk P w H h a u:=e.ok ok
theorem dk_rd {kvs:List (Key×V)} (ok:HOk P w H h) (e:Rd H a (.dK kvs)):kvs.length≤sizeLine∧(a == sysModules)=false∧∃ vs,KV kvs vs∧h.DictOf (mixKind P w) a vs :=
  show ObjOk P w H h a (.dK kvs) from rd_of ok e
theorem dk_of {kvs:List (Key×V)} (ok:HOk P w H h) (e:H a=some (.dK kvs)):kvs.length≤sizeLine∧(a == sysModules)=false∧∃ vs,KV kvs vs∧h.DictOf (mixKind P w) a vs:=dk_rd ok (.inl e)
theorem key_of {ks:List Key} (ok:HOk P w H h) (e:H a=some (.tup (ks.map kV))):(tupleKind (mixKind P w)).is h ks a:=by
  obtain ⟨_,its,r,o,h1,h2,n,h3⟩:=(show ObjOk P w H h a (.tup (ks.map kV)) from ok a _ e)
  exact ⟨o,its.toArray,n,h1,h2,h3,by simpa using items_are r⟩
theorem dt_rd {kvs:List (List Key×V)} (ok:HOk P w H h) (e:Rd H a (.dT kvs)):kvs.length≤sizeLine∧(a == sysModules)=false ∧
    ∃ xs,KT H kvs xs∧h.DictOfH (tupleKind (mixKind P w)) a xs:=by
  obtain ⟨z,y,xs,r,o,es,ep,h1,h2,h3,h4,h5⟩:=(show ObjOk P w H h a (.dT kvs) from rd_of ok e)
  refine ⟨z,y,xs,r,o,es,ep,h1,h2,h3,h4,fun x hx=>?_,h5⟩
  have all:∀ {l:List (List Key×V)} {m:List (List Key×Addr×Value)},KT H l m→∀ x∈m,(tupleKind (mixKind P w)).is h x.1 x.2.1:=by
    intro l m q
    induction q with
    | nil=>intro x hx; exact nomatch hx
    | @cons p q ps qs hq t ih =>
      intro x hx
      rcases List.mem_cons.mp hx with e | hx
      · subst e
        exact key_of ok (by rw [← hq.1]; exact hq.2.1)
      · exact ih x hx
  exact all r x hx
theorem dt_of {kvs:List (List Key×V)} (ok:HOk P w H h) (e:H a=some (.dT kvs)):kvs.length≤sizeLine∧(a == sysModules)=false ∧
    ∃ xs,KT H kvs xs∧h.DictOfH (tupleKind (mixKind P w)) a xs:=dt_rd ok (.inl e)
end
noncomputable def DGet (H:Hp) (a:Addr) (y:V) (r:Option V):Prop :=
  (∃ kvs k,Rd H a (.dK kvs)∧y=kV k∧r=valV kvs k)∨∃ kvs k b,Rd H a (.dT kvs)∧y=.ref b∧H b=some (.tup (k.map kV))∧r=valV kvs k
noncomputable def DPut (H:Hp) (a:Addr) (y v:V) (H':Hp):Prop :=
  (∃ kvs k,H a=some (.dK kvs)∧y=kV k∧kvs.length < sizeLine∧H'=upd H a (.dK (putK kvs k v))) ∨
  ∃ kvs k b,H a=some (.dT kvs)∧y=.ref b∧H b=some (.tup (k.map kV))∧kvs.length < sizeLine∧H'=upd H a (.dT (putK kvs k v))
theorem DGet.k {H:Hp} {a:Addr} {kvs:List (Key×V)} {k:Key} (e:H a=some (.dK kvs)):DGet H a (kV k) (valV kvs k):=.inl ⟨kvs,k,.inl e,rfl,rfl⟩
theorem DPut.k {H:Hp} {a:Addr} {kvs:List (Key×V)} {k:Key} {v:V} (e:H a=some (.dK kvs)) (hl:kvs.length < sizeLine):DPut H a (kV k) v (upd H a (.dK (putK kvs k v))):=.inl ⟨kvs,k,e,rfl,hl,rfl⟩
section
variable {X:Cx} {pins:List (Addr×Obj)} {σ:St} {H:Hp} {s:Shared} {a:Addr} {y v:V} {u r:Value} {o:Option V} {A:Around} {E:Value→Shared→Prop}
theorem Inv.big (I:Inv X pins σ H s):sysModules < s.heap.objs.size:=by
  have h:mainGlobals < s.heap.objs.size:=(I.mod.glob.keeps I.bk).lt
  exact Nat.lt_trans (by decide) h

theorem d_getItem {Q:Value→Shared→Prop} (hu:A.units+1 < cLine) (I:Inv X pins σ H s) (g:DGet H a y (some v)) (ry:RelV y u) (h:∀ w' s',Inv X pins σ H s'→RelV v w'→Q w' s') :
    wpAny (model X.prog X.w) A (getItem (.ref a) u) Q E s:=by
  rcases g with ⟨kvs,k,e,ey,l⟩ | ⟨kvs,k,b,e,ey,eb,l⟩
  · subst ey
    obtain ⟨z,hd,vs,rel,dd⟩:=dk_rd I.hok e
    obtain ⟨w',hw,rw'⟩:=RelO.some_of (v:=v) (o:=valueAt vs k) (by rw [l]; exact rel.val k)
    exact wpAny_getItem_of (kV_is ry) dd.mapOf hw (h w' _ (I.tok _) rw')
  · subst ey
    cases (show u=Value.ref b from ry)
    obtain ⟨z,hd,xs,rel,dd⟩:=dt_rd I.hok e
    obtain ⟨w',hw,rw'⟩:=RelO.some_of (v:=v) (o:=(atKey xs k).map (·.2)) (by rw [l]; exact rel.val k)
    obtain ⟨p,hp,hp2⟩:=Option.map_eq_some_iff.mp hw
    refine wpAny_getItem_heap (tupleKind_room_in1 hu) (key_of I.hok eb) dd hp ?_
    rw [hp2]
    exact h w' _ (I.tok _) rw'
theorem d_write {h':Heap} {t':Nat} {ob:HO} (I:Inv X pins σ H s) (mu:Mut (H a)) (hs:Heap.SameBut a s.heap h') (he:∃ q,h'.get? a=some q) (new:ObjOk X.prog X.w (upd H a ob) h' a ob) :
    Inv X pins σ (upd H a ob) { s with heap:=h',toks:=t' } :=
  I.write (x:=a) (e:=a) mu (.inl rfl) (fun b q hb z=>(hs.2 b hb).trans z) he new
theorem dk_new {P:Program} {w:World} {H':Hp} {h':Heap} {kvs:List (Key×V)} {vs:List (Key×Value)} (z:kvs.length≤sizeLine) (hd:(a == sysModules)=false) (rel:KV kvs vs) (dd:h'.DictOf (mixKind P w) a vs) :
    ObjOk P w H' h' a (.dK kvs):=⟨z,hd,vs,rel,dd⟩
theorem d_setItem {H':Hp} {Q:Unit→Shared→Prop} (hu:A.units+1 < cLine) (I:Inv X pins σ H s) (g:DPut H a y v H') (ry:RelV y u) (rv:RelV v r) (h:∀ s',Inv X pins σ H' s'→Q () s') :
    wpAny (model X.prog X.w) A (setItem (.ref a) u r) Q E s:=by
  rcases g with ⟨kvs,k,e,ey,l,eH⟩ | ⟨kvs,k,b,e,ey,eb,l,eH⟩
  · subst ey eH
    obtain ⟨z,hd,vs,rel,dd⟩:=dk_of I.hok e
    have hz:vs.length≤sizeLine:=by rw [← rel.length]; exact z
    have hl:(putK kvs k v).length≤sizeLine:=by have:=length_putK kvs k v; omega
    refine wpAny_setItem_pairs (hsz:=hz) (kV_is ry) dd fun h' dd' hs=>h _ ?_
    have he:∃ q,h'.get? a=some q:=let ⟨q,_,_,hq,_⟩:=dd'; ⟨q,hq⟩
    exact d_write I (by rw [e]; exact True.intro) hs he (dk_new hl hd (rel.put k rv) dd')
  · subst ey eH
    cases (show u=Value.ref b from ry)
    obtain ⟨z,hd,xs,rel,dd⟩:=dt_of I.hok e
    have hz:xs.length≤sizeLine:=by rw [← Paired.length rel]; exact z
    have hl:(putK kvs k v).length≤sizeLine:=by have:=length_putK kvs k v; omega
    refine wpAny_setItem_heap (hsz:=hz) (tupleKind_room_in1 hu) (key_of I.hok eb) dd fun h' dd' hs=>h _ ?_
    obtain ⟨q,es,ep,hq,h2,h3,h4,_,h5⟩:=dd'
    refine d_write I (by rw [e]; exact True.intro) hs ⟨q,hq⟩ ⟨hl,hd,_,(rel.put k eb rv).keeps fun c ys ec=>?_,q,es,ep,hq,h2,h3,h4,h5⟩
    rw [upd_ne (ne_of ec e (fun z=>nomatch z))]
    exact ec
end
section
variable {X:Cx} {pins:List (Addr×Obj)} {σ:St} {H:Hp} {s:Shared} {a:Addr} {kvs:List (Key×V)} {k:Key} {u:Value} {A:Around} {E:Value→Shared→Prop}
end
noncomputable def NoSl (i:Expr):Prop:=∀ ov iv,subscripted i false ov iv=operate [ov,iv] (getItem ov iv)
theorem subD_of {prog:Program} {w:World} {A:Around} {E:Value→Shared→Prop} {s:Shared} {env:Env} {value slice:Expr} {pos:Pos} {T id:String} {Q:Value→Shared→Prop}
    (hl:typeLookup (.type T) "__getitem__"=pure (some (.builtin id))) (hs:NoSl slice)
    (h:wpAny (model prog w) A (eval value env) (fun o s₁=>wpAny (model prog w) A (eval slice env) (fun i s₂=>s₂.TypeIs o T∧wpAny (model prog w) A (getItem o i) Q E s₂) E s₁) E s) :
    wpAny (model prog w) A (eval (.Subscript value slice pos) env) Q E s:=by
  refine Subscript_ (wpAny_mono h (fun o s₁ h₁=>wpAny_mono h₁ (fun i s₂ h₂=>?_) fun _ _ x=>x) fun _ _ x=>x)
  obtain ⟨hT,h₂⟩:=h₂
  unfold subscriptTail
  refine wpAny_bind ?_
  rw [getitemInPython_of_ne hT.not_modules]
  refine wpAny_bind (wpAny_specialOf hT hl ?_)
  have fin:wpAny (model prog w) A (subscripted slice false o i) (fun r s₃=>wpAny (model prog w) A (letTemporaryGo value o r >>= fun _=>pure r) Q E s₃) E s₂:=by
    rw [hs o i]
    exact wpAny_operating (wpAny_mono h₂ (fun r s₃ h₃=>wpAny_bind (wpAny_letTemporaryGo (wpAny_pure h₃))) fun _ _ x=>x)
  first
    | exact wpAny_pure (wpAny_bind fin)
    | exact wpAny_bind (wpAny_pure (wpAny_bind fin))
    | exact wpAny_bind fin

theorem dict_typeIs {X:Cx} {pins:List (Addr×Obj)} {σ:St} {H:Hp} {s:Shared} {a:Addr} {y:V} {o:Option V} (I:Inv X pins σ H s) (g:DGet H a y o):s.TypeIs (.ref a) "dict":=by
  rcases g with ⟨kvs,k,e,_,_⟩ | ⟨kvs,k,b,e,_,_,_⟩
  · obtain ⟨_,_,vs,_,dd⟩:=dk_rd I.hok e
    exact dd.typeIs
  · obtain ⟨_,_,xs,_,dd⟩:=dt_rd I.hok e
    exact dd.typeIs
noncomputable def tDGet (td ty:TE):TE:=fun σ H Q=>td σ H fun x H1=>ty σ H1 fun y H2=>∃ a v,x=.ref a∧DGet H2 a y (some v)∧Q v H2
noncomputable def sDPut (td ty tv:TE):TS:=fun D σ H=>tv σ H fun v H1=>td σ H1 fun x H2=>ty σ H2 fun y H3=>∃ a H4,x=.ref a∧DPut H3 a y v H4∧D.nx σ H4
section
variable {X:Cx} {o i e value:Expr} {pos pos' tpos:Pos} {td ty tv:TE}
theorem pe_dget (hu:X.A.units+1 < cLine) (ho:PE X o td) (hi:PE X i ty) (hs:NoSl i):PE X (.Subscript o i pos) (tDGet td ty):=by
  intro pins s σ H Q I h
  refine subD_of PySem.F.slot_dict_getitem.lookup hs (thn (ho pins s σ H _ I h) fun u s1 ⟨x,H1,I1,rx,q1⟩=>thn (hi pins s1 σ H1 _ I1 q1) fun iv s2 hz0=>?_)
  obtain ⟨y,H2,I2,ry,a,v,ex,g,q2⟩:=hz0
  subst ex
  obtain rfl:u=Value.ref a:=rx
  exact ⟨dict_typeIs I2 g,d_getItem hu I2 g ry fun w' s3 I3 rw'=>⟨v,H2,I3,rw',q2⟩⟩
theorem ps_dput (hu:X.A.units+1 < cLine) (ho:PE X o td) (hi:PE X i ty) (hv:PE X value tv) (hs:swapsWith value (some (.Subscript o i pos')) pos.line X.env=pure false) :
    PS X (.Assign [.Subscript o i pos'] value pos) (sDPut td ty tv):=by
  intro pins s σ H D I h
  refine wpAny_Assign_Subscript (thn (hv pins s σ H _ I h) fun r s1 ⟨v,H1,I1,rv,q1⟩=>thn (ho pins s1 σ H1 _ I1 q1) fun u s2 ⟨x,H2,I2,rx,q2⟩=>thn (hi pins s2 σ H2 _ I2 q2) fun iv s3 hz0=>?_) hs
  obtain ⟨y,H3,I3,ry,a,H4,ex,g,q3⟩:=hz0
  subst ex
  obtain rfl:u=Value.ref a:=rx
  exact d_setItem hu I3 g ry rv fun s4 I4=>⟨σ,H4,I4,q3⟩
end
theorem dk_empty {P:Program} {w:World} {H:Hp} (h:Heap) (hb:sysModules < h.objs.size):ObjOk P w H (h.push { cls:=.type "dict",data:=.dict #[] }) h.objs.size (.dK []) :=
  ⟨Nat.zero_le _,beq_eq_false_iff_ne.mpr (Ne.symm (Nat.ne_of_lt hb)),[],.nil,Heap.DictOf.new h⟩
section
variable {X:Cx} {pos:Pos}
end
noncomputable def tPairs:List (TE×TE)→St→Hp→(List (V×V)→Hp→Prop)→Prop
  | [],_,H,Q=>Q [] H
  | (tk,tv)::r,σ,H,Q=>tk σ H fun x H1=>tv σ H1 fun y H2=>tPairs r σ H2 fun ps H3=>Q ((x,y)::ps) H3
noncomputable abbrev VV:List (V×V)→List (Value×Value)→Prop:=Paired fun p q=>RelV p.1 q.1∧RelV p.2 q.2
noncomputable def PPs (X:Cx) (pos:Pos) (keys:List (Option Expr)) (values:List Expr) (trs:List (TE×TE)):Prop :=
  ∀ (pins:List (Addr×Obj)) (s:Shared) (σ:St) (H:Hp) (Q:List (V×V)→Hp→Prop),Inv X pins σ H s→tPairs trs σ H Q →
    wpAny (model X.prog X.w) X.A (evalPairs (pairTrees keys values X.env pos)) (fun vs s'=>∃ ps H',Inv X pins σ H' s'∧VV ps vs∧Q ps H') X.xe s
theorem pps_nil {X:Cx} {pos:Pos}:PPs X pos [] [] []:=fun pins s σ H Q I h=>pairTrees_nil_walk ⟨[],H,I,.nil,h⟩
theorem pps_cons {X:Cx} {pos:Pos} {k v:Expr} {ks:List (Option Expr)} {vs:List Expr} {tk tv:TE} {trs:List (TE×TE)} (hk:PE X k tk) (hv:PE X v tv) (hr:PPs X pos ks vs trs) :
    PPs X pos (some k::ks) (v::vs) ((tk,tv)::trs):=fun pins s σ H Q I h =>
  pairTrees_cons_walk (thn (hk pins s σ H _ I h) fun u s1 ⟨x,H1,I1,rx,q1⟩=>thn (hv pins s1 σ H1 _ I1 q1) fun w2 s2 ⟨y,H2,I2,ry,q2⟩ =>
    thn (hr pins s2 σ H2 _ I2 q2) fun ws s3 ⟨ps,H3,I3,rel,q3⟩=>⟨(x,y)::ps,H3,I3,.cons ⟨rx,ry⟩ rel,q3⟩)

noncomputable def mergeK (kvs more:List (Key×V)):List (Key×V):=more.foldl (fun acc kv=>putK acc kv.1 kv.2) kvs
theorem KV.merge:∀ {more:List (Key×V)} {rs:List (Key×Value)} {kvs:List (Key×V)} {vs:List (Key×Value)},KV more rs→KV kvs vs→KV (mergeK kvs more) (merged vs rs):=by
  intro more rs kvs vs r
  unfold KV at r
  induction r generalizing kvs vs with
  | nil=>intro q; exact q
  | @cons p q ps qs h t ih =>
    intro r0
    have e:KV (putK kvs p.1 p.2) (stored vs q.1 q.2):=by
      have:=r0.put p.1 h.2
      rw [← h.1]; exact this
    exact ih e
theorem length_mergeK:∀ (more kvs:List (Key×V)),(mergeK kvs more).length≤kvs.length+more.length
  | [],kvs=>by show kvs.length≤kvs.length+0; omega
  | p::r,kvs=>by
    have h1:=length_mergeK r (putK kvs p.1 p.2)
    have h2:=length_putK kvs p.1 p.2
    show (mergeK (putK kvs p.1 p.2) r).length≤_
    rw [List.length_cons]; omega
theorem carries_of {P:Program} {w:World}:∀ {kvs:List (Key×V)} {ws:List (Value×Value)},VV (kvs.map fun kv=>(kV kv.1,kv.2)) ws→∃ rs,Carries (mixKind P w) ws rs∧KV kvs rs
  | [],_,r=>by rw [List.map_nil] at r; cases r; exact ⟨[],True.intro,.nil⟩
  | p::kvs,_,r=>by
    rw [List.map_cons] at r
    cases r with
    | @cons a b as bs h t =>
      obtain ⟨rs,c,q⟩:=carries_of (P:=P) (w:=w) t
      obtain ⟨b1,b2⟩:=b
      exact ⟨(p.1,b2)::rs,⟨kV_is h.1,rfl,c⟩,.cons ⟨rfl,h.2⟩ q⟩
noncomputable def tDisp (trs:List (TE×TE)):TE:=fun σ H Q=>∀ p,H p=none→tPairs trs σ (upd H p (.dK [])) fun ps H2=>H2 p=some (.dK [])∧∃ kvs:List (Key×V),ps=kvs.map (fun kv=>(kV kv.1,kv.2))∧kvs.length≤15∧Q (.ref p) (upd H2 p (.dK (mergeK [] kvs)))
theorem pe_disp {X:Cx} {pos:Pos} {keys:List (Option Expr)} {values:List Expr} {trs:List (TE×TE)} (h:PPs X pos keys values trs) (hall:keys.all (·.isSome)=true) (hl:keys.length=values.length) (h0:keys≠[])
    (h15:keys.length≤15):PE X (.Dict keys values pos) (tDisp trs):=by
  intro pins s σ H Q I q
  have hn:=I.hok.fresh (Nat.le_refl s.heap.objs.size)
  have I1:=I.laid (a:=s.heap.objs.size) (o:=.dK []) (h':=s.heap.push { cls:=.type "dict",data:=.dict #[] }) (t':=s.toks) (fun _ _ q=>Heap.get?_push_of_some _ q) (Nat.le_refl _) (dk_empty s.heap I.big)
  refine wpAny_Dict_walk (knd:=mixKind X.prog X.w) hall hl h0 h15 (thn (h pins _ σ _ _ I1 (q _ hn)) fun ws s2 hz0=>?_)
  obtain ⟨ps,H2,I2,rel,e,kvs,ep,lk,q2⟩:=hz0
  subst ep
  obtain ⟨rs,c,rk⟩:=carries_of (P:=X.prog) (w:=X.w) rel
  obtain ⟨z,hd,vs0,r0,dd⟩:=dk_of I2.hok e
  cases r0
  refine ⟨rs,c,dd,fun h' dd' hs=>⟨.ref s.heap.objs.size,_,?_,rfl,q2⟩⟩
  have hz:(mergeK [] kvs).length≤sizeLine:=by
    have h1:=length_mergeK kvs []
    rw [List.length_nil] at h1
    rw [sizeLine_eq]; omega
  have he:∃ q,h'.get? s.heap.objs.size=some q:=let ⟨q,_,_,hq,_⟩:=dd'; ⟨q,hq⟩
  exact d_write I2 (by rw [e]; exact True.intro) hs he (dk_new hz hd (rk.merge .nil) dd')

section
variable {X:Cx} {pins:List (Addr×Obj)} {σ:St} {H:Hp} {s:Shared} {a:Addr} {y d:V} {u r:Value} {o:Option V} {A:Around} {E:Value→Shared→Prop}
end
section
variable {X:Cx} {o e f:Expr} {apos cpos:Pos} {td ty tx:TE}
end
section
variable {X:Cx} {pins:List (Addr×Obj)} {σ:St} {H:Hp} {s:Shared} {a:Addr} {kvs:List (Key×V)} {A:Around} {E:Value→Shared→Prop}
end
section
variable {X:Cx} {pins:List (Addr×Obj)} {σ:St} {H:Hp} {s:Shared} {a:Addr} {y:V} {u:Value} {A:Around} {E:Value→Shared→Prop}
end
end L2
namespace Att
open PySem PySem.W PySem.Calls PyProof.Rows
theorem ints_of_wellAll {P:Params} {h:Heap}:∀ (ns:List Int) (vs:List Value),WellAll P h vs (ns.map WData.int)→IntsAre vs ns:=by
  intro ns
  induction ns with
  | nil =>
    intro vs w
    rw [List.map_nil] at w
    cases w
    exact .nil
  | cons n ns ih =>
    intro vs w
    rw [List.map_cons] at w
    cases w with
    | cons a b =>
      cases a
      exact .cons _ _ (ih _ b)

theorem script_of {l:OpenLaw} {n:Nat} (hn:l.most=some n) {P:Params} {h:Heap} {args:List WData} {vals:List Value}
    (hpre:l.row.toRowW.claim.pre args=true) (hwl:WellAll P h vals args) :
    ∃ a vs ns,vals=[Value.ref a]∧args=[WData.list (ns.map WData.int)]∧h.get? a=some { cls:=.type "list",data:=.seq vs.toArray }∧IntsAre vs ns∧ns.length≤n:=by
  have hsh:WShape.hasAll [] args [.list .int]=true:=(pre_splitW hpre).1
  have hc:l.pre.holds [] { args:=args }=true:=(pre_splitW hpre).2
  obtain ⟨d,r,rfl,h1,h2⟩:=hasAllW_cons hsh
  obtain rfl:=hasAllW_nil h2
  obtain ⟨xs,rfl,h3⟩:=hasW_list h1
  obtain ⟨ns,rfl⟩:=items_int h3
  have hlen:ns.length≤n:=by
    unfold OpenLaw.pre at hc
    have h4:(WTm.not (.lt (.lit (.int (n:Int))) (.len (.arg 0)))).holds [] { args:=[.list (ns.map .int)] }=true:=by
      have h4:=(holds_andW hc).1
      rw [hn] at h4
      exact h4
    have h5:=condW_of h4 (w_not (w_lt w_lit (w_len_list (w_arg rfl))))
    rw [List.length_map] at h5
    refine Nat.le_of_not_lt fun q=>?_
    have q':(n:Int) < ((ns.length:Nat):Int):=by omega
    first
      | (rw [decide_eq_true q'] at h5; exact absurd h5 (by decide))
      | (simp at h5; omega)
  cases hwl with
  | cons w1 w2 =>
    cases w2
    cases w1 with
    | list ho hall=>exact ⟨_,_,ns,rfl,rfl,ho,ints_of_wellAll ns _ hall,hlen⟩

theorem post_true (l:OpenLaw) (args:List WData):l.row.toRowW.claim.post args (.bool true) args=true :=
  postW_of (r:=l.row.toRowW) (X:=(true == true))
    (show WShape.has [] (.bool true) .bool=true by first | rfl | decide | simp [WShape.has,WShape.arms,WShape.armsAll])
    (show (WTm.eq .res (.lit (.bool true))).value [] { args:=args,res:=some (.bool true),after:=args }=some (.bool (true == true)) from w_eq_bool (w_res rfl) w_lit) rfl

theorem attach_call {l:OpenLaw} {n:Nat} {q:Program} {loose:List Str} {XP:(Str→Option Value)→Heap→Prop} {YP:World→Heap→Prop} {d:DefRec}
    (hn:l.most=some n) (hdf:d.params.defaults=[])
    (call:∀ (w:World) (s₀ s₁:Shared) (mg mb:Str→Option Value) (fa:Addr) (o:Obj) (pm cd doc:Value) (a:Addr) (vs:List Value) (ns:List Int),
      Ground q loose [] XP w s₀ mg mb s₁.heap→YP w s₁.heap →
      s₁.heap.get? fa=some o→o.data=.func (docDef d.name d.params d.body d.scope pm cd doc)→s₁.heap.CodeRec cd d.name→mg d.name=some (.ref fa) →
      s₁.heap.get? a=some { cls:=.type "list",data:=.seq vs.toArray }→IntsAre vs ns→ns.length≤n→s₁.gens=#[] →
      codeAny (model l.prog w) callerA (.call (.ref fa) ⟨[.ref a],[]⟩) (fun r s'=>r=.ok (.ret (.bool true))∧OldK s₁.heap s'.heap∧s'.os=s₁.os∧AllBare s'.gens) s₁) :
    WalkO q loose XP YP l.row.toRowW d [] (fun f vs=>PySem.call f vs):=by
  intro w s₀ s₁ mg mb G Y fa o pm cd doc dV kV ho hd hcd hD hmg hg args vals as hpre hlay hrd hwl hlo
  obtain rfl:dV=.none:=Dflts.none hD hdf
  obtain rfl:kV=.none:=Dflts.noKw hD
  obtain ⟨a,vs,ns,rfl,rfl,hobj,hints,hlen⟩:=script_of hn hpre hwl
  refine enter_call (codeAny_mono (call w s₀ s₁ mg mb fa o pm cd doc a vs ns G Y ho (fd_plain hd) hcd hmg hobj hints hlen hg) fun r s' hq=>?_)
  obtain ⟨rfl,h2,h3,h4⟩:=hq
  exact ⟨.inl ⟨.bool true,.bool true,[],rfl,fun _=>rfl,.bool true,post_true l _,fun _=>⟨List.Pairwise.nil,fun _ hm=>(nomatch hm)⟩⟩,h2,h3,h4⟩

section
variable {prog:Program} {w:World} {A:Around} {E:Value→Shared→Prop} {s:Shared} {K:Frag}
end
end Att
namespace L2
open PySem PySem.Spec PyProof.Rows
theorem vals_ints {vs:List Value} {ns:List Int} (h:IntsAre vs ns):Vals (ns.map V.int) vs:=by
  induction h with
  | nil=>exact .nil
  | cons n t h ih=>exact .cons ⟨t,rfl⟩ ih

noncomputable def Only (H:Hp):Prop:=∀ b,H b=none∨∃ o xs,H b=some (.frz o (.lst xs))

theorem law_call {P:Program} {w:World} {K:PySem.W.Frag} {mg mb:Str→Option Value} {CX:CXT} {k:Nat} {fa a:Addr} {fd:FuncData} {x:Str} {sp:Sp} {s₁:Shared} {vs:List Value} {ns:List Int}
    (KX:K.In s₁.heap) (hns:s₁.heap.Ns mainGlobals mg) (hb:s₁.heap.Ns builtinsNs mb) (hbb:∀ x:Str,x≠"__name__"→mb x=bootBuiltins x) (hlim:s₁.heap.NoLimit) (hdig:s₁.heap.NoDigits) (hg:s₁.gens=#[])
    (ha:s₁.heap.get? a=some { cls:=.type "list",data:=.seq vs.toArray }) (hi:IntsAre vs ns) (hl:ns.length≤sizeLine) (hr:Room k callerA)
    (F:∀ base:Heap,K.In base→base.Ns mainGlobals mg→FnOk P w K mg base CX k fa fd [x] sp) (hbind:∀ (s:Shared) (u:Value),BindsTo s fd ⟨[u],[]⟩ [(x,u)])
    (hsp:∀ H:Hp,Only H→SqL K H a (ns.map V.int)→sp [.ref a] H (fun v _=>v=.bl true) fun _ _ _=>False)
    (hCX:∀ H e s',CX [] H s₁ (fun _ _ _=>False) e s'→False) :
    codeAny (model P w) callerA (.call (.ref fa) ⟨[.ref a],[]⟩) (fun r s'=>r=.ok (.ret (.bool true))∧OldK s₁.heap s'.heap∧s'.os=s₁.os∧AllBare s'.gens) s₁:=by
  have rv:=vals_ints hi
  have lenV:=hi.length
  -- from an abstract heap in which nothing but the script may be tracked
  have core:∀ H:Hp,Only H→SqL K H a (ns.map V.int)→HOk P w H s₁.heap→(∀ b,H b≠none→b=a)→(H a≠none→K.lookup a=none) →
      codeAny (model P w) callerA (.call (.ref fa) ⟨[.ref a],[]⟩) (fun r s'=>r=.ok (.ret (.bool true))∧OldK s₁.heap s'.heap∧s'.os=s₁.os∧AllBare s'.gens) s₁:=by
    intro H hO hS hok hA hK
    have base_of:∀ {b:Addr} {o:Obj},s₁.heap.get? b=some o→H b=none→(hidT s₁.heap H).get? b=some o:=fun e n=>hidT_get e n
    have noA:∀ {b:Addr} {o:Obj} {es:Array DictEntry} {ep:Nat},s₁.heap.get? b=some o→o.data=.dict es ep→H b=none:=fun {b o es ep} e d=>by
      cases q:H b with
      | none=>rfl
      | some u =>
        have e':b=a:=hA b (by rw [q]; simp)
        subst e'
        rw [ha] at e; cases e
        have d':Data.seq vs.toArray _=Data.dict es ep:=d
        cases d'
    have nsK:∀ {b:Addr} {m:Str→Option Value},s₁.heap.Ns b m→(hidT s₁.heap H).Ns b m:=fun {b m} hz0=>by
      obtain ⟨o,es,ep,e,d,r⟩:=hz0
      exact ⟨o,es,ep,base_of e (noA e d),d,r⟩
    have hKb:K.In (hidT s₁.heap H):=fun b o e=>base_of (KX b o e) (by
      cases q:H b with
      | none=>rfl
      | some u =>
        have e':b=a:=hA b (by rw [q]; simp)
        subst e'
        rw [hK (by rw [q]; simp)] at e; cases e)
    have hM:Mod K mg (hidT s₁.heap H):=⟨hKb,nsK hns,⟨mb,nsK hb,hbb⟩,let ⟨mc,h1,h2⟩:=hlim; ⟨mc,nsK h1,h2⟩,let ⟨mc,h1,h2⟩:=hdig; ⟨mc,nsK h1,h2⟩⟩
    have e0:Env0 P w K mg (hidT s₁.heap H) callerA [] s₁ H:=⟨rfl,hM,fun b o e=>of_hidT e,Nat.le_of_eq (hidT_size _ _),trivial,fun b hb=>absurd (show b∈([]:List Addr) from hb) (by simp),hok,.of_eq hg⟩
    refine codeAny_mono ((F _ hKb (nsK hns)).run callerA [] s₁ H ⟨[.ref a],[]⟩ [.ref a] [.ref a] _ _ hr e0 (hbind s₁ (.ref a)) (.cons rfl .nil) (hsp H hO hS)) fun r s' h=>?_
    cases r with
    | error e=>exact (hCX H e s' h).elim
    | ok fl =>
      cases fl with
      | next=>exact False.elim h
      | brk=>exact False.elim h
      | cont=>exact False.elim h
      | ret u =>
        obtain ⟨v,H',os,bare,un,hok',r',q⟩:=h
        have q':v=.bl true:=q
        subst q'
        obtain rfl:u=Value.bool true:=r'
        refine ⟨rfl,OldK.of_keep fun b o e=>?_,os,bare⟩
        cases q:H b with
        | none=>exact un.keep b o e q (by intro z; exact absurd (show b∈([]:List Addr) from z) (by simp)) (by simp)
        | some u =>
          rcases hO b with z | ⟨ob,xs,z⟩
          · rw [q] at z; cases z
          · have z2:=un.frzs b ob _ z
            obtain ⟨e1,_⟩:=hok b _ z
            obtain ⟨e2,_⟩:=hok' b _ z2
            rw [e] at e1; cases e1
            exact e2
  cases hk:K.lookup a with
  | some o =>
    -- the script is one of the module's own objects
    have e:=KX a o hk
    rw [ha] at e
    cases e
    refine core (fun _=>none) (fun _=>.inl rfl) (.inr ⟨_,vs.toArray,_,hk,rfl,rfl,rfl,by rw [List.size_toArray,lenV]; exact hl,by simpa using rv⟩) (fun b u z=>by have z':(none:Option HO)=some u:=z; cases z') (fun b z=>absurd rfl z) fun z=>absurd rfl z
  | none =>
    refine core (fun b=>if b=a then some (.frz { cls:=.type "list",data:=.seq vs.toArray } (.lst (ns.map V.int))) else none) (fun b=>?_) (.inl (.inr ⟨{ cls:=.type "list",data:=.seq vs.toArray },if_pos rfl⟩)) (fun b u z=>?_) (fun b z=>?_) fun _=>hk
    · by_cases hb:b=a
      · exact .inr ⟨_,_,if_pos hb⟩
      · exact .inl (if_neg hb)
    · by_cases hb:b=a
      · have z':=(if_pos hb).symm.trans z
        cases z'
        subst hb
        exact ⟨ha,by rw [List.length_map]; exact hl,vs,_,rv,ha⟩
      · have z':=(if_neg hb).symm.trans z
        cases z'
    · by_cases hb:b=a
      · exact hb
      · exact absurd (if_neg hb) z
end L2
namespace L2
open PySem PySem.Spec PyProof.Rows
noncomputable abbrev KOf {K:PySem.W.Frag} {h:Heap} (_:K.In h):PySem.W.Frag:=K

theorem walk_of {l:PySem.W.OpenLaw} {n k:Nat} {q:Program} {loose:List Str} {XP:(Str→Option Value)→Heap→Prop} {YP:World→Heap→Prop} {d:DefRec} {K:Params→PySem.W.Frag} {CX:World→CXT} {sp:World→Sp} {x:Str}
    (hn:l.most=some n) (hn2:n≤sizeLine) (hdf:d.params.defaults=[]) (hr:Room k callerA)
    (hY:∀ (w:World) (h:Heap),YP w h→(K w.params).In h)
    (F:∀ (w:World) (mg:Str→Option Value) (fa:Addr) (h:Heap),(K w.params).In h→h.Ns mainGlobals mg→mg d.name=some (.ref fa) →
      ∃ fd:FuncData,(∀ (s:Shared) (u:Value),BindsTo s fd ⟨[u],[]⟩ [(x,u)]) ∧
        ∀ base:Heap,(K w.params).In base→base.Ns mainGlobals mg→FnOk l.prog w (K w.params) mg base (CX w) k fa fd [x] (sp w))
    (hsp:∀ (w:World) (H:Hp) (a:Addr) (ns:List Int),ns.length≤n→Only H→SqL (K w.params) H a (ns.map V.int)→sp w [.ref a] H (fun v _=>v=.bl true) fun _ _ _=>False)
    (hCX:∀ (w:World) (H:Hp) (s:Shared) (e:Value) (s':Shared),CX w [] H s (fun _ _ _=>False) e s'→False) :
    PySem.W.WalkO q loose XP YP l.row.toRowW d [] (fun f vs=>PySem.call f vs):=by
  refine Att.attach_call hn hdf fun w s₀ s₁ mg mb fa o pm cd doc a vs ns G Y ho hd hcd hmg hobj hints hlen hg=>?_
  have KX:=hY w _ Y
  obtain ⟨fd,hb,hF⟩:=F w mg fa _ KX G.T.g hmg
  exact law_call KX G.T.g G.T.b G.T.builtins G.T.nolimit G.T.nodigits hg hobj hints (Nat.le_trans hlen hn2) hr hF hb (fun H hO hS=>hsp w H a ns hlen hO hS) fun H e s'=>hCX w H s₁ e s'
theorem walk_ofK {l:PySem.W.OpenLaw} {n k:Nat} {q:Program} {loose:List Str} {XP:(Str→Option Value)→Heap→Prop} {YP:World→Heap→Prop} {d:DefRec} {K:Params→PySem.W.Frag} {CX:CXT} {sp:PySem.W.Frag→Sp} {x:Str}
    (hn:l.most=some n) (hn2:n≤sizeLine) (hdf:d.params.defaults=[]) (hr:Room k callerA)
    (hY:∀ (w:World) (h:Heap),YP w h→(K w.params).In h)
    (F:∀ (w:World) (mg:Str→Option Value) (fa:Addr) (h:Heap),(K w.params).In h→h.Ns mainGlobals mg→mg d.name=some (.ref fa) →
      ∃ fd:FuncData,(∀ (s:Shared) (u:Value),BindsTo s fd ⟨[u],[]⟩ [(x,u)]) ∧
        ∀ base:Heap,(K w.params).In base→base.Ns mainGlobals mg→FnOk l.prog w (K w.params) mg base CX k fa fd [x] (sp (K w.params)))
    (hsp:∀ (K:PySem.W.Frag) (H:Hp) (a:Addr) (ns:List Int),ns.length≤n→Only H→SqL K H a (ns.map V.int)→sp K [.ref a] H (fun v _=>v=.bl true) fun _ _ _=>False)
    (hCX:∀ (H:Hp) (s:Shared) (e:Value) (s':Shared),CX [] H s (fun _ _ _=>False) e s'→False) :
    PySem.W.WalkO q loose XP YP l.row.toRowW d [] (fun f vs=>PySem.call f vs) :=
  walk_of (K:=K) (CX:=fun _=>CX) (sp:=fun w=>sp (K w.params)) hn hn2 hdf hr hY F (fun w H a ns h1 h2 h3=>hsp (K w.params) H a ns h1 h2 h3) fun _ H s e s'=>hCX H s e s'
end L2
namespace L2
open PySem PySem.Spec PyProof.Rows
noncomputable def defArgs (s:Stmt):Arguments:=match s with
  | .FunctionDef _ a _ _ _ _ _ _ _ _=>a
  | _=>{ posonlyargs:=[],args:=[],vararg:=none,kwonlyargs:=[],kw_defaults:=[],kwarg:=none,defaults:=[] }
noncomputable def defBody (s:Stmt):List Stmt:=match s with
  | .FunctionDef _ _ b _ _ _ _ _ _ _=>b
  | _=>[]
noncomputable def defScope (s:Stmt):Scope:=match s with
  | .FunctionDef _ _ _ _ _ _ sc _ _ _=>sc
  | _=>{ kind:=.function,names:=[],isGenerator:=false,isCoroutine:=false }

noncomputable abbrev CX0:CXT:=fun _ _ _ _ _ _=>False
noncomputable abbrev E0:XK:=fun _ _ _=>False
theorem pass0 {X:Cx}:Passes CX0 X E0:=fun _ _ _ _ _ _ _ h=>h.elim

structure Fun (K:PySem.W.Frag) (x qual:Str) (st:Stmt) (f:Addr) (fd:FuncData):Prop where
  ex:∃ (oc:Value) (od:Option Addr) (kV doc pm:Value) (an:Option Addr) (cdv ct:Value) (osl:Array (Option Value)),
    fd=PySem.W.fnOf x qual (defArgs st) (defBody st) (defScope st) .none kV doc pm an cdv ct∧K.lookup f=some ⟨oc,od,.func fd,osl⟩∧PySem.W.codeIn K cdv qual=true
  kp:PySem.W.keepIn K (.ref f)=true
section
variable {P:Program} {w:World} {K:PySem.W.Frag} {mg:Str→Option Value} {base:Heap}
theorem Fun.ok {x qual:Str} {st:Stmt} {f:Addr} {fd:FuncData} {N ps:List Str} {k:Nat} {sp:Sp} (F:Fun K x qual st f fd) (S:FnScope N ps (defScope st)) (len:∀ vs H Q E,sp vs H Q E→vs.length=ps.length)
    (hbody:∀ (cdv:Value) (A:Around) (outer:List Env) (s:Shared) (H:Hp) (vs:List V) (Q:VK) (E:XK),Room k (A.deeper (envOfC qual (defScope st) s.heap.objs.size f cdv))→sp vs H Q E →
      ∃ t,PSs (cxOf CX0 P w K mg base N qual (defScope st) f cdv A outer s H E).nox (defBody st) t∧t { nx:=fun _ H'=>Q .non H',rt:=Q } (start N vs) H):FnOk P w K mg base CX0 (k+1) f fd ps sp:=by
  obtain ⟨oc,od,kV,doc,pm,an,cdv,ct,osl,rfl,lk,hcd⟩:=F.ex
  refine fn_of lk hcd S len fun A outer s H vs Q E hr hsp=>?_
  obtain ⟨t,h,q⟩:=hbody cdv A outer s H vs Q E hr hsp
  exact ⟨t,h.nox,q⟩
theorem Fun.binds {x qual:Str} {st:Stmt} {f:Addr} {fd:FuncData} {ps:List Str} (F:Fun K x qual st f fd)
    (h:∀ (kV doc pm:Value) (an:Option Addr) (cdv ct:Value) (us:List Value),us.length=ps.length→bindArgs (PySem.W.fnOf x qual (defArgs st) (defBody st) (defScope st) .none kV doc pm an cdv ct) ⟨us,[]⟩=pure (ps.zip us)):Binds K fd ps []:=by
  obtain ⟨oc,od,kV,doc,pm,an,cdv,ct,osl,rfl,lk,hcd⟩:=F.ex
  exact .all (h kV doc pm an cdv ct)
theorem fun_mk {x qual:Str} {st:Stmt} {f:Addr} {oc:Value} {od an:Option Addr} {osl:Array (Option Value)} {kV doc pm cdv ct:Value} (l:K.lookup f=some ⟨oc,od,.func (PySem.W.fnOf x qual (defArgs st) (defBody st) (defScope st) .none kV doc pm an cdv ct),osl⟩)
    (c:PySem.W.codeIn K cdv qual=true) (k:PySem.W.keepIn K (.ref f)=true):Fun K x qual st f (PySem.W.fnOf x qual (defArgs st) (defBody st) (defScope st) .none kV doc pm an cdv ct):=⟨⟨oc,od,kV,doc,pm,an,cdv,ct,osl,rfl,l,c⟩,k⟩
end
theorem hu_of {A:Around} {k:Nat} (hr:Room k A):A.units+1 < cLine:=Nat.lt_of_le_of_lt (Nat.add_le_add_left (by decide:1≤64) _) hr.units
section
variable {X:Cx}
theorem pv (i:Nat) {x:Str} {pos:Pos} (hN:X.N[i]?=some x:=by rfl) (hv:Vis X.env.scope x:=by first | exact Or.inl rfl | exact Or.inr (Or.inl rfl) | exact Or.inr (Or.inr rfl)) (hd:(x == ("__debug__":Str))=false:=by decide)
    (hcd:(x == ("__classdict__":Str))=false:=by decide):PE X (.Name x pos) (tVar i):=pe_var hN hv hd hcd
end
theorem ite2 {c A B:Prop} [Decidable c] (h1:c→A) (h2:¬ c→B):if c then A else B:=by
  by_cases h:c
  · rw [if_pos h]
    exact h1 h
  · rw [if_neg h]
    exact h2 h
noncomputable def Same (H H':Hp):Prop:=∀ b o,H b=some o→H' b=some o
theorem Same.refl (H:Hp):Same H H:=fun _ _ h=>h
theorem Same.seq {K:PySem.W.Frag} {H H':Hp} {a:Addr} {xs:List V} (e:Same H H') (h:SqL K H a xs):SqL K H' a xs:=by
  rcases h with (h | ⟨o,h⟩) | h
  · exact .inl (.inl (e _ _ h))
  · exact .inl (.inr ⟨o,e _ _ h⟩)
  · exact .inr h

end L2
set_option Elab.async false
set_option linter.all false
set_option maxRecDepth 100000
namespace L2
open PySem PySem.Spec PyProof.Rows
section
variable {X:Cx} {pins:List (Addr×Obj)} {σ:St} {H:Hp} {s:Shared}
end
section
variable {X:Cx} {pins:List (Addr×Obj)} {σ:St} {H:Hp} {s:Shared}
end
end L2
set_option Elab.async false
set_option linter.all false
set_option maxRecDepth 100000
namespace L2
open PySem PySem.Spec PyProof.Rows
mutual
/-- the value bears the datum -/
inductive Dn (H:Hp):V→PyData→Prop
  | non:Dn H .non .none
  | bl (b:Bool):Dn H (.bl b) (.bool b)
  | int (i:Int):Dn H (.int i) (.int i)
  | str (x:Str):Dn H (.str x) (.str x)
  | tup {a:Addr} {xs:List V} {ds:List PyData}:H a=some (.tup xs)→DnAll H xs ds→Dn H (.ref a) (.tuple ds)
  | lst {a:Addr} {xs:List V} {ds:List PyData}:H a=some (.lst xs)→DnAll H xs ds→Dn H (.ref a) (.list ds)
  | dct {a:Addr} {ks:List (Key×V)} {ds:List PyData}:H a=some (.dK ks)→DnAll H (ks.map (·.2)) ds→Dn H (.ref a) (.dict ((ks.map fun k=>match k.1 with | .inl i=>PyData.int i | .inr x=>PyData.str x).zip ds))
inductive DnAll (H:Hp):List V→List PyData→Prop
  | nil:DnAll H [] []
  | cons {v:V} {vs:List V} {d:PyData} {ds:List PyData}:Dn H v d→DnAll H vs ds→DnAll H (v::vs) (d::ds)
end
mutual
theorem Dn.mono {H H':Hp} (e:∀ b o,H b=some o→H' b=some o):∀ {v:V} {d:PyData},Dn H v d→Dn H' v d
  | _,_,.non=>.non
  | _,_,.bl b=>.bl b
  | _,_,.int i=>.int i
  | _,_,.str x=>.str x
  | _,_,.tup h r=>.tup (e _ _ h) (DnAll.mono e r)
  | _,_,.lst h r=>.lst (e _ _ h) (DnAll.mono e r)
  | _,_,.dct h r=>.dct (e _ _ h) (DnAll.mono e r)
theorem DnAll.mono {H H':Hp} (e:∀ b o,H b=some o→H' b=some o):∀ {vs:List V} {ds:List PyData},DnAll H vs ds→DnAll H' vs ds
  | _,_,.nil=>.nil
  | _,_,.cons r t=>.cons (Dn.mono e r) (DnAll.mono e t)
end
theorem DnAll.ints {H:Hp}:∀ ns:List Int,DnAll H (ns.map V.int) (ns.map PyData.int)
  | []=>.nil
  | n::ns=>.cons (.int n) (DnAll.ints ns)
theorem DnAll.length {H:Hp} {vs:List V} {ds:List PyData} (h:DnAll H vs ds):vs.length=ds.length:=by
  induction vs generalizing ds with
  | nil=>cases h; rfl
  | cons v vs ih=>cases h with | cons r t=>exact congrArg (·+1) (ih t)
theorem DnAll.append {H:Hp} {vs ws:List V} {ds es:List PyData} (h:DnAll H vs ds) (s:DnAll H ws es):DnAll H (vs++ws) (ds++es):=by
  induction vs generalizing ds with
  | nil=>cases h; exact s
  | cons v vs ih=>cases h with | cons r t=>exact .cons r (ih t)

mutual
/-- data without dicts -/
theorem Dn.reads {P:Program} {w:World} {H:Hp} {h:Heap} (ok:HOk P w H h):∀ {v:V} {d:PyData} {u:Value},Dn H v d→d.hasDict=false→RelV v u→∃ as,Reads h u d as
  | _,_,_,.non,_,r=>by cases r; exact ⟨_,.none⟩
  | _,_,_,.bl b,_,r=>by cases r; exact ⟨_,.bool b⟩
  | _,_,_,.int i,_,r=>by obtain ⟨t,rfl⟩:=r; exact ⟨_,.int i t⟩
  | _,_,_,.str x,_,r=>by obtain ⟨t,rfl⟩:=r; exact ⟨_,.str x t⟩
  | _,_,_,.tup e rs,hd,r=>by
    cases r
    obtain ⟨z,its,rv,o,h1,h2,n,h3⟩:=ok _ _ e
    obtain ⟨as,q⟩:=DnAll.reads ok rs (by simpa [PyData.hasDict] using hd) rv
    exact ⟨_,.tuple h1 h2 h3 (by simpa using q)⟩
  | _,_,_,.lst e rs,hd,r=>by
    cases r
    obtain ⟨z,its,n,rv,h1⟩:=ok _ _ e
    obtain ⟨as,q⟩:=DnAll.reads ok rs (by simpa [PyData.hasDict] using hd) rv
    exact ⟨_,.list h1 rfl rfl (by simpa using q)⟩
  | _,_,_,.dct e rs,hd,r=>by simp [PyData.hasDict] at hd
theorem DnAll.reads {P:Program} {w:World} {H:Hp} {h:Heap} (ok:HOk P w H h):∀ {vs:List V} {ds:List PyData} {us:List Value},DnAll H vs ds→PyData.hasDictAll ds=false→Vals vs us→∃ as,ReadsAll h us ds as
  | _,_,_,.nil,_,r=>by cases r; exact ⟨_,.nil⟩
  | _,_,_,.cons p t,hd,r=>by
    cases r with
    | cons r1 r2 =>
      simp only [PyData.hasDictAll,Bool.or_eq_false_iff] at hd
      obtain ⟨as,q⟩:=Dn.reads ok p hd.1 r1
      obtain ⟨bs,q2⟩:=DnAll.reads ok t hd.2 r2
      exact ⟨_,.cons q q2⟩
end
section
variable {X:Cx}
theorem call_repr {k:Nat} (hr:Room k X.A):CallR X (.builtin "repr") (fun xs H Q=>∃ v d,xs=[v]∧Dn H v d∧d.hasDict=false∧d.showable=true∧d.depth≤32∧d.shown.length≤sizeLine∧Q (.str d.shown) H):=by
  intro pins s σ H xs us Q I r h
  obtain ⟨v,d,rfl,hd,hn,hs,hdp,hz,q⟩:=h
  obtain ⟨u,rfl,ru⟩:=vals1 r
  have hun:=hr.units
  have viaRef:∀ {a:Addr} {as:List Addr},Reads s.heap (.ref a) d as→wpAny (model X.prog X.w) X.A (call (.builtin "repr") [.ref a]) (EP X pins σ Q) X.xe s:=fun {a as} rd =>
    repr_of_reads' rd hs (PyData.noDict_hsm hn) hr.gd (by omega) (fun _ _ e=>e) (fun h' u' tk hk=>⟨.str d.shown,H,I.kept hk,⟨_,rfl⟩,q⟩) hz
  obtain ⟨as,rd⟩:=Dn.reads I.hok hd hn ru
  cases rd with
  | none=>exact PySem.P.repr_of_none ⟨.str "None",H,I.tok _,⟨_,rfl⟩,q⟩
  | bool b=>exact PySem.P.repr_of_bool ⟨.str (if b then "True" else "False"),H,I.tok _,⟨_,rfl⟩,q⟩
  | int i t=>exact PySem.P.repr_of_int (by simpa [PyData.showable] using hs) ⟨.str (toString i),H,I.tok _,⟨_,rfl⟩,q⟩
  | str x t=>exact PySem.P.repr_of_str ⟨.str (reprText x),H,I.tok _,⟨_,rfl⟩,q⟩ hz
  | list h1 h2 h3 h4=>exact viaRef (.list h1 h2 h3 h4)
  | tuple h1 h2 h3 h4=>exact viaRef (.tuple h1 h2 h3 h4)
  | dict h1 h2 h3 h4 h5=>simp [PyData.hasDict] at hn

theorem op_eqD {k:Nat} (hr:Room k X.A):OpR X (compareOp .Eq) (fun x y H Q=>∃ d e,Dn H x d∧Dn H y e∧SeqAt.shaped d=true∧SeqAt.shaped e=true∧Q (.bl (PyData.eqv d e)) H):=by
  intro pins s σ H x y v u Q I rx ry h
  obtain ⟨d,e,hd,he,sd,se,q⟩:=h
  obtain ⟨as,r1⟩:=Dn.reads I.hok hd (PyData.hasDict_of_canLay _ (SeqAt.canLay_of_shaped sd)) rx
  obtain ⟨bs,r2⟩:=Dn.reads I.hok he (PyData.hasDict_of_canLay _ (SeqAt.canLay_of_shaped se)) ry
  exact SeqAt.compareEq_shaped r1 r2 sd se hr.units ⟨.bl _,H,I,rfl,q⟩
theorem op_neD {k:Nat} (hr:Room k X.A):OpR X (compareOp .NotEq) (fun x y H Q=>∃ d e,Dn H x d∧Dn H y e∧SeqAt.shaped d=true∧SeqAt.shaped e=true∧Q (.bl (!PyData.eqv d e)) H):=by
  intro pins s σ H x y v u Q I rx ry h
  obtain ⟨d,e,hd,he,sd,se,q⟩:=h
  obtain ⟨as,r1⟩:=Dn.reads I.hok hd (PyData.hasDict_of_canLay _ (SeqAt.canLay_of_shaped sd)) rx
  obtain ⟨bs,r2⟩:=Dn.reads I.hok he (PyData.hasDict_of_canLay _ (SeqAt.canLay_of_shaped se)) ry
  exact SeqAt.compareNe_shaped r1 r2 sd se hr.units ⟨.bl _,H,I,rfl,q⟩

end
end L2
set_option Elab.async false
set_option linter.all false
set_option maxRecDepth 100000
namespace L2
open PySem PySem.Spec PyProof.Rows
structure Def (K:PySem.W.Frag) (mg:Str→Option Value) (x:Str) (st:Stmt) (ps:List Str):Prop where
  ex:∃ f fd,Fun K x x st f fd∧mg x=some (.ref f)∧Binds K fd ps []
structure Callee (P:Program) (w:World) (K:PySem.W.Frag) (mg:Str→Option Value) (base:Heap) (x:Str) (k:Nat) (ps:List Str) (sp:Sp):Prop where
  ex:∃ f fd,FnOk P w K mg base CX0 k f fd ps sp∧mg x=some (.ref f)∧PySem.W.keepIn K (.ref f)=true∧Binds K fd ps []

section
variable {P:Program} {w:World} {K:PySem.W.Frag} {mg:Str→Option Value} {base:Heap}
theorem Def.ok {x:Str} {st:Stmt} {N ps:List Str} {k:Nat} {sp:Sp} (D:Def K mg x st ps) (S:FnScope N ps (defScope st)) (len:∀ vs H Q E,sp vs H Q E→vs.length=ps.length)
    (hbody:∀ (f:Addr) (cdv:Value) (A:Around) (outer:List Env) (s:Shared) (H:Hp) (vs:List V) (Q:VK) (E:XK),Room k (A.deeper (envOfC x (defScope st) s.heap.objs.size f cdv))→sp vs H Q E →
      ∃ t,PSs (cxOf CX0 P w K mg base N x (defScope st) f cdv A outer s H E).nox (defBody st) t∧t { nx:=fun _ H'=>Q .non H',rt:=Q } (start N vs) H):Callee P w K mg base x (k+1) ps sp:=by
  obtain ⟨f,fd,F,hm,hb⟩:=D.ex
  exact ⟨f,fd,F.ok S len fun cdv A outer s H vs Q E hr h=>hbody f cdv A outer s H vs Q E hr h,hm,F.kp,hb⟩
theorem def_mk {x:Str} {st:Stmt} {ps:List Str} {h:Heap} {f:Addr} {oc:Value} {od an:Option Addr} {osl:Array (Option Value)} {kV doc pm cdv ct:Value} (X:K.In h) (G:h.Ns mainGlobals mg)
    (a:PySem.W.nsIn K mainGlobals x=some (some (.ref f))) (l:K.lookup f=some ⟨oc,od,.func (PySem.W.fnOf x x (defArgs st) (defBody st) (defScope st) .none kV doc pm an cdv ct),osl⟩)
    (c:PySem.W.codeIn K cdv x=true) (k:PySem.W.keepIn K (.ref f)=true)
    (hb:∀ (kV doc pm:Value) (an:Option Addr) (cdv ct:Value) (us:List Value),us.length=ps.length→bindArgs (PySem.W.fnOf x x (defArgs st) (defBody st) (defScope st) .none kV doc pm an cdv ct) ⟨us,[]⟩=pure (ps.zip us)):Def K mg x st ps:=by
  have F:=fun_mk (st:=st) l c k
  exact ⟨f,_,F,PySem.W.mg_of X G a,F.binds hb⟩
end
section
variable {X:Cx} {x:Str} {k:Nat} {ps:List Str} {sp:Sp} {e:Expr} {es:List Expr} {t:TA} {p pos:Pos}
theorem pe_callC (C:Callee X.prog X.w X.K X.mg X.base x k ps sp) (hr:Room k X.A) (hg:Gl X x) (ha:PA X (e::es) t) (hdb:(x == ("__debug__":Str))=false:=by decide)
    (he:starEach (e::es) X.env=(false,eval e X.env)::starEach es X.env:=by rfl) (hpl:(backTo pos (starEach es X.env)).any (·.1)=false:=by rfl):PE X (.Call (.Name x p) (e::es) [] pos) (tCall sp [] E0 t):=by
  obtain ⟨f,fd,F,hm,hk,hb⟩:=C.ex
  exact pe_call F hr hg hm hk hb .nil pass0 ha hdb he hpl
end
noncomputable def tJoinS (t:TS):TS:=fun D σ H=>∃ J:St→Hp→Prop,t { D with nx:=J } σ H∧∀ σ' H',J σ' H'→D.nx σ' H'
noncomputable def tJoinT (t:TT):TT:=fun σ H Q=>∃ J:Bool→Hp→Prop,t σ H J∧∀ b H',J b H'→Q b H'
section
variable {X:Cx} {st:Stmt} {e:Expr}
theorem PS.join {t:TS} (h:PS X st t):PS X st (tJoinS t):=by
  rintro pins s σ H D I ⟨J,q,hJ⟩
  refine thn (h pins s σ H _ I q) fun f s' z=>?_
  cases f with
  | next=>obtain ⟨σ',H',I',q'⟩:=z; exact ⟨σ',H',I',hJ _ _ q'⟩
  | brk=>exact z
  | cont=>exact z
  | ret u=>exact z
theorem PT.join {t:TT} (h:PT X e t):PT X e (tJoinT t):=by
  rintro pins s σ H Q I ⟨J,q,hJ⟩
  refine thn (h pins s σ H _ I q) fun b s' ⟨H',I',q'⟩=>⟨H',I',hJ _ _ q'⟩
end
noncomputable def penK (c:Addr) (at' left:Int):List (Key×V):=[(Sum.inr "script",.ref c),(Sum.inr "at",.int at'),(Sum.inr "left",.int left)]
structure Pen (H:Hp) (p c:Addr) (ns:List Int) (m:Nat):Prop where
  ex:∃ (k:Nat) (left:Int),H p=some (.dK (penK c k left))∧k≤m∧0≤left
  cells:H c=some (.lst (ns.map V.int))
  len:ns.length≤63

theorem ne1:¬ ((Sum.inr ("script":Str):Key)=(Sum.inr ("at":Str):Key)):=by decide +kernel
theorem ne2:¬ ((Sum.inr ("script":Str):Key)=(Sum.inr ("left":Str):Key)):=by decide +kernel
theorem ne3:¬ ((Sum.inr ("at":Str):Key)=(Sum.inr ("left":Str):Key)):=by decide +kernel
theorem pen_script (c:Addr) (a l:Int):valV (penK c a l) (Sum.inr "script":Key)=some (.ref c):=valV_pos rfl
theorem pen_at (c:Addr) (a l:Int):valV (penK c a l) (Sum.inr "at":Key)=some (.int a):=by
  unfold penK
  rw [valV_neg ne1,valV_pos rfl]
theorem pen_left (c:Addr) (a l:Int):valV (penK c a l) (Sum.inr "left":Key)=some (.int l):=by
  unfold penK
  rw [valV_neg ne2,valV_neg ne3,valV_pos rfl]
theorem pen_put_at (c:Addr) (a l b:Int):putK (penK c a l) (Sum.inr "at":Key) (.int b)=penK c b l:=by
  have h:((penK c a l).any fun kv=>decide (kv.1=(Sum.inr "at":Key)))=true:=by rw [valV_any,pen_at]; rfl
  unfold putK
  rw [if_pos h]
  unfold penK
  simp only [List.map_cons,List.map_nil,if_neg ne1,if_neg (Ne.symm ne3),if_true]
theorem pen_put_left (c:Addr) (a l b:Int):putK (penK c a l) (Sum.inr "left":Key) (.int b)=penK c a b:=by
  have h:((penK c a l).any fun kv=>decide (kv.1=(Sum.inr "left":Key)))=true:=by rw [valV_any,pen_left]; rfl
  unfold putK
  rw [if_pos h]
  unfold penK
  simp only [List.map_cons,List.map_nil,if_neg ne2,if_neg ne3,if_true]
section
variable {H:Hp} {p c:Addr} {a l b:Int}
theorem dg_script (h:H p=some (.dK (penK c a l))):DGet H p (.str "script") (some (.ref c)):=by
  have q:=DGet.k (k:=(Sum.inr "script":Key)) h
  rw [pen_script] at q
  exact q
theorem dg_at (h:H p=some (.dK (penK c a l))):DGet H p (.str "at") (some (.int a)):=by
  have q:=DGet.k (k:=(Sum.inr "at":Key)) h
  rw [pen_at] at q
  exact q
theorem dg_left (h:H p=some (.dK (penK c a l))):DGet H p (.str "left") (some (.int l)):=by
  have q:=DGet.k (k:=(Sum.inr "left":Key)) h
  rw [pen_left] at q
  exact q
theorem dp_at (h:H p=some (.dK (penK c a l))):DPut H p (.str "at") (.int b) (upd H p (.dK (penK c b l))):=by
  have q:=DPut.k (k:=(Sum.inr "at":Key)) (v:=V.int b) h (by show 3 < sizeLine; decide)
  rw [pen_put_at] at q
  exact q
theorem dp_left (h:H p=some (.dK (penK c a l))):DPut H p (.str "left") (.int b) (upd H p (.dK (penK c a b))):=by
  have q:=DPut.k (k:=(Sum.inr "left":Key)) (v:=V.int b) h (by show 3 < sizeLine; decide)
  rw [pen_put_left] at q
  exact q
end
noncomputable def Kept (p:Addr) (H H':Hp):Prop:=∀ b o,H b=some o→b≠p→H' b=some o
theorem Kept.refl {p:Addr} {H:Hp}:Kept p H H:=fun _ _ h _=>h
theorem Kept.new {p q:Addr} {H H':Hp} {o:HO} (a:Kept p H H') (hq:H' q=none):Kept p H (upd H' q o):=fun c u h n=>by
  have e:=a c u h n
  rw [upd_ne (ne_of_none e hq)]
  exact e
theorem Kept.pen {p:Addr} {H H':Hp} {o:HO} (a:Kept p H H'):Kept p H (upd H' p o):=fun c u h n=>by
  rw [upd_ne n]
  exact a c u h n
theorem Same.new {q:Addr} {H H':Hp} {o:HO} (a:Same H H') (hq:H' q=none):Same H (upd H' q o):=fun c u h=>by
  have e:=a c u h
  rw [upd_ne (ne_of_none e hq)]
  exact e
noncomputable def spDraw:Sp:=fun vs H Q _=>∃ (p c:Addr) (ns:List Int) (m:Nat) (most:Int),vs=[.ref p,.int most]∧Pen H p c ns m∧m≤500000∧0 < most∧most < 1073741824 ∧
  ∀ (r:Int) (H':Hp),0≤r→r < most→Pen H' p c ns (m+1)→Kept p H H'→Q (.int r) H'
noncomputable def spPen (K:PySem.W.Frag):Sp:=fun vs H Q _=>∃ (a:Addr) (ns:List Int),vs=[.ref a]∧SqL K H a (ns.map V.int)∧ns.length≤63 ∧
  ∀ (p c:Addr) (H':Hp),H p=none→Pen H' p c ns 0→Same H H'→Q (.ref p) H'

theorem shaped_ints (ns:List Int):SeqAt.shaped (.list (ns.map PyData.int))=true:=by
  have h1:PyData.canLayAll0 (ns.map PyData.int)=true:=by
    induction ns with
    | nil=>rfl
    | cons n r ih=>simp [PyData.canLayAll0,PyData.canLay0,ih]
  have h2:PyData.depthAll (ns.map PyData.int)=0:=by
    induction ns with
    | nil=>rfl
    | cons n r ih=>simp [PyData.depthAll,PyData.depth]; exact ih (by
        have:=h1
        simp [PyData.canLayAll0] at this
        exact this.2)
  simp [SeqAt.shaped,PyData.canLay0,PyData.depth,h1,h2]
theorem eqv_nil (ns:List Int):PyData.eqv (.list (ns.map PyData.int)) (.list [])=ns.isEmpty:=by
  cases ns with
  | nil=>rfl
  | cons n r=>rfl
end L2
set_option Elab.async false
set_option linter.all false
set_option maxRecDepth 100000
namespace L2
open PySem PySem.Spec PyProof.Rows
section
variable {prog:Program} {w:World} {A:Around} {E:Value→Shared→Prop} {s:Shared} {r:Addr} {a b c:Int} {t u v:Tok} {n:Nat}
end
section
variable {X:Cx}
theorem noFill_tup:fillsNumberSlot (.type "tuple") "mul"=pure false :=
  PySem.fillsNumberSlot_seq (id:="tuple.__mul__") (r:=some (.builtin "tuple.__rmul__")) PySem.F.slot_tuple_mul.lookup (by decide +kernel) PySem.F.slot_tuple_rmul.lookup (by decide +kernel)
theorem repeat_tup:seqRepeat? (.type "tuple")=pure (some (.builtin "tuple.__mul__")):=by
  unfold seqRepeat?
  rw [PySem.seqSlot_of (T:="tuple") (name:="__mul__") (id:="tuple.__mul__") PySem.F.slot_tuple_mul.lookup (by decide +kernel),PySem.seqSlot_of (T:="tuple") (name:="__rmul__") (id:="tuple.__rmul__") PySem.F.slot_tuple_rmul.lookup (by decide +kernel)]; rfl
theorem rmul_tup (x:Int) (t:Tok) (l:Addr) (items:Array Value) (n:Nat) (dd:Option Addr) (sl:Array (Option Value)) :
    Meets (Builtin.«int.__rmul__» ⟨[.int x t,.ref l],[]⟩) (fun _ R s=>s.heap.get? l=some { cls:=.type "tuple",dict:=dd,data:=.seq items n,slots:=sl }∧R (.ok (.ret Value.notImplemented)) s):=by
  refine .of_wp fun prog w A R s h=>?_
  obtain ⟨hp,g,d,tk,os⟩:=s
  obtain ⟨hl,h⟩:=h
  wp_walk
  exact ⟨_,rfl,h⟩
theorem mul_tup (x:Int) (t:Tok) (l:Addr) (items:Array Value) (n:Nat) (dd:Option Addr) (sl:Array (Option Value)) (h1:1 < x) (h2:x≤1000) (h3:items.isEmpty=false) (h4:items.size≤1000) :
    Meets (Builtin.«tuple.__mul__» ⟨[.ref l,.int x t],[]⟩) (fun _ R s=>s.heap.get? l=some { cls:=.type "tuple",dict:=dd,data:=.seq items n,slots:=sl } ∧
      R (.ok (.ret (.ref s.heap.objs.size))) { s with heap:=s.heap.push { cls:=.type "tuple",data:=.seq ((List.replicate x.toNat items).foldl (·++·) #[]) } }):=by
  refine .of_wp fun prog w A R s h=>?_
  obtain ⟨hp,g,d,tk,os⟩:=s
  obtain ⟨hl,h⟩:=h
  have hp0:0≤(items.size:Int) * x:=Int.mul_nonneg (by omega) (by omega)
  have hp1:(items.size:Int) * x≤1000 * 1000:=Int.mul_le_mul (by omega) h2 (by omega) (by omega)
  have hne:items.size≠0:=fun e=>by simp [Array.isEmpty,e] at h3
  wp_walk
  refine wpAny_ite_split (fun z=>absurd z (by simp; omega)) (fun _=>?_)
  refine wpAny_bind ?_
  unfold Builtin.Tuple.tupleItemsOf
  refine wpAny_bind (wpAny_seqItems hl rfl (wpAny_pure ?_))
  refine wpAny_ite_split (fun z=>absurd z (by rw [h3]; simp; omega)) (fun _=>?_)
  refine wpAny_ite_split (fun z=>absurd z (by rw [h3]; simp; omega)) (fun _=>?_)
  refine wpAny_ite_split (fun z=>absurd z (by omega)) (fun _=>?_)
  refine wpAny_ite_split (fun z=>absurd z (by unfold Builtin.Tuple.tupleTooMany; rw [sizeLine_eq]; simp; omega)) (fun _=>?_)
  unfold Builtin.Tuple.tupleExact
  have hlen:∀ k:Nat,((List.replicate k items).foldl (·++·) #[]).size=k * items.size:=fun k=>by
    have key:∀ (k:Nat) (acc:Array Value),((List.replicate k items).foldl (·++·) acc).size=acc.size+k * items.size:=by
      intro k
      induction k with
      | zero=>intro acc; simp
      | succ k ih =>
        intro acc
        rw [List.replicate_succ,List.foldl_cons,ih,Array.size_append,Nat.succ_mul]
        omega
    simpa using key k #[]
  refine wpAny_bind (wpAny_newObj_type (wpAny_pure ⟨_,rfl,h⟩) ?_)
  show ((List.replicate x.toNat items).foldl (·++·) #[]).size≤sizeLine
  rw [hlen,sizeLine_eq]
  have hx:x.toNat≤1000:=by omega
  exact Nat.le_trans (Nat.mul_le_mul hx h4) (by decide)
noncomputable def rRepT (K:PySem.W.Frag):R2:=fun x y H Q=>∃ a k xs,x=.ref a∧y=.int k∧SqT K H a xs∧1 < k∧k≤1000∧xs≠[]∧xs.length≤1000∧∀ p,H p=none→Q (.ref p) (upd H p (.tup (List.replicate k.toNat xs).flatten))
theorem vals_rep {xs:List V} {us:List Value} (r:Vals xs us):∀ k:Nat,Vals (List.replicate k xs).flatten (List.replicate k us).flatten
  | 0=>.nil
  | k+1=>by
    rw [List.replicate_succ,List.replicate_succ,List.flatten_cons,List.flatten_cons]
    exact r.append (vals_rep r k)
theorem op_repT:OpR X (binaryOp .Mult) (rRepT X.K):=by
  intro pins s σ H x y v u Q I rx ry h
  obtain ⟨a,k,xs,rfl,rfl,hq,h1,h2,hne,hl,q⟩:=h
  cases rx
  obtain ⟨t,rfl⟩:=ry
  obtain ⟨its,rv,p,hz⟩:=I.tuple hq
  obtain ⟨o,ho,hc,n,hd⟩:=p
  obtain ⟨oc,od,odd,osl⟩:=o
  have hc':oc=.type "tuple":=hc
  have hd':odd=.seq its.toArray n:=hd
  subst hc' hd'
  have hlen:=rv.length
  have hemp:its.toArray.isEmpty=false:=by
    cases its with
    | nil=>cases rv; exact absurd rfl hne
    | cons i r=>rfl
  have efl:(List.replicate k.toNat its.toArray).foldl (·++·) #[]=(List.replicate k.toNat its).flatten.toArray:=by
    have key:∀ (k:Nat) (acc:Array Value),(List.replicate k its.toArray).foldl (·++·) acc=acc++(List.replicate k its).flatten.toArray:=by
      intro k
      induction k with
      | zero=>intro acc; simp
      | succ k ih =>
        intro acc
        rw [List.replicate_succ,List.foldl_cons,ih,List.replicate_succ,List.flatten_cons]
        simp
    simpa using key k.toNat #[]
  refine wpAny_binaryOp_repeat_ref (T:="tuple") (U:="int") (by decide) ⟨_,ho,rfl⟩ (fun s'=>typeIs_int s' k t) noFill_tup PySem.F.fills_int_mul PySem.F.slot_int_rmul repeat_tup PySem.F.slot_int_index.lookup ?_
  refine call_meets PySem.F.slot_int_rmul (typeIs_int s k t) PySem.F.entry_int_rmul (PySem.F.args_int_rmul_2 _ _) (rmul_tup k t a its.toArray n od osl) ⟨ho,rfl,⟨_,ho,rfl⟩,?_⟩
  refine call_meets PySem.F.slot_tuple_mul ⟨_,ho,rfl⟩ PySem.F.entry_tuple_mul (PySem.F.args_tuple_mul_2 _ _) (mul_tup k t a its.toArray n od osl h1 h2 hemp (by rw [List.size_toArray]; omega)) ⟨ho,?_⟩
  rw [efl]
  have hzz:(List.replicate k.toNat xs).flatten.length≤sizeLine:=by
    have hx:k.toNat≤1000:=by omega
    have e:(List.replicate k.toNat xs).flatten.length=k.toNat * xs.length:=by simp
    rw [e,sizeLine_eq]
    exact Nat.le_trans (Nat.mul_le_mul hx hl) (by decide)
  exact ⟨.ref s.heap.objs.size,_,I.laid (t':=s.toks) (fun b o e=>Heap.get?_push_of_some _ e) (Nat.le_refl _) (show ObjOk X.prog X.w _ _ _ (.tup (List.replicate k.toNat xs).flatten) from ⟨hzz,_,vals_rep rv k.toNat,IsTup.new _ _⟩),rfl,q _ (I.hok.fresh (Nat.le_refl _))⟩
end
end L2
set_option Elab.async false
set_option linter.all false
set_option maxRecDepth 100000
namespace L2
open PySem PySem.Spec PyProof.Rows
theorem hasDictAll_ints:∀ (ns:List Int),PyData.hasDictAll (ns.map PyData.int)=false
  | []=>rfl
  | n::r=>by
    rw [List.map_cons,PyData.hasDictAll,hasDictAll_ints r]
    rfl
noncomputable def rangeI (lo:Int) (n:Nat):List Int:=(List.range n).map fun (k:Nat)=>lo+(k:Int)
theorem rangeI_length (lo:Int) (n:Nat):(rangeI lo n).length=n:=by
  unfold rangeI
  rw [List.length_map,List.length_range]
end L2
set_option Elab.async false
set_option linter.all false
set_option maxRecDepth 100000
namespace L2
open PySem PySem.Spec PyProof.Rows
noncomputable def CMulG (i j:Int):Prop:=i.natAbs < 2 ^ 8000∧j.natAbs < 2 ^ 8000
noncomputable def CDivG (i j:Int):Prop:=j≠0∧j.natAbs < 2 ^ 8000
theorem bits_le {x:Int} (h:x.natAbs < 2 ^ 8000):Builtin.Int.intBits x≤8000:=by
  unfold Builtin.Int.intBits
  split
  · exact Nat.zero_le _
  · rename_i hx
    have h0:x.natAbs≠0:=by
      intro z
      have e:x=0:=Int.natAbs_eq_zero.mp z
      rw [e] at hx
      exact hx rfl
    exact (Nat.log2_lt h0).mpr h
theorem CMulG.ok {i j:Int} (h:CMulG i j):IntMulOk i j:=by
  have h1:=bits_le h.1
  have h2:=bits_le h.2
  unfold IntMulOk
  have e:Builtin.Int.intTooBig ((Builtin.Int.intBits i+Builtin.Int.intBits j:Nat):Int)=false:=by
    unfold Builtin.Int.intTooBig
    refine decide_eq_false ?_
    have hb:((16000:Nat):Int)≤(bitsLine:Int):=by decide
    omega
  intro z
  rw [Bool.and_eq_true] at z
  have z2:Builtin.Int.intTooBig ((Builtin.Int.intBits i+Builtin.Int.intBits j:Nat):Int)=true:=z.2
  rw [e] at z2
  cases z2
section
variable {X:Cx}
theorem op_mulG:OpR X (binaryOp .Mult) (rI CMulG fun i j=>.int (i * j)):=opI fun _ _ _ _ _ _ _ hc q=>mul_int q hc.ok
theorem op_fdivG:OpR X (binaryOp .FloorDiv) (rI CDivG fun i j=>.int (i.fdiv j)):=opI fun i j _ _ _ _ _ hc q=>by
  refine floordiv_int hc.1 q (.inl (PyProof.noPylong_of_log2 ?_))
  by_cases h0:j.natAbs=0
  · exact absurd (Int.natAbs_eq_zero.mp h0) hc.1
  · exact Nat.lt_trans ((Nat.log2_lt h0).mpr hc.2) (by decide)
theorem op_isnotB:OpR X (compareOp .IsNot) (fun x y H Q=>∃ a b,x=.bl a∧y=.bl b∧Q (.bl (!(a == b))) H):=by
  intro pins s σ H x y v u Q I rx ry h
  obtain ⟨a,b,rfl,rfl,q⟩:=h
  cases rx
  cases ry
  refine wpAny_isNot_plain rfl ⟨.bl (!(a == b)),H,I,?_,q⟩
  cases a <;> cases b <;> rfl
theorem call_isi:CallR X (.builtin "isinstance") (fun xs H Q=>∃ x T t b,xs=[x,.ty T]∧TyOf X.K H x t∧PySem.W.kitOne X.K t (.type T)=some b∧Q (.bl b) H):=by
  intro pins s σ H xs us Q I r h
  obtain ⟨x,T,t,b,rfl,ty,e,q⟩:=h
  obtain ⟨u,c,rfl,ru,rc⟩:=vals2 r
  cases rc
  exact isinst_ok I ru ty e fun tk=>⟨.bl b,H,I.tok tk,rfl,q⟩
end
end L2
set_option Elab.async false
set_option linter.all false
set_option maxRecDepth 100000
namespace Gc
noncomputable def gcdI (a b:Int):Int:=((Nat.gcd a.natAbs b.natAbs:Nat):Int)
noncomputable def den (t b:Int):Int:=if b < 0 then -gcdI t b else gcdI t b
noncomputable def lowT (t b:Int):Int:=t.fdiv (den t b)
noncomputable def lowB (t b:Int):Int:=b.fdiv (den t b)
theorem gcd_pos {t b:Int} (h:b≠0):0 < Nat.gcd t.natAbs b.natAbs:=Nat.gcd_pos_of_pos_right _ (by omega)
theorem den_ne {t b:Int} (h:b≠0):den t b≠0:=by
  have:=gcd_pos (t:=t) h
  unfold den gcdI
  split <;> omega
theorem den_abs (t b:Int):(den t b).natAbs=Nat.gcd t.natAbs b.natAbs:=by
  unfold den gcdI
  split <;> omega
theorem low_spec {t b:Int} (h:b≠0):t=den t b * lowT t b∧b=den t b * lowB t b∧0 < lowB t b∧Nat.gcd (lowT t b).natAbs (lowB t b).natAbs=1:=by
  have hd:=den_ne (t:=t) h
  have ha:=den_abs t b
  have hg:=gcd_pos (t:=t) h
  have d1:den t b ∣ t:=Int.natAbs_dvd_natAbs.mp (by rw [ha]; exact Nat.gcd_dvd_left _ _)
  have d2:den t b ∣ b:=Int.natAbs_dvd_natAbs.mp (by rw [ha]; exact Nat.gcd_dvd_right _ _)
  obtain ⟨x,hx⟩:=d1
  obtain ⟨y,hy⟩:=d2
  have e1:lowT t b=x:=by
    show t.fdiv (den t b)=x
    generalize den t b=d at hd hx
    rw [hx]
    exact Int.mul_fdiv_cancel_left _ hd
  have e2:lowB t b=y:=by
    show b.fdiv (den t b)=y
    generalize den t b=d at hd hy
    rw [hy]
    exact Int.mul_fdiv_cancel_left _ hd
  rw [e1,e2]
  refine ⟨hx,hy,?_,?_⟩
  · have hb:(0 < b∧0 < den t b)∨(b < 0∧den t b < 0):=by
      unfold den gcdI
      split <;> omega
    rcases hb with ⟨p,q⟩ | ⟨p,q⟩
    · rcases (show 0 < y∨y≤0 by omega) with z | z
      · exact z
      · exfalso
        have:=Int.mul_nonneg (Int.le_of_lt q) (show 0≤-y by omega)
        rw [Int.mul_neg,← hy] at this
        omega
    · rcases (show 0 < y∨y≤0 by omega) with z | z
      · exact z
      · exfalso
        have:=Int.mul_nonneg (show 0≤-den t b by omega) (show 0≤-y by omega)
        rw [Int.neg_mul_neg,← hy] at this
        omega
  · have h1:t.natAbs=Nat.gcd t.natAbs b.natAbs * x.natAbs:=by
      have:=congrArg Int.natAbs hx
      rw [Int.natAbs_mul,ha] at this
      exact this
    have h2:b.natAbs=Nat.gcd t.natAbs b.natAbs * y.natAbs:=by
      have:=congrArg Int.natAbs hy
      rw [Int.natAbs_mul,ha] at this
      exact this
    have h3:Nat.gcd t.natAbs b.natAbs=Nat.gcd t.natAbs b.natAbs * Nat.gcd x.natAbs y.natAbs:=by
      rw [← Nat.gcd_mul_left,← h1,← h2]
    have h4:Nat.gcd t.natAbs b.natAbs * 1=Nat.gcd t.natAbs b.natAbs * Nat.gcd x.natAbs y.natAbs:=by rw [Nat.mul_one]; exact h3
    exact (Nat.eq_of_mul_eq_mul_left hg h4).symm
theorem low_le {t b:Int} (h:b≠0):(lowT t b).natAbs≤t.natAbs∧(lowB t b).natAbs≤b.natAbs:=by
  obtain ⟨h1,h2,_,_⟩:=low_spec (t:=t) h
  have hg:=gcd_pos (t:=t) h
  have ha:=den_abs t b
  constructor
  · have e:=congrArg Int.natAbs h1
    rw [Int.natAbs_mul,ha] at e
    rw [e]
    exact Nat.le_mul_of_pos_left _ hg
  · have e:=congrArg Int.natAbs h2
    rw [Int.natAbs_mul,ha] at e
    rw [e]
    exact Nat.le_mul_of_pos_left _ hg
theorem low_of_low {t b:Int} (hb:0 < b) (g:Nat.gcd t.natAbs b.natAbs=1):lowT t b=t∧lowB t b=b:=by
  have e:den t b=1:=by
    unfold den gcdI
    rw [if_neg (by omega),g]
    rfl
  unfold lowT lowB
  rw [e]
  exact ⟨Int.fdiv_one _,Int.fdiv_one _⟩
end Gc
set_option Elab.async false
set_option linter.all false
set_option maxRecDepth 100000
namespace L2
open PySem PySem.Spec PyProof.Rows
end L2
set_option Elab.async false
set_option linter.all false
set_option maxRecDepth 100000
namespace L2
open PySem PySem.Spec PyProof.Rows
end L2
set_option Elab.async false
set_option linter.all false
set_option maxRecDepth 100000
namespace L2
open PySem PySem.Spec PyProof.Rows
inductive Tr (α:Type) where
  | ret (a:α)
  | draw (n:Int) (k:Int→Tr α)
  | fail
namespace Tr
variable {α β γ:Type}
noncomputable def bind:Tr α→(α→Tr β)→Tr β
  | .ret a,f=>f a
  | .draw n k,f=>.draw n fun r=>(k r).bind f
  | .fail,_=>.fail
@[simp] theorem ret_bind (a:α) (f:α→Tr β):(Tr.ret a).bind f=f a:=rfl
@[simp] theorem draw_bind (n:Int) (k:Int→Tr α) (f:α→Tr β):(Tr.draw n k).bind f=.draw n fun r=>(k r).bind f:=rfl
@[simp] theorem fail_bind (f:α→Tr β):(Tr.fail:Tr α).bind f=.fail:=rfl
@[simp] theorem bind_assoc:∀ (t:Tr α) (f:α→Tr β) (g:β→Tr γ),(t.bind f).bind g=t.bind fun a=>(f a).bind g
  | .ret a,f,g=>rfl
  | .draw n k,f,g=>by simp only [draw_bind]; congr 1; funext r; exact bind_assoc (k r) f g
  | .fail,f,g=>rfl
noncomputable def of:Option α→Tr α
  | some a=>.ret a
  | none=>.fail
@[simp] theorem of_some (a:α):Tr.of (some a)=.ret a:=rfl
@[simp] theorem of_none:Tr.of (none:Option α)=.fail:=rfl
noncomputable def ok:Tr α→Nat→(Nat→α→Prop)→Prop
  | .ret a,m,Q=>Q m a
  | .draw n k,m,Q=>m < 400000∧0 < n∧n < 1073741824∧∀ r,0≤r→r < n→(k r).ok (m+1) Q
  | .fail,_,_=>False
theorem ok_mono:∀ {t:Tr α} {m:Nat} {Q Q':Nat→α→Prop},t.ok m Q→(∀ m a,Q m a→Q' m a)→t.ok m Q'
  | .ret a,m,_,_,h,hq=>hq m a h
  | .draw n k,m,_,_,⟨h1,h2,h3,h⟩,hq=>⟨h1,h2,h3,fun r h0 h1=>ok_mono (h r h0 h1) hq⟩
theorem ok_bind:∀ {t:Tr α} {f:α→Tr β} {m:Nat} {Q:Nat→β→Prop},(t.bind f).ok m Q ↔ t.ok m fun m' a=>(f a).ok m' Q
  | .ret a,f,m,Q=>Iff.rfl
  | .draw n k,f,m,Q=>by
    show (_∧_∧_∧∀ r,_) ↔ (_∧_∧_∧∀ r,_)
    refine and_congr_right fun _=>and_congr_right fun _=>and_congr_right fun _=>forall_congr' fun r=>forall_congr' fun _=>forall_congr' fun _=>ok_bind
  | .fail,f,m,Q=>Iff.rfl
theorem ok_of {o:Option α} {m:Nat} {Q:Nat→α→Prop} (h:(Tr.of o).ok m Q):∃ a,o=some a∧Q m a:=by
  cases o with
  | none=>exact h.elim
  | some a=>exact ⟨a,rfl,h⟩
noncomputable def all:Tr α→Nat→(α→Prop)→Prop
  | .ret a,_,P=>P a
  | .draw w k,n+1,P=>0 < w∧w < 1073741824∧∀ r,0≤r→r < w→(k r).all n P
  | .draw _ _,0,_=>False
  | .fail,_,_=>False
theorem all_ok:∀ {t:Tr α} {n m:Nat} {P:α→Prop},t.all n P→m+n≤400000→t.ok m fun m' a=>m'≤m+n∧P a
  | .ret a,n,m,P,h,hm=>⟨by omega,h⟩
  | .draw w k,n+1,m,P,⟨h1,h2,h⟩,hm=>⟨by omega,h1,h2,fun r a b=>ok_mono (all_ok (h r a b) (by omega)) fun m' x hz0=>by
    obtain ⟨p,q⟩:=hz0
    exact ⟨by omega,q⟩⟩
theorem all_mono:∀ {t:Tr α} {n n':Nat} {P P':α→Prop},t.all n P→n≤n'→(∀ a,P a→P' a)→t.all n' P'
  | .ret a,n,n',P,P',h,hn,hp=>hp a h
  | .draw w k,n+1,n'+1,P,P',⟨h1,h2,h⟩,hn,hp=>⟨h1,h2,fun r a b=>all_mono (h r a b) (by omega) hp⟩
  | .draw w k,n+1,0,P,P',h,hn,hp=>by omega
theorem all_bind:∀ {t:Tr α} {f:α→Tr β} {n n':Nat} {P:α→Prop} {P':β→Prop},t.all n P→(∀ a,P a→(f a).all n' P')→(t.bind f).all (n+n') P'
  | .ret a,f,n,n',P,P',h,hf=>all_mono (hf a h) (by omega) fun _ x=>x
  | .draw w k,f,n+1,n',P,P',⟨h1,h2,h⟩,hf=>by
    have e:n+1+n'=(n+n')+1:=by omega
    rw [e]
    exact ⟨h1,h2,fun r a b=>all_bind (h r a b) hf⟩
end Tr
noncomputable abbrev Sub (G H:Hp):Prop:=∀ b o,G b=some o→H b=some o
structure Pk where
  is:HO→Hp→Nat→Prop
  mono:∀ {o:HO} {G G':Hp} {m:Nat},Sub G G'→is o G m→is o G' m
structure Wd (PK:Pk) (pa:Addr) (m:Nat) (G H:Hp):Prop where
  sub:Sub G H
  gpa:G pa=none
  pen:∃ o,H pa=some o∧PK.is o G m
structure Stp (pa:Addr) (G H G' H':Hp):Prop where
  gs:Sub G G'
  gn:∀ b o,G' b=some o→G b=some o∨H b=none
  hk:∀ b o,H b=some o→b≠pa→H' b=some o
theorem Stp.refl {pa:Addr} {G H:Hp}:Stp pa G H G H:=⟨fun _ _ h=>h,fun _ _ h=>.inl h,fun _ _ h _=>h⟩
theorem Stp.trans {pa:Addr} {G H G1 H1 G2 H2:Hp} (a:Stp pa G H G1 H1) (b:Stp pa G1 H1 G2 H2) (hp:∃ o,H1 pa=some o):Stp pa G H G2 H2:=by
  refine ⟨fun c o h=>b.gs c o (a.gs c o h),fun c o h=>?_,fun c o h n=>b.hk c o (a.hk c o h n) n⟩
  rcases b.gn c o h with z | z
  · exact a.gn c o z
  · refine .inr ?_
    cases e:H c with
    | none=>rfl
    | some u =>
      by_cases hc:c=pa
      · subst hc
        obtain ⟨o',z'⟩:=hp
        rw [z'] at z; cases z
      · rw [a.hk c u e hc] at z; cases z
section
variable {PK:Pk} {pa:Addr} {m:Nat} {G H:Hp}
theorem Wd.some (w:Wd PK pa m G H):∃ o,H pa=some o:=let ⟨o,h,_⟩:=w.pen; ⟨o,h⟩
theorem Wd.ne (w:Wd PK pa m G H) {p:Addr} (hp:H p=none):pa≠p:=fun e=>by
  obtain ⟨o,h⟩:=w.some
  rw [e,hp] at h; cases h
theorem Sub.new {p:Addr} {o:HO} (hp:G p=none):Sub G (upd G p o):=fun b u h=>by rw [upd_ne (ne_of_none h hp)]; exact h
theorem Wd.gnone (w:Wd PK pa m G H) {p:Addr} (hp:H p=none):G p=none:=by
  cases e:G p with
  | none=>rfl
  | some o=>rw [w.sub p o e] at hp; cases hp
theorem Sub.upd2 {p:Addr} {o:HO} (s:Sub G H):Sub (upd G p o) (upd H p o):=fun b u h=>by
  by_cases e:b=p
  · subst e; rw [upd_same] at h ⊢; exact h
  · rw [upd_ne e] at h ⊢; exact s b u h
theorem Wd.new (w:Wd PK pa m G H) {p:Addr} {o:HO} (hp:H p=none):Wd PK pa m (upd G p o) (upd H p o)∧Stp pa G H (upd G p o) (upd H p o):=by
  have hg:=w.gnone hp
  have hne:=w.ne hp
  refine ⟨⟨w.sub.upd2,by rw [upd_ne hne]; exact w.gpa,?_⟩,⟨Sub.new hg,fun b u h=>?_,fun b u h _=>by rw [upd_ne (ne_of_none h hp)]; exact h⟩⟩
  · obtain ⟨u,h,q⟩:=w.pen
    exact ⟨u,by rw [upd_ne hne]; exact h,PK.mono (Sub.new hg) q⟩
  · by_cases e:b=p
    · subst e; exact .inr hp
    · rw [upd_ne e] at h; exact .inl h
theorem Wd.own (w:Wd PK pa m G H) {p:Addr} {o:HO} (hp:H p=none):Wd PK pa m G (upd H p o)∧Stp pa G H G (upd H p o):=by
  have hne:=w.ne hp
  refine ⟨⟨fun b u h=>by rw [upd_ne (ne_of_none (w.sub b u h) hp)]; exact w.sub b u h,w.gpa,?_⟩,⟨fun _ _ h=>h,fun _ _ h=>.inl h,fun b u h _=>by rw [upd_ne (ne_of_none h hp)]; exact h⟩⟩
  obtain ⟨u,h,q⟩:=w.pen
  exact ⟨u,by rw [upd_ne hne]; exact h,q⟩
theorem Wd.freeze (w:Wd PK pa m G H) {p:Addr} {o:HO} (hp:H p=Option.some o) (hg:G p=none) (hne:pa≠p):Wd PK pa m (upd G p o) H:=by
  refine ⟨fun b u h=>?_,by rw [upd_ne hne]; exact w.gpa,?_⟩
  · by_cases e:b=p
    · subst e; rw [upd_same] at h; rw [hp]; exact h
    · rw [upd_ne e] at h; exact w.sub b u h
  · obtain ⟨u,h,q⟩:=w.pen
    exact ⟨u,h,PK.mono (Sub.new hg) q⟩

noncomputable def Kn (PK:Pk) (pa:Addr) (m:Nat) (G H:Hp) (x:PyData) (Q:VK):Prop:=∀ v G' H',Stp pa G H G' H'→Wd PK pa m G' H'→Dn G' v x→Q v H'
variable {x:PyData} {Q:VK} {v:V} {vs:List V} {ds:List PyData} {p:Addr}
theorem Kn.here (k:Kn PK pa m G H x Q) (w:Wd PK pa m G H) (d:Dn G v x):Q v H:=k v G H .refl w d
theorem Kn.tup (k:Kn PK pa m G H (.tuple ds) Q) (w:Wd PK pa m G H) (d:DnAll G vs ds) (hp:H p=none):Q (.ref p) (upd H p (.tup vs)):=by
  obtain ⟨w1,s1⟩:=w.new (o:=.tup vs) hp
  exact k _ _ _ s1 w1 (.tup upd_same (DnAll.mono s1.gs d))
theorem Kn.lst (k:Kn PK pa m G H (.list ds) Q) (w:Wd PK pa m G H) (d:DnAll G vs ds) (hp:H p=none):Q (.ref p) (upd H p (.lst vs)):=by
  obtain ⟨w1,s1⟩:=w.new (o:=.lst vs) hp
  exact k _ _ _ s1 w1 (.lst upd_same (DnAll.mono s1.gs d))
theorem Kn.later {G1 H1:Hp} (k:Kn PK pa m G H x Q) (s:Stp pa G H G1 H1) (hp:∃ o,H1 pa=Option.some o):Kn PK pa m G1 H1 x Q:=fun v G' H' s' w d=>k v G' H' (s.trans s' hp) w d
end
inductive Sl where
  | un | d (x:PyData) | own (xs:List PyData) | pen
inductive SlOk (pa:Addr) (H₀ G H:Hp):Option V→Sl→Prop
  | un {o:Option V}:SlOk pa H₀ G H o .un
  | d {v:V} {x:PyData}:Dn G v x→SlOk pa H₀ G H (some v) (.d x)
  | own {p:Addr} {vs:List V} {xs:List PyData}:H p=some (.lst vs)→G p=none→H₀ p=none→DnAll G vs xs→SlOk pa H₀ G H (some (.ref p)) (.own xs)
  | pen:SlOk pa H₀ G H (some (.ref pa)) .pen
structure Rl (PK:Pk) (pa:Addr) (G₀ H₀:Hp) (m:Nat) (σ:St) (ρ:List Sl) (G H:Hp):Prop where
  wd:Wd PK pa m G H
  st:Stp pa G₀ H₀ G H
  p0:∃ o,H₀ pa=some o
  sl:∀ (i:Nat) (s:Sl),ρ[i]?=some s→∃ o,σ[i]?=some o∧SlOk pa H₀ G H o s
  len:ρ.length=σ.length
  dj:∀ (i j:Nat) (xs ys:List PyData),i≠j→ρ[i]?=some (.own xs)→ρ[j]?=some (.own ys)→σ[i]?≠σ[j]?
section
variable {PK:Pk} {pa:Addr} {G₀ H₀ G H:Hp} {m:Nat} {σ:St} {ρ:List Sl}
theorem SlOk.step {G' H':Hp} {o:Option V} {s:Sl} (k:SlOk pa H₀ G H o s) (hp0:∃ o,H₀ pa=some o) (st:Stp pa G H G' H'):SlOk pa H₀ G' H' o s:=by
  cases k with
  | un=>exact .un
  | d h=>exact .d (h.mono st.gs)
  | pen=>exact .pen
  | @own p vs xs h1 h2 h3 h4 =>
    have hne:p≠pa:=fun e=>by
      obtain ⟨u,hu⟩:=hp0
      rw [← e,h3] at hu; cases hu
    refine .own (st.hk _ _ h1 hne) ?_ h3 (DnAll.mono st.gs h4)
    cases e:G' p with
    | none=>rfl
    | some u =>
      rcases st.gn p u e with z | z
      · rw [h2] at z; cases z
      · rw [h1] at z; cases z
theorem Rl.step {G' H':Hp} {m':Nat} (r:Rl PK pa G₀ H₀ m σ ρ G H) (s:Stp pa G H G' H') (w:Wd PK pa m' G' H'):Rl PK pa G₀ H₀ m' σ ρ G' H' :=
  ⟨w,r.st.trans s r.wd.some,r.p0,fun i sl h=>let ⟨o,h1,h2⟩:=r.sl i sl h; ⟨o,h1,h2.step r.p0 s⟩,r.len,r.dj⟩
theorem Rl.set (r:Rl PK pa G₀ H₀ m σ ρ G H) {v:V} {x:PyData} (d:Dn G v x) (k:Nat):Rl PK pa G₀ H₀ m (σ.set k (some v)) (ρ.set k (.d x)) G H:=by
  refine ⟨r.wd,r.st,r.p0,fun i s h=>?_,by rw [List.length_set,List.length_set]; exact r.len,fun i j xs ys hij h1 h2=>?_⟩
  · by_cases e:k=i
    · subst e
      have hl:k < ρ.length:=by
        have:=(List.getElem?_eq_some_iff.mp h).1
        rwa [List.length_set] at this
      rw [List.getElem?_set_self hl] at h
      cases h
      exact ⟨_,List.getElem?_set_self (by rw [← r.len]; exact hl),.d d⟩
    · rw [List.getElem?_set_ne e] at h ⊢
      exact r.sl i s h
  · have hi:k≠i:=fun e=>by
      subst e
      have hl:k < ρ.length:=by
        have:=(List.getElem?_eq_some_iff.mp h1).1
        rwa [List.length_set] at this
      rw [List.getElem?_set_self hl] at h1; cases h1
    have hj:k≠j:=fun e=>by
      subst e
      have hl:k < ρ.length:=by
        have:=(List.getElem?_eq_some_iff.mp h2).1
        rwa [List.length_set] at this
      rw [List.getElem?_set_self hl] at h2; cases h2
    rw [List.getElem?_set_ne hi] at h1 ⊢
    rw [List.getElem?_set_ne hj] at h2 ⊢
    exact r.dj i j xs ys hij h1 h2
noncomputable def fz (k:Nat) (ρ:List Sl):List Sl:=match ρ[k]? with
  | some (.own xs)=>ρ.set k (.d (.list xs))
  | _=>ρ
end
end L2
set_option Elab.async false
set_option linter.all false
set_option maxRecDepth 100000
namespace L2
open PySem PySem.Spec PyProof.Rows
noncomputable def TAe (PK:Pk) (i:List Sl→Tr PyData):TE:=fun σ H Q=>∃ pa G₀ H₀ m ρ G,Rl PK pa G₀ H₀ m σ ρ G H∧(i ρ).ok m fun m' x=>Kn PK pa m' G H x Q
noncomputable def TAt (PK:Pk) (i:List Sl→Tr Bool):TT:=fun σ H Q=>∃ pa G₀ H₀ m ρ G,Rl PK pa G₀ H₀ m σ ρ G H∧(i ρ).ok m fun m' b=>∀ G' H',Stp pa G H G' H'→Wd PK pa m' G' H'→Q b H'
noncomputable def TAd (PK:Pk) (i:List Sl→Tr (List PyData)):TA:=fun σ H Q=>∃ pa G₀ H₀ m ρ G,Rl PK pa G₀ H₀ m σ ρ G H∧(i ρ).ok m fun m' xs=>∀ vs G' H',Stp pa G H G' H'→Wd PK pa m' G' H'→DnAll G' vs xs→Q vs H'
noncomputable def Ko1 (PK:Pk) (pa:Addr) (m:Nat) (G H:Hp) (xs:List PyData) (Q:VK):Prop:=∀ p vs G' H',Stp pa G H G' H'→Wd PK pa m G' H'→H p=none→G' p=none→H' p=some (.lst vs)→DnAll G' vs xs→Q (.ref p) H'
noncomputable def TAo (PK:Pk) (i:List Sl→Tr (List PyData)):TE:=fun σ H Q=>∃ pa G₀ H₀ m ρ G,Rl PK pa G₀ H₀ m σ ρ G H∧(i ρ).ok m fun m' xs=>Ko1 PK pa m' G H xs Q
inductive ArOk (pa:Addr) (G:Hp):V→Sl→Prop
  | d {v:V} {x:PyData}:Dn G v x→ArOk pa G v (.d x)
  | pen:ArOk pa G (.ref pa) .pen
inductive ArsOk (pa:Addr) (G:Hp):List V→List Sl→Prop
  | nil:ArsOk pa G [] []
  | cons {v:V} {vs:List V} {s:Sl} {ss:List Sl}:ArOk pa G v s→ArsOk pa G vs ss→ArsOk pa G (v::vs) (s::ss)
theorem ArsOk.length {pa:Addr} {G:Hp} {vs:List V} {ss:List Sl} (h:ArsOk pa G vs ss):vs.length=ss.length:=by
  induction h with
  | nil=>rfl
  | cons h t ih=>exact congrArg (·+1) ih
noncomputable def TAa (PK:Pk) (i:List Sl→Tr (List Sl)):TA:=fun σ H Q=>∃ pa G₀ H₀ m ρ G,Rl PK pa G₀ H₀ m σ ρ G H∧(i ρ).ok m fun m' as=>∀ vs G' H',Stp pa G H G' H'→Wd PK pa m' G' H'→ArsOk pa G' vs as→Q vs H'

inductive Re where
  | d (x:PyData) | own (xs:List PyData)
noncomputable def Re.val:Re→PyData
  | .d x=>x
  | .own xs=>.list xs
@[simp] theorem Re.val_d (x:PyData):(Re.d x).val=x:=rfl
@[simp] theorem Re.val_own (xs:List PyData):(Re.own xs).val=.list xs:=rfl
inductive Ou where
  | next (ρ:List Sl) | ret (r:Re) | brk (ρ:List Sl) | cont (ρ:List Sl)
noncomputable def ReOk (H₀ G H:Hp) (v:V):Re→Prop
  | .d x=>Dn G v x
  | .own xs=>∃ p vs,v=.ref p∧H p=some (.lst vs)∧G p=none∧H₀ p=none∧DnAll G vs xs
noncomputable def Kr (PK:Pk) (pa:Addr) (m:Nat) (G₀ H₀:Hp) (r:Re) (Q:VK):Prop:=∀ v G H,Stp pa G₀ H₀ G H→Wd PK pa m G H→ReOk H₀ G H v r→Q v H
noncomputable def Ko (PK:Pk) (pa:Addr) (G₀ H₀ Gs:Hp) (D:Ends) (m:Nat):Ou→Prop
  | .next ρ=>∀ σ G H,Sub Gs G→Rl PK pa G₀ H₀ m σ ρ G H→D.nx σ H
  | .ret r=>Kr PK pa m G₀ H₀ r D.rt
  | .brk ρ=>∀ σ G H,Sub Gs G→Rl PK pa G₀ H₀ m σ ρ G H→D.bk σ H
  | .cont ρ=>∀ σ G H,Sub Gs G→Rl PK pa G₀ H₀ m σ ρ G H→D.ct σ H
noncomputable def TAs (PK:Pk) (i:List Sl→Tr Ou):TS:=fun D σ H=>∃ pa G₀ H₀ m ρ G,Rl PK pa G₀ H₀ m σ ρ G H∧(i ρ).ok m (Ko PK pa G₀ H₀ G D)

theorem PE.imp {X:Cx} {e:Expr} {t t':TE} (h:PE X e t) (q:∀ σ H Q,t' σ H Q→t σ H Q):PE X e t':=fun pins s σ H Q I z=>h pins s σ H Q I (q σ H Q z)
theorem PT.imp {X:Cx} {e:Expr} {t t':TT} (h:PT X e t) (q:∀ σ H Q,t' σ H Q→t σ H Q):PT X e t':=fun pins s σ H Q I z=>h pins s σ H Q I (q σ H Q z)
theorem PW.imp {X:Cx} {e:Expr} {t t':TT} (h:PW X e t) (q:∀ σ H Q,t' σ H Q→t σ H Q):PW X e t':=fun wh pins s σ H Q I z=>h wh pins s σ H Q I (q σ H Q z)
theorem PA.imp {X:Cx} {e:List Expr} {t t':TA} (h:PA X e t) (q:∀ σ H Q,t' σ H Q→t σ H Q):PA X e t':=fun pos pins s σ H Q I z=>h pos pins s σ H Q I (q σ H Q z)
theorem PS.imp {X:Cx} {e:Stmt} {t t':TS} (h:PS X e t) (q:∀ D σ H,t' D σ H→t D σ H):PS X e t':=fun pins s σ H D I z=>h pins s σ H D I (q D σ H z)
theorem PSs.imp {X:Cx} {e:List Stmt} {t t':TS} (h:PSs X e t) (q:∀ D σ H,t' D σ H→t D σ H):PSs X e t':=fun pins s σ H D I z=>h pins s σ H D I (q D σ H z)

variable {PK:Pk} {X:Cx} {a b c e:Expr} {es:List Expr} {pos:Pos} {i j l:List Sl→Tr PyData}
theorem TAe.then {σ:St} {H:Hp} {β:Type} {k:PyData→Tr β} {Z:Nat→β→Prop} {Q:VK} {pa:Addr} {G₀ H₀ G:Hp} {m:Nat} {ρ:List Sl} (R:Rl PK pa G₀ H₀ m σ ρ G H) (h:((i ρ).bind k).ok m Z)
    (hq:∀ m1 x v G1 H1,Stp pa G H G1 H1→Wd PK pa m1 G1 H1→Rl PK pa G₀ H₀ m1 σ ρ G1 H1→Dn G1 v x→(k x).ok m1 Z→Q v H1):TAe PK i σ H Q:=by
  refine ⟨pa,G₀,H₀,m,ρ,G,R,Tr.ok_mono (Tr.ok_bind.mp h) fun m1 x hx v G1 H1 s1 w1 d1=>?_⟩
  exact hq m1 x v G1 H1 s1 w1 (R.step s1 w1) d1 hx

noncomputable def aVar (k:Nat):List Sl→Tr PyData:=fun ρ=>match ρ[k]? with
  | some (.d x)=>.ret x
  | _=>.fail
noncomputable def aC (d:PyData):List Sl→Tr PyData:=fun _=>.ret d
theorem ae_var {k:Nat} (h:PE X e (tVar k)):PE X e (TAe PK (aVar k)):=h.imp fun σ H Q hz0=>by
  obtain ⟨pa,G₀,H₀,m,ρ,G,R,q⟩:=hz0
  unfold aVar at q
  split at q
  · rename_i x hx
    obtain ⟨o,h1,h2⟩:=R.sl k _ hx
    cases h2 with
    | d z=>exact ⟨_,h1,Kn.here q R.wd z⟩
  · exact q.elim
theorem ae_c {v:V} {d:PyData} (h:PE X e (tC v)) (hd:∀ G,Dn G v d):PE X e (TAe PK (aC d)):=h.imp fun σ H Q hz0=>by
  obtain ⟨pa,G₀,H₀,m,ρ,G,R,q⟩:=hz0
  exact Kn.here q R.wd (hd G)
theorem ae_int {n:Int} {k pos}:PE X (.Constant (.int n) k pos) (TAe PK (aC (.int n))):=ae_c pe_int fun _=>.int n
theorem ae_bl {n:Bool} {k pos}:PE X (.Constant (.bool n) k pos) (TAe PK (aC (.bool n))):=ae_c pe_bl fun _=>.bl n
noncomputable def VOp2 (r:R2) (f:PyData→PyData→Option PyData):Prop:=∀ (PK:Pk) (pa:Addr) (m:Nat) (G H:Hp) (x y:V) (dx dy dz:PyData) (Q:VK),Wd PK pa m G H→Dn G x dx→Dn G y dy→f dx dy=some dz→Kn PK pa m G H dz Q→r x y H Q
noncomputable def aBin (f:PyData→PyData→Option PyData) (i j:List Sl→Tr PyData):List Sl→Tr PyData:=fun ρ=>(i ρ).bind fun x=>(j ρ).bind fun y=>Tr.of (f x y)
theorem aBin_read {r:R2} {f:PyData→PyData→Option PyData} (hv:VOp2 r f):∀ σ H Q,TAe PK (aBin f i j) σ H Q→tOp r (TAe PK i) (TAe PK j) σ H Q:=by
  rintro σ H Q ⟨pa,G₀,H₀,m,ρ,G,R,q⟩
  refine TAe.then R q fun m1 x v G1 H1 s1 w1 R1 d1 q1=>?_
  refine TAe.then R1 q1 fun m2 y u G2 H2 s2 w2 R2 d2 q2=>?_
  obtain ⟨z,hz,k⟩:=Tr.ok_of q2
  exact hv PK pa m2 G2 H2 v u x y z Q w2 (d1.mono s2.gs) d2 hz (Kn.later k (s1.trans s2 w1.some) w2.some)
theorem ae_op {op:Operator} {r:R2} {f:PyData→PyData→Option PyData} (ho:OpR X (binaryOp op) r) (hv:VOp2 r f) (ha:PE X a (TAe PK i)) (hb:PE X b (TAe PK j)):PE X (.BinOp a op b pos) (TAe PK (aBin f i j)) :=
  (pe_op ho ha hb).imp (aBin_read hv)
theorem ae_cmp {op:CmpOp} {r:R2} {f:PyData→PyData→Option PyData} (ho:OpR X (compareOp op) r) (hv:VOp2 r f) (ha:PE X a (TAe PK i)) (hb:PE X b (TAe PK j)) (hm:behindInMarks op b=false):PE X (.Compare a [op] [b] pos) (TAe PK (aBin f i j)) :=
  (pe_cmpR ho ha hb hm).imp (aBin_read hv)
theorem ae_ix {r:R2} {f:PyData→PyData→Option PyData} (hr:IxR X r) (hv:VOp2 r f) (ha:PE X a (TAe PK i)) (hb:PE X b (TAe PK j)) (hs:PlainIx b):PE X (.Subscript a b pos) (TAe PK (aBin f i j)) :=
  (pe_ix hr ha hb hs).imp (aBin_read hv)
noncomputable def toB:PyData→Option Bool
  | .bool b=>some b
  | _=>none
@[simp] theorem toB_bool (b:Bool):toB (.bool b)=some b:=rfl
noncomputable def aTest (i:List Sl→Tr PyData):List Sl→Tr Bool:=fun ρ=>(i ρ).bind fun x=>Tr.of (toB x)
theorem aTest_read:∀ σ H Q,TAt PK (aTest i) σ H Q→tTest (TAe PK i) σ H Q:=by
  rintro σ H Q ⟨pa,G₀,H₀,m,ρ,G,R,q⟩
  refine TAe.then R q fun m1 x v G1 H1 s1 w1 R1 d1 q1=>?_
  obtain ⟨b,hb,k⟩:=Tr.ok_of q1
  cases d1 <;> simp only [toB] at hb <;> cases hb
  exact ⟨_,rfl,k G1 H1 s1 w1⟩
theorem tTest_mono {t t':TE} (h:∀ σ H Q,t' σ H Q→t σ H Q):∀ σ H Q,tTest t' σ H Q→tTest t σ H Q:=fun σ H Q z=>h σ H _ z
theorem at_cmp {op:CmpOp} {r:R2} {f:PyData→PyData→Option PyData} (ho:OpR X (compareOp op) r) (hv:VOp2 r f) (ha:PE X a (TAe PK i)) (hb:PE X b (TAe PK j)) (hm:behindInMarks op b=false):PT X (.Compare a [op] [b] pos) (TAt PK (aTest (aBin f i j))) :=
  (pt_cmpR ho ha hb hm).imp fun σ H Q z=>tTest_mono (aBin_read hv) σ H Q (aTest_read σ H Q z)
noncomputable def truD:PyData→Option Bool
  | .bool b=>some b
  | .int n=>some (n != 0)
  | .none=>some false
  | .list xs=>some (!xs.isEmpty)
  | .tuple xs=>some (!xs.isEmpty)
  | _=>none
noncomputable def aTru (i:List Sl→Tr PyData):List Sl→Tr Bool:=fun ρ=>(i ρ).bind fun x=>Tr.of (truD x)
theorem DnAll.isEmpty {H:Hp} {vs:List V} {ds:List PyData} (h:DnAll H vs ds):vs.isEmpty=ds.isEmpty:=by
  cases h <;> rfl
theorem at_tru (h:PE X e (TAe PK i)) (he:∀ whole,isTrue e X.env whole=(do let v ← whole; standAt e.pos; holding [v] (truthy v)):=by intro _; rfl):PT X e (TAt PK (aTru i)):=(pt_truth h he).imp fun σ H Q hz0=>by
  obtain ⟨pa,G₀,H₀,m,ρ,G,R,q⟩:=hz0
  refine TAe.then R q fun m1 x v G1 H1 s1 w1 R1 d1 q1=>?_
  obtain ⟨b,hb,k⟩:=Tr.ok_of q1
  have fin:=k G1 H1 s1 w1
  cases d1 with
  | non=>cases hb; exact ⟨_,rfl,fin⟩
  | bl b=>cases hb; exact ⟨_,rfl,fin⟩
  | int n=>cases hb; exact ⟨_,rfl,fin⟩
  | str _=>cases hb
  | tup h1 h2=>cases hb; exact ⟨_,.inr (.inl ⟨_,SqT.of (w1.sub _ _ h1),rfl⟩),by rw [h2.isEmpty]; exact fin⟩
  | lst h1 h2=>cases hb; exact ⟨_,.inl ⟨_,SqL.of (w1.sub _ _ h1),rfl⟩,by rw [h2.isEmpty]; exact fin⟩
  | dct _ _=>cases hb

noncomputable def aAnd (i j:List Sl→Tr Bool):List Sl→Tr Bool:=fun ρ=>(i ρ).bind fun x=>if x=true then j ρ else .ret false
noncomputable def aOr (i j:List Sl→Tr Bool):List Sl→Tr Bool:=fun ρ=>(i ρ).bind fun x=>if x=true then .ret true else j ρ
noncomputable def aNot (i:List Sl→Tr Bool):List Sl→Tr Bool:=fun ρ=>(i ρ).bind fun x=>.ret (!x)
variable {p q:List Sl→Tr Bool} {rest:List Expr}
theorem TAt.then {σ:St} {H:Hp} {β:Type} {k:Bool→Tr β} {Z:Nat→β→Prop} {Q:Bool→Hp→Prop} {pa:Addr} {G₀ H₀ G:Hp} {m:Nat} {ρ:List Sl} (R:Rl PK pa G₀ H₀ m σ ρ G H) (h:((p ρ).bind k).ok m Z)
    (hq:∀ m1 x G1 H1,Stp pa G H G1 H1→Wd PK pa m1 G1 H1→Rl PK pa G₀ H₀ m1 σ ρ G1 H1→(k x).ok m1 Z→Q x H1):TAt PK p σ H Q:=by
  refine ⟨pa,G₀,H₀,m,ρ,G,R,Tr.ok_mono (Tr.ok_bind.mp h) fun m1 x hx G1 H1 s1 w1=>?_⟩
  exact hq m1 x G1 H1 s1 w1 (R.step s1 w1) hx
theorem at_later {G₀ H₀ G H G1 H1:Hp} {m:Nat} {σ:St} {ρ:List Sl} {pa:Addr} {Q:Bool→Hp→Prop} (R1:Rl PK pa G₀ H₀ m σ ρ G1 H1) (s1:Stp pa G H G1 H1) (h:(q ρ).ok m fun m' b=>∀ G' H',Stp pa G H G' H'→Wd PK pa m' G' H'→Q b H'):TAt PK q σ H1 Q :=
  ⟨pa,G₀,H₀,m,ρ,G1,R1,Tr.ok_mono h fun m2 b k G2 H2 s2 w2=>k G2 H2 (s1.trans s2 R1.wd.some) w2⟩
theorem ae_later {G₀ H₀ G H G1 H1:Hp} {m:Nat} {σ:St} {ρ:List Sl} {pa:Addr} {Q:VK} (R1:Rl PK pa G₀ H₀ m σ ρ G1 H1) (s1:Stp pa G H G1 H1) (h:(i ρ).ok m fun m' x=>Kn PK pa m' G H x Q):TAe PK i σ H1 Q :=
  ⟨pa,G₀,H₀,m,ρ,G1,R1,Tr.ok_mono h fun m2 b k=>Kn.later k s1 R1.wd.some⟩
theorem aw_or1 (ha:PT X a (TAt PK p)):PW X (.BoolOp .Or [a] pos) (TAt PK p):=pw_or1 ha
theorem aw_or (ha:PT X a (TAt PK p)) (hb:PW X (.BoolOp .Or (b::rest) pos) (TAt PK q)):PW X (.BoolOp .Or (a::b::rest) pos) (TAt PK (aOr p q)):=(pw_or ha hb).imp fun σ H Q hz0=>by
  obtain ⟨pa,G₀,H₀,m,ρ,G,R,z⟩:=hz0
  refine TAt.then R z fun m1 x G1 H1 s1 w1 R1 q1=>?_
  cases x with
  | true=>rw [if_pos rfl] at q1 ⊢; exact q1 G1 H1 s1 w1
  | false=>rw [if_neg Bool.false_ne_true] at q1 ⊢; exact at_later R1 s1 q1
theorem at_w (h:PW X e (TAt PK p)):PT X e (TAt PK p):=h.pt
theorem at_not (ha:PT X a (TAt PK p)):PT X (.UnaryOp .Not a pos) (TAt PK (aNot p)):=(pt_not ha).imp fun σ H Q hz0=>by
  obtain ⟨pa,G₀,H₀,m,ρ,G,R,z⟩:=hz0
  refine TAt.then R z fun m1 x G1 H1 s1 w1 R1 q1=>?_
  exact q1 G1 H1 s1 w1
noncomputable def aAndV (i j:List Sl→Tr PyData):List Sl→Tr PyData:=fun ρ=>(aTest i ρ).bind fun x=>if x=true then j ρ else .ret (.bool false)
noncomputable def aOrV (i j:List Sl→Tr PyData):List Sl→Tr PyData:=fun ρ=>(aTest i ρ).bind fun x=>if x=true then .ret (.bool true) else j ρ
noncomputable def aNotV (i:List Sl→Tr PyData):List Sl→Tr PyData:=fun ρ=>(aTest i ρ).bind fun x=>.ret (.bool (!x))
theorem TAe.thenB {σ:St} {H:Hp} {β:Type} {k:Bool→Tr β} {Z:Nat→β→Prop} {Q:VK} {pa:Addr} {G₀ H₀ G:Hp} {m:Nat} {ρ:List Sl} (R:Rl PK pa G₀ H₀ m σ ρ G H) (h:((aTest i ρ).bind k).ok m Z)
    (hq:∀ m1 c G1 H1,Stp pa G H G1 H1→Wd PK pa m1 G1 H1→Rl PK pa G₀ H₀ m1 σ ρ G1 H1→(k c).ok m1 Z→Q (.bl c) H1):TAe PK i σ H Q:=by
  unfold aTest at h
  rw [Tr.bind_assoc] at h
  refine TAe.then R h fun m1 x v G1 H1 s1 w1 R1 d1 q1=>?_
  rw [Tr.ok_bind] at q1
  obtain ⟨c,hb,q1⟩:=Tr.ok_of q1
  cases d1 <;> simp only [toB] at hb <;> cases hb
  exact hq m1 _ G1 H1 s1 w1 R1 q1
theorem ae_one {op} (h:PE X a (TAe PK i)):PE X (.BoolOp op [a] pos) (TAe PK i):=pe_one h
theorem ae_and (ha:PE X a (TAe PK i)) (hb:PE X (.BoolOp .And (b::rest) pos) (TAe PK j)):PE X (.BoolOp .And (a::b::rest) pos) (TAe PK (aAndV i j)):=(pe_and ha hb).imp fun σ H Q hz0=>by
  obtain ⟨pa,G₀,H₀,m,ρ,G,R,z⟩:=hz0
  refine TAe.thenB R z fun m1 x G1 H1 s1 w1 R1 q1=>⟨x,rfl,?_⟩
  cases x with
  | true=>rw [if_pos rfl] at q1 ⊢; exact ae_later R1 s1 q1
  | false=>rw [if_neg Bool.false_ne_true] at q1 ⊢; exact (Kn.later q1 s1 w1.some).here w1 (.bl false)
theorem ae_not (ha:PE X a (TAe PK i)):PE X (.UnaryOp .Not a pos) (TAe PK (aNotV i)):=(pe_not ha).imp fun σ H Q hz0=>by
  obtain ⟨pa,G₀,H₀,m,ρ,G,R,z⟩:=hz0
  refine TAe.thenB R z fun m1 x G1 H1 s1 w1 R1 q1=>⟨x,rfl,?_⟩
  exact (Kn.later q1 s1 w1.some).here w1 (.bl _)
noncomputable def aIf (p:List Sl→Tr Bool) (i j:List Sl→Tr PyData):List Sl→Tr PyData:=fun ρ=>(p ρ).bind fun x=>if x=true then i ρ else j ρ
variable {is:List Sl→Tr (List PyData)}
noncomputable def aNil:List Sl→Tr (List PyData):=fun _=>.ret []
noncomputable def aCons (i:List Sl→Tr PyData) (is:List Sl→Tr (List PyData)):List Sl→Tr (List PyData):=fun ρ=>(i ρ).bind fun x=>(is ρ).bind fun xs=>.ret (x::xs)
theorem ad_nil:PA X [] (TAd PK aNil):=pa_nil.imp fun σ H Q hz0=>by
  obtain ⟨pa,G₀,H₀,m,ρ,G,R,z⟩:=hz0
  exact z [] G H .refl R.wd .nil
theorem TAd.then {σ:St} {H:Hp} {β:Type} {k:List PyData→Tr β} {Z:Nat→β→Prop} {Q:List V→Hp→Prop} {pa:Addr} {G₀ H₀ G:Hp} {m:Nat} {ρ:List Sl} (R:Rl PK pa G₀ H₀ m σ ρ G H) (h:((is ρ).bind k).ok m Z)
    (hq:∀ m1 xs vs G1 H1,Stp pa G H G1 H1→Wd PK pa m1 G1 H1→Rl PK pa G₀ H₀ m1 σ ρ G1 H1→DnAll G1 vs xs→(k xs).ok m1 Z→Q vs H1):TAd PK is σ H Q:=by
  refine ⟨pa,G₀,H₀,m,ρ,G,R,Tr.ok_mono (Tr.ok_bind.mp h) fun m1 x hx v G1 H1 s1 w1 d1=>?_⟩
  exact hq m1 x v G1 H1 s1 w1 (R.step s1 w1) d1 hx
theorem ad_cons (ha:PE X e (TAe PK i)) (hr:PA X es (TAd PK is)) (hs:starEach (e::es) X.env=(false,eval e X.env)::starEach es X.env:=by rfl):PA X (e::es) (TAd PK (aCons i is)):=(pa_cons ha hr hs).imp fun σ H Q hz0=>by
  obtain ⟨pa,G₀,H₀,m,ρ,G,R,z⟩:=hz0
  refine TAe.then R z fun m1 x v G1 H1 s1 w1 R1 d1 q1=>?_
  refine TAd.then R1 q1 fun m2 xs vs G2 H2 s2 w2 R2 d2 q2=>?_
  exact q2 _ _ _ (s1.trans s2 w1.some) w2 (.cons (d1.mono s2.gs) d2)
noncomputable def small (n:Nat):Bool:=decide (n≤sizeLine)
noncomputable def aTup (is:List Sl→Tr (List PyData)):List Sl→Tr PyData:=fun ρ=>(is ρ).bind fun xs=>if small xs.length=true then .ret (.tuple xs) else .fail
noncomputable def aLst (is:List Sl→Tr (List PyData)):List Sl→Tr PyData:=fun ρ=>(is ρ).bind fun xs=>.ret (.list xs)
noncomputable def aLo (is:List Sl→Tr (List PyData)):List Sl→Tr (List PyData):=fun ρ=>(is ρ).bind fun xs=>if small xs.length=true then .ret xs else .fail
theorem ok_if {α:Type} {c:Bool} {t:Tr α} {m:Nat} {Q:Nat→α→Prop} (h:(if c=true then t else .fail).ok m Q):c=true∧t.ok m Q:=by
  cases c with
  | true=>exact ⟨rfl,h⟩
  | false=>exact h.elim
theorem ae_tup {x1} (h:PA X es (TAd PK is)):PE X (.Tuple es x1 pos) (TAe PK (aTup is)):=(pe_tup h).imp fun σ H Q hz0=>by
  obtain ⟨pa,G₀,H₀,m,ρ,G,R,z⟩:=hz0
  refine TAd.then R z fun m1 xs vs G1 H1 s1 w1 R1 d1 q1=>?_
  obtain ⟨hs,k⟩:=ok_if q1
  exact ⟨by rw [d1.length]; exact of_decide_eq_true hs,fun p hp=>(Kn.later k s1 w1.some).tup w1 d1 hp⟩
theorem Ko1.new {pa:Addr} {m:Nat} {G H:Hp} {xs:List PyData} {vs:List V} {Q:VK} {p:Addr} (k:Ko1 PK pa m G H xs Q) (w:Wd PK pa m G H) (d:DnAll G vs xs) (hp:H p=none):Q (.ref p) (upd H p (.lst vs)):=by
  obtain ⟨w1,s1⟩:=w.own (o:=.lst vs) hp
  exact k p vs G _ s1 w1 hp (w.gnone hp) upd_same d
theorem Ko1.later {pa:Addr} {m:Nat} {G H G1 H1:Hp} {xs:List PyData} {Q:VK} (k:Ko1 PK pa m G H xs Q) (s:Stp pa G H G1 H1) (hp:∃ o,H1 pa=some o):Ko1 PK pa m G1 H1 xs Q:=fun p vs G' H' s' w' h1 h2 h3 h4=>by
  refine k p vs G' H' (s.trans s' hp) w' ?_ h2 h3 h4
  cases e:H p with
  | none=>rfl
  | some u =>
    by_cases hc:p=pa
    · subst hc
      obtain ⟨o,z⟩:=hp
      rw [h1] at z; cases z
    · rw [s.hk p u e hc] at h1; cases h1
theorem ao_lst (h:PA X es (TAd PK is)):PE X (.List es pos) (TAo PK (aLo is)):=(pe_lst h).imp fun σ H Q hz0=>by
  obtain ⟨pa,G₀,H₀,m,ρ,G,R,z⟩:=hz0
  refine TAd.then R z fun m1 xs vs G1 H1 s1 w1 R1 d1 q1=>?_
  obtain ⟨hs,k⟩:=ok_if q1
  exact ⟨by rw [d1.length]; exact of_decide_eq_true hs,fun p hp=>(Ko1.later k s1 w1.some).new w1 d1 hp⟩
theorem Ko1.of {pa:Addr} {m:Nat} {G H:Hp} {xs:List PyData} {Q:VK} (k:Kn PK pa m G H (.list xs) Q) (hp:∃ o,H pa=some o):Ko1 PK pa m G H xs Q:=fun p vs G' H' s w h1 h2 h3 h4=>by
  have hne:pa≠p:=fun e=>by
    obtain ⟨o,z⟩:=hp
    rw [e,h1] at z; cases z
  have sb:Sub G' (upd G' p (.lst vs)):=Sub.new h2
  refine k _ (upd G' p (.lst vs)) H' ⟨fun b o h=>sb b o (s.gs b o h),fun b o h=>?_,s.hk⟩ (w.freeze h3 h2 hne) (.lst upd_same (DnAll.mono sb h4))
  by_cases e:b=p
  · subst e; exact .inr h1
  · rw [upd_ne e] at h; exact s.gn b o h
theorem ae_o (h:PE X e (TAo PK is)):PE X e (TAe PK (aLst is)):=h.imp fun σ H Q hz0=>by
  obtain ⟨pa,G₀,H₀,m,ρ,G,R,z⟩:=hz0
  refine ⟨pa,G₀,H₀,m,ρ,G,R,Tr.ok_mono (Tr.ok_bind.mp z) fun m1 xs k=>Ko1.of k R.wd.some⟩

noncomputable def VCl (r:List V→Hp→VK→Prop) (f:List PyData→Option PyData):Prop:=∀ (PK:Pk) (pa:Addr) (m:Nat) (G H:Hp) (vs:List V) (ds:List PyData) (d:PyData) (Q:VK),Wd PK pa m G H→DnAll G vs ds→f ds=some d→Kn PK pa m G H d Q→r vs H Q
noncomputable def aCB (f:List PyData→Option PyData) (is:List Sl→Tr (List PyData)):List Sl→Tr PyData:=fun ρ=>(is ρ).bind fun xs=>Tr.of (f xs)
noncomputable def aCBo (f:List PyData→Option (List PyData)) (is:List Sl→Tr (List PyData)):List Sl→Tr (List PyData):=fun ρ=>(is ρ).bind fun xs=>Tr.of (f xs)
theorem aCB_read {r:List V→Hp→VK→Prop} {f:List PyData→Option PyData} (hv:VCl r f):∀ σ H Q,TAe PK (aCB f is) σ H Q→tCB r (TAd PK is) σ H Q:=by
  rintro σ H Q ⟨pa,G₀,H₀,m,ρ,G,R,z⟩
  refine TAd.then R z fun m1 xs vs G1 H1 s1 w1 R1 d1 q1=>?_
  obtain ⟨d,hd,k⟩:=Tr.ok_of q1
  exact hv PK pa m1 G1 H1 vs xs d Q w1 d1 hd (Kn.later k s1 w1.some)
theorem ae_cb {t:TA} {r:List V→Hp→VK→Prop} {f:List PyData→Option PyData} (h:PE X e (tCB r (TAd PK is))) (hv:VCl r f):PE X e (TAe PK (aCB f is)):=h.imp (aCB_read hv)
variable {as:List Sl→Tr (List Sl)}
noncomputable def aaNil:List Sl→Tr (List Sl):=fun _=>.ret []
noncomputable def aaCons (i:List Sl→Tr PyData) (as:List Sl→Tr (List Sl)):List Sl→Tr (List Sl):=fun ρ=>(i ρ).bind fun x=>(as ρ).bind fun xs=>.ret (.d x::xs)
noncomputable def aaPen (k:Nat) (as:List Sl→Tr (List Sl)):List Sl→Tr (List Sl):=fun ρ=>match ρ[k]? with
  | some .pen=>(as ρ).bind fun xs=>.ret (.pen::xs)
  | _=>.fail
theorem aa_nil:PA X [] (TAa PK aaNil):=pa_nil.imp fun σ H Q hz0=>by
  obtain ⟨pa,G₀,H₀,m,ρ,G,R,z⟩:=hz0
  exact z [] G H .refl R.wd .nil
theorem TAa.then {σ:St} {H:Hp} {β:Type} {k:List Sl→Tr β} {Z:Nat→β→Prop} {Q:List V→Hp→Prop} {pa:Addr} {G₀ H₀ G:Hp} {m:Nat} {ρ:List Sl} (R:Rl PK pa G₀ H₀ m σ ρ G H) (h:((as ρ).bind k).ok m Z)
    (hq:∀ m1 xs vs G1 H1,Stp pa G H G1 H1→Wd PK pa m1 G1 H1→Rl PK pa G₀ H₀ m1 σ ρ G1 H1→ArsOk pa G1 vs xs→(k xs).ok m1 Z→Q vs H1):TAa PK as σ H Q:=by
  refine ⟨pa,G₀,H₀,m,ρ,G,R,Tr.ok_mono (Tr.ok_bind.mp h) fun m1 x hx v G1 H1 s1 w1 d1=>?_⟩
  exact hq m1 x v G1 H1 s1 w1 (R.step s1 w1) d1 hx
theorem aa_cons (ha:PE X e (TAe PK i)) (hr:PA X es (TAa PK as)) (hs:starEach (e::es) X.env=(false,eval e X.env)::starEach es X.env:=by rfl):PA X (e::es) (TAa PK (aaCons i as)):=(pa_cons ha hr hs).imp fun σ H Q hz0=>by
  obtain ⟨pa,G₀,H₀,m,ρ,G,R,z⟩:=hz0
  refine TAe.then R z fun m1 x v G1 H1 s1 w1 R1 d1 q1=>?_
  refine TAa.then R1 q1 fun m2 xs vs G2 H2 s2 w2 R2 d2 q2=>?_
  exact q2 _ _ _ (s1.trans s2 w1.some) w2 (.cons (.d (d1.mono s2.gs)) d2)
theorem aa_pen {k:Nat} (ha:PE X e (tVar k)) (hr:PA X es (TAa PK as)) (hs:starEach (e::es) X.env=(false,eval e X.env)::starEach es X.env:=by rfl):PA X (e::es) (TAa PK (aaPen k as)):=(pa_cons ha hr hs).imp fun σ H Q hz0=>by
  obtain ⟨pa,G₀,H₀,m,ρ,G,R,z⟩:=hz0
  unfold aaPen at z
  split at z
  · rename_i hk
    obtain ⟨o,h1,h2⟩:=R.sl k _ hk
    cases h2
    refine ⟨_,h1,?_⟩
    refine TAa.then R z fun m2 xs vs G2 H2 s2 w2 R2 d2 q2=>?_
    exact q2 _ _ _ s2 w2 (.cons .pen d2)
  · exact z.elim
noncomputable def aSp (PK:Pk) (n:Nat) (f:List Sl→Tr Re):Sp:=fun vs H Q _=>vs.length=n∧∃ pa m G as,Wd PK pa m G H∧ArsOk pa G vs as∧(f as).ok m fun m' r=>Kr PK pa m' G H r Q
noncomputable def aCall (f:List Sl→Tr Re) (as:List Sl→Tr (List Sl)):List Sl→Tr Re:=fun ρ=>(as ρ).bind f
noncomputable def aRe (f:List Sl→Tr Re):List Sl→Tr PyData:=fun ρ=>(f ρ).bind fun r=>.ret r.val
noncomputable def TAr (PK:Pk) (i:List Sl→Tr Re):TE:=fun σ H Q=>∃ pa G₀ H₀ m ρ G,Rl PK pa G₀ H₀ m σ ρ G H∧(i ρ).ok m fun m' r=>Kr PK pa m' G H r Q
theorem Kr.later {pa:Addr} {m:Nat} {G H G1 H1:Hp} {r:Re} {Q:VK} (k:Kr PK pa m G H r Q) (s:Stp pa G H G1 H1) (hp:∃ o,H1 pa=some o):Kr PK pa m G1 H1 r Q:=fun v G' H' s' w' d=>by
  refine k v G' H' (s.trans s' hp) w' ?_
  cases r with
  | d x=>exact d
  | own xs =>
    obtain ⟨p,vs,e,h1,h2,h3,h4⟩:=d
    refine ⟨p,vs,e,h1,h2,?_,h4⟩
    cases e:H p with
    | none=>rfl
    | some u =>
      by_cases hc:p=pa
      · subst hc
        obtain ⟨o,z⟩:=hp
        rw [h3] at z; cases z
      · rw [s.hk p u e hc] at h3; cases h3
theorem Kr.of {pa:Addr} {m:Nat} {G H:Hp} {r:Re} {Q:VK} (k:Kn PK pa m G H r.val Q) (hp:∃ o,H pa=some o):Kr PK pa m G H r Q:=fun v G' H' s w d=>by
  cases r with
  | d x=>exact k v G' H' s w d
  | own xs =>
    obtain ⟨p,vs,rfl,h1,h2,h3,h4⟩:=d
    exact Ko1.of k hp p vs G' H' s w h3 h2 h1 h4
theorem ae_r {f:List Sl→Tr Re} (h:PE X e (TAr PK f)):PE X e (TAe PK (aRe f)):=h.imp (by
  intro σ H Q z
  obtain ⟨pa,G₀,H₀,m,ρ,G,R,z⟩:=z
  exact ⟨pa,G₀,H₀,m,ρ,G,R,Tr.ok_mono (Tr.ok_bind.mp z) fun m1 r k=>Kr.of k R.wd.some⟩)
structure ACal (PK:Pk) (P:Program) (w:World) (K:PySem.W.Frag) (mg:Str→Option Value) (base:Heap) (x:Str) (k:Nat) (ps:List Str) (f:List Sl→Tr Re):Prop where
  cal:Callee P w K mg base x k ps (aSp PK ps.length f)
  len:∀ as m Z,(f as).ok m Z→as.length=ps.length
theorem ar_call {x:Str} {k:Nat} {ps:List Str} {f:List Sl→Tr Re} {pp:Pos} (C:ACal PK X.prog X.w X.K X.mg X.base x k ps f) (hr:Room k X.A) (hg:Gl X x) (ha:PA X (e::es) (TAa PK as))
    (hdb:(x == ("__debug__":Str))=false:=by decide)
    (he:starEach (e::es) X.env=(false,eval e X.env)::starEach es X.env:=by rfl) (hpl:(backTo pos (starEach es X.env)).any (·.1)=false:=by rfl):PE X (.Call (.Name x pp) (e::es) [] pos) (TAr PK (aCall f as)) :=
  (pe_callC C.cal hr hg ha hdb he hpl).imp fun σ H Q hz0=>by
    obtain ⟨pa,G₀,H₀,m,ρ,G,R,z⟩:=hz0
    refine TAa.then R z fun m1 xs vs G1 H1 s1 w1 R1 d1 q1=>?_
    show aSp PK ps.length f (vs++[]) H1 Q E0
    rw [List.append_nil]
    exact ⟨by rw [d1.length]; exact C.len _ _ _ q1,pa,m1,G1,xs,w1,d1,Tr.ok_mono q1 fun m2 r k=>Kr.later k s1 w1.some⟩
end L2
set_option Elab.async false
set_option linter.all false
set_option maxRecDepth 100000
namespace L2
open PySem PySem.Spec PyProof.Rows
variable {PK:Pk} {X:Cx} {a b c e:Expr} {es:List Expr} {pos:Pos} {i j l:List Sl→Tr PyData} {is:List Sl→Tr (List PyData)} {as:List Sl→Tr (List Sl)} {f:List Sl→Tr Re} {p q:List Sl→Tr Bool} {st:Stmt} {sts:List Stmt} {s t u:List Sl→Tr Ou}
noncomputable def aSeq (s t:List Sl→Tr Ou):List Sl→Tr Ou:=fun ρ=>(s ρ).bind fun o=>match o with
  | .next ρ'=>t ρ'
  | o=>.ret o
noncomputable def aSkip:List Sl→Tr Ou:=fun ρ=>.ret (.next ρ)
theorem Ko.later {pa:Addr} {G₀ H₀ Gs G:Hp} {D:Ends} {m:Nat} {o:Ou} (k:Ko PK pa G₀ H₀ Gs D m o) (sb:Sub Gs G):Ko PK pa G₀ H₀ G D m o:=by
  cases o with
  | next ρ=>exact fun σ G' H s R=>k σ G' H (fun b o h=>s b o (sb b o h)) R
  | ret r=>exact k
  | brk ρ=>exact fun σ G' H s R=>k σ G' H (fun b o h=>s b o (sb b o h)) R
  | cont ρ=>exact fun σ G' H s R=>k σ G' H (fun b o h=>s b o (sb b o h)) R
theorem Sub.refl {G:Hp}:Sub G G:=fun _ _ h=>h
theorem Sub.trans {G G1 G2:Hp} (a:Sub G G1) (b:Sub G1 G2):Sub G G2:=fun c o h=>b c o (a c o h)
theorem ass_nil:PSs X [] (TAs PK aSkip):=pss_nil.imp fun D σ H hz0=>by
  obtain ⟨pa,G₀,H₀,m,ρ,G,R,z⟩:=hz0
  exact z σ G H .refl R
theorem aSeq_read:∀ D σ H,TAs PK (aSeq s t) D σ H→tSeq (TAs PK s) (TAs PK t) D σ H:=by
  rintro D σ H ⟨pa,G₀,H₀,m,ρ,G,R,z⟩
  refine ⟨pa,G₀,H₀,m,ρ,G,R,Tr.ok_mono (Tr.ok_bind.mp z) fun m1 o k=>?_⟩
  cases o with
  | next ρ'=>exact fun σ' G' H' sb R'=>⟨pa,G₀,H₀,m1,ρ',G',R',Tr.ok_mono k fun _ _ k'=>Ko.later k' sb⟩
  | ret r=>exact k
  | brk ρ'=>exact k
  | cont ρ'=>exact k
theorem ass_cons (h1:PS X st (TAs PK s)) (h2:PSs X sts (TAs PK t)):PSs X (st::sts) (TAs PK (aSeq s t)):=(pss_cons h1 h2).imp aSeq_read
theorem ass_one (h1:PS X st (TAs PK s)):PSs X [st] (TAs PK s):=pss_one h1
noncomputable def aBrk:List Sl→Tr Ou:=fun ρ=>.ret (.brk ρ)
noncomputable def aCont:List Sl→Tr Ou:=fun ρ=>.ret (.cont ρ)
noncomputable def aNever:List Sl→Tr Ou:=fun _=>.fail
theorem as_never:PS X st (TAs PK aNever):=fun _ _ _ _ _ _ h=>by
  obtain ⟨pa,G₀,H₀,m,ρ,G,R,z⟩:=h
  exact z.elim
noncomputable def aRet (i:List Sl→Tr PyData):List Sl→Tr Ou:=fun ρ=>(i ρ).bind fun x=>.ret (.ret (.d x))
theorem as_ret (he:PE X e (TAe PK i)):PS X (.Return (some e) pos) (TAs PK (aRet i)):=(ps_ret he).imp fun D σ H hz0=>by
  obtain ⟨pa,G₀,H₀,m,ρ,G,R,z⟩:=hz0
  refine TAe.then R z fun m1 x v G1 H1 s1 w1 R1 d1 q1=>?_
  exact q1 v G1 H1 R1.st w1 d1
noncomputable def aRetO (is:List Sl→Tr (List PyData)):List Sl→Tr Ou:=fun ρ=>(is ρ).bind fun x=>.ret (.ret (.own x))
noncomputable def aRetR (f:List Sl→Tr Re):List Sl→Tr Ou:=fun ρ=>(f ρ).bind fun r=>.ret (.ret r)
noncomputable def aRetV (k:Nat):List Sl→Tr Ou:=fun ρ=>match ρ[k]? with
  | some (.d x)=>.ret (.ret (.d x))
  | some (.own xs)=>.ret (.ret (.own xs))
  | _=>.fail
theorem as_retV {k:Nat} (he:PE X e (tVar k)):PS X (.Return (some e) pos) (TAs PK (aRetV k)):=(ps_ret he).imp fun D σ H hz0=>by
  obtain ⟨pa,G₀,H₀,m,ρ,G,R,z⟩:=hz0
  unfold aRetV at z
  split at z
  · rename_i x hx
    obtain ⟨o,h1,h2⟩:=R.sl k _ hx
    cases h2 with
    | d d1=>exact ⟨_,h1,z _ G H R.st R.wd d1⟩
  · rename_i xs hx
    obtain ⟨o,h1,h2⟩:=R.sl k _ hx
    cases h2 with
    | own a1 a2 a3 a4=>exact ⟨_,h1,z _ G H R.st R.wd ⟨_,_,rfl,a1,a2,a3,a4⟩⟩
  · exact z.elim
noncomputable def aIfS (p:List Sl→Tr Bool) (s t:List Sl→Tr Ou):List Sl→Tr Ou:=fun ρ=>(p ρ).bind fun x=>if x=true then s ρ else t ρ
theorem as_if {xs ys:List Stmt} (hc:PT X c (TAt PK p)) (ha:PSs X xs (TAs PK s)) (hb:PSs X ys (TAs PK t)):PS X (.If c xs ys pos) (TAs PK (aIfS p s t)):=(ps_if hc ha hb).imp fun D σ H hz0=>by
  obtain ⟨pa,G₀,H₀,m,ρ,G,R,z⟩:=hz0
  refine TAt.then R z fun m1 x G1 H1 s1 w1 R1 q1=>?_
  cases x with
  | true=>rw [if_pos rfl] at q1 ⊢; exact ⟨pa,G₀,H₀,m1,ρ,G1,R1,Tr.ok_mono q1 fun _ _ k'=>Ko.later k' s1.gs⟩
  | false=>rw [if_neg Bool.false_ne_true] at q1 ⊢; exact ⟨pa,G₀,H₀,m1,ρ,G1,R1,Tr.ok_mono q1 fun _ _ k'=>Ko.later k' s1.gs⟩

noncomputable def aSet (k:Nat) (i:List Sl→Tr PyData):List Sl→Tr Ou:=fun ρ=>(i ρ).bind fun x=>.ret (.next (ρ.set k (.d x)))
theorem as_set {k:Nat} (h:PS X st (tAsg (TAe PK i) (gName k))):PS X st (TAs PK (aSet k i)):=h.imp fun D σ H hz0=>by
  obtain ⟨pa,G₀,H₀,m,ρ,G,R,z⟩:=hz0
  refine TAe.then R z fun m1 x v G1 H1 s1 w1 R1 d1 q1=>?_
  exact q1 _ G1 H1 s1.gs (R1.set d1 k)
noncomputable def aSetO (k:Nat) (is:List Sl→Tr (List PyData)):List Sl→Tr Ou:=fun ρ=>(is ρ).bind fun x=>.ret (.next (ρ.set k (.own x)))
noncomputable def slOf:Re→Sl
  | .d x=>.d x
  | .own xs=>.own xs
noncomputable def aSetR (k:Nat) (f:List Sl→Tr Re):List Sl→Tr Ou:=fun ρ=>(f ρ).bind fun r=>.ret (.next (ρ.set k (slOf r)))
noncomputable def aAug (f:PyData→PyData→Option PyData) (k:Nat) (i:List Sl→Tr PyData):List Sl→Tr Ou:=fun ρ=>(aVar k ρ).bind fun x=>(i ρ).bind fun y=>(Tr.of (f x y)).bind fun z=>.ret (.next (ρ.set k (.d z)))
noncomputable def aApp (k:Nat) (i:List Sl→Tr PyData):List Sl→Tr Ou:=fun ρ=>match ρ[k]? with
  | some (.own xs)=>(i ρ).bind fun x=>if small (xs.length+1)=true then .ret (.next (ρ.set k (.own (xs++[x])))) else .fail
  | _=>.fail
noncomputable def aSetIx (k:Nat) (n i:List Sl→Tr PyData):List Sl→Tr Ou:=fun ρ=>(i ρ).bind fun x=>match ρ[k]? with
  | some (.own xs)=>(n ρ).bind fun y=>match y with
    | .int y=>(Tr.of (ixN xs.length y)).bind fun t=>.ret (.next (ρ.set k (.own (xs.set t x))))
    | _=>.fail
  | _=>.fail
noncomputable def aRev (k:Nat):List Sl→Tr Ou:=fun ρ=>match ρ[k]? with
  | some (.own xs)=>.ret (.next (ρ.set k (.own xs.reverse)))
  | _=>.fail
noncomputable def aFz (k:Nat) (s:List Sl→Tr Ou):List Sl→Tr Ou:=fun ρ=>s (fz k ρ)
noncomputable def TAg (PK:Pk) (g:PyData→List Sl→Option (List Sl)):TG:=fun v σ H Q=>∃ pa G₀ H₀ m ρ G x ρ',Rl PK pa G₀ H₀ m σ ρ G H∧Dn G v x∧g x ρ=some ρ'∧∀ σ',Rl PK pa G₀ H₀ m σ' ρ' G H→Q σ' H
noncomputable def TAgs (PK:Pk) (g:List PyData→List Sl→Option (List Sl)):TGs:=fun vs σ H Q=>∃ pa G₀ H₀ m ρ G xs ρ',Rl PK pa G₀ H₀ m σ ρ G H∧DnAll G vs xs∧g xs ρ=some ρ'∧∀ σ',Rl PK pa G₀ H₀ m σ' ρ' G H→Q σ' H
theorem PG.imp {tg:Expr} {t t':TG} (h:PG X tg t) (q:∀ v σ H Q,t' v σ H Q→t v σ H Q):PG X tg t':=fun pins s σ H v u Q I r z=>h pins s σ H v u Q I r (q v σ H Q z)
theorem PGs.imp {tg:List Expr} {t t':TGs} (h:PGs X tg t) (q:∀ v σ H Q,t' v σ H Q→t v σ H Q):PGs X tg t':=fun pins s σ H v u Q I r z=>h pins s σ H v u Q I r (q v σ H Q z)
noncomputable def gSet (k:Nat):PyData→List Sl→Option (List Sl):=fun x ρ=>some (ρ.set k (.d x))
theorem ag_name {k:Nat} (h:PG X e (gName k)):PG X e (TAg PK (gSet k)):=h.imp fun v σ H Q hz0=>by
  obtain ⟨pa,G₀,H₀,m,ρ,G,x,ρ',R,d,e,q⟩:=hz0
  cases e
  exact q _ (R.set d k)
noncomputable def gsNil:List PyData→List Sl→Option (List Sl):=fun xs ρ=>match xs with
  | []=>some ρ
  | _=>none
noncomputable def gsCons (g:PyData→List Sl→Option (List Sl)) (gs:List PyData→List Sl→Option (List Sl)):List PyData→List Sl→Option (List Sl):=fun xs ρ=>match xs with
  | x::xs=>(g x ρ).bind fun ρ'=>gs xs ρ'
  | []=>none
theorem ags_nil:PGs X [] (TAgs PK gsNil):=pgs_nil.imp fun vs σ H Q hz0=>by
  obtain ⟨pa,G₀,H₀,m,ρ,G,xs,ρ',R,d,e,q⟩:=hz0
  cases d with
  | nil=>cases e; exact ⟨rfl,q _ R⟩
  | cons _ _=>cases e
theorem ags_cons {g:PyData→List Sl→Option (List Sl)} {gs:List PyData→List Sl→Option (List Sl)} (h1:PG X e (TAg PK g)) (h2:PGs X es (TAgs PK gs))
    (hs:(assignEach (e::es) X.env).map (·.2)=assign e X.env::(assignEach es X.env).map (·.2):=by rfl):PGs X (e::es) (TAgs PK (gsCons g gs)):=(pgs_cons h1 h2 hs).imp fun vs σ H Q hz0=>by
  obtain ⟨pa,G₀,H₀,m,ρ,G,xs,ρ',R,d,e,q⟩:=hz0
  cases d with
  | nil=>cases e
  | cons d1 d2 =>
    have e':(g _ ρ).bind (fun ρ'=>gs _ ρ')=some ρ':=e
    cases h:g _ ρ with
    | none=>rw [h] at e'; cases e'
    | some ρ1 =>
      rw [h] at e'
      exact ⟨_,_,rfl,pa,G₀,H₀,m,ρ,G,_,ρ1,R,d1,h,fun σ1 R1=>⟨pa,G₀,H₀,m,ρ1,G,_,ρ',R1,d2,e',q⟩⟩
noncomputable def gTupD (gs:List PyData→List Sl→Option (List Sl)):PyData→List Sl→Option (List Sl):=fun x ρ=>match x with
  | .tuple xs=>gs xs ρ
  | _=>none
noncomputable def gsLen (n:Nat) (gs:List PyData→List Sl→Option (List Sl)):Prop:=∀ xs ρ ρ',gs xs ρ=some ρ'→xs.length=n
theorem gsLen_nil:gsLen 0 gsNil:=fun xs ρ ρ' h=>by cases xs with | nil=>rfl | cons _ _=>cases h
theorem gsLen_cons {n:Nat} {g:PyData→List Sl→Option (List Sl)} {gs:List PyData→List Sl→Option (List Sl)} (h:gsLen n gs):gsLen (n+1) (gsCons g gs):=fun xs ρ ρ' e=>by
  cases xs with
  | nil=>cases e
  | cons x xs =>
    have e':(g x ρ).bind (fun ρ'=>gs xs ρ')=some ρ':=e
    cases h1:g x ρ with
    | none=>rw [h1] at e'; cases e'
    | some ρ1 =>
      rw [h1] at e'
      exact congrArg (·+1) (h xs ρ1 ρ' e')
theorem ag_tup {k:Nat} {gs:List PyData→List Sl→Option (List Sl)} {n:Nat} (hc:X.calm=true) (h:PGs X es (TAgs PK gs)) (hl:gsLen n gs)
    (hn:(assignEach es X.env).length=n:=by rfl) (hst:(assignEach es X.env).findIdx? (·.1)=none:=by rfl):PG X (.Tuple es k pos) (TAg PK (gTupD gs)):=(pg_tup hc h hn hst).imp fun v σ H Q hz0=>by
  obtain ⟨pa,G₀,H₀,m,ρ,G,x,ρ',R,d,e,q⟩:=hz0
  cases d with
  | tup h1 h2=>exact ⟨_,_,rfl,SqT.of (R.wd.sub _ _ h1),by rw [h2.length]; exact hl _ _ _ e,pa,G₀,H₀,m,ρ,G,_,ρ',R,h2,e,q⟩
  | _=>cases e
noncomputable def aAsg (g:PyData→List Sl→Option (List Sl)) (i:List Sl→Tr PyData):List Sl→Tr Ou:=fun ρ=>(i ρ).bind fun x=>(Tr.of (g x ρ)).bind fun ρ'=>.ret (.next ρ')
theorem as_asg {g:PyData→List Sl→Option (List Sl)} (h:PS X st (tAsg (TAe PK i) (TAg PK g))):PS X st (TAs PK (aAsg g i)):=h.imp fun D σ H hz0=>by
  obtain ⟨pa,G₀,H₀,m,ρ,G,R,z⟩:=hz0
  refine TAe.then R z fun m1 x v G1 H1 s1 w1 R1 d1 q1=>?_
  rw [Tr.ok_bind] at q1
  obtain ⟨ρ',hg,q1⟩:=Tr.ok_of q1
  exact ⟨pa,G₀,H₀,m1,ρ,G1,x,ρ',R1,d1,hg,fun σ' R'=>q1 σ' G1 H1 s1.gs R'⟩
noncomputable def aPar (k n:Nat) (is:List Sl→Tr (List PyData)):List Sl→Tr Ou:=fun ρ=>(is ρ).bind fun xs=>match xs with
  | [x,y]=>.ret (.next ((ρ.set k (.d x)).set n (.d y)))
  | _=>.fail
theorem as_par {k n:Nat} (h:PS X st (tPar k n (TAd PK is))):PS X st (TAs PK (aPar k n is)):=h.imp fun D σ H hz0=>by
  obtain ⟨pa,G₀,H₀,m,ρ,G,R,z⟩:=hz0
  refine TAd.then R z fun m1 xs vs G1 H1 s1 w1 R1 d1 q1=>?_
  split at q1
  · cases d1 with
    | cons e1 d1 =>
      cases d1 with
      | cons e2 d1 =>
        cases d1
        exact ⟨_,_,rfl,q1 _ G1 H1 s1.gs ((R1.set e1 k).set e2 n)⟩
  · exact q1.elim

noncomputable def JOk (PK:Pk) (pa:Addr) (J:It) (G:Hp) (xs:List PyData):Prop:=∀ m G2 H2,Sub G G2→Wd PK pa m G2 H2 →
  (∀ (n:Nat) (d:PyData),xs[n]?=some d→J.go n H2∧∀ x H3,J.yld n H2 x H3→∃ G3,Stp pa G2 H2 G3 H3∧Wd PK pa m G3 H3∧Dn G3 x d)∧J.stop xs.length H2
noncomputable def TAi (PK:Pk) (is:List Sl→Tr (List PyData)):TI:=fun σ H R=>∃ pa G₀ H₀ m ρ G,Rl PK pa G₀ H₀ m σ ρ G H∧(is ρ).ok m fun m' xs=>∀ J G' H',Stp pa G H G' H'→Wd PK pa m' G' H'→JOk PK pa J G' xs→R J H'
theorem PI.imp {tg iter:Expr} {t t':TI} (h:PI X tg iter t) (q:∀ σ H R,t' σ H R→t σ H R):PI X tg iter t':=fun pins s σ H R I z=>h pins s σ H R I (q σ H R z)
noncomputable def forL (g:PyData→List Sl→Option (List Sl)) (s:List Sl→Tr Ou):List PyData→List Sl→Tr Ou
  | [],ρ=>.ret (.next ρ)
  | x::xs,ρ=>(Tr.of (g x ρ)).bind fun ρ1=>(s ρ1).bind fun o=>match o with
    | .next ρ2=>forL g s xs ρ2
    | .cont ρ2=>forL g s xs ρ2
    | .brk ρ2=>.ret (.next ρ2)
    | .ret r=>.ret (.ret r)
noncomputable def aFor (is:List Sl→Tr (List PyData)) (g:PyData→List Sl→Option (List Sl)) (s:List Sl→Tr Ou):List Sl→Tr Ou:=fun ρ=>(is ρ).bind fun xs=>forL g s xs ρ
theorem as_for {tg iter:Expr} {body:List Stmt} {g:PyData→List Sl→Option (List Sl)} (hp:PassesOwn (model X.prog X.w) X.A X.env X.xe) (hc:X.calm=true) (hi:PI X tg iter (TAi PK is)) (hg:PG X tg (TAg PK g)) (hb:PSs X body (TAs PK s))
    (hs:∀ x,foldedSetIterable iter X.env x=pure x:=by intro _; rfl):PS X (.For tg iter body [] pos) (TAs PK (aFor is g s)):=(ps_for hp hc hi hg hb hs).imp fun D σ H hz0=>by
  obtain ⟨pa,G₀,H₀,m,ρ,G,R,z⟩:=hz0
  refine ⟨pa,G₀,H₀,m,ρ,G,R,Tr.ok_mono (Tr.ok_bind.mp z) fun m1 xs k J G1 H1 s1 w1 jo=>?_⟩
  let W:Nat→Nat→St→Hp→Prop:=fun n mm σ H=>mm=xs.length - n∧n≤xs.length∧∃ m ρ G,Sub G1 G∧Rl PK pa G₀ H₀ m σ ρ G H∧(forL g s (xs.drop n) ρ).ok m (Ko PK pa G₀ H₀ G1 D)
  refine ⟨W,⟨xs.length,rfl,Nat.zero_le _,m1,ρ,G1,fun _ _ h=>h,R.step s1 w1,Tr.ok_mono k fun _ _ k'=>Ko.later k' s1.gs⟩,?_⟩
  rintro n mm σ2 H2 ⟨rfl,hn,m2,ρ2,G2,sb,R2,k2⟩
  obtain ⟨j1,j2⟩:=jo m2 G2 H2 sb R2.wd
  by_cases hlt:n < xs.length
  · have hx:xs[n]?=some xs[n]:=by simp [hlt]
    obtain ⟨jg,jy⟩:=j1 n _ hx
    refine .inr ⟨jg,W (n+1) (xs.length - (n+1)),fun σ' H' h'=>⟨_,by omega,h'⟩,fun x H3 y=>?_⟩
    obtain ⟨G3,s3,w3,d3⟩:=jy x H3 y
    rw [List.drop_eq_getElem_cons hlt] at k2
    unfold forL at k2
    rw [Tr.ok_bind] at k2
    obtain ⟨ρ3,hg3,k3⟩:=Tr.ok_of k2
    refine ⟨pa,G₀,H₀,m2,ρ2,G3,_,ρ3,R2.step s3 w3,d3,hg3,fun σ4 R4=>?_⟩
    refine ⟨pa,G₀,H₀,m2,ρ3,G3,R4,Tr.ok_mono (Tr.ok_bind.mp k3) fun m5 o ko=>?_⟩
    have again:∀ ρ5,(forL g s (xs.drop (n+1)) ρ5).ok m5 (Ko PK pa G₀ H₀ G1 D)→∀ σ5 G5 H5,Sub G3 G5→Rl PK pa G₀ H₀ m5 σ5 ρ5 G5 H5→W (n+1) (xs.length - (n+1)) σ5 H5:=fun ρ5 k5 σ5 G5 H5 sb5 R5 =>
      ⟨rfl,hlt,m5,ρ5,G5,(sb.trans s3.gs).trans sb5,R5,k5⟩
    cases o with
    | next ρ5=>exact again ρ5 ko
    | cont ρ5=>exact again ρ5 ko
    | brk ρ5=>exact fun σ5 G5 H5 sb5 R5=>ko σ5 G5 H5 ((sb.trans s3.gs).trans sb5) R5
    | ret r=>exact ko
  · have e:n=xs.length:=by omega
    subst e
    refine .inl ⟨j2,?_⟩
    rw [List.drop_length] at k2
    exact k2 σ2 G2 H2 sb R2
end L2
set_option Elab.async false
set_option linter.all false
set_option maxRecDepth 100000
namespace L2
open PySem PySem.Spec PyProof.Rows
variable {PK:Pk} {X:Cx} {a b c e:Expr} {es:List Expr} {pos:Pos} {i j l:List Sl→Tr PyData} {is:List Sl→Tr (List PyData)} {as:List Sl→Tr (List Sl)} {f:List Sl→Tr Re} {p q:List Sl→Tr Bool} {st:Stmt} {sts:List Stmt} {s t u:List Sl→Tr Ou}
noncomputable def whL (p:List Sl→Tr Bool) (s:List Sl→Tr Ou):Nat→List Sl→Tr Ou
  | 0,_=>.fail
  | n+1,ρ=>(p ρ).bind fun b=>if b=true then (s ρ).bind fun o=>match o with
      | .next ρ2=>whL p s n ρ2
      | .cont ρ2=>whL p s n ρ2
      | .brk ρ2=>.ret (.next ρ2)
      | .ret r=>.ret (.ret r)
    else .ret (.next ρ)
theorem as_while {body:List Stmt} (n:Nat) (hp:PassesOwn (model X.prog X.w) X.A X.env X.xe) (hc:PT X c (TAt PK p)) (hb:PSs X body (TAs PK s)):PS X (.While c body [] pos) (TAs PK (whL p s n)):=(ps_while hp hc hb).imp fun D σ H hz0=>by
  obtain ⟨pa,G₀,H₀,m,ρ,G,R,z⟩:=hz0
  let W:Nat→St→Hp→Prop:=fun n σ H=>∃ m ρ G1,Sub G G1∧Rl PK pa G₀ H₀ m σ ρ G1 H∧(whL p s n ρ).ok m (Ko PK pa G₀ H₀ G D)
  refine ⟨W,⟨n,m,ρ,G,.refl,R,z⟩,?_⟩
  rintro n σ2 H2 ⟨m2,ρ2,G2,sb,R2,k2⟩
  cases n with
  | zero=>exact k2.elim
  | succ n =>
    unfold whL at k2
    refine TAt.then R2 k2 fun m3 x G3 H3 s3 w3 R3 k3=>?_
    cases x with
    | false =>
      rw [if_neg Bool.false_ne_true] at k3 ⊢
      exact k3 σ2 G3 H3 (sb.trans s3.gs) R3
    | true =>
      rw [if_pos rfl] at k3 ⊢
      refine ⟨W n,fun σ' H' h=>⟨n,by omega,h⟩,pa,G₀,H₀,m3,ρ2,G3,R3,Tr.ok_mono (Tr.ok_bind.mp k3) fun m4 o ko=>?_⟩
      have again:∀ ρ5,(whL p s n ρ5).ok m4 (Ko PK pa G₀ H₀ G D)→∀ σ5 G5 H5,Sub G3 G5→Rl PK pa G₀ H₀ m4 σ5 ρ5 G5 H5→W n σ5 H5:=fun ρ5 k5 σ5 G5 H5 sb5 R5 =>
        ⟨m4,ρ5,G5,(sb.trans s3.gs).trans sb5,R5,k5⟩
      cases o with
      | next ρ5=>exact again ρ5 ko
      | cont ρ5=>exact again ρ5 ko
      | brk ρ5=>exact fun σ5 G5 H5 sb5 R5=>ko σ5 G5 H5 ((sb.trans s3.gs).trans sb5) R5
      | ret r=>exact ko

noncomputable def blS:Sl→Sl
  | .own _=>.un
  | s=>s
noncomputable def blk (n:Nat) (ix:List Nat) (ρ:List Sl):List Sl:=List.replicate n .un++ix.map fun j=>blS ((ρ[j]?).getD .un)
noncomputable def mapT (h:PyData→Tr PyData):List PyData→Tr (List PyData)
  | []=>.ret []
  | x::xs=>(h x).bind fun y=>(mapT h xs).bind fun ys=>.ret (y::ys)
noncomputable def aLc (is:List Sl→Tr (List PyData)) (n:Nat) (ix:List Nat) (g:PyData→List Sl→Option (List Sl)) (el:List Sl→Tr PyData):List Sl→Tr (List PyData):=fun ρ =>
  (is ρ).bind fun xs=>if small xs.length=true then mapT (fun x=>(Tr.of (g x (blk n ix ρ))).bind el) xs else .fail
noncomputable def finR:Ou→Tr Re
  | .next _=>.ret (.d .none)
  | .ret r=>.ret r
  | _=>.fail
noncomputable def aDef (n k:Nat) (s:List Sl→Tr Ou):List Sl→Tr Re:=fun as=>if decide (as.length=n)=true then (s (as++List.replicate k .un)).bind finR else .fail
theorem Rl.start {pa:Addr} {G H:Hp} {m:Nat} {N:List Str} {vs:List V} {as:List Sl} {k:Nat} (w:Wd PK pa m G H) (ar:ArsOk pa G vs as) (hk:N.length - vs.length=k):Rl PK pa G H m (L2.start N vs) (as++List.replicate k .un) G H:=by
  have key:∀ {vs:List V} {as:List Sl},ArsOk pa G vs as→∀ (q:Nat) (s:Sl),as[q]?=some s→(∃ o,(vs.map some)[q]?=some o∧SlOk pa H G H o s)∧∀ xs,s≠.own xs:=by
    intro vs as h
    induction h with
    | nil=>intro q s h; simp at h
    | cons h1 h2 ih =>
      intro q s h
      cases q with
      | zero =>
        simp at h
        subst h
        cases h1 with
        | d z=>exact ⟨⟨_,rfl,.d z⟩,fun xs h=>by cases h⟩
        | pen=>exact ⟨⟨_,rfl,.pen⟩,fun xs h=>by cases h⟩
      | succ q =>
        obtain ⟨⟨o,p1,p2⟩,p3⟩:=ih q s (by simpa using h)
        exact ⟨⟨o,by simpa using p1,p2⟩,p3⟩
  have hl:=ar.length
  have key2:∀ (q:Nat) (s:Sl),(as++List.replicate k .un)[q]?=some s→(∃ o,(L2.start N vs)[q]?=some o∧SlOk pa H G H o s)∧∀ xs,s≠.own xs:=fun q s h=>by
    unfold L2.start
    by_cases hq:q < as.length
    · rw [List.getElem?_append_left hq] at h
      rw [List.getElem?_append_left (by rw [List.length_map,hl]; exact hq)]
      exact key ar q s h
    · rw [List.getElem?_append_right (by omega),List.getElem?_replicate] at h
      rw [List.getElem?_append_right (by rw [List.length_map]; omega),List.getElem?_replicate,List.length_map,hl]
      split at h
      · rename_i hq2
        cases h
        rw [if_pos (by omega)]
        exact ⟨⟨_,rfl,.un⟩,fun xs h=>by cases h⟩
      · cases h
  refine ⟨w,.refl,w.some,fun q s h=>(key2 q s h).1,?_,fun q n xs ys _ h1 _=>absurd rfl ((key2 q _ h1).2 xs)⟩
  unfold L2.start
  simp [hl,hk]
  omega
theorem acal_of {P:Program} {w:World} {K:PySem.W.Frag} {mg:Str→Option Value} {base:Heap} {x:Str} {N ps:List Str} {kk k:Nat} (D:Def K mg x st ps) (S:FnScope N ps (defScope st)) (hk:N.length - ps.length=k)
    (hbody:∀ (f:Addr) (cdv:Value) (A:Around) (outer:List Env) (sh:Shared) (H:Hp) (E:XK),Room kk (A.deeper (envOfC x (defScope st) sh.heap.objs.size f cdv)) →
      PSs (cxOf CX0 P w K mg base N x (defScope st) f cdv A outer sh H E).nox (defBody st) (TAs PK s)):ACal PK P w K mg base x (kk+1) ps (aDef ps.length k s):=by
  have len:∀ as m Z,(aDef ps.length k s as).ok m Z→as.length=ps.length:=fun as m Z h=>by
    unfold aDef at h
    exact of_decide_eq_true (ok_if h).1
  refine ⟨D.ok S (fun vs H Q E h=>h.1) fun f cdv A outer sh H vs Q E hr hsp=>?_,len⟩
  obtain ⟨hv,pa,m,G,as,wd,ar,z⟩:=hsp
  refine ⟨_,hbody f cdv A outer sh H E hr,?_⟩
  unfold aDef at z
  obtain ⟨_,z⟩:=ok_if z
  refine ⟨pa,G,H,m,_,G,Rl.start wd ar (by rw [hv]; exact hk),Tr.ok_mono (Tr.ok_bind.mp z) fun m1 o ko=>?_⟩
  cases o with
  | next ρ=>exact fun σ G1 H1 sb R1=>ko .non G1 H1 R1.st R1.wd .non
  | ret r=>exact ko
  | brk ρ=>exact ko.elim
  | cont ρ=>exact ko.elim

theorem pi_seq {tg l:Expr} {tl:TE} (hl:PE X l tl):PI X tg l (fun σ H R=>tl σ H fun x H1=>∃ a,x=.ref a∧((∃ xs,SqL X.K H1 a xs∧R (Itl X.K a) H1)∨(∃ xs,SqT X.K H1 a xs∧R (Itt X.K a) H1))):=by
  intro pins s σ H R I h
  refine thn (hl pins s σ H _ I h) fun v s1 hz0=>?_
  obtain ⟨x,H1,I1,r1,q1⟩:=hz0
  obtain ⟨a,e,q⟩:=q1
  subst e
  cases r1
  rcases q with ⟨xs,hq,q⟩ | ⟨xs,hq,q⟩
  · obtain ⟨its,rv,p,hz⟩:=I1.list hq
    refine wpAny_pyIter_list p.isList ?_
    refine ⟨s1.heap.objs.size,[s1.heap.objs.size],_,_,H1,rfl,I1.kept (t':=s1.toks) fun b o e=>Heap.get?_push_of_some _ e,turn_list a _,⟨_,Heap.get?_push_size _ rfl,rfl,rfl⟩,fun b hb=>?_,q⟩
    have e:b=s1.heap.objs.size:=by simpa using hb
    subst e
    exact I1.fpOk (Nat.le_refl _) (I1.hok.fresh (Nat.le_refl _))
  · obtain ⟨its,rv,p,hz⟩:=I1.tuple hq
    refine wpAny_pyIter_tuple (show s1.heap.IsTuple a its.toArray from p) ?_
    refine ⟨s1.heap.objs.size,[s1.heap.objs.size],_,_,H1,rfl,I1.kept (t':=s1.toks) fun b o e=>Heap.get?_push_of_some _ e,turn_tuple a _,⟨_,Heap.get?_push_size _ rfl,rfl,rfl⟩,fun b hb=>?_,q⟩
    have e:b=s1.heap.objs.size:=by simpa using hb
    subst e
    exact I1.fpOk (Nat.le_refl _) (I1.hok.fresh (Nat.le_refl _))
theorem DnAll.get {H:Hp}:∀ {vs:List V} {ds:List PyData} (n:Nat) {d:PyData},DnAll H vs ds→ds[n]?=some d→∃ v,vs[n]?=some v∧Dn H v d
  | _,_,_,_,.nil,e=>by simp at e
  | _,_,0,_,.cons g t,e=>by simp at e; subst e; exact ⟨_,rfl,g⟩
  | _,_,n+1,_,.cons g t,e=>by
    obtain ⟨v,h1,h2⟩:=DnAll.get n t (by simpa using e)
    exact ⟨v,by simpa using h1,h2⟩
theorem jok_list {K:PySem.W.Frag} {pa a:Addr} {G:Hp} {vs:List V} {xs:List PyData} (h:G a=some (.lst vs)) (d:DnAll G vs xs):JOk PK pa (Itl K a) G xs:=fun m G2 H2 sb w=>by
  have hq:SqL K H2 a vs:=SqL.of (w.sub _ _ (sb _ _ h))
  refine ⟨fun n x hx=>?_,vs,hq,by rw [d.length]; exact Nat.le_refl _⟩
  obtain ⟨v,hv,dv⟩:=d.get n hx
  refine ⟨⟨vs,v,hq,hv⟩,fun y H3 hz0=>?_⟩
  obtain ⟨e,hy⟩:=hz0
  subst e
  have:=hy vs hq
  rw [hv] at this
  cases this
  exact ⟨G2,.refl,w,dv.mono sb⟩
theorem jok_tup {K:PySem.W.Frag} {pa a:Addr} {G:Hp} {vs:List V} {xs:List PyData} (h:G a=some (.tup vs)) (d:DnAll G vs xs):JOk PK pa (Itt K a) G xs:=fun m G2 H2 sb w=>by
  have hq:SqT K H2 a vs:=SqT.of (w.sub _ _ (sb _ _ h))
  refine ⟨fun n x hx=>?_,vs,hq,by rw [d.length]; exact Nat.le_refl _⟩
  obtain ⟨v,hv,dv⟩:=d.get n hx
  refine ⟨⟨vs,v,hq,hv⟩,fun y H3 hz0=>?_⟩
  obtain ⟨e,hy⟩:=hz0
  subst e
  have:=hy vs hq
  rw [hv] at this
  cases this
  exact ⟨G2,.refl,w,dv.mono sb⟩
noncomputable def itD:PyData→Option (List PyData)
  | .list xs=>some xs
  | .tuple xs=>some xs
  | _=>none
@[simp] theorem itD_list (xs:List PyData):itD (.list xs)=some xs:=rfl
@[simp] theorem itD_tuple (xs:List PyData):itD (.tuple xs)=some xs:=rfl
noncomputable def aIt (i:List Sl→Tr PyData):List Sl→Tr (List PyData):=fun ρ=>(i ρ).bind fun x=>Tr.of (itD x)
theorem ai_seq {tg l:Expr} (hl:PE X l (TAe PK i)):PI X tg l (TAi PK (aIt i)):=(pi_seq hl).imp fun σ H R0 hz0=>by
  obtain ⟨pa,G₀,H₀,m,ρ,G,R,z⟩:=hz0
  refine TAe.then R z fun m1 x v G1 H1 s1 w1 R1 d1 q1=>?_
  obtain ⟨xs,hx,q1⟩:=Tr.ok_of q1
  cases d1 with
  | lst h1 h2=>cases hx; exact ⟨_,rfl,.inl ⟨_,SqL.of (w1.sub _ _ h1),q1 _ G1 H1 s1 w1 (jok_list h1 h2)⟩⟩
  | tup h1 h2=>cases hx; exact ⟨_,rfl,.inr ⟨_,SqT.of (w1.sub _ _ h1),q1 _ G1 H1 s1 w1 (jok_tup h1 h2)⟩⟩
  | _=>cases hx
noncomputable def rngL (lo hi:Int):List PyData:=(rangeI lo (hi - lo).toNat).map PyData.int
theorem jok_rng {pa:Addr} {G:Hp} {lo:Int} {n:Nat}:JOk PK pa (Itr lo n) G ((rangeI lo n).map PyData.int):=fun m G2 H2 sb w=>by
  refine ⟨fun k x hx=>?_,by show n≤_; rw [List.length_map,rangeI_length]; exact Nat.le_refl _⟩
  have hk:k < n:=by
    have:=(List.getElem?_eq_some_iff.mp hx).1
    rwa [List.length_map,rangeI_length] at this
  refine ⟨hk,fun y H3 hz0=>?_⟩
  obtain ⟨e1,e2⟩:=hz0
  subst e1 e2
  have:x=.int (lo+k):=by
    unfold rangeI at hx
    simp [hk] at hx
    exact hx.symm
  subst this
  exact ⟨G2,.refl,w,.int _⟩
noncomputable def inR (n:Int):Bool:=decide (-(2 ^ 62)≤n∧n < 2 ^ 62)
noncomputable def rngD1:List PyData→Option (List PyData)
  | [.int n]=>if inR n=true then some (rngL 0 n) else none
  | _=>none
noncomputable def rngD2:List PyData→Option (List PyData)
  | [.int k,.int n]=>if (inR k && inR n)=true then some (rngL k n) else none
  | _=>none
noncomputable def aRng1 (is:List Sl→Tr (List PyData)):List Sl→Tr (List PyData):=fun ρ=>(is ρ).bind fun xs=>Tr.of (rngD1 xs)
noncomputable def aRng2 (is:List Sl→Tr (List PyData)):List Sl→Tr (List PyData):=fun ρ=>(is ρ).bind fun xs=>Tr.of (rngD2 xs)
end L2
set_option Elab.async false
set_option linter.all false
set_option maxRecDepth 100000
namespace L2
open PySem PySem.Spec PyProof.Rows
variable {PK:Pk} {X:Cx} {a b c e:Expr} {es:List Expr} {pos:Pos} {i j l:List Sl→Tr PyData} {is:List Sl→Tr (List PyData)}
noncomputable def fit (n:Int):Bool:=decide (n.natAbs < 2 ^ 8000)
noncomputable def addD:PyData→PyData→Option PyData
  | .int m,.int n=>some (.int (m+n))
  | .tuple xs,.tuple ys=>if (!xs.isEmpty && small (xs.length+ys.length))=true then some (.tuple (xs++ys)) else none
  | .list xs,.list ys=>if small (xs.length+ys.length)=true then some (.list (xs++ys)) else none
  | _,_=>none
noncomputable def rAddD (K:PySem.W.Frag):R2:=fun x y H Q=>rI0 (fun i j=>.int (i+j)) x y H Q∨rCatT K x y H Q∨rCat x y H Q
theorem op_addD:OpR X (binaryOp .Add) (rAddD X.K):=op_add.or (op_catT.or op_cat)
theorem vo_add {K:PySem.W.Frag}:VOp2 (rAddD K) addD:=fun PK pa m G H x y dx dy dz Q w hx hy hz k=>by
  unfold addD at hz
  split at hz
  · cases hz; cases hx; cases hy
    exact .inl ⟨_,_,rfl,rfl,k.here w (.int _)⟩
  · rename_i xs ys
    split at hz
    · rename_i hc
      rw [Bool.and_eq_true] at hc
      have h1:xs.isEmpty=false:=by simpa using hc.1
      have h2:xs.length+ys.length≤sizeLine:=of_decide_eq_true hc.2
      cases hz
      cases hx with
      | tup a1 a2 =>
        cases hy with
        | tup b1 b2 =>
          refine .inr (.inl ⟨_,_,_,_,rfl,rfl,SqT.of (w.sub _ _ a1),SqT.of (w.sub _ _ b1),?_,by rw [a2.length,b2.length]; exact h2,fun e=>?_,fun e p hp=>k.tup w (a2.append b2) hp⟩)
          · intro e
            rw [← a2.isEmpty,e] at h1
            cases h1
          · subst e
            cases b2
            refine k.here w ?_
            rw [List.append_nil]
            exact .tup a1 a2
    · cases hz
  · rename_i xs ys
    split at hz
    · rename_i hc
      have h2:xs.length+ys.length≤sizeLine:=of_decide_eq_true hc
      cases hz
      cases hx with
      | lst a1 a2 =>
        cases hy with
        | lst b1 b2=>exact .inr (.inr ⟨_,_,_,_,rfl,rfl,w.sub _ _ a1,w.sub _ _ b1,by rw [a2.length,b2.length]; exact h2,fun p hp=>k.lst w (a2.append b2) hp⟩)
    · cases hz
  · cases hz
noncomputable def subD:PyData→PyData→Option PyData
  | .int m,.int n=>some (.int (m - n))
  | _,_=>none
theorem vo_sub:VOp2 (rI0 fun i j=>.int (i - j)) subD:=fun PK pa m G H x y dx dy dz Q w hx hy hz k=>by
  unfold subD at hz
  split at hz
  · cases hz; cases hx; cases hy
    exact ⟨_,_,rfl,rfl,k.here w (.int _)⟩
  · cases hz
theorem DnAll.rep {H:Hp} {vs:List V} {ds:List PyData} (h:DnAll H vs ds):∀ k:Nat,DnAll H (List.replicate k vs).flatten (List.replicate k ds).flatten
  | 0=>.nil
  | k+1=>by
    rw [List.replicate_succ,List.replicate_succ,List.flatten_cons,List.flatten_cons]
    exact h.append (h.rep k)
noncomputable def rMulD (K:PySem.W.Frag):R2:=fun x y H Q=>rI CMulG (fun i j=>.int (i * j)) x y H Q∨rRepT K x y H Q∨rRep x y H Q
theorem op_mulD:OpR X (binaryOp .Mult) (rMulD X.K):=op_mulG.or (op_repT.or op_rep)
noncomputable def mulD':PyData→PyData→Option PyData
  | .int m,.int n=>if (fit m && fit n)=true then some (.int (m * n)) else none
  | .tuple xs,.int n=>if (decide (1 < n) && decide (n≤1000) && !xs.isEmpty && decide (xs.length≤1000))=true then some (.tuple (List.replicate n.toNat xs).flatten) else none
  | .list xs,.int n=>if (decide (-(2 ^ 63)≤n) && decide (n < 2 ^ 63) && small (xs.length * n.toNat))=true then some (.list (List.replicate n.toNat xs).flatten) else none
  | _,_=>none
theorem vo_mul {K:PySem.W.Frag}:VOp2 (rMulD K) mulD':=fun PK pa m G H x y dx dy dz Q w hx hy hz k=>by
  unfold mulD' at hz
  split at hz
  · split at hz
    · rename_i hc
      rw [Bool.and_eq_true] at hc
      cases hz; cases hx; cases hy
      exact .inl ⟨_,_,rfl,rfl,⟨of_decide_eq_true hc.1,of_decide_eq_true hc.2⟩,k.here w (.int _)⟩
    · cases hz
  · split at hz
    · rename_i hc
      simp only [Bool.and_eq_true,decide_eq_true_eq,Bool.not_eq_true'] at hc
      cases hz; cases hy
      cases hx with
      | tup a1 a2 =>
        refine .inr (.inl ⟨_,_,_,rfl,rfl,SqT.of (w.sub _ _ a1),hc.1.1.1,hc.1.1.2,?_,by rw [a2.length]; exact hc.2,fun p hp=>k.tup w (a2.rep _) hp⟩)
        intro e
        have:=hc.1.2
        rw [← a2.isEmpty,e] at this
        cases this
    · cases hz
  · split at hz
    · rename_i hc
      simp only [Bool.and_eq_true,decide_eq_true_eq] at hc
      cases hz; cases hy
      cases hx with
      | lst a1 a2=>exact .inr (.inr ⟨_,_,_,rfl,rfl,w.sub _ _ a1,hc.1.1,hc.1.2,by rw [a2.length]; exact of_decide_eq_true hc.2,fun p hp=>k.lst w (a2.rep _) hp⟩)
    · cases hz
  · cases hz
noncomputable def fdivD:PyData→PyData→Option PyData
  | .int m,.int n=>if (decide (n≠0) && fit n)=true then some (.int (m.fdiv n)) else none
  | _,_=>none
theorem vo_fdiv:VOp2 (rI CDivG fun i j=>.int (i.fdiv j)) fdivD:=fun PK pa m G H x y dx dy dz Q w hx hy hz k=>by
  unfold fdivD at hz
  split at hz
  · split at hz
    · rename_i hc
      rw [Bool.and_eq_true] at hc
      cases hz; cases hx; cases hy
      exact ⟨_,_,rfl,rfl,⟨of_decide_eq_true hc.1,of_decide_eq_true hc.2⟩,k.here w (.int _)⟩
    · cases hz
  · cases hz
noncomputable def modD:PyData→PyData→Option PyData
  | .int m,.int n=>if decide (n≠0)=true then some (.int (m.fmod n)) else none
  | _,_=>none
theorem vo_mod:VOp2 (rI (fun _ j=>j≠0) fun i j=>.int (i.fmod j)) modD:=fun PK pa m G H x y dx dy dz Q w hx hy hz k=>by
  unfold modD at hz
  split at hz
  · split at hz
    · rename_i hc
      cases hz; cases hx; cases hy
      exact ⟨_,_,rfl,rfl,of_decide_eq_true hc,k.here w (.int _)⟩
    · cases hz
  · cases hz
noncomputable def powD:PyData→PyData→Option PyData
  | .int m,.int n=>if (decide (0≤n) && decide (n≤1000000) && decide (m.natAbs < 2 ^ 64))=true then some (.int (m ^ n.toNat)) else none
  | _,_=>none
theorem vo_pow:VOp2 (rI CPow fun i j=>.int (i ^ j.toNat)) powD:=fun PK pa m G H x y dx dy dz Q w hx hy hz k=>by
  unfold powD at hz
  split at hz
  · split at hz
    · rename_i hc
      simp only [Bool.and_eq_true,decide_eq_true_eq] at hc
      cases hz; cases hx; cases hy
      exact ⟨_,_,rfl,rfl,⟨hc.1.1,hc.1.2,hc.2⟩,k.here w (.int _)⟩
    · cases hz
  · cases hz
noncomputable def aNeg (i:List Sl→Tr PyData):List Sl→Tr PyData:=fun ρ=>(i ρ).bind fun x=>match x with
  | .int n=>.ret (.int (-n))
  | _=>.fail
theorem ae_neg (ha:PE X a (TAe PK i)):PE X (.UnaryOp .USub a pos) (TAe PK (aNeg i)):=(pe_un un_neg ha).imp fun σ H Q hz0=>by
  obtain ⟨pa,G₀,H₀,m,ρ,G,R,z⟩:=hz0
  refine TAe.then R z fun m1 x v G1 H1 s1 w1 R1 d1 q1=>?_
  cases d1 with
  | int n=>exact ⟨n,rfl,(Kn.later q1 s1 w1.some).here w1 (.int _)⟩
  | _=>exact q1.elim
noncomputable def cmpD (f:Int→Int→Bool):PyData→PyData→Option PyData
  | .int m,.int n=>some (.bool (f m n))
  | _,_=>none
theorem vo_cmp {f:Int→Int→Bool}:VOp2 (rI0 fun i j=>.bl (f i j)) (cmpD f):=fun PK pa m G H x y dx dy dz Q w hx hy hz k=>by
  unfold cmpD at hz
  split at hz
  · cases hz; cases hx; cases hy
    exact ⟨_,_,rfl,rfl,k.here w (.bl _)⟩
  · cases hz
noncomputable def eqD:PyData→PyData→Option PyData
  | .str m,.str n=>some (.bool (m == n))
  | x,y=>if (SeqAt.shaped x && SeqAt.shaped y)=true then some (.bool (PyData.eqv x y)) else none
noncomputable def neD:PyData→PyData→Option PyData
  | .str m,.str n=>some (.bool (!(m == n)))
  | x,y=>if (SeqAt.shaped x && SeqAt.shaped y)=true then some (.bool (!PyData.eqv x y)) else none
noncomputable def rEqD:R2:=fun x y H Q=>rEq x y H Q∨∃ d e,Dn H x d∧Dn H y e∧SeqAt.shaped d=true∧SeqAt.shaped e=true∧Q (.bl (PyData.eqv d e)) H
noncomputable def rNeD:R2:=fun x y H Q=>rNe x y H Q∨∃ d e,Dn H x d∧Dn H y e∧SeqAt.shaped d=true∧SeqAt.shaped e=true∧Q (.bl (!PyData.eqv d e)) H
theorem op_eqA {k:Nat} (hr:Room k X.A):OpR X (compareOp .Eq) rEqD:=op_eq.or (op_eqD hr)
theorem op_neA {k:Nat} (hr:Room k X.A):OpR X (compareOp .NotEq) rNeD:=op_ne.or (op_neD hr)
theorem vo_eq:VOp2 rEqD eqD:=fun PK pa m G H x y dx dy dz Q w hx hy hz k=>by
  unfold eqD at hz
  split at hz
  · cases hz; cases hx; cases hy
    exact .inl ⟨rfl,by rw [dec_str]; exact k.here w (.bl _)⟩
  · split at hz
    · rename_i hc
      rw [Bool.and_eq_true] at hc
      cases hz
      exact .inr ⟨_,_,hx.mono w.sub,hy.mono w.sub,hc.1,hc.2,k.here w (.bl _)⟩
    · cases hz
theorem vo_ne:VOp2 rNeD neD:=fun PK pa m G H x y dx dy dz Q w hx hy hz k=>by
  unfold neD at hz
  split at hz
  · cases hz; cases hx; cases hy
    exact .inl ⟨rfl,by rw [dec_str]; exact k.here w (.bl _)⟩
  · split at hz
    · rename_i hc
      rw [Bool.and_eq_true] at hc
      cases hz
      exact .inr ⟨_,_,hx.mono w.sub,hy.mono w.sub,hc.1,hc.2,k.here w (.bl _)⟩
    · cases hz
noncomputable def isBD:PyData→PyData→Option PyData
  | .bool m,.bool n=>some (.bool (m == n))
  | _,_=>none
noncomputable def isnBD:PyData→PyData→Option PyData
  | .bool m,.bool n=>some (.bool (!(m == n)))
  | _,_=>none
theorem vo_isnB:VOp2 (fun x y H Q=>∃ a b,x=.bl a∧y=.bl b∧Q (.bl (!(a == b))) H) isnBD:=fun PK pa m G H x y dx dy dz Q w hx hy hz k=>by
  unfold isnBD at hz
  split at hz
  · cases hz; cases hx; cases hy
    exact ⟨_,_,rfl,rfl,k.here w (.bl _)⟩
  · cases hz
noncomputable def isNo:PyData→Bool
  | .none=>true
  | _=>false
noncomputable def isND:PyData→PyData→Option PyData:=fun x y=>if isNo y=true then some (.bool (isNo x)) else none
noncomputable def isnND:PyData→PyData→Option PyData:=fun x y=>if isNo y=true then some (.bool (!isNo x)) else none
noncomputable def ixD:PyData→PyData→Option PyData
  | .list xs,.int n=>atI xs n
  | .tuple xs,.int n=>atI xs n
  | _,_=>none
theorem DnAll.at {H:Hp} {vs:List V} {ds:List PyData} {n:Int} {d:PyData} (h:DnAll H vs ds) (e:atI ds n=some d):∃ v,atI vs n=some v∧Dn H v d:=by
  unfold atI at e ⊢
  rw [← h.length] at e
  cases hn:ixN vs.length n with
  | none=>rw [hn] at e; cases e
  | some j =>
    rw [hn] at e
    exact h.get j e
theorem vo_ix {K:PySem.W.Frag}:VOp2 (rIx K) ixD:=fun PK pa m G H x y dx dy dz Q w hx hy hz k=>by
  unfold ixD at hz
  split at hz
  · cases hy
    cases hx with
    | lst a1 a2 =>
      obtain ⟨v,h1,h2⟩:=a2.at hz
      exact .inl ⟨_,_,_,v,rfl,rfl,SqL.of (w.sub _ _ a1),h1,k.here w h2⟩
  · cases hy
    cases hx with
    | tup a1 a2 =>
      obtain ⟨v,h1,h2⟩:=a2.at hz
      exact .inr (.inl ⟨_,_,_,v,rfl,rfl,SqT.of (w.sub _ _ a1),h1,k.here w h2⟩)
  · cases hz

noncomputable def lenD:List PyData→Option PyData
  | [.list xs]=>some (.int xs.length)
  | [.tuple xs]=>some (.int xs.length)
  | _=>none
theorem vc_len {K:PySem.W.Frag}:VCl (fun xs H Q=>∃ p ys,xs=[.ref p]∧(SqL K H p ys∨SqT K H p ys)∧Q (.int ys.length) H) lenD:=fun PK pa m G H vs ds d Q w hv hd k=>by
  unfold lenD at hd
  split at hd
  · cases hd
    cases hv with
    | cons h1 h2 =>
      cases h2
      cases h1 with
      | lst a1 a2=>exact ⟨_,_,rfl,.inl (SqL.of (w.sub _ _ a1)),by rw [a2.length]; exact k.here w (.int _)⟩
  · cases hd
    cases hv with
    | cons h1 h2 =>
      cases h2
      cases h1 with
      | tup a1 a2=>exact ⟨_,_,rfl,.inr (SqT.of (w.sub _ _ a1)),by rw [a2.length]; exact k.here w (.int _)⟩
  · cases hd
noncomputable def absI (n:Int):Int:=if n < 0 then -n else n
noncomputable def absD:List PyData→Option PyData
  | [.int n]=>some (.int (absI n))
  | _=>none
theorem vc_abs:VCl (fun xs H Q=>∃ i,xs=[.int i]∧Q (.int (if i < 0 then -i else i)) H) absD:=fun PK pa m G H vs ds d Q w hv hd k=>by
  unfold absD at hd
  split at hd
  · cases hd
    cases hv with
    | cons h1 h2=>cases h2; cases h1; exact ⟨_,rfl,k.here w (.int _)⟩
  · cases hd
noncomputable def maxI (m n:Int):Int:=if n > m then n else m
noncomputable def minI (m n:Int):Int:=if n < m then n else m
noncomputable def max2D:List PyData→Option PyData
  | [.int m,.int n]=>some (.int (maxI m n))
  | _=>none
noncomputable def min2D:List PyData→Option PyData
  | [.int m,.int n]=>some (.int (minI m n))
  | _=>none
noncomputable def intD:List PyData→Option PyData
  | [.int n]=>some (.int n)
  | [.bool n]=>some (.int (if n then 1 else 0))
  | _=>none
theorem vc_int:VCl (fun xs H Q=>(∃ i,xs=[.int i]∧Q (.int i) H)∨∃ k,xs=[.bl k]∧Q (.int (if k then 1 else 0)) H) intD:=fun PK pa m G H vs ds d Q w hv hd k=>by
  unfold intD at hd
  split at hd
  · cases hd
    cases hv with
    | cons h1 h2=>cases h2; cases h1; exact .inl ⟨_,rfl,k.here w (.int _)⟩
  · cases hd
    cases hv with
    | cons h1 h2=>cases h2; cases h1; exact .inr ⟨_,rfl,k.here w (.int _)⟩
  · cases hd
noncomputable def tupD:List PyData→Option PyData
  | [.list xs]=>some (.tuple xs)
  | [.tuple xs]=>some (.tuple xs)
  | _=>none
noncomputable def lstD:List PyData→Option (List PyData)
  | [.list xs]=>some xs
  | [.tuple xs]=>some xs
  | _=>none
noncomputable def reprOk (d:PyData):Bool:=!d.hasDict && d.showable && decide (d.depth≤32) && decide (d.shown.length≤sizeLine)
noncomputable def tyD:PyData→String
  | .none=>"NoneType"
  | .bool _=>"bool"
  | .int _=>"int"
  | .str _=>"str"
  | .list _=>"list"
  | .tuple _=>"tuple"
  | .dict _=>"dict"
theorem Dn.ty {K:PySem.W.Frag} {G H:Hp} (sb:Sub G H) {v:V} {d:PyData} (h:Dn G v d):TyOf K H v (.type (tyD d)):=by
  cases h with
  | non=>exact .non
  | bl b=>exact .bl b
  | int i=>exact .int i
  | str x=>exact .str x
  | tup h _=>exact .tup (sb _ _ h)
  | lst h _=>exact .lst (sb _ _ h)
  | dct h _=>exact .dK (sb _ _ h)
noncomputable def isiB (T:String) (t:String):Bool:=decide (t=T) || (decide (T="int") && decide (t="bool"))
noncomputable def aIsi (T:String) (i:List Sl→Tr PyData):List Sl→Tr PyData:=fun ρ=>(i ρ).bind fun x=>.ret (.bool (isiB T (tyD x)))
noncomputable def isiT (T:String):Prop:=T="int"∨T="bool"∨T="str"∨T="list"∨T="tuple"∨T="dict"
theorem kit_all {K:PySem.W.Frag} {T:String} (h:isiT T) (d:PyData):PySem.W.kitOne K (.type (tyD d)) (.type T)=some (isiB T (tyD d)):=by
  rcases h with rfl | rfl | rfl | rfl | rfl | rfl <;> cases d <;> rfl
theorem ae_isi {T:String} {tc:TE} (hT:isiT T) (htc:tc=tC (.ty T)) (h:PE X e (tCB (fun xs H Q=>∃ x T t b,xs=[x,.ty T]∧TyOf X.K H x t∧PySem.W.kitOne X.K t (.type T)=some b∧Q (.bl b) H) (tCons (TAe PK i) (tCons tc tNil)))):PE X e (TAe PK (aIsi T i)):=h.imp fun σ H Q hz0=>by
  obtain ⟨pa,G₀,H₀,m,ρ,G,R,z⟩:=hz0
  subst htc
  refine TAe.then R z fun m1 x v G1 H1 s1 w1 R1 d1 q1=>?_
  exact ⟨v,T,_,_,rfl,d1.ty w1.sub,kit_all hT x,(Kn.later q1 s1 w1.some).here w1 (.bl _)⟩
noncomputable def cutD (xs:List PyData) (lo hi:Option Int):List PyData:=(xs.drop (HT.sIx xs.length 0 lo)).take (HT.sIx xs.length xs.length hi - HT.sIx xs.length 0 lo)
noncomputable abbrev aPart:=List Sl→Tr (Option Int)
noncomputable def aP0:aPart:=fun _=>.ret none
noncomputable def aP1 (i:List Sl→Tr PyData):aPart:=fun ρ=>(i ρ).bind fun x=>match x with
  | .int n=>.ret (some n)
  | _=>.fail
noncomputable def sliceD (x:PyData) (lo hi:Option Int):Option PyData:=match x with
  | .list xs=>some (.list (cutD xs lo hi))
  | .tuple xs=>some (.tuple (cutD xs lo hi))
  | _=>none
noncomputable def aSl (i:List Sl→Tr PyData) (p q:aPart):List Sl→Tr PyData:=fun ρ=>(i ρ).bind fun x=>(p ρ).bind fun lo=>(q ρ).bind fun hi=>Tr.of (sliceD x lo hi)
noncomputable def rngOk (lo hi:Int):Bool:=inR lo && inR hi && decide ((hi - lo).toNat≤1000)
noncomputable def rngV2:List PyData→Option (List PyData)
  | [.int lo,.int hi]=>if rngOk lo hi=true then some (rngL lo hi) else none
  | _=>none
noncomputable def rngV1:List PyData→Option (List PyData)
  | [.int hi]=>if rngOk 0 hi=true then some (rngL 0 hi) else none
  | _=>none
noncomputable def aTupR (is:List Sl→Tr (List PyData)):List Sl→Tr PyData:=fun ρ=>(is ρ).bind fun xs=>(Tr.of (rngV2 xs)).bind fun ys=>.ret (.tuple ys)
noncomputable def aLstR (is:List Sl→Tr (List PyData)):List Sl→Tr (List PyData):=fun ρ=>(is ρ).bind fun xs=>Tr.of (rngV2 xs)
noncomputable def ints?:List PyData→Option (List Int)
  | []=>some []
  | .int n::xs=>(ints? xs).bind fun ns=>some (n::ns)
  | _=>none
@[simp] theorem ints?_map:∀ ns:List Int,ints? (ns.map PyData.int)=some ns
  | []=>rfl
  | n::ns=>by rw [List.map_cons,ints?,ints?_map ns]; rfl
end L2
set_option Elab.async false
set_option linter.all false
set_option maxRecDepth 100000
namespace L2
open PySem PySem.Spec PyProof.Rows
section
variable {prog:Program} {w:World} {A:Around} {E:Value→Shared→Prop} {s:Shared}
end
section
variable {X:Cx} {pins:List (Addr×Obj)} {σ:St} {H:Hp} {s:Shared} {h':Heap}
end
end L2
set_option Elab.async false
set_option linter.all false
set_option maxRecDepth 100000
namespace L2
open PySem PySem.Spec PyProof.Rows
open AutoSeq1 (wpAny_loadPart')
section
variable {X:Cx} {tg:Expr} {PK:Pk} {a b:Expr} {i j:List Sl→Tr PyData} {p pos:Pos}
noncomputable def zipD (xs ys:List PyData):List PyData:=(xs.zip ys).map fun (x,y)=>.tuple [x,y]
noncomputable def aZip (i j:List Sl→Tr PyData):List Sl→Tr (List PyData):=fun ρ=>(i ρ).bind fun x=>(j ρ).bind fun y=>(Tr.of (itD x)).bind fun xs=>(Tr.of (itD y)).bind fun ys=>.ret (zipD xs ys)
end
section
variable {prog:Program} {w:World} {A:Around} {E:Value→Shared→Prop} {s:Shared}
end
section
variable {X:Cx} {tg:Expr} {PK:Pk} {a b:Expr} {i j:List Sl→Tr PyData} {p pos:Pos}
noncomputable def enumD (xs:List PyData):List PyData:=(List.range xs.length).zipWith (fun (n:Nat) x=>.tuple [.int n,x]) xs
noncomputable def aEnum (i:List Sl→Tr PyData):List Sl→Tr (List PyData):=fun ρ=>(i ρ).bind fun x=>(Tr.of (itD x)).bind fun xs=>.ret (enumD xs)
end
end L2
set_option Elab.async false
set_option linter.all false
set_option maxRecDepth 100000
namespace L2
open PySem PySem.Spec PyProof.Rows
section
variable {prog:Program} {w:World} {A:Around}
end
section
variable {X:Cx} {PK:Pk}
noncomputable def maxL:List Int→Int
  | []=>0
  | [n]=>n
  | n::m::r=>maxI (maxL (m::r)) n
noncomputable def bools?:List PyData→Option (List Bool)
  | []=>some []
  | .bool n::xs=>(bools? xs).bind fun ns=>some (n::ns)
  | _=>none
@[simp] theorem bools?_map:∀ ns:List Bool,bools? (ns.map PyData.bool)=some ns
  | []=>rfl
  | n::ns=>by rw [List.map_cons,bools?,bools?_map ns]; rfl
noncomputable def onL {α:Type} (p:List PyData→Option α) (f:α→Option PyData):List PyData→Option PyData
  | [x]=>(itD x).bind fun xs=>(p xs).bind f
  | _=>none
noncomputable def sumD:List PyData→Option PyData:=onL ints? fun ns=>some (.int ns.sum)
noncomputable def max1D:List PyData→Option PyData:=onL ints? fun ns=>if (!ns.isEmpty)=true then some (.int (maxL ns)) else none
noncomputable def allD:List PyData→Option PyData:=onL bools? fun ns=>some (.bool (ns.all id))
noncomputable def anyD:List PyData→Option PyData:=onL bools? fun ns=>some (.bool (ns.any id))
variable {a b c e:Expr} {pos:Pos} {i j l:List Sl→Tr PyData}
noncomputable def aChain (f g:PyData→PyData→Option PyData) (i j l:List Sl→Tr PyData):List Sl→Tr PyData:=fun ρ=>(i ρ).bind fun x=>(j ρ).bind fun y=>(Tr.of (f x y)).bind fun z=>(Tr.of (toB z)).bind fun k =>
  if k=true then (l ρ).bind fun u=>Tr.of (g y u) else .ret (.bool false)
noncomputable def iaddD:PyData→PyData→Option PyData
  | .int m,.int n=>some (.int (m+n))
  | _,_=>none
noncomputable def imulD:PyData→PyData→Option PyData
  | .int m,.int n=>if (fit m && fit n)=true then some (.int (m * n)) else none
  | _,_=>none
end
end L2
set_option Elab.async false
set_option linter.all false
set_option maxRecDepth 100000
namespace L2
open PySem PySem.Spec PyProof.Rows
variable {ρ:List Sl} {s t:List Sl→Tr Ou} {i j l:List Sl→Tr PyData} {is:List Sl→Tr (List PyData)} {as:List Sl→Tr (List Sl)} {f:List Sl→Tr Re} {p q:List Sl→Tr Bool} {k n:Nat} {x y d:PyData} {xs ys:List PyData} {sl:Sl}
theorem ev_var0:aVar 0 (.d x::ρ)=.ret x:=rfl
theorem ev_varS:aVar (k+1) (sl::ρ)=aVar k ρ:=rfl
theorem ev_C:aC d ρ=.ret d:=rfl
noncomputable def bin2 (g:PyData→PyData→Option PyData) (x y:PyData):Tr PyData:=Tr.of (g x y)
noncomputable def bin1 (g:PyData→PyData→Option PyData) (j:List Sl→Tr PyData) (ρ:List Sl) (x:PyData):Tr PyData:=(j ρ).bind (bin2 g x)
theorem ev_bin {g:PyData→PyData→Option PyData}:aBin g i j ρ=(i ρ).bind (bin1 g j ρ):=rfl
theorem ev_bin1 {g:PyData→PyData→Option PyData}:bin1 g j ρ x=(j ρ).bind (bin2 g x):=rfl
theorem ev_add (m n:Int):bin2 addD (.int m) (.int n)=.ret (.int (m+n)):=rfl
theorem ev_addT (h1:xs.isEmpty=false) (h2:small (xs.length+ys.length)=true):bin2 addD (.tuple xs) (.tuple ys)=.ret (.tuple (xs++ys)):=by
  simp [bin2,addD,h1,h2]
theorem ev_addL (h2:small (xs.length+ys.length)=true):bin2 addD (.list xs) (.list ys)=.ret (.list (xs++ys)):=by
  simp [bin2,addD,h2]
theorem ev_sub (m n:Int):bin2 subD (.int m) (.int n)=.ret (.int (m - n)):=rfl
theorem ev_mul {m n:Int} (h1:fit m=true) (h2:fit n=true):bin2 mulD' (.int m) (.int n)=.ret (.int (m * n)):=by
  simp [bin2,mulD',h1,h2]
theorem ev_fdiv {m n:Int} (h1:n≠0) (h2:fit n=true):bin2 fdivD (.int m) (.int n)=.ret (.int (m.fdiv n)):=by
  simp [bin2,fdivD,h1,h2]
theorem ev_mod {m n:Int} (h1:n≠0):bin2 modD (.int m) (.int n)=.ret (.int (m.fmod n)):=by
  simp [bin2,modD,h1]
theorem ev_cmp {g:Int→Int→Bool} (m n:Int):bin2 (cmpD g) (.int m) (.int n)=.ret (.bool (g m n)):=rfl
theorem ev_eqI (m n:Int):bin2 eqD (.int m) (.int n)=.ret (.bool (m == n)):=rfl
theorem ev_neI (m n:Int):bin2 neD (.int m) (.int n)=.ret (.bool (!(m == n))):=rfl
theorem ev_eqB (m n:Bool):bin2 eqD (.bool m) (.bool n)=.ret (.bool (m == n)):=rfl
theorem ev_eqS (m n:Str):bin2 eqD (.str m) (.str n)=.ret (.bool (m == n)):=rfl
theorem ev_neS (m n:Str):bin2 neD (.str m) (.str n)=.ret (.bool (!(m == n))):=rfl
theorem ev_isB (m n:Bool):bin2 isBD (.bool m) (.bool n)=.ret (.bool (m == n)):=rfl
theorem ev_isnB (m n:Bool):bin2 isnBD (.bool m) (.bool n)=.ret (.bool (!(m == n))):=rfl
theorem ev_isN:bin2 isND x .none=.ret (.bool (isNo x)):=rfl
theorem ev_isnN:bin2 isnND x .none=.ret (.bool (!isNo x)):=rfl
theorem ev_ixL (n:Int):bin2 ixD (.list xs) (.int n)=Tr.of (atI xs n):=rfl
theorem ev_ixT (n:Int):bin2 ixD (.tuple xs) (.int n)=Tr.of (atI xs n):=rfl
section
variable {α:Type} {a0 a1 a2 a3 a4 a5 a6 a7 a8:α} {r:List α}
theorem at_0:atI (a0::r) 0=some a0:=atI_nat (j:=0) rfl
theorem at_1:atI (a0::a1::r) 1=some a1:=atI_nat (j:=1) rfl
theorem at_2:atI (a0::a1::a2::r) 2=some a2:=atI_nat (j:=2) rfl
theorem at_3:atI (a0::a1::a2::a3::r) 3=some a3:=atI_nat (j:=3) rfl
theorem at_4:atI (a0::a1::a2::a3::a4::r) 4=some a4:=atI_nat (j:=4) rfl
theorem at_5:atI (a0::a1::a2::a3::a4::a5::r) 5=some a5:=atI_nat (j:=5) rfl
theorem at_6:atI (a0::a1::a2::a3::a4::a5::a6::r) 6=some a6:=atI_nat (j:=6) rfl
theorem at_7:atI (a0::a1::a2::a3::a4::a5::a6::a7::r) 7=some a7:=atI_nat (j:=7) rfl
theorem at_8:atI (a0::a1::a2::a3::a4::a5::a6::a7::a8::r) 8=some a8:=atI_nat (j:=8) rfl
end
noncomputable def neg1:PyData→Tr PyData
  | .int n=>.ret (.int (-n))
  | _=>.fail
theorem ev_neg:aNeg i ρ=(i ρ).bind neg1:=by
  unfold aNeg
  refine congrArg (Tr.bind (i ρ)) (funext fun x=>?_)
  cases x <;> rfl
theorem ev_neg1 (n:Int):neg1 (.int n)=.ret (.int (-n)):=rfl
noncomputable def tst1 (x:PyData):Tr Bool:=Tr.of (toB x)
theorem ev_test:aTest i ρ=(i ρ).bind tst1:=rfl
theorem ev_tst1 (b:Bool):tst1 (.bool b)=.ret b:=rfl
noncomputable def tru1 (x:PyData):Tr Bool:=Tr.of (truD x)
theorem ev_tru:aTru i ρ=(i ρ).bind tru1:=rfl
theorem ev_truB (b:Bool):tru1 (.bool b)=.ret b:=rfl
theorem ev_truI (n:Int):tru1 (.int n)=.ret (n != 0):=rfl
theorem ev_truL:tru1 (.list xs)=.ret (!xs.isEmpty):=rfl
theorem ev_truT:tru1 (.tuple xs)=.ret (!xs.isEmpty):=rfl
theorem ev_truN:tru1 .none=.ret false:=rfl
noncomputable def and1 (q:List Sl→Tr Bool) (ρ:List Sl) (b:Bool):Tr Bool:=if b=true then q ρ else .ret false
noncomputable def or1 (q:List Sl→Tr Bool) (ρ:List Sl) (b:Bool):Tr Bool:=if b=true then .ret true else q ρ
noncomputable def not1 (b:Bool):Tr Bool:=.ret (!b)
theorem ev_and:aAnd p q ρ=(p ρ).bind (and1 q ρ):=rfl
theorem ev_or:aOr p q ρ=(p ρ).bind (or1 q ρ):=rfl
theorem ev_not:aNot p ρ=(p ρ).bind not1:=rfl
theorem ev_and1t:and1 q ρ true=q ρ:=rfl
theorem ev_and1f:and1 q ρ false=.ret false:=rfl
theorem ev_or1t:or1 q ρ true=.ret true:=rfl
theorem ev_or1f:or1 q ρ false=q ρ:=rfl
theorem ev_not1 (b:Bool):not1 b=.ret (!b):=rfl
noncomputable def andV1 (j:List Sl→Tr PyData) (ρ:List Sl) (b:Bool):Tr PyData:=if b=true then j ρ else .ret (.bool false)
noncomputable def orV1 (j:List Sl→Tr PyData) (ρ:List Sl) (b:Bool):Tr PyData:=if b=true then .ret (.bool true) else j ρ
noncomputable def notV1 (b:Bool):Tr PyData:=.ret (.bool (!b))
theorem ev_andV:aAndV i j ρ=(aTest i ρ).bind (andV1 j ρ):=rfl
theorem ev_orV:aOrV i j ρ=(aTest i ρ).bind (orV1 j ρ):=rfl
theorem ev_notV:aNotV i ρ=(aTest i ρ).bind notV1:=rfl
theorem ev_andV1t:andV1 j ρ true=j ρ:=rfl
theorem ev_andV1f:andV1 j ρ false=.ret (.bool false):=rfl
theorem ev_orV1t:orV1 j ρ true=.ret (.bool true):=rfl
theorem ev_orV1f:orV1 j ρ false=j ρ:=rfl
theorem ev_notV1 (b:Bool):notV1 b=.ret (.bool (!b)):=rfl
noncomputable def if1 (i j:List Sl→Tr PyData) (ρ:List Sl) (b:Bool):Tr PyData:=if b=true then i ρ else j ρ
theorem ev_if:aIf p i j ρ=(p ρ).bind (if1 i j ρ):=rfl
theorem ev_if1t:if1 i j ρ true=i ρ:=rfl
theorem ev_if1f:if1 i j ρ false=j ρ:=rfl
noncomputable def ch4 (g:PyData→PyData→Option PyData) (l:List Sl→Tr PyData) (ρ:List Sl) (y:PyData) (k:Bool):Tr PyData:=if k=true then (l ρ).bind (bin2 g y) else .ret (.bool false)
noncomputable def ch3 (g:PyData→PyData→Option PyData) (l:List Sl→Tr PyData) (ρ:List Sl) (y z:PyData):Tr PyData:=(tst1 z).bind (ch4 g l ρ y)
noncomputable def ch2 (f g:PyData→PyData→Option PyData) (l:List Sl→Tr PyData) (ρ:List Sl) (x y:PyData):Tr PyData:=(bin2 f x y).bind (ch3 g l ρ y)
noncomputable def ch1 (f g:PyData→PyData→Option PyData) (j l:List Sl→Tr PyData) (ρ:List Sl) (x:PyData):Tr PyData:=(j ρ).bind (ch2 f g l ρ x)
theorem ev_chain {f g:PyData→PyData→Option PyData}:aChain f g i j l ρ=(i ρ).bind (ch1 f g j l ρ):=rfl
theorem ev_ch1 {f g:PyData→PyData→Option PyData}:ch1 f g j l ρ x=(j ρ).bind (ch2 f g l ρ x):=rfl
theorem ev_ch2 {f g:PyData→PyData→Option PyData}:ch2 f g l ρ x y=(bin2 f x y).bind (ch3 g l ρ y):=rfl
theorem ev_ch3 {g:PyData→PyData→Option PyData} (b:Bool):ch3 g l ρ y (.bool b)=ch4 g l ρ y b:=rfl
theorem ev_ch4t {g:PyData→PyData→Option PyData}:ch4 g l ρ y true=(l ρ).bind (bin2 g y):=rfl
theorem ev_ch4f {g:PyData→PyData→Option PyData}:ch4 g l ρ y false=.ret (.bool false):=rfl
noncomputable def cons2 (x:PyData) (xs:List PyData):Tr (List PyData):=.ret (x::xs)
noncomputable def cons1 (is:List Sl→Tr (List PyData)) (ρ:List Sl) (x:PyData):Tr (List PyData):=(is ρ).bind (cons2 x)
theorem ev_nil:aNil ρ=.ret []:=rfl
theorem ev_cons:aCons i is ρ=(i ρ).bind (cons1 is ρ):=rfl
theorem ev_cons1:cons1 is ρ x=(is ρ).bind (cons2 x):=rfl
theorem ev_cons2:cons2 x xs=.ret (x::xs):=rfl
noncomputable def tup1 (xs:List PyData):Tr PyData:=if small xs.length=true then .ret (.tuple xs) else .fail
theorem ev_tup:aTup is ρ=(is ρ).bind tup1:=rfl
theorem ev_tup1 (h:small xs.length=true):tup1 xs=.ret (.tuple xs):=by unfold tup1; rw [if_pos h]
noncomputable def lst1 (xs:List PyData):Tr PyData:=.ret (.list xs)
theorem ev_lst:aLst is ρ=(is ρ).bind lst1:=rfl
theorem ev_lst1:lst1 xs=.ret (.list xs):=rfl
noncomputable def lo1 (xs:List PyData):Tr (List PyData):=if small xs.length=true then .ret xs else .fail
theorem ev_lo:aLo is ρ=(is ρ).bind lo1:=rfl
theorem ev_lo1 (h:small xs.length=true):lo1 xs=.ret xs:=by unfold lo1; rw [if_pos h]
theorem small_le {n:Nat} (h:n≤10000):small n=true:=decide_eq_true (Nat.le_trans h (by decide))
noncomputable def cb1 (g:List PyData→Option PyData) (xs:List PyData):Tr PyData:=Tr.of (g xs)
noncomputable def cbo1 (g:List PyData→Option (List PyData)) (xs:List PyData):Tr (List PyData):=Tr.of (g xs)
theorem ev_cb {g:List PyData→Option PyData}:aCB g is ρ=(is ρ).bind (cb1 g):=rfl
theorem ev_cbo {g:List PyData→Option (List PyData)}:aCBo g is ρ=(is ρ).bind (cbo1 g):=rfl
theorem ev_lenL:cb1 lenD [.list xs]=.ret (.int xs.length):=rfl
theorem ev_lenT:cb1 lenD [.tuple xs]=.ret (.int xs.length):=rfl
theorem ev_abs (n:Int):cb1 absD [.int n]=.ret (.int (absI n)):=rfl
theorem ev_max2 (m n:Int):cb1 max2D [.int m,.int n]=.ret (.int (maxI m n)):=rfl
theorem ev_min2 (m n:Int):cb1 min2D [.int m,.int n]=.ret (.int (minI m n)):=rfl
theorem ev_intI (n:Int):cb1 intD [.int n]=.ret (.int n):=rfl
theorem ev_intB (b:Bool):cb1 intD [.bool b]=.ret (.int (if b then 1 else 0)):=rfl
theorem ev_tupL:cb1 tupD [.list xs]=.ret (.tuple xs):=rfl
theorem ev_tupT:cb1 tupD [.tuple xs]=.ret (.tuple xs):=rfl
theorem ev_lstL:cbo1 lstD [.list xs]=.ret xs:=rfl
theorem ev_lstT:cbo1 lstD [.tuple xs]=.ret xs:=rfl
theorem ev_sumL (ns:List Int):cb1 sumD [.list (ns.map .int)]=.ret (.int ns.sum):=by
  unfold cb1 sumD onL
  simp
theorem ev_sumT (ns:List Int):cb1 sumD [.tuple (ns.map .int)]=.ret (.int ns.sum):=by
  unfold cb1 sumD onL
  simp
theorem ev_maxL (ns:List Int) (h:ns.isEmpty=false):cb1 max1D [.list (ns.map .int)]=.ret (.int (maxL ns)):=by
  have h':ns≠[]:=fun z=>by subst z; cases h
  unfold cb1 max1D onL
  simp [h']
theorem ev_allL (ns:List Bool):cb1 allD [.list (ns.map .bool)]=.ret (.bool (ns.all id)):=by
  unfold cb1 allD onL
  simp
theorem ev_anyL (ns:List Bool):cb1 anyD [.list (ns.map .bool)]=.ret (.bool (ns.any id)):=by
  unfold cb1 anyD onL
  simp
noncomputable def isi1 (T:String) (x:PyData):Tr PyData:=.ret (.bool (isiB T (tyD x)))
theorem ev_isi {T:String}:aIsi T i ρ=(i ρ).bind (isi1 T):=rfl
theorem ev_isi1 {T:String}:isi1 T x=.ret (.bool (isiB T (tyD x))):=rfl
noncomputable def sl3 (x:PyData) (lo:Option Int) (hi:Option Int):Tr PyData:=Tr.of (sliceD x lo hi)
noncomputable def sl2 (q:aPart) (ρ:List Sl) (x:PyData) (lo:Option Int):Tr PyData:=(q ρ).bind (sl3 x lo)
noncomputable def sl1 (p q:aPart) (ρ:List Sl) (x:PyData):Tr PyData:=(p ρ).bind (sl2 q ρ x)
theorem ev_sl {p q:aPart}:aSl i p q ρ=(i ρ).bind (sl1 p q ρ):=rfl
theorem ev_sl1 {p q:aPart}:sl1 p q ρ x=(p ρ).bind (sl2 q ρ x):=rfl
theorem ev_sl2 {q:aPart} {lo:Option Int}:sl2 q ρ x lo=(q ρ).bind (sl3 x lo):=rfl
theorem ev_sl3L {lo hi:Option Int}:sl3 (.list xs) lo hi=.ret (.list (cutD xs lo hi)):=rfl
theorem ev_sl3T {lo hi:Option Int}:sl3 (.tuple xs) lo hi=.ret (.tuple (cutD xs lo hi)):=rfl
theorem ev_p0:aP0 ρ=.ret none:=rfl
noncomputable def pa1:PyData→Tr (Option Int)
  | .int n=>.ret (some n)
  | _=>.fail
theorem ev_p1:aP1 i ρ=(i ρ).bind pa1:=by
  unfold aP1
  refine congrArg (Tr.bind (i ρ)) (funext fun x=>?_)
  cases x <;> rfl
theorem ev_pa1 (n:Int):pa1 (.int n)=.ret (some n):=rfl
noncomputable def tupR1 (xs:List PyData):Tr PyData:=(Tr.of (rngV2 xs)).bind fun ys=>.ret (.tuple ys)
theorem ev_tupR:aTupR is ρ=(is ρ).bind tupR1:=rfl
theorem ev_tupR1 {lo hi:Int} (h:rngOk lo hi=true):tupR1 [.int lo,.int hi]=.ret (.tuple (rngL lo hi)):=by
  simp [tupR1,rngV2,h]
noncomputable def lstR1 (xs:List PyData):Tr (List PyData):=Tr.of (rngV2 xs)
theorem ev_lstR:aLstR is ρ=(is ρ).bind lstR1:=rfl
theorem ev_lstR1 {lo hi:Int} (h:rngOk lo hi=true):lstR1 [.int lo,.int hi]=.ret (rngL lo hi):=by
  simp [lstR1,rngV2,h]
theorem ev_aaNil:aaNil ρ=.ret []:=rfl
noncomputable def aa2 (x:Sl) (xs:List Sl):Tr (List Sl):=.ret (x::xs)
noncomputable def aa1 (as:List Sl→Tr (List Sl)) (ρ:List Sl) (x:PyData):Tr (List Sl):=(as ρ).bind (aa2 (.d x))
theorem ev_aaCons:aaCons i as ρ=(i ρ).bind (aa1 as ρ):=rfl
theorem ev_aa1:aa1 as ρ x=(as ρ).bind (aa2 (.d x)):=rfl
theorem ev_aa2 {xs:List Sl}:aa2 sl xs=.ret (sl::xs):=rfl
noncomputable def penAt:Nat→List Sl→Tr Unit
  | 0,.pen::_=>.ret ()
  | k+1,_::ρ=>penAt k ρ
  | _,_=>.fail
theorem ev_pen0:penAt 0 (.pen::ρ)=.ret ():=rfl
theorem ev_penS:penAt (k+1) (sl::ρ)=penAt k ρ:=rfl
noncomputable def aap (as:List Sl→Tr (List Sl)) (ρ:List Sl) (_:Unit):Tr (List Sl):=(as ρ).bind (aa2 .pen)
theorem ev_aaPen:aaPen k as ρ=(penAt k ρ).bind (aap as ρ):=by
  have key:∀ (k:Nat) (σ:List Sl) (as:List Sl→Tr (List Sl)) (ρ:List Sl),(match σ[k]? with | some Sl.pen=>(as ρ).bind fun xs=>Tr.ret (Sl.pen::xs) | _=>Tr.fail)=(penAt k σ).bind (aap as ρ):=by
    intro k
    induction k with
    | zero =>
      intro σ as ρ
      cases σ with
      | nil=>rfl
      | cons s r=>cases s <;> rfl
    | succ k ih =>
      intro σ as ρ
      cases σ with
      | nil=>rfl
      | cons s r=>exact ih r as ρ
  exact key k ρ as ρ
theorem ev_aap (u:Unit):aap as ρ u=(as ρ).bind (aa2 .pen):=rfl
theorem ev_call:aCall f as ρ=(as ρ).bind f:=rfl
noncomputable def re1 (r:Re):Tr PyData:=.ret r.val
theorem ev_re:aRe f ρ=(f ρ).bind re1:=rfl
theorem ev_re1 (r:Re):re1 r=.ret r.val:=rfl
theorem ev_def {as:List Sl} (h:as.length=n):aDef n k s as=(s (as++List.replicate k .un)).bind finR:=by
  unfold aDef
  rw [if_pos (decide_eq_true h)]
theorem ev_finN:finR (.next ρ)=.ret (.d .none):=rfl
theorem ev_finR (r:Re):finR (.ret r)=.ret r:=rfl
noncomputable def seq1 (t:List Sl→Tr Ou):Ou→Tr Ou
  | .next ρ=>t ρ
  | o=>.ret o
theorem ev_seq:aSeq s t ρ=(s ρ).bind (seq1 t):=by
  unfold aSeq
  refine congrArg (Tr.bind (s ρ)) (funext fun o=>?_)
  cases o <;> rfl
theorem ev_seqN:seq1 t (.next ρ)=t ρ:=rfl
theorem ev_seqR (r:Re):seq1 t (.ret r)=.ret (.ret r):=rfl
theorem ev_seqB:seq1 t (.brk ρ)=.ret (.brk ρ):=rfl
theorem ev_seqC:seq1 t (.cont ρ)=.ret (.cont ρ):=rfl
theorem ev_skip:aSkip ρ=.ret (.next ρ):=rfl
theorem ev_brk:aBrk ρ=.ret (.brk ρ):=rfl
theorem ev_cont:aCont ρ=.ret (.cont ρ):=rfl
noncomputable def ifs1 (s t:List Sl→Tr Ou) (ρ:List Sl) (b:Bool):Tr Ou:=if b=true then s ρ else t ρ
theorem ev_ifs:aIfS p s t ρ=(p ρ).bind (ifs1 s t ρ):=rfl
theorem ev_ifst:ifs1 s t ρ true=s ρ:=rfl
theorem ev_ifsf:ifs1 s t ρ false=t ρ:=rfl
noncomputable def ret1 (x:PyData):Tr Ou:=.ret (.ret (.d x))
theorem ev_ret:aRet i ρ=(i ρ).bind ret1:=rfl
theorem ev_ret1:ret1 x=.ret (.ret (.d x)):=rfl
noncomputable def retO1 (xs:List PyData):Tr Ou:=.ret (.ret (.own xs))
theorem ev_retO:aRetO is ρ=(is ρ).bind retO1:=rfl
theorem ev_retO1:retO1 xs=.ret (.ret (.own xs)):=rfl
noncomputable def retR1 (r:Re):Tr Ou:=.ret (.ret r)
theorem ev_retR:aRetR f ρ=(f ρ).bind retR1:=rfl
theorem ev_retR1 (r:Re):retR1 r=.ret (.ret r):=rfl
theorem ev_retVd:aRetV 0 (.d x::ρ)=.ret (.ret (.d x)):=rfl
theorem ev_retVo:aRetV 0 (.own xs::ρ)=.ret (.ret (.own xs)):=rfl
theorem ev_retVs:aRetV (k+1) (sl::ρ)=aRetV k ρ:=rfl
noncomputable def set1 (k:Nat) (ρ:List Sl) (x:PyData):Tr Ou:=.ret (.next (ρ.set k (.d x)))
theorem ev_set:aSet k i ρ=(i ρ).bind (set1 k ρ):=rfl
theorem ev_set1:set1 k ρ x=.ret (.next (ρ.set k (.d x))):=rfl
noncomputable def setO1 (k:Nat) (ρ:List Sl) (x:List PyData):Tr Ou:=.ret (.next (ρ.set k (.own x)))
theorem ev_setO:aSetO k is ρ=(is ρ).bind (setO1 k ρ):=rfl
theorem ev_setO1:setO1 k ρ xs=.ret (.next (ρ.set k (.own xs))):=rfl
noncomputable def setR1 (k:Nat) (ρ:List Sl) (r:Re):Tr Ou:=.ret (.next (ρ.set k (slOf r)))
theorem ev_setR:aSetR k f ρ=(f ρ).bind (setR1 k ρ):=rfl
theorem ev_setR1d:setR1 k ρ (.d x)=.ret (.next (ρ.set k (.d x))):=rfl
theorem ev_setR1o:setR1 k ρ (.own xs)=.ret (.next (ρ.set k (.own xs))):=rfl
theorem ls_0 {α:Type} {a b:α} {r:List α}:(a::r).set 0 b=b::r:=rfl
theorem ls_S {α:Type} {a b:α} {r:List α}:(a::r).set (k+1) b=a::r.set k b:=rfl
noncomputable def aug2 (g:PyData→PyData→Option PyData) (k:Nat) (ρ:List Sl) (x y:PyData):Tr Ou:=(bin2 g x y).bind (set1 k ρ)
noncomputable def aug1 (g:PyData→PyData→Option PyData) (k:Nat) (i:List Sl→Tr PyData) (ρ:List Sl) (x:PyData):Tr Ou:=(i ρ).bind (aug2 g k ρ x)
theorem ev_aug {g:PyData→PyData→Option PyData}:aAug g k i ρ=(aVar k ρ).bind (aug1 g k i ρ):=rfl
theorem ev_aug1 {g:PyData→PyData→Option PyData}:aug1 g k i ρ x=(i ρ).bind (aug2 g k ρ x):=rfl
theorem ev_aug2 {g:PyData→PyData→Option PyData}:aug2 g k ρ x y=(bin2 g x y).bind (set1 k ρ):=rfl
theorem ev_iadd (m n:Int):bin2 iaddD (.int m) (.int n)=.ret (.int (m+n)):=rfl
theorem ev_imul {m n:Int} (h1:fit m=true) (h2:fit n=true):bin2 imulD (.int m) (.int n)=.ret (.int (m * n)):=by
  simp [bin2,imulD,h1,h2]
noncomputable def ownAt:Nat→List Sl→Tr (List PyData)
  | 0,.own xs::_=>.ret xs
  | k+1,_::ρ=>ownAt k ρ
  | _,_=>.fail
theorem ev_own0:ownAt 0 (.own xs::ρ)=.ret xs:=rfl
theorem ev_ownS:ownAt (k+1) (sl::ρ)=ownAt k ρ:=rfl
theorem own_eq {β:Type} {g:List PyData→Tr β}:∀ (k:Nat) (σ:List Sl),(match σ[k]? with | some (Sl.own xs)=>g xs | _=>Tr.fail)=(ownAt k σ).bind g
  | 0,[]=>rfl
  | 0,s::r=>by cases s <;> rfl
  | k+1,[]=>rfl
  | k+1,s::r=>own_eq k r
noncomputable def app2 (k:Nat) (ρ:List Sl) (xs:List PyData) (x:PyData):Tr Ou:=if small (xs.length+1)=true then .ret (.next (ρ.set k (.own (xs++[x])))) else .fail
noncomputable def app1 (k:Nat) (i:List Sl→Tr PyData) (ρ:List Sl) (xs:List PyData):Tr Ou:=(i ρ).bind (app2 k ρ xs)
theorem ev_app:aApp k i ρ=(ownAt k ρ).bind (app1 k i ρ):=own_eq k ρ
theorem ev_app1:app1 k i ρ xs=(i ρ).bind (app2 k ρ xs):=rfl
theorem ev_app2 (h:small (xs.length+1)=true):app2 k ρ xs x=.ret (.next (ρ.set k (.own (xs++[x])))):=by unfold app2; rw [if_pos h]
noncomputable def rev1 (k:Nat) (ρ:List Sl) (xs:List PyData):Tr Ou:=.ret (.next (ρ.set k (.own xs.reverse)))
theorem ev_rev:aRev k ρ=(ownAt k ρ).bind (rev1 k ρ):=own_eq k ρ
theorem ev_rev1:rev1 k ρ xs=.ret (.next (ρ.set k (.own xs.reverse))):=rfl
theorem ev_fz:aFz k s ρ=s (fz k ρ):=rfl
theorem fz_o:fz 0 (.own xs::ρ)=.d (.list xs)::ρ:=rfl
theorem fz_d:fz 0 (.d x::ρ)=.d x::ρ:=rfl
theorem fz_p:fz 0 (.pen::ρ)=.pen::ρ:=rfl
theorem fz_u:fz 0 (.un::ρ)=.un::ρ:=rfl
theorem fz_S:fz (k+1) (sl::ρ)=sl::fz k ρ:=by
  unfold fz
  rw [List.getElem?_cons_succ]
  cases h:ρ[k]? with
  | none=>rfl
  | some s=>cases s <;> rfl
noncomputable def nx1 (ρ:List Sl):Tr Ou:=.ret (.next ρ)
noncomputable def asg1 (g:PyData→List Sl→Option (List Sl)) (ρ:List Sl) (x:PyData):Tr Ou:=(Tr.of (g x ρ)).bind nx1
theorem ev_asg {g:PyData→List Sl→Option (List Sl)}:aAsg g i ρ=(i ρ).bind (asg1 g ρ):=rfl
theorem ev_asg1 {g:PyData→List Sl→Option (List Sl)}:asg1 g ρ x=(Tr.of (g x ρ)).bind nx1:=rfl
theorem ev_nx1:nx1 ρ=.ret (.next ρ):=rfl
theorem g_set:gSet k x ρ=some (ρ.set k (.d x)):=rfl
theorem g_tup {gs:List PyData→List Sl→Option (List Sl)}:gTupD gs (.tuple xs) ρ=gs xs ρ:=rfl
theorem g_nil:gsNil [] ρ=some ρ:=rfl
theorem g_cons {g:PyData→List Sl→Option (List Sl)} {gs:List PyData→List Sl→Option (List Sl)}:gsCons g gs (x::xs) ρ=(g x ρ).bind (gs xs):=rfl
theorem g_some {α β:Type} {a:α} {g:α→Option β}:(some a).bind g=g a:=rfl
noncomputable def par1 (k n:Nat) (ρ:List Sl):List PyData→Tr Ou
  | [x,y]=>.ret (.next ((ρ.set k (.d x)).set n (.d y)))
  | _=>.fail
theorem ev_par:aPar k n is ρ=(is ρ).bind (par1 k n ρ):=by
  unfold aPar
  refine congrArg (Tr.bind (is ρ)) (funext fun xs=>?_)
  match xs with
  | []=>rfl
  | [_]=>rfl
  | [_,_]=>rfl
  | _::_::_::_=>rfl
theorem ev_par1:par1 k n ρ [x,y]=.ret (.next ((ρ.set k (.d x)).set n (.d y))):=rfl
noncomputable def it1 (x:PyData):Tr (List PyData):=Tr.of (itD x)
theorem ev_it:aIt i ρ=(i ρ).bind it1:=rfl
theorem ev_it1L:it1 (.list xs)=.ret xs:=rfl
theorem ev_it1T:it1 (.tuple xs)=.ret xs:=rfl
noncomputable def rng1 (xs:List PyData):Tr (List PyData):=Tr.of (rngD1 xs)
noncomputable def rng2 (xs:List PyData):Tr (List PyData):=Tr.of (rngD2 xs)
theorem ev_rng1:aRng1 is ρ=(is ρ).bind rng1:=rfl
theorem ev_rng2:aRng2 is ρ=(is ρ).bind rng2:=rfl
noncomputable def zip3 (xs:List PyData) (ys:List PyData):Tr (List PyData):=.ret (zipD xs ys)
noncomputable def zip2 (y:PyData) (xs:List PyData):Tr (List PyData):=(it1 y).bind (zip3 xs)
noncomputable def zip1 (x y:PyData):Tr (List PyData):=(it1 x).bind (zip2 y)
noncomputable def zip0 (j:List Sl→Tr PyData) (ρ:List Sl) (x:PyData):Tr (List PyData):=(j ρ).bind (zip1 x)
theorem ev_zip:aZip i j ρ=(i ρ).bind (zip0 j ρ):=rfl
theorem ev_zip0:zip0 j ρ x=(j ρ).bind (zip1 x):=rfl
theorem ev_zip1:zip1 x y=(it1 x).bind (zip2 y):=rfl
theorem ev_zip2:zip2 y xs=(it1 y).bind (zip3 xs):=rfl
theorem ev_zip3:zip3 xs ys=.ret (zipD xs ys):=rfl
noncomputable def enu2 (xs:List PyData):Tr (List PyData):=.ret (enumD xs)
noncomputable def enu1 (x:PyData):Tr (List PyData):=(it1 x).bind enu2
theorem ev_enum:aEnum i ρ=(i ρ).bind enu1:=rfl
theorem ev_enu1:enu1 x=(it1 x).bind enu2:=rfl
theorem ev_enu2:enu2 xs=.ret (enumD xs):=rfl
noncomputable def for1 (g:PyData→List Sl→Option (List Sl)) (s:List Sl→Tr Ou) (ρ:List Sl) (xs:List PyData):Tr Ou:=forL g s xs ρ
theorem ev_for {g:PyData→List Sl→Option (List Sl)}:aFor is g s ρ=(is ρ).bind (for1 g s ρ):=rfl
theorem ev_for1 {g:PyData→List Sl→Option (List Sl)}:for1 g s ρ xs=forL g s xs ρ:=rfl
noncomputable def for3 (g:PyData→List Sl→Option (List Sl)) (s:List Sl→Tr Ou) (xs:List PyData):Ou→Tr Ou
  | .next ρ=>forL g s xs ρ
  | .cont ρ=>forL g s xs ρ
  | .brk ρ=>.ret (.next ρ)
  | .ret r=>.ret (.ret r)
noncomputable def for2 (g:PyData→List Sl→Option (List Sl)) (s:List Sl→Tr Ou) (xs:List PyData) (ρ:List Sl):Tr Ou:=(s ρ).bind (for3 g s xs)
theorem for_nil {g:PyData→List Sl→Option (List Sl)}:forL g s [] ρ=.ret (.next ρ):=rfl
theorem for_cons {g:PyData→List Sl→Option (List Sl)}:forL g s (x::xs) ρ=(Tr.of (g x ρ)).bind (for2 g s xs):=by
  rw [forL]
  refine congrArg (Tr.bind (Tr.of (g x ρ))) (funext fun ρ1=>?_)
  unfold for2
  refine congrArg (Tr.bind (s ρ1)) (funext fun o=>?_)
  cases o <;> rfl
theorem ev_for2 {g:PyData→List Sl→Option (List Sl)}:for2 g s xs ρ=(s ρ).bind (for3 g s xs):=rfl
theorem ev_for3n {g:PyData→List Sl→Option (List Sl)}:for3 g s xs (.next ρ)=forL g s xs ρ:=rfl
theorem ev_for3c {g:PyData→List Sl→Option (List Sl)}:for3 g s xs (.cont ρ)=forL g s xs ρ:=rfl
theorem ev_for3b {g:PyData→List Sl→Option (List Sl)}:for3 g s xs (.brk ρ)=.ret (.next ρ):=rfl
theorem ev_for3r {g:PyData→List Sl→Option (List Sl)} (r:Re):for3 g s xs (.ret r)=.ret (.ret r):=rfl
noncomputable def lc2 (g:PyData→List Sl→Option (List Sl)) (el:List Sl→Tr PyData) (τ:List Sl) (x:PyData):Tr PyData:=(Tr.of (g x τ)).bind el
noncomputable def lc1 (n:Nat) (ix:List Nat) (g:PyData→List Sl→Option (List Sl)) (el:List Sl→Tr PyData) (ρ:List Sl) (xs:List PyData):Tr (List PyData):=if small xs.length=true then mapT (lc2 g el (blk n ix ρ)) xs else .fail
theorem ev_lc {ix:List Nat} {g:PyData→List Sl→Option (List Sl)}:aLc is n ix g i ρ=(is ρ).bind (lc1 n ix g i ρ):=rfl
theorem ev_lc1 {ix:List Nat} {g:PyData→List Sl→Option (List Sl)} (h:small xs.length=true):lc1 n ix g i ρ xs=mapT (lc2 g i (blk n ix ρ)) xs:=by unfold lc1; rw [if_pos h]
theorem ev_lc2 {τ:List Sl} {g:PyData→List Sl→Option (List Sl)}:lc2 g i τ x=(Tr.of (g x τ)).bind i:=rfl
theorem for_all {g:PyData→List Sl→Option (List Sl)} {n:Nat} (I:List PyData→List Sl→Prop) {Q:Ou→Prop} :
    ∀ {xs pre:List PyData} {ρ:List Sl},I pre ρ→(∀ pre x post ρ,pre++x::post=pre++x::post→I pre ρ→x∈xs→∃ ρ1,g x ρ=some ρ1∧(s ρ1).all n fun o=>∃ ρ2,o=.next ρ2∧I (pre++[x]) ρ2)→(∀ ρ,I (pre++xs) ρ→Q (.next ρ))→(forL g s xs ρ).all (xs.length * n) Q
  | [],pre,ρ,h0,_,hq=>hq ρ (by rw [List.append_nil]; exact h0)
  | x::xs,pre,ρ,h0,ht,hq=>by
    obtain ⟨ρ1,e,ha⟩:=ht pre x xs ρ rfl h0 (by simp)
    have en:(x::xs).length * n=n+xs.length * n:=by rw [List.length_cons,Nat.succ_mul]; omega
    rw [en,for_cons,e,Tr.of_some,Tr.ret_bind]
    unfold for2
    refine Tr.all_bind ha fun o ⟨ρ2,eo,h2⟩=>?_
    subst eo
    rw [ev_for3n]
    exact for_all I h2 (fun pre y post ρ e h hy=>ht pre y post ρ e h (List.mem_cons_of_mem _ hy)) (fun ρ h=>hq ρ (by rw [List.append_assoc] at h; exact h))
theorem draw_all {α:Type} {w:Int} {k:Int→Tr α} {n:Nat} {P:α→Prop} (h1:0 < w) (h2:w < 1073741824) (h:∀ r,0≤r→r < w→(k r).all n P):(Tr.draw w k).all (n+1) P:=⟨h1,h2,h⟩
end L2
namespace L2
open PySem PySem.Spec PyProof.Rows
noncomputable def mt2 (y:PyData) (ys:List PyData):Tr (List PyData):=.ret (y::ys)
noncomputable def mt1 (h:PyData→Tr PyData) (xs:List PyData) (y:PyData):Tr (List PyData):=(mapT h xs).bind (mt2 y)
theorem mt_nil {h:PyData→Tr PyData}:mapT h []=.ret []:=rfl
theorem mt_cons {h:PyData→Tr PyData} {x:PyData} {xs:List PyData}:mapT h (x::xs)=(h x).bind (mt1 h xs):=rfl
theorem mt_1 {h:PyData→Tr PyData} {y:PyData} {xs:List PyData}:mt1 h xs y=(mapT h xs).bind (mt2 y):=rfl
theorem mt_2 {y:PyData} {ys:List PyData}:mt2 y ys=.ret (y::ys):=rfl
end L2
namespace L2
open PySem
@[irreducible] noncomputable def Al {α:Type} (t:Tr α) (n:Nat) (P:α→Prop):Prop:=t.all n P
section
variable {α β:Type} {t:Tr α} {n n' N:Nat} {P:α→Prop} {P':β→Prop}
theorem Al.of (h:t.all n P):Al t n P:=by unfold Al; exact h
theorem Al.out (h:Al t n P):t.all n P:=by unfold Al at h; exact h
theorem al_ret {a:α} (h:P a):Al (.ret a) n P:=.of h
theorem al_drw {w:Int} {k:Int→Tr α} (h1:0 < w) (h2:w < 1073741824) (hN:n+1≤N) (h:∀ r,0≤r→r < w→Al (k r) n P):Al (.draw w k) N P:=.of (Tr.all_mono (draw_all h1 h2 fun r a b=>(h r a b).out) hN fun _ h=>h)
theorem al_bind {f:α→Tr β} (h:Al t n P) (hN:n+n'≤N) (hf:∀ a,P a→Al (f a) n' P'):Al (t.bind f) N P':=.of (Tr.all_mono (Tr.all_bind h.out fun a ha=>(hf a ha).out) hN fun _ h=>h)
theorem al_mono {Q:α→Prop} (h:Al t n P) (hN:n≤N) (hq:∀ a,P a→Q a):Al t N Q:=.of (Tr.all_mono h.out hN hq)
theorem al_for {g:PyData→List Sl→Option (List Sl)} {s:List Sl→Tr Ou} {xs:List PyData} {ρ:List Sl} {Q:Ou→Prop} (I:List Sl→Prop) (h0:I ρ) (hN:xs.length * n≤N) (ht:∀ x ρ,x∈xs→I ρ→∃ ρ1,g x ρ=some ρ1∧Al (s ρ1) n fun o=>∃ ρ2,o=.next ρ2∧I ρ2) (hq:∀ ρ,I ρ→Q (.next ρ)):Al (forL g s xs ρ) N Q :=
  .of (Tr.all_mono (for_all (fun _ ρ=>I ρ) (pre:=[]) h0 (fun pre x post ρ _ h hx=>let ⟨ρ1,e,a⟩:=ht x ρ hx h; ⟨ρ1,e,a.out⟩) fun ρ h=>hq ρ h) hN fun _ h=>h)
end
theorem rngL_len {lo hi:Int}:(rngL lo hi).length=(hi - lo).toNat:=by unfold rngL; rw [List.length_map,rangeI_length]
end L2
set_option Elab.async false
set_option linter.all false
set_option maxRecDepth 100000
namespace L2
open PySem PySem.Spec PyProof.Rows
variable {PK:Pk} {X:Cx} {a b c e:Expr} {es:List Expr} {pos:Pos} {i j l:List Sl→Tr PyData} {is:List Sl→Tr (List PyData)} {p q:List Sl→Tr Bool} {st:Stmt}
noncomputable def flatD:PyData→Bool
  | .none=>true
  | .bool _=>true
  | .int _=>true
  | .str _=>true
  | _=>false
noncomputable def inD (neg:Bool):PyData→PyData→Option PyData:=fun x y=>(itD y).bind fun ys=>if (flatD x && ys.all flatD)=true then some (.bool (if neg then !(ys.any fun z=>PyData.eqv z x) else ys.any fun z=>PyData.eqv z x)) else none
end L2
set_option Elab.async false
set_option linter.all false
set_option maxRecDepth 100000
namespace L2
open PySem PySem.Spec PyProof.Rows
variable {PK:Pk} {X:Cx} {a b c e:Expr} {es:List Expr} {pos:Pos} {i j l:List Sl→Tr PyData} {as:List Sl→Tr (List Sl)}
noncomputable def aaLend (k:Nat) (as:List Sl→Tr (List Sl)):List Sl→Tr (List Sl):=fun ρ=>match ρ[k]? with
  | some (.own xs)=>(as ρ).bind fun ys=>.ret (.d (.list xs)::ys)
  | some (.d x)=>(as ρ).bind fun ys=>.ret (.d x::ys)
  | _=>.fail
noncomputable def flatR (r:Re):Tr PyData:=match r with
  | .d x=>if flatD x=true then .ret x else .fail
  | _=>.fail
noncomputable def aCallF (f:List Sl→Tr Re) (as:List Sl→Tr (List Sl)):List Sl→Tr PyData:=fun ρ=>(as ρ).bind fun xs=>(f xs).bind flatR
variable {ρ:List Sl} {k:Nat} {xs:List PyData} {x:PyData} {sl:Sl} {f:List Sl→Tr Re}
noncomputable def cf1 (f:List Sl→Tr Re) (xs:List Sl):Tr PyData:=(f xs).bind flatR
theorem ev_callF:aCallF f as ρ=(as ρ).bind (cf1 f):=rfl
theorem ev_cf1 {ys:List Sl}:cf1 f ys=(f ys).bind flatR:=rfl
theorem ev_flatB (b:Bool):flatR (.d (.bool b))=.ret (.bool b):=rfl
theorem ev_flatI (n:Int):flatR (.d (.int n))=.ret (.int n):=rfl
noncomputable def lendAt:Nat→List Sl→Tr PyData
  | 0,.own xs::_=>.ret (.list xs)
  | 0,.d x::_=>.ret x
  | k+1,_::ρ=>lendAt k ρ
  | _,_=>.fail
theorem ev_len0o:lendAt 0 (.own xs::ρ)=.ret (.list xs):=rfl
theorem ev_len0d:lendAt 0 (.d x::ρ)=.ret x:=rfl
theorem ev_lenS:lendAt (k+1) (sl::ρ)=lendAt k ρ:=rfl
theorem ev_lend:aaLend k as ρ=(lendAt k ρ).bind (aa1 as ρ):=by
  have key:∀ (k:Nat) (σ:List Sl) (as:List Sl→Tr (List Sl)) (ρ:List Sl),(match σ[k]? with | some (.own xs)=>(as ρ).bind fun ys=>Tr.ret (Sl.d (.list xs)::ys) | some (.d x)=>(as ρ).bind fun ys=>Tr.ret (Sl.d x::ys) | _=>Tr.fail)=(lendAt k σ).bind (aa1 as ρ):=by
    intro k
    induction k with
    | zero =>
      intro σ as ρ
      cases σ with
      | nil=>rfl
      | cons s r=>cases s <;> rfl
    | succ k ih =>
      intro σ as ρ
      cases σ with
      | nil=>rfl
      | cons s r=>exact ih r as ρ
  exact key k ρ as ρ
theorem ev_in0 {y:PyData} {neg:Bool}:bin2 (inD neg) x y=Tr.of (inD neg x y):=rfl
end L2
set_option Elab.async false
set_option linter.all false
set_option maxRecDepth 100000
namespace L2
open PySem PySem.Spec PyProof.Rows
section
variable {X:Cx} {pins:List (Addr×Obj)} {σ:St} {H:Hp} {s:Shared}
end
section
variable {PK:Pk} {X:Cx} {e:Expr} {st:Stmt} {i:List Sl→Tr PyData} {is:List Sl→Tr (List PyData)} {p:List Sl→Tr Bool}
noncomputable def mapC (y:Option PyData) (ys:List PyData):Tr (List PyData):=.ret (match y with
  | some y=>y::ys
  | none=>ys)
noncomputable def mapO (h:PyData→Tr (Option PyData)):List PyData→Tr (List PyData)
  | []=>.ret []
  | x::xs=>(h x).bind fun y=>(mapO h xs).bind (mapC y)
noncomputable def ifE (p:List Sl→Tr Bool) (i:List Sl→Tr PyData) (τ:List Sl):Tr (Option PyData):=(p τ).bind fun ok=>if ok=true then (i τ).bind fun y=>.ret (some y) else .ret none
noncomputable def aLcif (is:List Sl→Tr (List PyData)) (n:Nat) (ix:List Nat) (g:PyData→List Sl→Option (List Sl)) (p:List Sl→Tr Bool) (el:List Sl→Tr PyData):List Sl→Tr (List PyData):=fun ρ =>
  (is ρ).bind fun xs=>if small xs.length=true then mapO (fun x=>(Tr.of (g x (blk n ix ρ))).bind (ifE p el)) xs else .fail
end
end L2
set_option Elab.async false
set_option linter.all false
set_option maxRecDepth 100000
namespace L2
open PySem PySem.Spec PyProof.Rows
section
variable {X:Cx}
noncomputable def gLstD (gs:List PyData→List Sl→Option (List Sl)) (x:PyData) (ρ:List Sl):Option (List Sl):=match x with
  | .list xs=>gs xs ρ
  | _=>none
section
variable {ρ:List Sl} {is:List Sl→Tr (List PyData)} {n:Nat} {i:List Sl→Tr PyData} {p:List Sl→Tr Bool} {xs:List PyData} {x:PyData}
noncomputable def lci2 (g:PyData→List Sl→Option (List Sl)) (p:List Sl→Tr Bool) (el:List Sl→Tr PyData) (τ:List Sl) (x:PyData):Tr (Option PyData):=(Tr.of (g x τ)).bind (ifE p el)
noncomputable def lci1 (n:Nat) (ix:List Nat) (g:PyData→List Sl→Option (List Sl)) (p:List Sl→Tr Bool) (el:List Sl→Tr PyData) (ρ:List Sl) (xs:List PyData):Tr (List PyData):=if small xs.length=true then mapO (lci2 g p el (blk n ix ρ)) xs else .fail
theorem ev_lcif {ix:List Nat} {g:PyData→List Sl→Option (List Sl)}:aLcif is n ix g p i ρ=(is ρ).bind (lci1 n ix g p i ρ):=rfl
theorem ev_lci1 {ix:List Nat} {g:PyData→List Sl→Option (List Sl)} (h:small xs.length=true):lci1 n ix g p i ρ xs=mapO (lci2 g p i (blk n ix ρ)) xs:=by unfold lci1; rw [if_pos h]
theorem ev_lci2 {τ:List Sl} {g:PyData→List Sl→Option (List Sl)}:lci2 g p i τ x=(Tr.of (g x τ)).bind (ifE p i):=rfl
noncomputable def if3 (y:PyData):Tr (Option PyData):=.ret (some y)
noncomputable def if2 (i:List Sl→Tr PyData) (τ:List Sl) (b:Bool):Tr (Option PyData):=if b=true then (i τ).bind if3 else .ret none
theorem ev_ifE {τ:List Sl}:ifE p i τ=(p τ).bind (if2 i τ):=rfl
theorem ev_if2t {τ:List Sl}:if2 i τ true=(i τ).bind if3:=rfl
theorem ev_if2f {τ:List Sl}:if2 i τ false=.ret none:=rfl
theorem ev_if3:if3 x=.ret (some x):=rfl
end
end
end L2
set_option Elab.async false
set_option linter.all false
set_option maxRecDepth 100000
namespace L2
open PySem PySem.Spec PyProof.Rows
section
variable {PK:Pk} {X:Cx} {e:Expr} {as:List Sl→Tr (List Sl)}
noncomputable def slD:List Sl→Option (List PyData)
  | []=>some []
  | .d x::r=>(slD r).bind fun xs=>some (x::xs)
  | _=>none
noncomputable def fl1 (d:PyData):Tr PyData:=if flatD d=true then .ret d else .fail
noncomputable def aCBF (f:List PyData→Option PyData) (as:List Sl→Tr (List Sl)):List Sl→Tr PyData:=fun ρ=>(as ρ).bind fun ss=>(Tr.of ((slD ss).bind f)).bind fl1
end
section
variable {ρ:List Sl} {as:List Sl→Tr (List Sl)} {f:List PyData→Option PyData} {x:PyData} {xs:List PyData} {i j:List Sl→Tr PyData} {k:Nat} {p:List Sl→Tr Bool} {s:List Sl→Tr Ou}
noncomputable def cbf2 (f:List PyData→Option PyData) (ss:List Sl):Tr PyData:=(Tr.of ((slD ss).bind f)).bind fl1
theorem ev_cbF:aCBF f as ρ=(as ρ).bind (cbf2 f):=rfl
theorem ev_cbf1:cbf2 f [.d x]=(cb1 f [x]).bind fl1:=rfl
theorem ev_fl1I (n:Int):fl1 (.int n)=.ret (.int n):=rfl
noncomputable def six3 (k:Nat) (ρ:List Sl) (x:PyData) (xs:List PyData):PyData→Tr Ou
  | .int y=>(Tr.of (ixN xs.length y)).bind fun t=>.ret (.next (ρ.set k (.own (xs.set t x))))
  | _=>.fail
noncomputable def six2 (k:Nat) (n:List Sl→Tr PyData) (ρ:List Sl) (x:PyData) (xs:List PyData):Tr Ou:=(n ρ).bind (six3 k ρ x xs)
noncomputable def six1 (k:Nat) (n:List Sl→Tr PyData) (ρ:List Sl) (x:PyData):Tr Ou:=(ownAt k ρ).bind (six2 k n ρ x)
theorem ev_six:aSetIx k j i ρ=(i ρ).bind (six1 k j ρ):=by
  unfold aSetIx
  refine congrArg (Tr.bind (i ρ)) (funext fun x=>?_)
  rw [six1,← own_eq k ρ]
  cases ρ[k]? with
  | none=>rfl
  | some sl =>
    cases sl with
    | own xs =>
      show ((j ρ).bind _:Tr Ou)=(j ρ).bind (six3 k ρ x xs)
      refine congrArg (Tr.bind (j ρ)) (funext fun y=>?_)
      cases y <;> rfl
    | _=>rfl
theorem ev_six1 {n:List Sl→Tr PyData}:six1 k n ρ x=(ownAt k ρ).bind (six2 k n ρ x):=rfl
theorem ev_six2 {n:List Sl→Tr PyData}:six2 k n ρ x xs=(n ρ).bind (six3 k ρ x xs):=rfl
end
end L2
set_option Elab.async false
set_option linter.all false
set_option maxRecDepth 100000
namespace L2
open PySem PySem.Spec PyProof.Rows
open AutoSeq1 (wpAny_loadPart')
section
variable {prog:Program} {w:World} {A:Around} {E:Value→Shared→Prop} {s:Shared}
end
section
variable {prog:Program} {w:World} {A:Around} {E:Value→Shared→Prop} {s:Shared}
end
section
variable {X:Cx} {tg:Expr} {PK:Pk} {a b:Expr} {i j:List Sl→Tr PyData} {p pos:Pos}
end
end L2
set_option Elab.async false
set_option linter.all false
set_option maxRecDepth 100000
namespace L2
open PySem PySem.Spec PyProof.Rows
section
variable {X:Cx} {tg:Expr} {PK:Pk} {e:Expr} {i j:List Sl→Tr PyData} {is:List Sl→Tr (List PyData)} {p pos:Pos}
noncomputable def aRevI (i:List Sl→Tr PyData):List Sl→Tr (List PyData):=fun ρ=>(i ρ).bind fun x=>(Tr.of (itD x)).bind fun xs=>.ret xs.reverse
noncomputable def aRevR1 (is:List Sl→Tr (List PyData)):List Sl→Tr (List PyData):=fun ρ=>(is ρ).bind fun xs=>(Tr.of (rngD1 xs)).bind fun ys=>.ret ys.reverse
noncomputable def aRevR2 (is:List Sl→Tr (List PyData)):List Sl→Tr (List PyData):=fun ρ=>(is ρ).bind fun xs=>(Tr.of (rngD2 xs)).bind fun ys=>.ret ys.reverse
end
section
variable {X:Cx} {PK:Pk} {i n:List Sl→Tr PyData}
noncomputable def aExt (k:Nat) (i:List Sl→Tr PyData):List Sl→Tr Ou:=fun ρ=>match ρ[k]? with
  | some (.own xs)=>(i ρ).bind fun x=>match x with
    | .list ys=>if small (xs.length+ys.length)=true then .ret (.next (ρ.set k (.own (xs++ys)))) else .fail
    | _=>.fail
  | _=>.fail
noncomputable def aIns (k:Nat) (n i:List Sl→Tr PyData):List Sl→Tr Ou:=fun ρ=>match ρ[k]? with
  | some (.own xs)=>(n ρ).bind fun y=>(i ρ).bind fun x=>match y with
    | .int t=>if (decide (0≤t) && decide (t≤1000) && decide (xs.length≤1000))=true then .ret (.next (ρ.set k (.own (xs.take t.toNat++x::xs.drop t.toNat)))) else .fail
    | _=>.fail
  | _=>.fail
end
section
variable {prog:Program} {w:World} {A:Around} {E:Value→Shared→Prop} {s:Shared}
end
section
variable {X:Cx} {PK:Pk} {e st:Expr} {te ts:TE} {i j:List Sl→Tr PyData} {p2 pos:Pos}
noncomputable def revD:PyData→PyData→Option PyData
  | .list xs,.int (-1)=>some (.list xs.reverse)
  | .tuple xs,.int (-1)=>some (.tuple xs.reverse)
  | _,_=>none
end
end L2
set_option Elab.async false
set_option linter.all false
set_option maxRecDepth 100000
namespace L2
open PySem PySem.Spec PyProof.Rows
section
variable {prog:Program} {w:World} {A:Around} {R:Result→Shared→Prop} {I S:Addr} {fp wr:List Addr} {n:Nat} {P:Nat→Value→Prop} {St:Nat→Heap→Prop} {h0:Heap}
end
section
variable {prog:Program} {w:World} {A:Around} {E:Value→Shared→Prop} {s:Shared}
end
end L2
namespace L2
open PySem PySem.Spec PyProof.Rows
section
variable {X:Cx}
noncomputable def min2T:List PyData→Option PyData
  | [.tuple xs,.tuple ys]=>(ints? xs).bind fun ns=>(ints? ys).bind fun ms=>some (if HT.lexLt ms ns=true then .tuple (ms.map PyData.int) else .tuple (ns.map PyData.int))
  | _=>none
end
end L2
namespace L2
open PySem PySem.Spec PyProof.Rows
section
variable {X:Cx} {PK:Pk} {e:Expr} {is:List Sl→Tr (List PyData)}
noncomputable def aTupR1 (is:List Sl→Tr (List PyData)):List Sl→Tr PyData:=fun ρ=>(is ρ).bind fun xs=>(Tr.of (rngV1 xs)).bind fun ys=>.ret (.tuple ys)
noncomputable def aLstR1 (is:List Sl→Tr (List PyData)):List Sl→Tr (List PyData):=fun ρ=>(is ρ).bind fun xs=>Tr.of (rngV1 xs)
end
end L2
set_option Elab.async false
set_option linter.all false
set_option maxRecDepth 100000
namespace L2
open PySem PySem.Spec PyProof.Rows
section
variable {prog:Program} {w:World} {A:Around} {E:Value→Shared→Prop} {s:Shared}
end
section
variable {X:Cx}
end
end L2
namespace L2
open PySem PySem.Spec PyProof.Rows
section
variable {X:Cx} {PK:Pk} {a b:Expr} {pos:Pos} {j:List Sl→Tr PyData}
noncomputable def ixO (xs:List PyData):PyData→Tr PyData
  | .int i=>Tr.of (atI xs i)
  | _=>.fail
noncomputable def aIxO (k:Nat) (j:List Sl→Tr PyData):List Sl→Tr PyData:=fun ρ=>(j ρ).bind fun y=>match ρ[k]? with
  | some (.own xs)=>ixO xs y
  | some (.d (.list xs))=>ixO xs y
  | _=>.fail
end
end L2
set_option Elab.async false
set_option linter.all false
set_option maxRecDepth 100000
namespace L2
open PySem PySem.Spec PyProof.Rows
section
variable {prog:Program} {w:World} {A:Around} {E:Value→Shared→Prop} {s:Shared}
end
section
variable {X:Cx}
noncomputable def addE:PyData→PyData→Option PyData
  | .tuple [],.tuple ys=>some (.tuple ys)
  | x,y=>addD x y
theorem ev_addE0 {ys:List PyData}:bin2 addE (.tuple []) (.tuple ys)=.ret (.tuple ys):=rfl
theorem ev_addE1 {x:PyData} {xs ys:List PyData} (h:small ((x::xs).length+ys.length)=true):bin2 addE (.tuple (x::xs)) (.tuple ys)=.ret (.tuple (x::xs++ys)):=by
  show Tr.of (addD (.tuple (x::xs)) (.tuple ys))=_
  unfold addD
  simp only [List.isEmpty_cons,Bool.not_false,Bool.true_and,h,if_true]
  rfl
end
end L2
set_option Elab.async false
set_option linter.all false
set_option maxRecDepth 100000
namespace L2
open PySem PySem.Spec PyProof.Rows
section
variable {PK:Pk} {X:Cx} {a b:Expr} {pos:Pos} {i j:List Sl→Tr PyData}
end
theorem len_succ {α:Type} {n:Nat}:∀ {us:List α},us.length=n+1→∃ (a:α) (t:List α),us=a::t∧t.length=n
  | a::t,h=>⟨a,t,rfl,Nat.succ.inj h⟩
theorem len_zero {α:Type} {us:List α} (h:us.length=0):us=[]:=List.eq_nil_of_length_eq_zero h
theorem len1 {α:Type} {us:List α} (h:us.length=1):∃ a,us=[a]:=by
  obtain ⟨a,t,rfl,h2⟩:=len_succ h
  exact ⟨a,by rw [len_zero h2]⟩
theorem len2 {α:Type} {us:List α} (h:us.length=2):∃ a0 a1,us=[a0,a1]:=by
  obtain ⟨a0,t,rfl,h2⟩:=len_succ h
  obtain ⟨a1,rfl⟩:=len1 h2
  exact ⟨a0,a1,rfl⟩
end L2
set_option Elab.async false
set_option linter.all false
set_option maxRecDepth 100000
namespace L2
open PySem PySem.Spec PyProof.Rows
noncomputable def FS (K:PySem.W.Frag) (n:Nat) (σ:St) (H:Hp):Prop:=∃ a xs,σ[0]?=some (some (V.ref a))∧SqL K H a xs∧xs.length=n
noncomputable def aScr (lo hi:Int) (n:Nat):List Sl→Tr (List PyData):=fun _=>.ret (rngL 0 (maxI lo (minI n hi)))
section
variable {PK:Pk} {X:Cx} {pos:Pos} {n:Nat} {is:List Sl→Tr (List PyData)} {s t:List Sl→Tr Ou}
theorem ai_scr {tg e:Expr} {ta:TA} {lo hi:Int} (h:PI X tg e (iRng1 ta)) (hlo:-1000≤lo) (hlo2:lo≤1000) (hhi:hi≤1000) (hta:∀ (σ:St) (H:Hp) (Z:List V→Hp→Prop),FS X.K n σ H→Z [.int (maxI lo (minI n hi))] H→ta σ H Z) :
    PI X tg e (fun σ H R=>FS X.K n σ H∧TAi PK (aScr lo hi n) σ H R):=h.imp fun σ H R0 hz0=>by
  obtain ⟨hF,pa,G₀,H₀,m,ρ,G,R,z⟩:=hz0
  refine hta σ H _ hF ⟨_,rfl,?_,?_,?_⟩
  · have:-1000≤maxI lo (minI n hi):=by unfold maxI; split <;> omega
    omega
  · have:maxI lo (minI n hi)≤1000:=by unfold maxI minI; split <;> split <;> omega
    omega
  · have q:=z (Itr 0 (maxI lo (minI n hi)).toNat) G H .refl R.wd
    unfold rngL at q
    rw [Int.sub_zero] at q
    exact q jok_rng
theorem as_forS {tg iter:Expr} {body:List Stmt} {g:PyData→List Sl→Option (List Sl)} {F:St→Hp→Prop} (hp:PassesOwn (model X.prog X.w) X.A X.env X.xe) (hc:X.calm=true) (hi:PI X tg iter (fun σ H R=>F σ H∧TAi PK is σ H R)) (hg:PG X tg (TAg PK g)) (hb:PSs X body (TAs PK s))
    (hs:∀ x,foldedSetIterable iter X.env x=pure x:=by intro _; rfl):PS X (.For tg iter body [] pos) (fun D σ H=>F σ H∧TAs PK (aFor is g s) D σ H):=(ps_for hp hc hi hg hb hs).imp fun D σ H hz0=>by
  obtain ⟨hF,pa,G₀,H₀,m,ρ,G,R,z⟩:=hz0
  refine ⟨hF,pa,G₀,H₀,m,ρ,G,R,Tr.ok_mono (Tr.ok_bind.mp z) fun m1 xs k J G1 H1 s1 w1 jo=>?_⟩
  let W:Nat→Nat→St→Hp→Prop:=fun n mm σ H=>mm=xs.length - n∧n≤xs.length∧∃ m ρ G,Sub G1 G∧Rl PK pa G₀ H₀ m σ ρ G H∧(forL g s (xs.drop n) ρ).ok m (Ko PK pa G₀ H₀ G1 D)
  refine ⟨W,⟨xs.length,rfl,Nat.zero_le _,m1,ρ,G1,fun _ _ h=>h,R.step s1 w1,Tr.ok_mono k fun _ _ k'=>Ko.later k' s1.gs⟩,?_⟩
  rintro n mm σ2 H2 ⟨rfl,hn,m2,ρ2,G2,sb,R2,k2⟩
  obtain ⟨j1,j2⟩:=jo m2 G2 H2 sb R2.wd
  by_cases hlt:n < xs.length
  · have hx:xs[n]?=some xs[n]:=by simp [hlt]
    obtain ⟨jg,jy⟩:=j1 n _ hx
    refine .inr ⟨jg,W (n+1) (xs.length - (n+1)),fun σ' H' h'=>⟨_,by omega,h'⟩,fun x H3 y=>?_⟩
    obtain ⟨G3,s3,w3,d3⟩:=jy x H3 y
    rw [List.drop_eq_getElem_cons hlt] at k2
    unfold forL at k2
    rw [Tr.ok_bind] at k2
    obtain ⟨ρ3,hg3,k3⟩:=Tr.ok_of k2
    refine ⟨pa,G₀,H₀,m2,ρ2,G3,_,ρ3,R2.step s3 w3,d3,hg3,fun σ4 R4=>?_⟩
    refine ⟨pa,G₀,H₀,m2,ρ3,G3,R4,Tr.ok_mono (Tr.ok_bind.mp k3) fun m5 o ko=>?_⟩
    have again:∀ ρ5,(forL g s (xs.drop (n+1)) ρ5).ok m5 (Ko PK pa G₀ H₀ G1 D)→∀ σ5 G5 H5,Sub G3 G5→Rl PK pa G₀ H₀ m5 σ5 ρ5 G5 H5→W (n+1) (xs.length - (n+1)) σ5 H5:=fun ρ5 k5 σ5 G5 H5 sb5 R5 =>
      ⟨rfl,hlt,m5,ρ5,G5,(sb.trans s3.gs).trans sb5,R5,k5⟩
    cases o with
    | next ρ5=>exact again ρ5 ko
    | cont ρ5=>exact again ρ5 ko
    | brk ρ5=>exact fun σ5 G5 H5 sb5 R5=>ko σ5 G5 H5 ((sb.trans s3.gs).trans sb5) R5
    | ret r=>exact ko
  · have e:n=xs.length:=by omega
    subst e
    refine .inl ⟨j2,?_⟩
    rw [List.drop_length] at k2
    exact k2 σ2 G2 H2 sb R2
theorem ass_consS {st:Stmt} {sts:List Stmt} {F:St→Hp→Prop} (h1:PS X st (fun D σ H=>F σ H∧TAs PK s D σ H)) (h2:PSs X sts (TAs PK t)):PSs X (st::sts) (fun D σ H=>F σ H∧TAs PK (aSeq s t) D σ H):=(pss_cons h1 h2).imp fun D σ H hz0=>by
  exact ⟨hz0.1,aSeq_read _ _ _ hz0.2⟩
theorem ev_scr {lo hi:Int} {ρ:List Sl}:aScr lo hi n ρ=.ret (rngL 0 (maxI lo (minI n hi))):=rfl
end
end L2
set_option Elab.async false
set_option linter.all false
set_option maxRecDepth 100000
namespace L2
open PySem PySem.Spec PyProof.Rows
section
variable {PK:Pk} {X:Cx} {a b c d e:Expr} {pos:Pos} {i j l n:List Sl→Tr PyData}
end
end L2
set_option Elab.async false
set_option linter.all false
set_option maxRecDepth 100000
set_option exponentiation.threshold 9000
namespace Tw
open PySem L2
noncomputable def nb (k:Nat) (n:Int):Prop:=n.natAbs < 2 ^ k
theorem nb_fit {k:Nat} {n:Int} (h:nb k n) (hk:k≤8000):fit n=true:=decide_eq_true (Nat.lt_of_lt_of_le h (Nat.pow_le_pow_right (by decide) hk))
theorem nb_mono {k l:Nat} {n:Int} (h:nb k n) (hk:k≤l):nb l n:=Nat.lt_of_lt_of_le h (Nat.pow_le_pow_right (by decide) hk)
theorem nb_mul {k l:Nat} {m n:Int} (h:nb k m) (h':nb l n):nb (k+l) (m * n):=by
  unfold nb at *
  rw [Int.natAbs_mul,Nat.pow_add]
  exact Nat.mul_lt_mul'' h h'
theorem nb_add {k l:Nat} {m n:Int} (h:nb k m) (h':nb l n):nb (max k l+1) (m+n):=by
  have h1:=nb_mono h (Nat.le_max_left k l)
  have h2:=nb_mono h' (Nat.le_max_right k l)
  unfold nb at *
  rw [Nat.pow_succ,Nat.mul_two]
  exact Nat.lt_of_le_of_lt (Int.natAbs_add_le m n) (Nat.add_lt_add h1 h2)
theorem nb_neg {k:Nat} {n:Int} (h:nb k n):nb k (-n):=by
  unfold nb at *
  omega
theorem nb_of {k:Nat} {n:Int} (h1:-(2 ^ k:Nat) < n) (h2:n < (2 ^ k:Nat)):nb k n:=by
  unfold nb
  omega
theorem nb_le {k:Nat} {n b:Int} (h:-b≤n∧n≤b) (hb:b < (2 ^ k:Nat)):nb k n:=nb_of (by omega) (by omega)
noncomputable def ws (f:Int→Int):Nat→List Int→Int
  | _,[]=>0
  | k,w::l=>w * f k+ws f (k+1) l
section
variable (s:Shp)
end
end Tw
set_option Elab.async false
set_option linter.all false
set_option maxRecDepth 100000
namespace L2
open PySem PySem.Spec PyProof.Rows
variable {ρ:List Sl} {s t:List Sl→Tr Ou} {i j l:List Sl→Tr PyData} {is:List Sl→Tr (List PyData)} {k n:Nat} {x y d:PyData} {xs ys:List PyData} {sl:Sl}
theorem rb2 {α β:Type} {a:α} {f:α→Tr β}:(Tr.ret a).bind f=f a:=Eq.trans (Tr.ret_bind a f) (Eq.refl _)
theorem g_lst2 {gs:List PyData→List Sl→Option (List Sl)}:gLstD gs (.list xs) ρ=gs xs ρ:=by
  cases h:gs xs ρ <;> exact h
noncomputable def rvi2 (xs:List PyData):Tr (List PyData):=.ret xs.reverse
noncomputable def rvi1 (x:PyData):Tr (List PyData):=(it1 x).bind rvi2
theorem ev_revI:aRevI i ρ=(i ρ).bind rvi1:=rfl
theorem ev_rvi1:rvi1 x=(it1 x).bind rvi2:=rfl
theorem ev_rvi2:rvi2 xs=.ret xs.reverse:=rfl
noncomputable def rvr1 (xs:List PyData):Tr (List PyData):=(rng1 xs).bind rvi2
noncomputable def rvr2 (xs:List PyData):Tr (List PyData):=(rng2 xs).bind rvi2
theorem ev_revR1:aRevR1 is ρ=(is ρ).bind rvr1:=rfl
theorem ev_revR2:aRevR2 is ρ=(is ρ).bind rvr2:=rfl
theorem ev_rvr1:rvr1 xs=(rng1 xs).bind rvi2:=rfl
theorem ev_rvr2:rvr2 xs=(rng2 xs).bind rvi2:=rfl
theorem ev_revL:bin2 revD (.list xs) (.int (-1))=.ret (.list xs.reverse):=rfl
theorem ev_revT:bin2 revD (.tuple xs) (.int (-1))=.ret (.tuple xs.reverse):=rfl
noncomputable def ext2 (k:Nat) (ρ:List Sl) (xs:List PyData):PyData→Tr Ou
  | .list ys=>if small (xs.length+ys.length)=true then .ret (.next (ρ.set k (.own (xs++ys)))) else .fail
  | _=>.fail
noncomputable def ext1 (k:Nat) (i:List Sl→Tr PyData) (ρ:List Sl) (xs:List PyData):Tr Ou:=(i ρ).bind (ext2 k ρ xs)
theorem ev_ext:aExt k i ρ=(ownAt k ρ).bind (ext1 k i ρ):=by
  refine Eq.trans ?_ (own_eq k ρ)
  unfold aExt
  cases ρ[k]? with
  | none=>rfl
  | some sl =>
    cases sl with
    | own xs=>exact congrArg (Tr.bind (i ρ)) (funext fun x=>by cases x <;> rfl)
    | _=>rfl
theorem ev_ext1:ext1 k i ρ xs=(i ρ).bind (ext2 k ρ xs):=rfl
theorem ev_ext2 (h:small (xs.length+ys.length)=true):ext2 k ρ xs (.list ys)=.ret (.next (ρ.set k (.own (xs++ys)))):=by
  show (if small (xs.length+ys.length)=true then _ else _)=_
  rw [if_pos h]
noncomputable def ins3 (k:Nat) (ρ:List Sl) (xs:List PyData) (x:PyData):PyData→Tr Ou
  | .int t=>if (decide (0≤t) && decide (t≤1000) && decide (xs.length≤1000))=true then .ret (.next (ρ.set k (.own (xs.take t.toNat++x::xs.drop t.toNat)))) else .fail
  | _=>.fail
noncomputable def ins2 (k:Nat) (ρ:List Sl) (xs:List PyData) (y x:PyData):Tr Ou:=ins3 k ρ xs x y
noncomputable def ins1 (k:Nat) (i:List Sl→Tr PyData) (ρ:List Sl) (xs:List PyData) (y:PyData):Tr Ou:=(i ρ).bind (ins2 k ρ xs y)
noncomputable def ins0 (k:Nat) (j i:List Sl→Tr PyData) (ρ:List Sl) (xs:List PyData):Tr Ou:=(j ρ).bind (ins1 k i ρ xs)
theorem ev_ins:aIns k j i ρ=(ownAt k ρ).bind (ins0 k j i ρ):=by
  refine Eq.trans ?_ (own_eq k ρ)
  unfold aIns
  cases ρ[k]? with
  | none=>rfl
  | some sl =>
    cases sl with
    | own xs=>exact congrArg (Tr.bind (j ρ)) (funext fun y=>congrArg (Tr.bind (i ρ)) (funext fun x=>by cases y <;> rfl))
    | _=>rfl
theorem ev_ins0:ins0 k j i ρ xs=(j ρ).bind (ins1 k i ρ xs):=rfl
theorem ev_ins1:ins1 k i ρ xs y=(i ρ).bind (ins2 k ρ xs y):=rfl
theorem ev_ins2 (h:xs.length≤1000):ins2 k ρ xs (.int 0) x=.ret (.next (ρ.set k (.own (x::xs)))):=by
  show (if (decide ((0:Int)≤0) && decide ((0:Int)≤1000) && decide (xs.length≤1000))=true then _ else _)=_
  rw [if_pos (by simp [h])]
  rfl
theorem ev_min2T (a b c d:Int):cb1 min2T [.tuple [.int a,.int b],.tuple [.int c,.int d]]=.ret (if c < a∨c=a∧d < b then .tuple [.int c,.int d] else .tuple [.int a,.int b]):=by
  have h1:ints? [PyData.int a,.int b]=some [a,b]:=ints?_map [a,b]
  have h2:ints? [PyData.int c,.int d]=some [c,d]:=ints?_map [c,d]
  unfold cb1 min2T
  simp only [h1,h2]
  show Tr.of (some _)=_
  rw [Tr.of_some]
  have e:HT.lexLt [c,d] [a,b]=true ↔ (c < a∨c=a∧d < b):=by
    simp only [HT.lexLt_cons,HT.lexLt_nil_nil]
    by_cases hca:c=a
    · subst hca
      by_cases hdb:d=b
      · simp [hdb]
      · simp [hdb]
    · simp [hca]
  by_cases hc:(c < a∨c=a∧d < b)
  · rw [if_pos (e.mpr hc),if_pos hc]; rfl
  · rw [if_neg (fun z=>hc (e.mp z)),if_neg hc]; rfl
noncomputable def lstR11 (xs:List PyData):Tr (List PyData):=Tr.of (rngV1 xs)
theorem ev_lstR1':aLstR1 is ρ=(is ρ).bind lstR11:=rfl
noncomputable def tupR11 (xs:List PyData):Tr PyData:=(Tr.of (rngV1 xs)).bind fun ys=>.ret (.tuple ys)
theorem ev_tupR1':aTupR1 is ρ=(is ρ).bind tupR11:=rfl
noncomputable def ixo1:Nat→List Sl→PyData→Tr PyData
  | 0,.own xs::_,y=>ixO xs y
  | 0,.d (.list xs)::_,y=>ixO xs y
  | k+1,_::ρ,y=>ixo1 k ρ y
  | _,_,_=>.fail
theorem ev_ixO:aIxO k j ρ=(j ρ).bind (ixo1 k ρ):=by
  have key:∀ (k:Nat) (σ:List Sl) (y:PyData),(match σ[k]? with | some (Sl.own xs)=>ixO xs y | some (Sl.d (.list xs))=>ixO xs y | _=>Tr.fail)=ixo1 k σ y:=by
    intro k
    induction k with
    | zero =>
      intro σ y
      cases σ with
      | nil=>rfl
      | cons s r =>
        cases s with
        | d x=>cases x <;> rfl
        | _=>rfl
    | succ k ih =>
      intro σ y
      cases σ with
      | nil=>rfl
      | cons s r=>exact ih r y
  unfold aIxO
  exact congrArg (Tr.bind (j ρ)) (funext fun y=>key k ρ y)
theorem ev_ixo0 (n:Int):ixo1 0 (.own xs::ρ) (.int n)=Tr.of (atI xs n):=rfl
theorem ev_ixo0d (n:Int):ixo1 0 (.d (.list xs)::ρ) (.int n)=Tr.of (atI xs n):=rfl
theorem ev_ixoS:ixo1 (k+1) (sl::ρ) y=ixo1 k ρ y:=rfl
end L2
set_option Elab.async false
set_option linter.all false
set_option maxRecDepth 100000
namespace Tw
open PySem L2
end Tw
set_option Elab.async false
set_option linter.all false
set_option maxRecDepth 100000
namespace Tw
open PySem L2
noncomputable abbrev rng (lo hi:Int):List Int:=rangeI lo (hi - lo).toNat
variable {α:Type}
noncomputable def f3 (lo a b c:Int) (t:Int→Int→Int→Option α):Option α:=(rng lo a).findSome? fun u=>(rng (u+1) b).findSome? fun v=>(rng (v+1) c).findSome? fun w=>t u v w
end Tw
set_option Elab.async false
set_option linter.all false
set_option maxRecDepth 100000
namespace Tw
open PySem L2
end Tw
set_option Elab.async false
set_option linter.all false
set_option maxRecDepth 100000
set_option exponentiation.threshold 9000
namespace Tw
open PySem L2
theorem str_self (x:Str):(x == x)=true:=by simp
end Tw
set_option Elab.async false
set_option linter.all false
set_option maxRecDepth 100000
set_option exponentiation.threshold 9000
namespace Tw
open PySem L2
theorem euclid {p:List Sl→Tr Bool} {s:List Sl→Tr Ou} {E:Nat→Nat→List Sl} (hp:∀ a b:Nat,p (E a b)=.ret (decide (b≠0))) (hs:∀ a b:Nat,b≠0→s (E a b)=.ret (.next (E b (a % b)))) :
    ∀ n k a b:Nat,b < 2 ^ n→whL p s (2 * n+1+k) (E a b)=.ret (.next (E (Nat.gcd a b) 0)):=by
  have stop:∀ k a:Nat,whL p s (k+1) (E a 0)=.ret (.next (E a 0)):=fun k a=>by
    rw [whL,hp,Tr.ret_bind]
    rfl
  have go:∀ k a b:Nat,b≠0→whL p s (k+1) (E a b)=whL p s k (E b (a % b)):=fun k a b hb=>by
    rw [whL,hp,Tr.ret_bind,decide_eq_true hb,if_pos rfl,hs a b hb,Tr.ret_bind]
  intro n
  induction n with
  | zero =>
    intro k a b hb
    have e:b=0:=by simp at hb; exact hb
    subst e
    rw [Nat.gcd_zero_right,Nat.add_comm (2 * 0+1) k]
    exact stop k a
  | succ n ih =>
    intro k a b hb
    by_cases h0:b=0
    · subst h0
      have e:2 * (n+1)+1+k=(2 * (n+1)+k)+1:=by omega
      rw [Nat.gcd_zero_right,e]
      exact stop _ a
    · have e:2 * (n+1)+1+k=(2 * n+2+k)+1:=by omega
      rw [e,go _ a b h0]
      have hr:a % b < b:=Nat.mod_lt _ (Nat.pos_of_ne_zero h0)
      by_cases h1:a % b=0
      · rw [h1]
        have e2:2 * n+2+k=(2 * n+1+k)+1:=by omega
        have eg:Nat.gcd a b=b:=by rw [Nat.gcd_comm,Nat.gcd_rec,h1,Nat.gcd_zero_left]
        rw [e2,eg]
        exact stop _ b
      · have e2:2 * n+2+k=(2 * n+1+k)+1:=by omega
        rw [e2,go _ b (a % b) h1]
        have hlt:b % (a % b) < 2 ^ n:=by
          have h2:b % (a % b) < a % b:=Nat.mod_lt _ (Nat.pos_of_ne_zero h1)
          have h3:b % (a % b)+a % b≤b:=by
            have h4:=Nat.div_add_mod b (a % b)
            have h5:1≤b / (a % b):=(Nat.le_div_iff_mul_le (Nat.pos_of_ne_zero h1)).mpr (by omega)
            have h6:a % b≤(a % b) * (b / (a % b)):=Nat.le_mul_of_pos_right _ h5
            omega
          rw [Nat.pow_succ] at hb
          omega
        rw [ih k (a % b) (b % (a % b)) hlt]
        have eg:Nat.gcd a b=Nat.gcd (a % b) (b % (a % b)):=by
          rw [Nat.gcd_comm a b,Nat.gcd_rec b a,Nat.gcd_rec (a % b) b,Nat.gcd_comm]
        rw [eg]
theorem fmod_nat (a b:Nat):(a:Int).fmod (b:Int)=((a % b:Nat):Int):=by
  rw [Int.fmod_eq_emod_of_nonneg _ (Int.natCast_nonneg b)]
  rfl
theorem absI_eq (n:Int):absI n=(n.natAbs:Int):=by
  unfold absI
  split <;> omega
noncomputable def shD (t b:Int):PyData:=.tuple [.int (Gc.lowT t b),.int (Gc.lowB t b)]
theorem den_nb {t b:Int} {l:Nat} (hb:nb l b) (h0:b≠0):nb l (Gc.den t b):=by
  unfold nb
  rw [Gc.den_abs]
  exact Nat.lt_of_le_of_lt (Nat.gcd_le_right _ (by omega)) hb
noncomputable def pr (p:Int×Int):List Int:=[p.1,p.2]
end Tw
set_option Elab.async false
set_option linter.all false
set_option maxRecDepth 100000
namespace L2
open PySem PySem.Spec PyProof.Rows
section
variable {PK:Pk} {X:Cx} {pos:Pos} {i j:List Sl→Tr PyData}
end
end L2
set_option Elab.async false
set_option linter.all false
set_option maxRecDepth 100000
namespace L2
open PySem PySem.Spec PyProof.Rows
theorem Inv.nodig {X:Cx} {pins:List (Addr×Obj)} {σ:List (Option V)} {H:Hp} {s:Shared} (I:Inv X pins σ H s):s.heap.NoDigits:=I.ok.mod.nodig.keeps I.bk
theorem reprK_intN {prog:Program} {w:World} {as:List Addr} {h₀:Heap} {d:Nat} {a:Int} (t:Tok) (hn:h₀.NoDigits) (ha:a.natAbs < 10 ^ 4300):ReprK prog w as h₀ d (.int a t) (toString a):=by
  intro base hb A g E s Q hg hcl hu hk hQ
  rw [pyReprUnder_leaf (v:=.int a t) (by omega) (fun _ e=>nomatch e)]
  unfold pyRepr
  refine wpAny_bind (wpAny_pyReprObj_slot (by omega) (typeIs_int s a t) F.slot_int_repr.toG (wpAny_call (codeAny_call_builtin F.slot_int_repr.plain F.entry_int_repr (F.slot_int_repr.check _ _ _ _ _ _ _ _ (typeIs_int s a t) (F.args_int_repr_1 _) ?_))))
  unfold Builtin.«int.__repr__»
  show wpAny _ _ (do let r ← Builtin.overDigitLimit? a; _) _ _ s
  refine wpAny_bind (overDigitLimit_any (hn.keeps hk) (fun _=>?_) (fun hge=>absurd ha (Nat.not_lt.mpr hge)))
  refine wpAny_bind (wpAny_mkStr (wpAny_pure ?_) (int_text_fits10 ha))
  exact ⟨_,_,rfl,wpAny_pure (hQ s.heap _ fun _ _ e=>e)⟩
@[irreducible] noncomputable def b21:Nat:=2 ^ 2100
theorem b21_lt {n:Nat} (h:n < b21):n < 10 ^ 4300:=by
  unfold b21 at h
  exact Nat.lt_of_lt_of_le h (by decide +kernel)
theorem b21_of {n:Nat} (h:n < 2 ^ 2100):n < b21:=by unfold b21; exact h
noncomputable def bigs:List PyData→Bool
  | []=>true
  | .int i::r=>decide (i.natAbs < b21) && bigs r
  | _::_=>false
noncomputable def bigT:PyData→Bool
  | .tuple xs=>bigs xs && decide (xs.length≤1000)
  | _=>false
theorem bigs_ints:∀ {xs:List PyData},bigs xs=true→∃ ns:List Int,xs=ns.map PyData.int∧∀ n∈ns,n.natAbs < b21
  | [],_=>⟨[],rfl,fun _ h=>nomatch h⟩
  | x::r,h=>by
    cases x with
    | int i =>
      unfold bigs at h
      rw [Bool.and_eq_true,decide_eq_true_eq] at h
      obtain ⟨ns,e,q⟩:=bigs_ints h.2
      subst e
      refine ⟨i::ns,rfl,fun n hm=>?_⟩
      rcases List.mem_cons.mp hm with e | e
      · subst e; exact h.1
      · exact q n e
    | _=>cases h
theorem reprAllK_ints {prog:Program} {w:World} {h₀:Heap} (hn:h₀.NoDigits):∀ {ns:List Int} {vs:List Value} {as:List Addr},ReadsAll h₀ vs (ns.map PyData.int) as→(∀ n∈ns,n.natAbs < b21)→ReprAllK prog w [] h₀ 0 vs (PyData.shownAll (ns.map PyData.int))
  | [],_,_,h,_=>by
    cases h
    exact .nil
  | n::r,_,_,h,hb=>by
    cases h with
    | cons h1 h2 =>
      cases h1 with
      | int i t =>
        rw [List.map_cons,PyData.shownAll,PyData.shown]
        exact .cons (reprK_intN t hn (b21_lt (hb n List.mem_cons_self))) (reprAllK_ints hn h2 fun x hx=>hb x (List.mem_cons_of_mem _ hx))
theorem shownAll_intsN:∀ (ns:List Int),(∀ n∈ns,n.natAbs < b21)→((PyData.shownAll (ns.map PyData.int)).map (·.length)).sum≤ns.length * 4301∧(PyData.shownAll (ns.map PyData.int)).length=ns.length
  | [],_=>⟨by simp [PyData.shownAll],rfl⟩
  | n::r,h=>by
    obtain ⟨h1,h2⟩:=shownAll_intsN r fun x hx=>h x (List.mem_cons_of_mem _ hx)
    have h3:(PyData.int n).shown.length≤4301:=by
      have e:=int_text_length_le10 (k:=4300) (by decide) (b21_lt (h n List.mem_cons_self))
      have q:(Str.ofString (toString n)).length≤4301:=by rw [PySem.ofString_length]; exact e
      rw [PyData.shown]; exact q
    rw [List.map_cons,PyData.shownAll,List.map_cons,List.sum_cons,List.length_cons,List.length_cons,h2,Nat.succ_mul]
    exact ⟨by omega,rfl⟩
noncomputable def rReprN (xs:List V) (H:Hp) (Q:VK):Prop:=∃ v d,xs=[v]∧Dn H v d∧((d.hasDict=false∧d.showable=true∧d.depth≤32∧d.shown.length≤sizeLine)∨bigT d=true)∧Q (.str d.shown) H
theorem call_reprN {X:Cx} {k:Nat} (hr:Room k X.A):CallR X (.builtin "repr") rReprN:=by
  intro pins s σ H xs us Q I r h
  obtain ⟨v,d,rfl,hd,hor,q⟩:=h
  rcases hor with ⟨h1,h2,h3,h4⟩ | hb
  · exact call_repr hr pins s σ H _ us Q I r ⟨v,d,rfl,hd,h1,h2,h3,h4,q⟩
  · obtain ⟨u,rfl,ru⟩:=vals1 r
    have hun:=hr.units
    cases d with
    | tuple xs =>
      unfold bigT at hb
      rw [Bool.and_eq_true,decide_eq_true_eq] at hb
      obtain ⟨hb,hl⟩:=hb
      obtain ⟨ns,rfl,hns⟩:=bigs_ints hb
      rw [List.length_map] at hl
      obtain ⟨as,rd⟩:=Dn.reads I.hok hd (by rw [PyData.hasDict]; exact hasDictAll_ints ns) ru
      have hz:(tupleText (PyData.shownAll (ns.map PyData.int))).length≤sizeLine:=by
        obtain ⟨h1,h2⟩:=shownAll_intsN ns hns
        have h3:=tupleText_len_le (PyData.shownAll (ns.map PyData.int))
        rw [sizeLine_eq]
        have h4:ns.length * 4301≤1000 * 4301:=Nat.mul_le_mul_right _ hl
        omega
      cases rd with
      | tuple h1 h2 h3 h4 =>
        rename_i a o vs n
        refine call_repr_slot (by omega) ⟨o,h1,h2⟩ F.slot_tuple_repr (call_tuple_reprK h1 h2 h3 (List.not_mem_nil) (reprAllK_ints I.nodig h4 hns) hr.gd (fun b _=>Clear.nil b) (by show X.A.units+1+(0+1) < cLine; omega) (fun _ _ e=>e) (fun h' u' tk hk=>⟨_,_,rfl,⟨.str (PyData.tuple (ns.map PyData.int)).shown,H,I.kept hk,⟨_,by rw [PyData.shown]⟩,q⟩⟩) hz)
    | _=>cases hb
noncomputable def reprN:List PyData→Option PyData
  | [d]=>if reprOk d=true∨bigT d=true then some (.str d.shown) else none
  | _=>none
theorem vc_reprN:VCl rReprN reprN:=fun PK pa m G H vs ds d Q w hv hd k=>by
  unfold reprN at hd
  split at hd
  · split at hd
    · rename_i hc
      cases hd
      cases hv with
      | cons h1 h2 =>
        cases h2
        refine ⟨_,_,rfl,h1.mono w.sub,?_,k.here w (.str _)⟩
        rcases hc with hc | hc
        · unfold reprOk at hc
          simp only [Bool.and_eq_true,decide_eq_true_eq,Bool.not_eq_true'] at hc
          exact .inl ⟨hc.1.1.1,hc.1.1.2,hc.1.2,hc.2⟩
        · exact .inr hc
    · cases hd
  · cases hd
theorem ev_reprN {d:PyData} (h:reprOk d=true∨bigT d=true):cb1 reprN [d]=.ret (.str d.shown):=by
  show Tr.of (if reprOk d=true∨bigT d=true then some (PyData.str d.shown) else none)=_
  rw [if_pos h]
  rfl
end L2
set_option Elab.async false
set_option linter.all false
set_option maxRecDepth 100000
namespace L2
open PySem PySem.Spec PyProof.Rows
noncomputable def noFr (h:Heap) (fs:List Addr):Heap:=⟨h.objs.mapIdx fun i o=>if i∈fs then { o with data:=.freed } else o,h.life⟩
theorem noFr_in {h:Heap} {fs:List Addr} {b:Addr} (hb:b∈fs):(noFr h fs).get? b=none:=by
  unfold noFr Heap.get?
  simp only [Array.getElem?_mapIdx]
  cases h.objs[b]? with
  | none=>rfl
  | some o=>simp [hb]
theorem noFr_out {h:Heap} {fs:List Addr} {b:Addr} (hb:b ∉ fs):(noFr h fs).get? b=h.get? b:=by
  unfold noFr Heap.get?
  simp only [Array.getElem?_mapIdx]
  cases h.objs[b]? with
  | none=>rfl
  | some o=>simp [hb]
theorem noFr_stays (h:Heap) (fs:List Addr):(noFr h fs).StaysIn h:=fun b o e=>by
  by_cases hb:b∈fs
  · rw [noFr_in hb] at e; cases e
  · rw [noFr_out hb] at e; exact e
theorem ffr {h base:Heap} {l:List Env} (hl:h.FunFrames base l) (fs:List Addr) (hf:∀ b∈frs l,b∈fs):h.FunFrames (noFr h fs) l:=by
  induction l with
  | nil=>trivial
  | cons env rest ih =>
    obtain ⟨hk,⟨L,o,he,hn,ho,hd⟩,hr⟩:=hl
    have hm:∀ b∈frs rest,b∈frs (env::rest):=fun b hb=>by
      unfold frs at hb ⊢
      rw [List.filterMap_cons,he]
      exact List.mem_cons_of_mem _ hb
    refine ⟨hk,⟨L,o,he,noFr_in (hf L ?_),ho,hd⟩,ih hr fun b hb=>hf b (hm b hb)⟩
    unfold frs
    rw [List.filterMap_cons,he]
    exact List.mem_cons_self
theorem HOk.tracked {P:Program} {w:World} {H:Hp} {h h':Heap} (x:HOk P w H h) (k:∀ b u,H b≠none→h.get? b=some u→h'.get? b=some u):HOk P w H h':=fun a o e =>
  (x a o e).stay (fun b u hb q=>k b u (fun z=>by rcases hb with r | r <;> (first | (subst r; rw [z] at e; cases e) | (rw [z] at r; cases r))) q) (fun _ q=>q) fun _ _ q=>q
theorem ObjOk.get {P:Program} {w:World} {H:Hp} {h:Heap} {a:Addr} {o:HO} (x:ObjOk P w H h a o):∃ u,h.get? a=some u:=by
  cases o with
  | lst xs=>obtain ⟨_,_,_,_,e⟩:=x; exact ⟨_,e⟩
  | tup xs=>obtain ⟨_,_,_,ob,e,_⟩:=x; exact ⟨_,e⟩
  | dK kvs=>obtain ⟨_,_,_,_,o,_,_,e,_⟩:=x; exact ⟨_,e⟩
  | dT kvs=>obtain ⟨_,_,_,_,o,_,_,e,_⟩:=x; exact ⟨_,e⟩
  | set S n=>obtain ⟨o,_,_,_,e,_⟩:=x; exact ⟨_,e⟩
  | ins C dx fs=>obtain ⟨_,_,_,e,_⟩:=x; exact ⟨_,e⟩
  | own y=>obtain ⟨_,e⟩:=x; exact ⟨_,e⟩
  | xd fs=>obtain ⟨_,⟨_,_,_,e,_⟩,_⟩:=x; exact ⟨_,e⟩
  | rng lo hi=>obtain ⟨_,_,_,e⟩:=x; exact ⟨_,e⟩
  | frz ob u=>obtain ⟨e,_⟩:=x; exact ⟨_,e⟩
  | tbl ps=>exact ⟨_,(show h.get? a=some _ from x)⟩
  | met f y=>exact ⟨_,(show h.get? a=some _ from x)⟩
  | ext φ=>obtain ⟨_,⟨_,e⟩,_⟩:=x; exact ⟨_,e⟩
noncomputable def CXE (P:Program) (w:World):CXT:=fun outer H s E e s'=>∃ (ea t:Addr) (cls:Value) (b':Heap) (H':Hp),e=.ref ea∧s'.os=s.os∧AllBare s'.gens∧Un (frs outer) [] H H' s.heap s'.heap∧HOk P w H' s'.heap ∧
  Heap.FlyingW b' outer ea cls (.ref t) s'.heap∧(∀ b o,s.heap.get? b=some o→b ∉ frs outer→∃ o',b'.get? b=some o')∧(∀ b,H' b≠none→∃ o',b'.get? b=some o')∧E cls none H'
theorem raise_leaves {P:Program} {w:World} {K:PySem.W.Frag} {mg:Str→Option Value} {base:Heap} {N:List Str} {qual:Str} {scope:Scope} {f:Addr} {cd:Value} {A:Around} {outer:List Env} {s₀:Shared} {H₀:Hp} {E:XK}
    {pins:List (Addr×Obj)} {σ:St} {H:Hp} {s:Shared} {h':Heap} {e:Addr} {cls:Value} {args:List Value}
    (I:Inv (cxOf (CXE P w) P w K mg base N qual scope f cd A outer s₀ H₀ E) pins σ H s) (hx:Heap.MadeExcOf s.heap h' e cls args) (hE:E cls none H) :
    (cxOf (CXE P w) P w K mg base N qual scope f cd A outer s₀ H₀ E).xe (.ref e) { s with heap:=h' }:=by
  let X:=cxOf (CXE P w) P w K mg base N qual scope f cd A outer s₀ H₀ E
  have hst:s.heap.FunFrames base (envOfC qual scope s₀.heap.objs.size f cd::outer):=I.stack
  have hfree:∀ b∈frs (envOfC qual scope s₀.heap.objs.size f cd::outer),H b=none:=I.stkFree
  have hfr:(A.deeper (envOfC qual scope s₀.heap.objs.size f cd)).frames=some (envOfC qual scope s₀.heap.objs.size f cd::outer):=I.ok.frames
  have hbase:Un (frs outer) [] H₀ H s₀.heap s.heap:=I.base
  obtain ⟨_,⟨L,oL,hL,_,hoL,_⟩,_⟩:=id hst
  have hLe:L=s₀.heap.objs.size:=(Option.some.inj hL).symm
  have hfs:∀ b,b∈frs (envOfC qual scope s₀.heap.objs.size f cd::outer) ↔ b=L∨b∈frs outer:=fun b=>by
    unfold frs
    rw [List.filterMap_cons,hL]
    exact List.mem_cons
  show wpAny (model P w) (A.deeper (envOfC qual scope s₀.heap.objs.size f cd)) (leaving (envOfC qual scope s₀.heap.objs.size f cd) (.ref e)) (fun _ s''=>CXE P w outer H₀ s₀ E (.ref e) s'') (fun e' s''=>CXE P w outer H₀ s₀ E e' s'') { s with heap:=h' }
  refine wpAny_leaves_madeW (s:={ s with heap:=h' }) (base:=noFr s.heap (frs (envOfC qual scope s₀.heap.objs.size f cd::outer))) hfr hL (noFr_stays _ _) (ffr hst _ fun b hb=>hb) hx fun h'' t fl tup tn ups=>?_
  have stay:∀ b o,s.heap.get? b=some o→b ∉ frs (envOfC qual scope s₀.heap.objs.size f cd::outer)→h''.get? b=some o:=fun b o hb hn=>fl.1 b o (by rw [noFr_out hn]; exact hb)
  have slot:∀ b o,s.heap.get? b=some o→b∈frs (envOfC qual scope s₀.heap.objs.size f cd::outer)→∃ sl,h''.get? b=some { o with slots:=sl }:=fun b o hb hn=>by
    obtain ⟨_,o',ho',hd⟩:=hst.mem hn
    rw [hb] at ho'
    cases ho'
    exact ups b o (hx.keeps b o hb) hd
  have old:∀ b o,s₀.heap.get? b=some o→b≠L:=fun b o hb z=>by
    have:=Heap.lt_size hb
    rw [z,hLe] at this
    exact absurd this (Nat.lt_irrefl _)
  have un:Un (frs outer) [] H₀ H s₀.heap h'':=by
    refine ⟨fun b o hb hn hf hx=>?_,fun b o hb hn hf hx=>?_,hbase.free,fun b o hb hx=>?_,hbase.tups,hbase.frzs,hbase.tbls⟩
    · exact stay b o (hbase.keep b o hb hn hf hx) fun z=>((hfs b).mp z).elim (old b o hb) hf
    · obtain ⟨sl,e1⟩:=hbase.slot b o hb hn hf hx
      obtain ⟨sl2,e2⟩:=slot b _ e1 ((hfs b).mpr (.inr hf))
      exact ⟨sl2,e2⟩
    · obtain ⟨o',e1⟩:=hbase.there b o hb hx
      by_cases hq:b∈frs (envOfC qual scope s₀.heap.objs.size f cd::outer)
      · obtain ⟨sl2,e2⟩:=slot b _ e1 hq
        exact ⟨_,e2⟩
      · exact ⟨o',stay b o' e1 hq⟩
  refine ⟨e,t,cls,_,H,rfl,I.os,I.bare,un,HOk.tracked I.hok fun b u hb q=>stay b u q fun z=>hb (hfree b z),fl,fun b o hb hf=>?_,fun b hb=>?_,hE⟩
  · obtain ⟨o',e1⟩:=hbase.there b o hb (by simp)
    exact ⟨o',by rw [noFr_out fun z=>((hfs b).mp z).elim (old b o hb) hf]; exact e1⟩
  · cases e1:H b with
    | none=>exact absurd e1 hb
    | some u =>
      obtain ⟨o',e2⟩:=(I.hok b u e1).get
      exact ⟨o',by rw [noFr_out fun z=>hb (hfree b z)]; exact e2⟩
theorem rebase {b' h:Heap} {l:List Env} {e:Addr} {cls a0:Value} (x:Heap.FlyingW b' l e cls a0 h):∃ T,b'.get? T=none∧(∃ oT ts,h.get? T=some oT∧oT.data=.fields ts)∧(∃ oe vs,h.get? e=some oe∧oe.cls=cls∧oe.data=.fields vs)∧Heap.FlyingW (noFr h (e::T::frs l)) l e cls a0 h:=by
  obtain ⟨f1,f2,f3,oe,vs,T,oT,ts,he,hc,hd,h1,hT,hTe,hoT,hdT,h3⟩:=x
  refine ⟨T,hT,⟨oT,ts,hoT,hdT⟩,⟨oe,vs,he,hc.1,hd⟩,noFr_stays _ _,noFr_in (by simp),ffr f3 _ fun b hb=>List.mem_cons_of_mem _ (List.mem_cons_of_mem _ hb),oe,vs,T,oT,ts,he,hc,hd,h1,noFr_in (by simp),hTe,hoT,hdT,h3⟩
theorem lands {P:Program} {w:World} {A:Around} {env:Env} {outer:List Env} {L:Addr} {H:Hp} {s:Shared} {b':Heap} {e:Addr} {cls a0:Value} {Q:Unit→Shared→Prop} {E:Value→Shared→Prop}
    (hfr:A.frames=some (env::outer)) (hf:env.frame=some L) (hfl:Heap.FlyingW b' (env::outer) e cls a0 s.heap) (hok:HOk P w H s.heap) (hst:∀ b∈frs (env::outer),H b=none) (ht:∀ b,H b≠none→∃ o',b'.get? b=some o')
    (k:∀ h' T,b'.get? T=none→T ∉ frs (env::outer)→Un (frs (env::outer)) [e,T] H H s.heap h'→HOk P w H h'→Heap.FlyingW (noFr s.heap (e::T::frs (env::outer))) (env::outer) e cls a0 h'→Q () { s with heap:=h' }) :
    wpAny (model P w) A (noteFrame (.ref e) env) (fun _ s₂=>wpAny (model P w) A (setFlight (.ref e) none) Q E s₂) E s:=by
  obtain ⟨T,hT,⟨oT,ts,hoT,hdT⟩,⟨oe,vs,hoe,hoc,hod⟩,fl⟩:=rebase hfl
  have nof:∀ {b:Addr} {o:Obj} {us:Array Value},s.heap.get? b=some o→o.data=.fields us→b ∉ frs (env::outer):=fun {b o us} h1 h2 z=>by
    obtain ⟨_,o',ho',hd⟩:=hfl.2.2.1.mem z
    rw [h1] at ho'
    cases ho'
    exact hd us h2
  refine wpAny_looks_onW hfr hf fl fun h₄ held ups₄=>?_
  refine wpAny_landsW held fun h₅ fl₅ ups₅=>?_
  have ups:=ups₄.trans ups₅
  have stay:∀ b o,s.heap.get? b=some o→b ∉ frs (env::outer)→b ∉ [e,T]→h₅.get? b=some o:=fun b o hb hn hx=>fl₅.1 b o (by
    rw [noFr_out]
    · exact hb
    · intro z
      rcases List.mem_cons.mp z with z | z
      · exact hx (by simp [z])
      · rcases List.mem_cons.mp z with z | z
        · exact hx (by simp [z])
        · exact hn z)
  have slot:∀ b o,s.heap.get? b=some o→b∈frs (env::outer)→∃ sl,h₅.get? b=some { o with slots:=sl }:=fun b o hb hn=>by
    obtain ⟨_,o',ho',hd⟩:=hfl.2.2.1.mem hn
    rw [hb] at ho'
    cases ho'
    exact ups b o hb hd
  have non:∀ b,b'.get? b=none→H b=none:=fun b hb=>by
    cases e1:H b with
    | none=>rfl
    | some u =>
      obtain ⟨o',e2⟩:=ht b (by rw [e1]; simp)
      rw [hb] at e2; cases e2
  have he:H e=none:=non e hfl.2.1
  have hTn:H T=none:=non T hT
  refine k h₅ T hT (nof hoT hdT) ⟨fun b o hb hn hf hx=>stay b o hb hf hx,fun b o hb hn hf hx=>slot b o hb hf,fun b o hb hn hx=>hn,fun b o hb hx=>?_,fun _ _ z=>z,fun _ _ _ z=>z,fun b ps z=>⟨#[],by rw [z,Array.append_empty]⟩⟩
    (HOk.tracked hok fun b u hb q=>stay b u q (fun z=>hb (hst b z)) fun z=>?_) fl₅
  · by_cases hq:b∈frs (env::outer)
    · obtain ⟨sl,e1⟩:=slot b o hb hq
      exact ⟨_,e1⟩
    · exact ⟨o,stay b o hb hq hx⟩
  · rcases List.mem_cons.mp z with z | z
    · subst z; exact hb he
    · rcases List.mem_cons.mp z with z | z
      · subst z; exact hb hTn
      · cases z
end L2
set_option Elab.async false
set_option linter.all false
set_option maxRecDepth 100000
namespace L2
open PySem PySem.Spec PyProof.Rows
structure Xcl (K:PySem.W.Frag) (C:Addr) (bmB:List Value) (newId:String):Prop where
  ex:∃ (nm q:Str) (N:Addr) (bs bm:List Value) (hdct:Bool) (sn:List Str) (sub:List Value) (ab:Bool) (col:Option Bool) (dd:Option Addr) (k0 k1 k2 k3 k5:Option Value) (mN:Str→Option Value),
    K.lookup C=some (excClassObj nm q C N bs bm hdct sn sub ab col dd k0 k1 k2 k3 k5 newId)∧(∀ h:Heap,K.In h→h.Ns N mN∧OwnTail h bmB bm)∧mN "__init__"=none∧bm.contains (.type "BaseException")=true
theorem raise_made {X:Cx} {pins:List (Addr×Obj)} {σ:St} {H:Hp} {s:Shared} {x:Str} {np cpos pos:Pos} {arg:Expr} {C:Addr} {B newId initId:String} {bmB:List Value} {t:TE} {Q:Flow→Shared→Prop}
    (F:ExcBaseFacts B newId initId bmB) (c:Xcl X.K C bmB newId) (hg:Gl X x) (hm:X.mg x=some (.ref C)) (hc:X.calm=true) (ha:PE X arg t) (I:Inv X pins σ H s)
    (h:t σ H fun v H1=>∀ s1 h' e args,Inv X pins σ H1 s1→Heap.MadeExcOf s1.heap h' e (.ref C) args→X.xe (.ref e) { s1 with heap:=h' })
    (hs:starEach [arg] X.env=[(false,eval arg X.env)]:=by rfl) (hdb:(x == ("__debug__":Str))=false:=by decide) :
    wpAny (model X.prog X.w) X.A (exec (.Raise (some (.Call (.Name x np) [arg] [] cpos)) none pos) X.env) Q X.xe s:=by
  obtain ⟨nm,q,N,bs,bm,hdct,sn,sub,ab,col,dd,k0,k1,k2,k3,k5,mN,lk,hn,hni,hb⟩:=c.ex
  refine wpAny_Raise_call_subT (C:=C) (nm:=nm) (q:=q) (N:=N) (bs:=bs) (bm:=bm) (hdct:=hdct) (sn:=sn) (sub:=sub) (ab:=ab) (col:=col) (dd:=dd) (k0:=k0) (k1:=k1) (k2:=k2) (k3:=k3) (k5:=k5) (mN:=mN) F hb (I.ok.hd hc) (by rw [hs]; rfl) hni ?_
  refine ld_glob I hg hm ⟨rfl,?_⟩ (hd:=hdb)
  rw [hs]
  refine Calls.evalArgs_plain (Calls.spliced_cons (thn (ha pins s σ H _ I h) fun u s1 hz0=>Calls.spliced_nil ?_))
  obtain ⟨v,H1,I1,r1,z⟩:=hz0
  have KX:X.K.In s1.heap:=I1.kIn
  exact ⟨rfl,by show 1≤sizeLine; decide,KX _ _ lk,(hn _ KX).1,(hn _ KX).2,fun h' e hx=>z s1 h' e _ I1 hx⟩
theorem ps_raise {P:Program} {w:World} {K:PySem.W.Frag} {mg:Str→Option Value} {base:Heap} {N:List Str} {qual:Str} {scope:Scope} {f:Addr} {cd:Value} {A:Around} {outer:List Env} {s₀:Shared} {H₀:Hp} {E:XK}
    {x msg:Str} {np cpos pos mp:Pos} {mk:Nat} {C:Addr} {B newId initId:String} {bmB:List Value}
    (F:ExcBaseFacts B newId initId bmB) (c:Xcl K C bmB newId) (hg:Gl (cxOf (CXE P w) P w K mg base N qual scope f cd A outer s₀ H₀ E) x) (hm:mg x=some (.ref C)) (hdb:(x == ("__debug__":Str))=false:=by decide) :
    PS (cxOf (CXE P w) P w K mg base N qual scope f cd A outer s₀ H₀ E) (.Raise (some (.Call (.Name x np) [.Constant (.str msg) mk mp] [] cpos)) none pos) (fun _ _ H=>E (.ref C) none H):=by
  intro pins s σ H D I h
  exact raise_made F c hg hm rfl pe_str I (fun s1 h' e args I1 hx=>raise_leaves I1 hx h) rfl hdb
end L2
set_option Elab.async false
set_option linter.all false
set_option maxRecDepth 100000
namespace L2
open PySem PySem.Spec PyProof.Rows
theorem Un.skip {fs ex:List Addr} {H H1 H2:Hp} {h h1 h2:Heap} (a:Un fs [] H H1 h h1) (b:Un fs ex H1 H2 h1 h2) (hx:∀ c∈ex,h.get? c=none):Un fs [] H H2 h h2:=by
  have no:∀ {c:Addr} {o:Obj},h.get? c=some o→c ∉ ex:=fun {c o} e z=>by rw [hx c z] at e; cases e
  refine ⟨fun c o e n f _=>?_,fun c o e n f _=>?_,fun c o e n _=>?_,fun c o e _=>?_,fun c xs e=>b.tups c xs (a.tups c xs e),fun c o u e=>b.frzs c o u (a.frzs c o u e),fun c ps e=>?_⟩
  · exact b.keep c o (a.keep c o e n f (by simp)) (a.free c o e n (by simp)) f (no e)
  · obtain ⟨sl,e1⟩:=a.slot c o e n f (by simp)
    obtain ⟨sl2,e2⟩:=b.slot c _ e1 (a.free c o e n (by simp)) f (no e)
    exact ⟨sl2,e2⟩
  · obtain ⟨o',e1⟩:=a.there c o e (by simp)
    exact b.free c o' e1 (a.free c o e n (by simp)) (no e)
  · obtain ⟨o',e1⟩:=a.there c o e (by simp)
    exact b.there c o' e1 (no e)
  · obtain ⟨m1,e1⟩:=a.tbls c ps e
    obtain ⟨m2,e2⟩:=b.tbls c _ e1
    exact ⟨m1++m2,by rw [e2,Array.append_assoc]⟩
theorem caught_lands {X:Cx} {pins:List (Addr×Obj)} {σ:St} {H:Hp} {s s':Shared} {E:XK} {e:Value} {outer:List Env} {L:Addr} {Q:Unit→Shared→Prop} {EE:Value→Shared→Prop}
    (I:Inv X pins σ H s) (hstk:X.stack=X.env::outer) (hL:X.env.frame=some L) (hq:CXE X.prog X.w X.stack H s E e s')
    (k:∀ (ea:Addr) (cls:Value) (H':Hp) (h':Heap),e=.ref ea→Inv X pins σ H' { s' with heap:=h' }→H' ea=none→(∃ oe,h'.get? ea=some oe∧oe.cls=cls)→(∃ b'' t,Heap.FlyingW b'' X.stack ea cls (.ref t) h'∧(∀ c,b''.get? c=none→c ∉ frs X.stack→s.heap.get? c=none)∧∀ b,H' b≠none→∃ o',b''.get? b=some o')→Un (frs X.stack) [] H H' s.heap h'→E cls none H'→Q () { s' with heap:=h' }) :
    wpAny (model X.prog X.w) X.A (noteFrame e X.env) (fun _ s₂=>wpAny (model X.prog X.w) X.A (setFlight e none) Q EE s₂) EE s':=by
  obtain ⟨ea,t,cls,b',H',rfl,os,bare,un,hok,fl,hb',ht,hE⟩:=hq
  have hst:∀ b∈frs X.stack,H b=none:=I.stkFree
  have funs:s.heap.FunFrames X.base X.stack:=I.stack
  have hst':∀ b∈frs X.stack,H' b=none:=fun b hb=>by
    obtain ⟨_,o,ho,_⟩:=funs.mem hb
    exact un.free b o ho (hst b hb) (by simp)
  have hfr:X.A.frames=some X.stack:=I.ok.frames
  have notin:∀ c:Addr,b'.get? c=none→c ∉ frs X.stack→s.heap.get? c=none:=fun c hc hf=>by
    cases e1:s.heap.get? c with
    | none=>rfl
    | some o =>
      obtain ⟨o',e2⟩:=hb' c o e1 hf
      rw [hc] at e2; cases e2
  have hea:ea ∉ frs X.stack:=fun z=>by
    obtain ⟨_,o',ho',hd⟩:=fl.2.2.1.mem z
    obtain ⟨oe,vs,e1,_,e2,_⟩:=fl.first
    rw [e1] at ho'
    cases ho'
    exact hd vs e2
  rw [hstk] at hfr fl hst' un hea notin
  refine lands hfr hL fl hok hst' ht fun h₅ T hT hTf un5 hok5 fl5=>?_
  have un':=un.skip un5 fun c hc=>by
    rcases List.mem_cons.mp hc with z | z
    · subst z; exact notin c fl.2.1 hea
    · rcases List.mem_cons.mp z with z | z
      · subst z; exact notin c hT hTf
      · cases z
  rw [← hstk] at un'
  have I5:Inv X pins σ H' { s' with heap:=h₅ }:=I.call' (s':={ s' with heap:=h₅ }) os un' hok5 bare fun b hb=>absurd hb (by simp)
  have he:H' ea=none:=by
    cases e1:H' ea with
    | none=>rfl
    | some u =>
      obtain ⟨o',e2⟩:=ht ea (by rw [e1]; simp)
      rw [fl.2.1] at e2; cases e2
  refine k ea cls H' h₅ rfl I5 he fl5.there ⟨_,t,by rw [hstk]; exact fl5,fun c hc hf=>?_,fun b hb=>?_⟩ un' hE
  rotate_left
  · cases e1:H' b with
    | none=>exact absurd e1 hb
    | some u =>
      obtain ⟨o',e2⟩:=(hok b u e1).get
      refine ⟨o',?_⟩
      rw [noFr_out]
      · exact e2
      · intro z
        rcases List.mem_cons.mp z with z | z
        · subst z; exact hb he
        · rcases List.mem_cons.mp z with z | z
          · subst z
            obtain ⟨o3,e3⟩:=ht b hb
            rw [hT] at e3; cases e3
          · exact hb (hst' b z)
  by_cases h1:c=ea
  · subst h1; exact notin c fl.2.1 hea
  · by_cases h2:c=T
    · subst h2; exact notin c hT hTf
    · rw [noFr_out (fun z=>by
        rcases List.mem_cons.mp z with z | z
        · exact h1 z
        · rcases List.mem_cons.mp z with z | z
          · exact h2 z
          · rw [hstk] at hf; exact hf z)] at hc
      cases e1:s.heap.get? c with
      | none=>rfl
      | some o =>
        obtain ⟨o',e2⟩:=un.there c o e1 (by simp)
        rw [hc] at e2; cases e2
end L2
set_option Elab.async false
set_option linter.all false
set_option maxRecDepth 100000
namespace L2
open PySem PySem.Spec PySem.Calls PyProof.Rows
section
variable {M:Model} {A:Around} {E:Value→Shared→Prop}
variable {nm q:Str} {C N:Addr} {bs bm:List Value} {hdct:Bool} {sn:List Str} {sub:List Value} {ab:Bool} {col:Option Bool} {dd:Option Addr} {k0 k1 k2 k3 k5:Option Value} {newId:String}
variable {nm' q':Str} {D N':Addr} {bs' bm':List Value} {hdct':Bool} {sn':List Str} {sub':List Value} {ab':Bool} {col':Option Bool} {dd':Option Addr} {j0 j1 j2 j3 j5:Option Value} {newId':String}
theorem excMatches_under {h:Heap} {g:Array GenState} {d:Drawn} {t:Nat} {os:OsState} {e:Addr} {oe:Obj} {Q:Bool→Shared→Prop}
    (hC:h.get? C=some (excClassObj nm q C N bs bm hdct sn sub ab col dd k0 k1 k2 k3 k5 newId)) (hD:h.get? D=some (excClassObj nm' q' D N' bs' bm' hdct' sn' sub' ab' col' dd' j0 j1 j2 j3 j5 newId')) (he:h.get? e=some oe) (hcls:oe.cls=.ref C)
    (hbase:bm'.contains (.type "BaseException")=true) (hin:bm.contains (.ref D)=true)
    (hq:Q true ⟨h,g,d,t,os⟩):wpAny M A (excMatches (.ref e) (.ref D)) Q E ⟨h,g,d,t,os⟩:=by
  have hcB:(Value.ref D::bm').contains (.type "BaseException")=true:=by rw [List.contains_cons,hbase,Bool.or_true]
  have hcC:(Value.ref C::bm).contains (.ref D)=true:=by rw [List.contains_cons,hin,Bool.or_true]
  have f:=tc_notTuple
  unfold excMatches
  repeat (first | (with_reducible refine wpAny_loadPart_at he ?_; rw [hcls]) | with_reducible refine wpAny_loadPart_at hD ?_ | (with_reducible refine wpAny_isSubtype_exc hD ?_; rw [hcB]) | (with_reducible refine wpAny_isSubtype_exc hC ?_; rw [hcC]) | wp_step)
  exact hq
end
section
variable {prog:Program} {w:World} {A:Around} {E:Value→Shared→Prop} {s:Shared} {env:Env}
theorem handleBy_under {e C D:Addr} {t:Expr} {n:Str} {b₀:Stmt} {suite:List Stmt} {pos:Pos} {rest:List ExceptHandler} {Q:Flow→Shared→Prop}
    {nm q:Str} {N:Addr} {bs bm:List Value} {hdct:Bool} {sn:List Str} {sub:List Value} {ab:Bool} {col:Option Bool} {dd:Option Addr} {k0 k1 k2 k3 k5:Option Value} {newId:String}
    {nm' q':Str} {N':Addr} {bs' bm':List Value} {hdct':Bool} {sn':List Str} {sub':List Value} {ab':Bool} {col':Option Bool} {dd':Option Addr} {j0 j1 j2 j3 j5:Option Value} {newId':String}
    (hbase:bm'.contains (.type "BaseException")=true) (hin:bm.contains (.ref D)=true)
    (h:wpAny (model prog w) (A.mark (some (.ref e))) (eval t env) (fun c s₁=>c=.ref D∧s₁.heap.get? C=some (excClassObj nm q C N bs bm hdct sn sub ab col dd k0 k1 k2 k3 k5 newId)∧s₁.heap.get? D=some (excClassObj nm' q' D N' bs' bm' hdct' sn' sub' ab' col' dd' j0 j1 j2 j3 j5 newId')∧(∃ oe,s₁.heap.get? e=some oe∧oe.cls=.ref C) ∧
      wpAny (model prog w) (A.mark (some (.ref e))) (setFlight (.ref e) none) (fun _ s₂ =>
          wpAny (model prog w) (A.mark (some (.ref e))) (storeName env n (.ref e)) (fun _ s₃ =>
            wpAny (model prog w) (A.mark (some (.ref e))) (execs (b₀::suite) env)
              (fun f s₄=>wpAny (model prog w) A (do bindName env n .none; unbindBehindTheSuite env n pos) (fun _ s₅=>Q f s₅) E s₄)
              (AsSuiteRaised (model prog w) (A.mark (some (.ref e))) env n pos (notedBy (model prog w) (A.mark (some (.ref e))) env (cameBackBy (model prog w) A env E))) s₃) (notedBy (model prog w) (A.mark (some (.ref e))) env (cameBackBy (model prog w) A env E)) s₂) (notedBy (model prog w) (A.mark (some (.ref e))) env (cameBackBy (model prog w) A env E)) s₁) (notedBy (model prog w) (A.mark (some (.ref e))) env (cameBackBy (model prog w) A env E)) s) :
    wpAny (model prog w) A (handleBy (.ref e) env (.ExceptHandler (some t) (some n) (b₀::suite) pos::rest)) Q E s:=by
  refine wpAny_handleBy_cons (codeAny_handlers_test (wpAny_mono h (fun c s₁ h₁=>?_) fun _ _ y=>y)) (by intro q; cases q)
  obtain ⟨rfl,hC,hD,⟨oe,he,hcls⟩,hk⟩:=h₁
  obtain ⟨hh,g,d,tk,os⟩:=s₁
  exact excMatches_under hC hD he hcls hbase hin (codeAny_handlers_suite_as hk)
end
end L2
set_option Elab.async false
set_option linter.all false
set_option maxRecDepth 100000
namespace L2
open PySem PySem.Spec PyProof.Rows
section
variable {X:Cx} {pins:List (Addr×Obj)} {σ:St} {H:Hp} {s:Shared}
theorem ld_globA {A:Around} {E:Value→Shared→Prop} {x:Str} {u:Value} {pos:Pos} {Q:Value→Shared→Prop} (I:Inv X pins σ H s) (hg:Gl X x) (hm:X.mg x=some u) (h:Q u s)
    (hd:(x == ("__debug__":Str))=false:=by decide):wpAny (model X.prog X.w) A (eval (.Name x pos) X.env) Q E s :=
  Calls.Name_function_global I.ok.kind hg (Calls.loadGlobal_global (by rw [I.ok.glob]; exact I.mod.glob.keeps I.bk) hm h) hd
theorem name_gone {M:Model} {A:Around} {E:Value→Shared→Prop} {i:Nat} {x:Str} {pos:Pos} {Q:Unit→Shared→Prop} (I:Inv X pins σ H s) (hN:X.N.Nodup) (hi:X.N[i]?=some x) (hk:X.env.kindOf x=some .local)
    (h:∀ s',Inv X pins (σ.set i none) H s'→Q () s'):wpAny M A (do bindName X.env x .none; unbindBehindTheSuite X.env x pos) Q E s:=by
  obtain ⟨m,hn,hl⟩:=id I.loc
  have hcls:(X.env.scope.kind == .class || (X.env.scope.kind == .module && X.env.locals != X.env.globals))=false:=by rw [I.ok.kind]; rfl
  have hiσ:i < σ.length:=by rw [I.len]; exact (List.getElem?_eq_some_iff.mp hi).1
  have cne:=I.cne
  have tracked:∀ {a:Addr} {h':Heap},(∃ o,s.heap.get? a=some o∧H a=none)→Heap.SameBut a s.heap h'→HOk X.prog X.w H h':=fun {a h'} ha hs b ob e=>by
    obtain ⟨_,_,hfree⟩:=ha
    refine (I.hok b ob e).stay (fun c w' hc q=>(hs.2 c ?_).trans q) (fun _ q=>q) fun _ _ q=>q
    rintro rfl
    rcases hc with rfl | hc
    · rw [hfree] at e; cases e
    · rw [hfree] at hc; cases hc
  refine wpAny_nameGoes_keeps hk hn hcls fun h' v hn' hs=>?_
  obtain ⟨oL,_,_,hoL,_⟩:=id hn
  refine h _ ⟨I.ok,I.os,I.bare,⟨fun b o e n hb hx=>?_,fun b o e n hb hx=>?_,I.base.free,fun b o e hx=>?_,I.base.tups,I.base.frzs,I.base.tbls⟩,⟨_,hn',fun j y v' e1 e2 e3=>?_⟩,fun y c e=>?_,I.free,I.freeC,fun p hp=>?_,tracked ⟨oL,hoL,I.free⟩ hs,by simpa using I.len⟩
  · exact (hs.2 b (Nat.ne_of_lt (Nat.lt_of_lt_of_le (Heap.lt_size e) I.ok.above))).trans (I.base.keep b o e n hb hx)
  · obtain ⟨sl,e1⟩:=I.base.slot b o e n hb hx
    exact ⟨sl,(hs.2 b (Nat.ne_of_lt (Nat.lt_of_lt_of_le (Heap.lt_size e) I.ok.above))).trans e1⟩
  · obtain ⟨o',e1⟩:=I.base.there b o e hx
    exact ⟨o',(hs.2 b (Nat.ne_of_lt (Nat.lt_of_lt_of_le (Heap.lt_size e) I.ok.above))).trans e1⟩
  · by_cases hj:j=i
    · subst hj
      rw [List.getElem?_set_self hiσ] at e2
      cases e2
    · rw [List.getElem?_set_ne (Ne.symm hj)] at e2
      obtain ⟨u',r',q⟩:=hl j y v' e1 e2 e3
      refine ⟨u',r',?_⟩
      rcases q with ⟨k,e⟩ | ⟨k,c,e,z⟩
      · refine .inl ⟨k,?_⟩
        have:y≠x:=fun e=>hj (nodup_ix hN e1 (e ▸ hi))
        simp [this,e]
      · exact .inr ⟨k,c,e,z.sameBut hs (cne y c e)⟩
  · obtain ⟨w',z⟩:=I.cell y c e
    exact ⟨w',z.sameBut hs (cne y c e)⟩
  · obtain ⟨e,n,ne,nf,d⟩:=I.pin p hp
    exact ⟨(hs.2 p.1 ne).trans e,n,ne,nf,d⟩
noncomputable def xcAt (e:Addr) (cls:Value) (h:Heap):Prop:=∃ oe,h.get? e=some oe∧oe.cls=cls
theorem lands_again {A:Around} {H0:Hp} {s0:Shared} {b':Heap} {e t:Addr} {cls:Value} {Q:Unit→Shared→Prop} {E:Value→Shared→Prop}
    (I0:Inv X pins σ H0 s0) (I:Inv X pins σ H s) (un:Un (frs X.stack) [] H0 H s0.heap s.heap) (he:H e=none) (fl:Heap.FlyingW b' X.stack e cls (.ref t) s.heap) (hf:∀ c,b'.get? c=none→c ∉ frs X.stack→s0.heap.get? c=none)
    (hb:∀ b,H b≠none→∃ o',b'.get? b=some o') (hos:s.os=s0.os)
    (k:∀ h',Inv X pins σ (upd H e (.ext (xcAt e cls))) { s with heap:=h' }→Q () { s with heap:=h' }):wpAny (model X.prog X.w) A (setFlight (.ref e) none) Q E s:=by
  obtain ⟨T,hT,⟨oT,ts,hoT,hdT⟩,⟨oe,vs,hoe,hoc,hod⟩,fl'⟩:=rebase fl
  have hst:∀ b∈frs X.stack,H b=none:=I.stkFree
  have nof:∀ {b:Addr} {o:Obj} {us:Array Value},s.heap.get? b=some o→o.data=.fields us→b ∉ frs X.stack:=fun {b o us} h1 h2 z=>by
    obtain ⟨_,o',ho',hd⟩:=fl.2.2.1.mem z
    rw [h1] at ho'
    cases ho'
    exact hd us h2
  refine lands_againW fl' fun h₅ fl₅ ups=>?_
  have stay:∀ b o,s.heap.get? b=some o→b ∉ frs X.stack→b ∉ [e,T]→h₅.get? b=some o:=fun b o hb hn hx=>fl₅.1 b o (by
    rw [noFr_out]
    · exact hb
    · intro z
      rcases List.mem_cons.mp z with z | z
      · exact hx (by simp [z])
      · rcases List.mem_cons.mp z with z | z
        · exact hx (by simp [z])
        · exact hn z)
  have slot:∀ b o,s.heap.get? b=some o→b∈frs X.stack→∃ sl,h₅.get? b=some { o with slots:=sl }:=fun b o hb hn=>by
    obtain ⟨_,o',ho',hd⟩:=fl.2.2.1.mem hn
    rw [hb] at ho'
    cases ho'
    exact ups b o hb hd
  have hTn:H T=none:=by
    cases e1:H T with
    | none=>rfl
    | some u =>
      obtain ⟨o',e2⟩:=hb T (by rw [e1]; simp)
      rw [hT] at e2; cases e2
  have un5:Un (frs X.stack) [e,T] H H s.heap h₅:=⟨fun b o hb hn hf hx=>stay b o hb hf hx,fun b o hb hn hf hx=>slot b o hb hf,fun b o hb hn hx=>hn,fun b o hb hx=>by
    by_cases hq:b∈frs X.stack
    · obtain ⟨sl,e1⟩:=slot b o hb hq
      exact ⟨_,e1⟩
    · exact ⟨o,stay b o hb hq hx⟩,fun _ _ z=>z,fun _ _ _ z=>z,fun b ps z=>⟨#[],by rw [z,Array.append_empty]⟩⟩
  have hok5:HOk X.prog X.w H h₅:=HOk.tracked I.hok fun b u hb q=>stay b u q (fun z=>hb (hst b z)) fun z=>by
    rcases List.mem_cons.mp z with z | z
    · subst z; exact hb he
    · rcases List.mem_cons.mp z with z | z
      · subst z; exact hb hTn
      · cases z
  have un':=un.skip un5 fun c hc=>by
    rcases List.mem_cons.mp hc with z | z
    · subst z; exact hf c fl.2.1 (nof hoe hod)
    · rcases List.mem_cons.mp z with z | z
      · subst z; exact hf c hT (nof hoT hdT)
      · cases z
  obtain ⟨oe5,hoe5,hoc5⟩:=fl₅.there
  have hs0:s0.heap.get? e=none:=hf e fl.2.1 (nof hoe hod)
  have ne0:∀ {b:Addr} {o:Obj},s0.heap.get? b=some o→b≠e:=fun {b o} h1 z=>by rw [z,hs0] at h1; cases h1
  have nH:∀ {b:Addr} {o:HO},H b=some o→b≠e:=fun {b o} h1 z=>by rw [z,he] at h1; cases h1
  have un2:Un (frs X.stack) [] H0 (upd H e (.ext (xcAt e cls))) s0.heap h₅:=⟨un'.keep,un'.slot,fun b o hb hn hx=>by rw [upd_ne (ne0 hb)]; exact un'.free b o hb hn hx,un'.there,
    fun b xs z=>by rw [upd_ne (nH (un'.tups b xs z))]; exact un'.tups b xs z,fun b o u z=>by rw [upd_ne (nH (un'.frzs b o u z))]; exact un'.frzs b o u z,fun b ps z=>by
      obtain ⟨m,z⟩:=un'.tbls b ps z
      exact ⟨m,by rw [upd_ne (nH z)]; exact z⟩⟩
  have hok2:HOk X.prog X.w (upd H e (.ext (xcAt e cls))) h₅:=fun b o hb=>by
    by_cases hbe:b=e
    · subst hbe
      rw [upd_same] at hb
      cases hb
      exact ⟨⟨oe5,hoe5,hoc5⟩,⟨oe5,hoe5⟩,fun h1 h2 ⟨o1,e1,c1⟩ kk=>⟨o1,kk o1 e1,c1⟩⟩
    · rw [upd_ne hbe] at hb
      exact (hok5 b o hb).stay (fun _ _ _ q=>q) (fun c z=>by rw [upd_ne (nH z)]; exact z) fun c xs z=>by rw [upd_ne (nH z)]; exact z
  exact k h₅ (I0.call' (s':={ s with heap:=h₅ }) hos un2 hok2 I.bare fun b hb=>absurd hb (by simp))
end
end L2
set_option Elab.async false
set_option linter.all false
set_option maxRecDepth 100000
namespace L2
open PySem PySem.Spec PyProof.Rows
noncomputable abbrev Cx.marked (X:Cx) (ea:Addr):Cx:={ X with A:=X.A.mark (some (.ref ea)),calm:=false,xe:=fun _ _=>False }
theorem Inv.marked {X:Cx} {pins:List (Addr×Obj)} {σ:St} {H:Hp} {s:Shared} (I:Inv X pins σ H s) (ea:Addr):Inv (X.marked ea) pins σ H s :=
  ⟨⟨I.ok.mod,I.ok.kind,I.ok.glob,I.ok.blt,I.ok.above,I.ok.inj,I.ok.has,I.ok.cab,fun z=>(by cases z),I.ok.frames,I.ok.stk,I.ok.exf,I.ok.bs,I.ok.bsz,I.ok.noex,I.ok.exfs,I.ok.funs,I.ok.frf⟩,I.os,I.bare,I.base,I.loc,I.cell,I.free,I.freeC,I.pin,I.hok,I.len⟩
theorem Inv.unmarked {X:Cx} {pins:List (Addr×Obj)} {σ:St} {H:Hp} {s:Shared} {ea:Addr} (I:Inv (X.marked ea) pins σ H s) (I0:X.Ok):Inv X pins σ H s :=
  ⟨I0,I.os,I.bare,I.base,I.loc,I.cell,I.free,I.freeC,I.pin,I.hok,I.len⟩
structure Under (K:PySem.W.Frag) (C D:Addr):Prop where
  ex:∃ (nm q:Str) (N:Addr) (bs bm:List Value) (hdct:Bool) (sn:List Str) (sub:List Value) (ab:Bool) (col:Option Bool) (dd:Option Addr) (k0 k1 k2 k3 k5:Option Value) (newId:String),K.lookup C=some (excClassObj nm q C N bs bm hdct sn sub ab col dd k0 k1 k2 k3 k5 newId)∧bm.contains (.ref D)=true
  top:∃ (nm q:Str) (N:Addr) (bs bm:List Value) (hdct:Bool) (sn:List Str) (sub:List Value) (ab:Bool) (col:Option Bool) (dd:Option Addr) (k0 k1 k2 k3 k5:Option Value) (newId:String),K.lookup D=some (excClassObj nm q D N bs bm hdct sn sub ab col dd k0 k1 k2 k3 k5 newId)∧bm.contains (.type "BaseException")=true
noncomputable def tTry (t:TA) (sp:Sp) (C:Addr) (i:Nat) (tb:Addr→TS):TS:=fun D σ H=>t σ H fun vs H1=>sp vs H1 (fun _ _=>False) fun cls _ H'=>cls=.ref C∧∀ ea,H' ea=none →
  tb ea { nx:=fun σ' H2=>D.nx (σ'.set i none) H2,rt:=fun _ _=>False } (σ.set i (some (.ref ea))) (upd H' ea (.ext (xcAt ea (.ref C))))
theorem ps_try {X:Cx} {k:Nat} {f:Addr} {fd:FuncData} {ps:List Str} {sp:Sp} {x c n:Str} {C D' L:Addr} {outer:List Env} {i:Nat} {e:Expr} {es:List Expr} {t:TA} {tb:Addr→TS} {p cpos epos cp hpos pos:Pos} {b₀:Stmt} {suite:List Stmt}
    (hstk:X.stack=X.env::outer) (hL:X.env.frame=some L) (hN:X.N.Nodup)
    (F:FnOk X.prog X.w X.K X.mg X.base (CXE X.prog X.w) k f fd ps sp) (hr:Room k X.A) (hg:Gl X x) (hm:X.mg x=some (.ref f)) (hk:PySem.W.keepIn X.K (.ref f)=true) (hb:Binds X.K fd ps []) (ha:PA X.nox (e::es) t)
    (U:Under X.K C D') (hgc:Gl X c) (hmc:X.mg c=some (.ref D')) (hi:X.N[i]?=some n) (hn:X.env.kindOf n=some .local) (hln:Loc X.env.scope n) (hfn:X.fn n=true∨X.env.scope.names.lookup n=some .local) (hsu:∀ ea,PSs (X.marked ea) (b₀::suite) (tb ea))
    (hdb:(x == ("__debug__":Str))=false:=by decide) (hdc:(c == ("__debug__":Str))=false:=by decide)
    (he:starEach (e::es) X.env=(false,eval e X.env)::starEach es X.env:=by rfl) (hpl:(backTo cpos (starEach es X.env)).any (·.1)=false:=by rfl) (hs:swapsWith (.Call (.Name x p) (e::es) [] cpos) none epos.line X.env=pure false:=by rfl) :
    PS X (.Try [.Expr (.Call (.Name x p) (e::es) [] cpos) epos] [.ExceptHandler (some (.Name c cp)) (some n) (b₀::suite) hpos] [] [] pos) (tTry t sp C i tb):=by
  intro pins s σ H D I h
  refine wpAny_Try_except (wpAny_execs_cons (wpAny_Expr_any ?_ I.quiet hs))
  refine wpAny_Call_Name_kw (ld_globA I hg hm ?_ hdb)
  refine PySem.W.callWith_K (h₀:=X.base) I.ok.mod.kin hk (wpAny_mono (ha cpos pins s σ H _ (I.wish _) h) (fun us s1 ⟨vs,H1,I1',r,q⟩=>⟨I1'.unwish.kIn,?_⟩) fun _ _ z=>z.elim) he hpl
  have I1:Inv X pins σ H1 s1:=I1'.unwish
  have hl:us.length=ps.length:=by rw [← r.length]; exact F.len _ _ _ _ q
  have hbb:=hb s1 us I1.kIn (by rw [List.append_nil]; exact hl)
  rw [List.append_nil] at hbb
  refine wpAny_call (codeAny_mono (F.run X.A X.stack s1 H1 ⟨us,[]⟩ us vs _ _ hr I1.env0 hbb r q) fun rr s' hq=>?_)
  cases rr with
  | ok fl =>
    cases fl with
    | ret u =>
      obtain ⟨_,_,_,_,_,_,_,z⟩:=hq
      exact z.elim
    | next=>exact False.elim hq
    | brk=>exact False.elim hq
    | cont=>exact False.elim hq
  | error ex =>
    have hq':CXE X.prog X.w X.stack H1 s1 (fun cls _ H'=>cls=.ref C∧∀ ea,H' ea=none →
      tb ea { nx:=fun σ' H2=>D.nx (σ'.set i none) H2,rt:=fun _ _=>False } (σ.set i (some (.ref ea))) (upd H' ea (.ext (xcAt ea (.ref C))))) ex s':=hq
    refine caught_lands I1 hstk hL hq' fun ea cls H' h' eq I5 hea hcl fly un hE=>?_
    subst eq
    obtain ⟨hcls,hE⟩:=hE
    subst hcls
    obtain ⟨b'',tt,fl,hf,hbt⟩:=fly
    obtain ⟨nm,q0,N0,bs,bm,hdct,sn,sub,ab,col,dd,k0,k1,k2,k3,k5,newId,lkC,hin⟩:=U.ex
    obtain ⟨nm',q',N',bs',bm',hdct',sn',sub',ab',col',dd',j0,j1,j2,j3,j5,newId',lkD,hbase⟩:=U.top
    have KX:=I5.kIn
    refine handleBy_under hbase hin (ld_globA I5 hgc hmc ⟨rfl,KX _ _ lkC,KX _ _ lkD,hcl,?_⟩ hdc)
    refine lands_again I1 I5 un hea fl hf hbt (I5.os.trans I1.os.symm) fun h6 I6=>?_
    refine store_ok I6 hN hi hln (show RelV (.ref ea) (.ref ea) from rfl) (fun s7 I7=>?_) hfn
    refine wpAny_mono (hsu ea pins s7 _ _ _ (I7.marked ea) (hE ea hea)) (fun fl8 s8 h8=>?_) fun _ _ z=>z.elim
    cases fl8 with
    | next =>
      obtain ⟨σ8,H8,I8,q8⟩:=h8
      exact name_gone (I8.unmarked I5.ok) hN hi hn fun s9 I9=>⟨_,_,I9,q8⟩
    | ret u=>obtain ⟨_,_,_,_,_,z⟩:=h8; exact z.elim
    | brk=>obtain ⟨_,_,_,z⟩:=h8; exact z.elim
    | cont=>obtain ⟨_,_,_,z⟩:=h8; exact z.elim
end L2
set_option Elab.async false
set_option linter.all false
set_option maxRecDepth 100000
namespace PySem
noncomputable def clsNames:List Str:=["__getattribute__","__getattr__","__class__"]
inductive OwnTailN (h:Heap) (bmB:List Value):List Value→Prop
  | base:OwnTailN h bmB bmB
  | own {A:Addr} {c0:Value} {dd:Option Addr} {cd:ClassData} {sl:Array (Option Value)} {mA:Str→Option Value} {tl:List Value} :
      h.get? A=some { cls:=c0,dict:=dd,data:=.cls cd,slots:=sl }→h.Ns cd.ns mA→(∀ n∈clsNames,mA n=none)→OwnTailN h bmB tl→OwnTailN h bmB (.ref A::tl)
theorem OwnTailN.hasType {h:Heap} {bmB tl:List Value} (T:OwnTailN h bmB tl) {X:String} {b:Bool} (hb:bmB.contains (.type X)=b):tl.contains (.type X)=b:=by
  induction T with
  | base=>exact hb
  | own _ _ _ _ ih=>rw [List.contains_cons,ih]; rfl
section
variable {M:Model} {A:Around} {E:Value→Shared→Prop} {h:Heap} {g:Array GenState} {d:Drawn} {t:Nat} {os:OsState}
theorem wpAny_lookupAlong_tailN {bmB tl:List Value} {n:Str} {y:Option Value} {Q:Option Value→Shared→Prop} (hn:n∈clsNames) (T:OwnTailN h bmB tl) (hrest:lookupAlong bmB n=pure y) (hq:Q y ⟨h,g,d,t,os⟩) :
    wpAny M A (lookupAlong tl n) Q E ⟨h,g,d,t,os⟩:=by
  induction T with
  | base=>rw [hrest]; exact wpAny_pure hq
  | own hA hN hni _ ih =>
    rw [lookupAlong_cons]
    refine wpAny_bind (wpAny_classOwn_cls hA hN ?_)
    rw [hni n hn]
    exact ih
variable {nm q:Str} {C N:Addr} {bs bm bmB:List Value} {hdct:Bool} {sn:List Str} {sub:List Value} {ab:Bool} {col:Option Bool} {dd:Option Addr} {k0 k1 k2 k3 k5:Option Value} {B newId:String}
theorem wpAny_typeLookup_tailN {mN:Str→Option Value} {n:Str} {y:Option Value} {Q:Option Value→Shared→Prop} (hn:n∈clsNames)
    (hC:h.get? C=some (excClassObj nm q C N bs bm hdct sn sub ab col dd k0 k1 k2 k3 k5 newId)) (hN:h.Ns N mN) (hmN:∀ n∈clsNames,mN n=none) (T:OwnTailN h bmB bm) (hbm:mroOf (.type B)=pure bmB)
    (hB:typeLookup (.type B) n=pure y) (hq:Q y ⟨h,g,d,t,os⟩):wpAny M A (typeLookup (.ref C) n) Q E ⟨h,g,d,t,os⟩:=by
  have hrest:lookupAlong bmB n=pure y:=by rw [typeLookup_eq,hbm] at hB; exact hB
  rw [typeLookup_eq]
  refine wpAny_bind (wpAny_mroOf_exc hC ?_)
  rw [lookupAlong_cons]
  refine wpAny_bind (wpAny_classOwn_exc hC hN ?_)
  rw [hmN n hn]
  exact wpAny_lookupAlong_tailN hn T hrest hq
end
section
variable {prog:Program} {w:World} {A:Around} {E:Value→Shared→Prop} {h:Heap} {g:Array GenState} {d:Drawn} {t:Nat} {os:OsState} {a:Addr} {o:Obj}
  {nm q:Str} {C N:Addr} {bs bm bmB:List Value} {hdct:Bool} {sn:List Str} {sub:List Value} {ab:Bool} {col:Option Bool} {dd:Option Addr} {k0 k1 k2 k3 k5:Option Value} {B newId:String} {mN:Str→Option Value}
theorem class_get_exc {R:Result→Shared→Prop} (hC:h.get? C=some (excClassObj nm q C N bs bm hdct sn sub ab col dd k0 k1 k2 k3 k5 newId)) (hob:bm.contains (.type "object")=true)
    (hx:h.get? a=some o) (hc:o.cls=.ref C) (hq:R (.ok (.ret (.ref C))) ⟨h,g,d,t,os⟩) :
    codeAny (model prog w) A (.call (.builtin "getset_descriptor.__get__") ⟨[.builtin "object.__class__",.ref a,.ref C],[]⟩) R ⟨h,g,d,t,os⟩:=by
  have hT5:(⟨h,g,d,t,os⟩:Shared).TypeIs (.builtin "object.__class__") "getset_descriptor":=F.typeOf_object_class
  have hcB:(Value.ref C::bm).contains (.type (".".intercalate ("object.__class__".cutAt '.').dropLast))=true:=by
    rw [F.owner_object_class,List.contains_cons,hob]; rfl
  refine codeAny_call_builtin F.slot_gs_get.plain F.entry_gs_get (F.slot_gs_get.check _ _ _ _ _ _ _ _ hT5 (F.args_gs_get _ _ _) ?_)
  repeat (any_goals (first | assumption | (with_reducible refine wpAny_loadPart_at hx ?_; rw [hc]) | (with_reducible refine wpAny_isSubtype_exc hC ?_; rw [hcB]) | wp_step))
  refine ⟨Code.quiet_builtin _ (by decide +kernel),codeAny_builtin F.entry_object_class ?_⟩
  repeat (any_goals (first | assumption | (with_reducible refine wpAny_loadPart_at hx ?_; rw [hc]) | wp_step))
theorem class_entry_exc {tk:Tok} {Q:Fin→Shared→Prop} (hC:h.get? C=some (excClassObj nm q C N bs bm hdct sn sub ab col dd k0 k1 k2 k3 k5 newId)) (hob:bm.contains (.type "object")=true) (hN:h.Ns N mN)
    (hmN:∀ n∈clsNames,mN n=none) (T:OwnTailN h bmB bm) (hmro:mroOf (.type B)=pure bmB) (hlk:typeLookup (.type B) "__class__"=pure (some (.builtin "object.__class__"))) (hx:h.get? a=some o) (hc:o.cls=.ref C) (hq:Q (.done (.ret (.ref C))) ⟨h,g,d,t,os⟩) :
    wpAny (model prog w) A (Builtin.«object.__getattribute__» ⟨[.ref a,.str "__class__" tk],[]⟩) Q E ⟨h,g,d,t,os⟩:=by
  have hT5:(⟨h,g,d,t,os⟩:Shared).TypeIs (.builtin "object.__class__") "getset_descriptor":=F.typeOf_object_class
  have f5:=F.typeOf_object_class
  have f6:=F.slot_gs_get.lookup
  have f7:=F.slot_gs_set.lookup
  have hmA:("__class__":Str)∈clsNames:=.tail _ (.tail _ (.head _))
  repeat (any_goals (first | assumption | (with_reducible refine wpAny_loadPart_at hx ?_; rw [hc]) | with_reducible refine wpAny_typeLookup_tailN hmA hC hN hmN T hmro hlk ?_ | wp_step))
  refine class_get_exc hC hob hx hc ?_
  repeat (any_goals (first | assumption | wp_step))
theorem check_ga_exc {M:Model} {nameV:Value} {Q:Unit→Shared→Prop} (hC:h.get? C=some (excClassObj nm q C N bs bm hdct sn sub ab col dd k0 k1 k2 k3 k5 newId)) (hbase:bm.contains (.type "BaseException")=true)
    (hx:h.get? a=some o) (hc:o.cls=.ref C) (hq:Q () ⟨h,g,d,t,os⟩):wpAny M A (checkBuiltinCall "BaseException.__getattribute__" ⟨[.ref a,nameV],[]⟩) Q E ⟨h,g,d,t,os⟩:=by
  have hk:builtinKind "BaseException.__getattribute__"=some .slot:=by decide +kernel
  have hsplit:splitId "BaseException.__getattribute__"=some ("BaseException","__getattribute__"):=by decide +kernel
  have hcB:(Value.ref C::bm).contains (.type "BaseException")=true:=by rw [List.contains_cons,hbase]; rfl
  have ha:=F.args_bexc_ga (.ref a) nameV
  simp only [checkBuiltinCall,hk,hsplit]
  refine wpAny_bind ?_
  · unfold isInstance
    repeat (first | (with_reducible refine wpAny_loadPart_at hx ?_; rw [hc]) | (with_reducible refine wpAny_isSubtype_exc hC ?_; rw [hcB]) | wp_step)
    exact hq
theorem class_by_exc {tk:Tok} {Q:Value→Shared→Prop} (FB:ExcAttrBase B bmB) (hC:h.get? C=some (excClassObj nm q C N bs bm hdct sn sub ab col dd k0 k1 k2 k3 k5 newId)) (hob:bmB.contains (.type "object")=true) (hN:h.Ns N mN)
    (hmN:∀ n∈clsNames,mN n=none) (T:OwnTailN h bmB bm) (hlk:typeLookup (.type B) "__class__"=pure (some (.builtin "object.__class__"))) (hx:h.get? a=some o) (hc:o.cls=.ref C) (hq:Q (.ref C) ⟨h,g,d,t,os⟩) :
    wpAny (model prog w) A (getAttrBy (.ref a) (.str "__class__" tk) false) Q E ⟨h,g,d,t,os⟩:=by
  have f3:=FB.ga.bind (.ref a)
  have hx2:(Value.builtin "BaseException.__getattribute__" == Value.builtin "object.__getattribute__")=false:=by decide +kernel
  have hx1:(onTheHeap (Value.ref C) && Value.builtin "BaseException.__getattribute__" == Value.builtin "object.__getattribute__")=false:=by rw [hx2]; rfl
  have hm1:("__getattribute__":Str)∈clsNames:=.head _
  have hm2:("__getattr__":Str)∈clsNames:=.tail _ (.head _)
  repeat (any_goals (first | assumption | (with_reducible refine wpAny_loadPart_at hx ?_; rw [hc]) | with_reducible refine wpAny_typeLookup_tailN hm1 hC hN hmN T FB.mro FB.ga.lookup ?_ | with_reducible refine wpAny_typeLookup_tailN hm2 hC hN hmN T FB.mro FB.noGetattr ?_ | wp_step))
  refine codeAny_call_builtin FB.ga.plain F.entry_bexc_ga (check_ga_exc hC (T.hasType FB.hasBase) hx hc (class_entry_exc hC (T.hasType hob) hN hmN T FB.mro hlk hx hc ?_))
  repeat (any_goals (first | assumption | wp_step))
theorem class_attr_exc {Q:Option Value→Shared→Prop} (FB:ExcAttrBase B bmB) (hC:h.get? C=some (excClassObj nm q C N bs bm hdct sn sub ab col dd k0 k1 k2 k3 k5 newId)) (hob:bmB.contains (.type "object")=true) (hN:h.Ns N mN)
    (hmN:∀ n∈clsNames,mN n=none) (T:OwnTailN h bmB bm) (hlk:typeLookup (.type B) "__class__"=pure (some (.builtin "object.__class__"))) (hx:h.get? a=some o) (hc:o.cls=.ref C) (hq:Q (some (.ref C)) ⟨h,g,d,t+1,os⟩) :
    wpAny (model prog w) A (getAttr? (.ref a) "__class__") Q E ⟨h,g,d,t,os⟩:=by
  unfold getAttr? getAttrBy?
  repeat (any_goals (first | assumption | with_reducible apply class_by_exc FB hC hob hN hmN T hlk hx hc | wp_step))
end
end PySem
set_option Elab.async false
set_option linter.all false
set_option maxRecDepth 100000
namespace L2
open PySem PySem.Spec PyProof.Rows
structure Xci (K:PySem.W.Frag) (C:Addr) (bmB:List Value):Prop where
  ex:∃ (nm q:Str) (N:Addr) (bs bm:List Value) (hdct:Bool) (sn:List Str) (sub:List Value) (ab:Bool) (col:Option Bool) (dd:Option Addr) (k0 k1 k2 k3 k5:Option Value) (newId:String) (mN:Str→Option Value),
    K.lookup C=some (excClassObj nm q C N bs bm hdct sn sub ab col dd k0 k1 k2 k3 k5 newId)∧(∀ h:Heap,K.In h→h.Ns N mN∧OwnTailN h bmB bm)∧∀ n∈clsNames,mN n=none
theorem lk_ValueError_class:typeLookup (.type "ValueError") "__class__"=pure (some (.builtin "object.__class__")):=by rw [typeLookup_type,builtinLookup_eq_fast]; kernel_rfl
theorem kitx_exc {K:PySem.W.Frag} {ea C:Addr} {B:String} {bmB:List Value} (c:Xci K C bmB) (FB:ExcAttrBase B bmB) (hob:bmB.contains (.type "object")=true) (hlk:typeLookup (.type B) "__class__"=pure (some (.builtin "object.__class__"))) :
    PySem.W.KitX K (.ref ea) (.ref C) (xcAt ea (.ref C)) where
  ty:=fun M h _ p=>by
    obtain ⟨o,h1,h2⟩:=p
    exact h2 ▸ (PySem.W.Looks.ld h1).andThen .now
  it:=fun _ _ X _=>by
    obtain ⟨nm,q,N,bs,bm,hdct,sn,sub,ab,col,dd,k0,k1,k2,k3,k5,newId,mN,lk,_⟩:=c.ex
    intro A' Q' E' s' k q
    unfold isType loadHead
    exact wpAny_bind (wpAny_loadPart (k _ _ (X _ _ lk)) (wpAny_pure q))
  ne:=fun h tp dd its n sl X htp=>by
    obtain ⟨nm,q,N,bs,bm,hdct,sn,sub,ab,col,dd',k0,k1,k2,k3,k5,newId,mN,lk,_⟩:=c.ex
    refine Bool.eq_false_iff.mpr fun q=>?_
    have e:C=tp:=Value.ref.inj (beq_iff_eq.mp q)
    subst e
    have z:=(X _ _ lk).symm.trans htp
    have z2:=congrArg (fun o=>(o.getD default).cls) z
    exact absurd z2 (by simp)
  ca:=fun {prog w A E Q s} X p k=>by
    obtain ⟨nm,q,N,bs,bm,hdct,sn,sub,ab,col,dd',k0,k1,k2,k3,k5,newId,mN,lk,hn,hmN⟩:=c.ex
    obtain ⟨h,g,d,t,os⟩:=s
    obtain ⟨o,h1,h2⟩:=p
    exact class_attr_exc FB (X _ _ lk) hob (hn _ X).1 hmN (hn _ X).2 hlk h1 h2 k
section
variable {X:Cx} {C:Addr} {B:String} {bmB:List Value}
theorem call_isiE (c:Xci X.K C bmB) (FB:ExcAttrBase B bmB) (hob:bmB.contains (.type "object")=true) (hlk:typeLookup (.type B) "__class__"=pure (some (.builtin "object.__class__"))) :
    CallR X (.builtin "isinstance") (fun xs H Q=>∃ ea D b,xs=[.ref ea,.ref D]∧H ea=some (.ext (xcAt ea (.ref C)))∧PySem.W.kitOne X.K (.ref C) (.ref D)=some b∧Q (.bl b) H):=by
  intro pins s σ H xs us Q I r h
  obtain ⟨ea,D,b,rfl,he,e,q⟩:=h
  obtain ⟨u,v,rfl,ru,rv⟩:=vals2 r
  cases ru
  cases rv
  have p:xcAt ea (.ref C) s.heap:=(I.hok ea _ he).1
  exact PySem.W.kia_one (kitx_exc c FB hob hlk) I.kIn p e (fun z=>nomatch z) fun tk=>⟨.bl b,H,I.tok tk,rfl,q⟩
theorem call_isiET (c:Xci X.K C bmB) (FB:ExcAttrBase B bmB) (hob:bmB.contains (.type "object")=true) (hlk:typeLookup (.type B) "__class__"=pure (some (.builtin "object.__class__"))) :
    CallR X (.builtin "isinstance") (fun xs H Q=>∃ ea T b,xs=[.ref ea,.ty T]∧H ea=some (.ext (xcAt ea (.ref C)))∧PySem.W.kitOne X.K (.ref C) (.type T)=some b∧Q (.bl b) H):=by
  intro pins s σ H xs us Q I r h
  obtain ⟨ea,T,b,rfl,he,e,q⟩:=h
  obtain ⟨u,v,rfl,ru,rv⟩:=vals2 r
  cases ru
  cases rv
  have p:xcAt ea (.ref C) s.heap:=(I.hok ea _ he).1
  exact PySem.W.kia_one (kitx_exc c FB hob hlk) I.kIn p e (fun z=>nomatch z) fun tk=>⟨.bl b,H,I.tok tk,rfl,q⟩
theorem vals_refs:∀ {ds:List Addr} {us:List Value},Vals (ds.map V.ref) us→us=ds.map Value.ref
  | [],_,r=>by cases r; rfl
  | d::ds,_,r=>by
    cases r with
    | cons r1 rr =>
      cases r1
      rw [vals_refs rr]
      rfl
theorem call_isiEU (c:Xci X.K C bmB) (FB:ExcAttrBase B bmB) (hob:bmB.contains (.type "object")=true) (hlk:typeLookup (.type B) "__class__"=pure (some (.builtin "object.__class__"))) :
    CallR X (.builtin "isinstance") (fun xs H Q=>∃ (ea tp:Addr) (ds:List Addr) (b:Bool),xs=[.ref ea,.ref tp]∧H ea=some (.ext (xcAt ea (.ref C)))∧H tp=some (.tup (ds.map V.ref))∧PySem.W.kitAny X.K (.ref C) (ds.map Value.ref)=some b∧Q (.bl b) H):=by
  intro pins s σ H xs us Q I r h
  obtain ⟨ea,tp,ds,b,rfl,he,ht,e,q⟩:=h
  obtain ⟨u,v,rfl,ru,rv⟩:=vals2 r
  cases ru
  cases rv
  have p:xcAt ea (.ref C) s.heap:=(I.hok ea _ he).1
  obtain ⟨_,its,rr,o,ho,hoc,n,hod⟩:=(show ObjOk X.prog X.w H s.heap tp (.tup (ds.map V.ref)) from I.hok tp _ ht)
  have hits:=vals_refs rr
  subst hits
  obtain ⟨oc,od,odt,osl⟩:=o
  cases hoc
  cases hod
  exact PySem.W.kia_tup (kitx_exc c FB hob hlk) I.kIn p ho e (fun z=>nomatch z) fun tk=>⟨.bl b,H,I.tok tk,rfl,q⟩
end
end L2
set_option Elab.async false
set_option linter.all false
set_option maxRecDepth 100000
namespace L2
open PySem PySem.Spec PyProof.Rows
structure CalleeX (P:Program) (w:World) (K:PySem.W.Frag) (mg:Str→Option Value) (base:Heap) (x:Str) (k:Nat) (ps:List Str) (sp:Sp):Prop where
  ex:∃ f fd,FnOk P w K mg base (CXE P w) k f fd ps sp∧mg x=some (.ref f)∧PySem.W.keepIn K (.ref f)=true∧Binds K fd ps []
theorem Def.okX {P:Program} {w:World} {K:PySem.W.Frag} {mg:Str→Option Value} {base:Heap} {x:Str} {st:Stmt} {N ps:List Str} {k:Nat} {sp:Sp} (D:Def K mg x st ps) (S:FnScope N ps (defScope st)) (len:∀ vs H Q E,sp vs H Q E→vs.length=ps.length)
    (hbody:∀ (f:Addr) (cdv:Value) (A:Around) (outer:List Env) (s:Shared) (H:Hp) (vs:List V) (Q:VK) (E:XK),Room k (A.deeper (envOfC x (defScope st) s.heap.objs.size f cdv))→sp vs H Q E →
      ∃ t,PSs (cxOf (CXE P w) P w K mg base N x (defScope st) f cdv A outer s H E) (defBody st) t∧t { nx:=fun _ H'=>Q .non H',rt:=Q } (start N vs) H):CalleeX P w K mg base x (k+1) ps sp:=by
  obtain ⟨f,fd,F,hm,hb⟩:=D.ex
  obtain ⟨oc,od,kV,doc,pm,an,cdv,ct,osl,rfl,lk,hcd⟩:=F.ex
  exact ⟨f,_,fn_of lk hcd S len fun A outer s H vs Q E hr hsp=>hbody f cdv A outer s H vs Q E hr hsp,hm,F.kp,hb⟩
end L2
set_option Elab.async false
set_option linter.all false
set_option maxRecDepth 100000
namespace L2
open PySem PySem.Spec PyProof.Rows PySem.W
theorem boot_ValueError:bootBuiltins "ValueError"=some (.type "ValueError"):=by decide +kernel
noncomputable def bmV:List Value:=[.type "ValueError",.type "Exception",.type "BaseException",.type "object"]
noncomputable def tailInN (K:Frag) (bmB:List Value):List Value→Bool
  | []=>bmB == []
  | v::r=>(v::r) == bmB || match v with
    | .ref A=>(match K.lookup A with
      | some ⟨_,_,.cls cd,_⟩=>nsOkIn K cd.ns && (nsIn K cd.ns "__getattribute__" == some none && nsIn K cd.ns "__getattr__" == some none && nsIn K cd.ns "__class__" == some none) && tailInN K bmB r
      | _=>false)
    | _=>false
theorem cls3 {m:Str→Option Value} (a:m "__getattribute__"=none) (b:m "__getattr__"=none) (c:m "__class__"=none):∀ n∈clsNames,m n=none:=by
  intro n hn
  unfold clsNames at hn
  simp only [List.mem_cons,List.not_mem_nil,or_false] at hn
  rcases hn with rfl | rfl | rfl
  · exact a
  · exact b
  · exact c
theorem tailN_of_in {K:Frag} {h:Heap} {bmB:List Value} (X:K.In h):∀ {l:List Value},tailInN K bmB l=true→OwnTailN h bmB l
  | [],e=>by rw [← beq_iff_eq.mp e]; exact .base
  | v::r,e=>by
    unfold tailInN at e
    rcases Bool.or_eq_true_iff.mp e with q | q
    · rw [beq_iff_eq.mp q]; exact .base
    · split at q
      · split at q
        · rename_i ho
          simp only [Bool.and_eq_true,beq_iff_eq] at q
          exact .own (X _ _ ho) (.of_isNs (isNs_of_in X q.1.1)) (cls3 (nsMap_none_of_in X q.1.1 q.1.2.1.1) (nsMap_none_of_in X q.1.1 q.1.2.1.2) (nsMap_none_of_in X q.1.1 q.1.2.2)) (tailN_of_in X q.2)
        · cases q
      · cases q
noncomputable def xcIn (K:Frag) (C:Addr) (bmB:List Value) (newId:String):Bool:=match K.lookup C with
  | some ⟨.type "type",_,.cls cd,sl⟩=>(match cd.mro,sl.toList with
    | .ref C'::bm,[_,_,_,_,some (.builtin n),_]=>C' == C && n == newId && !cd.hasDel && tailIn K bmB bm && tailInN K bmB bm && nsOkIn K cd.ns && nsIn K cd.ns "__init__" == some none
       && nsIn K cd.ns "__getattribute__" == some none && nsIn K cd.ns "__getattr__" == some none && nsIn K cd.ns "__class__" == some none && bm.contains (.type "BaseException")
    | _,_=>false)
  | _=>false
noncomputable def mroHas (K:Frag) (C D:Addr):Bool:=match K.lookup C with
  | some ⟨_,_,.cls cd,_⟩=>cd.mro.tail.contains (.ref D)
  | _=>false
theorem ns_at {K:Frag} {N:Addr} {h h':Heap} {m:Str→Option Value} (X:K.In h) (X':K.In h') (e:nsOkIn K N=true) (n:h.Ns N m):h'.Ns N m:=by
  obtain ⟨o,es,ep,ho,r⟩:=n
  refine ⟨o,es,ep,?_,r⟩
  unfold nsOkIn at e
  cases hl:K.lookup N with
  | none=>rw [hl] at e; cases e
  | some u =>
    have h1:=X _ _ hl
    rw [ho] at h1
    cases h1
    exact X' _ _ hl
theorem xc_of {K:Frag} {h:Heap} {C:Addr} {bmB:List Value} {newId:String} (X:K.In h) (q:xcIn K C bmB newId=true) :
    ∃ (nm q:Str) (N:Addr) (bs bm:List Value) (hdct:Bool) (sn:List Str) (sub:List Value) (ab:Bool) (col:Option Bool) (dd:Option Addr) (k0 k1 k2 k3 k5:Option Value) (mN:Str→Option Value),
    K.lookup C=some (excClassObj nm q C N bs bm hdct sn sub ab col dd k0 k1 k2 k3 k5 newId)∧(∀ h:Heap,K.In h→h.Ns N mN∧OwnTail h bmB bm∧OwnTailN h bmB bm)∧mN "__init__"=none∧(∀ n∈clsNames,mN n=none)∧bm.contains (.type "BaseException")=true:=by
  unfold xcIn at q
  split at q
  · rename_i dd cd sl ho
    split at q
    · rename_i C' bm k0 k1 k2 k3 n k5 hm hs
      simp only [Bool.and_eq_true,beq_iff_eq,Bool.not_eq_true'] at q
      obtain ⟨⟨⟨⟨⟨⟨⟨⟨⟨⟨rfl,rfl⟩,hdel⟩,ht⟩,htn⟩,hok⟩,hni⟩,n1⟩,n2⟩,n3⟩,hb⟩:=q
      obtain ⟨nm,bs,mro,ns,qn,hd,sn,sub,ab,col,del⟩:=cd
      dsimp only at hm hdel hok hni n1 n2 n3
      subst hm hdel
      have hsl:sl=#[k0,k1,k2,k3,some (.builtin n),k5]:=by
        obtain ⟨l⟩:=sl
        simp only at hs
        rw [hs]
      subst hsl
      exact ⟨nm,qn,ns,bs,bm,hd,sn,sub,ab,col,dd,k0,k1,k2,k3,k5,_,ho,fun h' X'=>⟨ns_at X X' hok (.of_isNs (isNs_of_in X hok)),tail_of_in X' ht,tailN_of_in X' htn⟩,nsMap_none_of_in X hok hni,cls3 (nsMap_none_of_in X hok n1) (nsMap_none_of_in X hok n2) (nsMap_none_of_in X hok n3),hb⟩
    · cases q
  · cases q
theorem xcl_of {K:Frag} {h:Heap} {C:Addr} {bmB:List Value} {newId:String} (X:K.In h) (q:xcIn K C bmB newId=true):Xcl K C bmB newId:=by
  obtain ⟨nm,q,N,bs,bm,hdct,sn,sub,ab,col,dd,k0,k1,k2,k3,k5,mN,lk,hn,hi,hc,hb⟩:=xc_of X q
  exact ⟨nm,q,N,bs,bm,hdct,sn,sub,ab,col,dd,k0,k1,k2,k3,k5,mN,lk,fun h X=>⟨(hn h X).1,(hn h X).2.1⟩,hi,hb⟩
theorem xci_of {K:Frag} {h:Heap} {C:Addr} {bmB:List Value} {newId:String} (X:K.In h) (q:xcIn K C bmB newId=true):Xci K C bmB:=by
  obtain ⟨nm,q,N,bs,bm,hdct,sn,sub,ab,col,dd,k0,k1,k2,k3,k5,mN,lk,hn,hi,hc,hb⟩:=xc_of X q
  exact ⟨nm,q,N,bs,bm,hdct,sn,sub,ab,col,dd,k0,k1,k2,k3,k5,newId,mN,lk,fun h X=>⟨(hn h X).1,(hn h X).2.2⟩,hc⟩
theorem under_of {K:Frag} {h:Heap} {C D:Addr} {bmB:List Value} {newId:String} (X:K.In h) (q:xcIn K C bmB newId=true) (q':xcIn K D bmB newId=true) (u:mroHas K C D=true):Under K C D:=by
  obtain ⟨nm,qq,N,bs,bm,hdct,sn,sub,ab,col,dd,k0,k1,k2,k3,k5,mN,lk,hn,hi,hc,hb⟩:=xc_of X q
  obtain ⟨nm',qq',N',bs',bm',hdct',sn',sub',ab',col',dd',j0,j1,j2,j3,j5,mN',lk',hn',hi',hc',hb'⟩:=xc_of X q'
  refine ⟨⟨nm,qq,N,bs,bm,hdct,sn,sub,ab,col,dd,k0,k1,k2,k3,k5,newId,lk,?_⟩,⟨nm',qq',N',bs',bm',hdct',sn',sub',ab',col',dd',j0,j1,j2,j3,j5,newId,lk',hb'⟩⟩
  unfold mroHas at u
  rw [lk] at u
  exact u
structure Exc (K:Frag) (C D:Addr) (ds:List Addr):Prop where
  cl:Xcl K C bmV "ValueError.__new__"
  ci:Xci K C bmV
  un:Under K C D
  vt:kitOne K (.ref C) (.type "ValueError")=some true
  any:kitAny K (.ref C) (ds.map Value.ref)=some false
theorem exc_of {K:Frag} {h:Heap} {C D:Addr} {ds:List Addr} (X:K.In h) (q:xcIn K C bmV "ValueError.__new__"=true) (q':xcIn K D bmV "ValueError.__new__"=true) (u:mroHas K C D=true) (vt:kitOne K (.ref C) (.type "ValueError")=some true)
    (any:kitAny K (.ref C) (ds.map Value.ref)=some false):Exc K C D ds:=⟨xcl_of X q,xci_of X q,under_of X q q' u,vt,any⟩
theorem kitOne_self {K:Frag} {C:Addr}:kitOne K (.ref C) (.ref C)=some true:=by
  unfold kitOne
  rw [if_pos (beq_self_eq_true _)]
end L2
set_option Elab.async false
set_option linter.all false
set_option maxRecDepth 100000
namespace L2
open PySem PySem.Spec PyProof.Rows
noncomputable def PK1:Pk where
  is:=fun o G m=>∃ (c:Addr) (ns:List Int) (k:Nat) (left:Int),o=.dK (penK c k left)∧k≤m∧0≤left∧G c=some (.lst (ns.map V.int))∧ns.length≤63
  mono:=fun s ⟨c,ns,k,left,e,h1,h2,h3,h4⟩=>⟨c,ns,k,left,e,h1,h2,s _ _ h3,h4⟩
noncomputable def m_draw:List Sl→Tr Re:=fun as=>match as with
  | [.pen,.d (.int most)]=>.draw most fun r=>.ret (.d (.int r))
  | _=>.fail
theorem draw_len {as:List Sl} {m:Nat} {Z:Nat→Re→Prop} (h:(m_draw as).ok m Z):∃ most,as=[.pen,.d (.int most)]:=by
  unfold m_draw at h
  split at h
  · exact ⟨_,rfl⟩
  · exact h.elim
theorem draw1 {P:Program} {w:World} {K:PySem.W.Frag} {mg:Str→Option Value} {base:Heap} {x:Str} {k:Nat} {ps:List Str} (hp:ps.length=2) (C:Callee P w K mg base x k ps spDraw):ACal PK1 P w K mg base x k ps m_draw:=by
  refine ⟨?_,fun as m Z h=>by obtain ⟨most,rfl⟩:=draw_len h; exact hp.symm⟩
  obtain ⟨f,fd,F,hm,hk,hb⟩:=C.ex
  refine ⟨f,fd,F.imp fun vs H Q E h=>?_,hm,hk,hb⟩
  obtain ⟨hv,pa,m,G,as,wd,ar,z⟩:=h
  obtain ⟨most,rfl⟩:=draw_len z
  obtain ⟨h1,h2,h3,h4⟩:=z
  cases ar with
  | cons a1 ar =>
    cases ar with
    | cons a2 ar =>
      cases ar
      cases a1
      cases a2 with
      | d d2 =>
        cases d2
        obtain ⟨o,ho,c,ns,kk,left,rfl,q1,q2,q3,q4⟩:=wd.pen
        refine ⟨pa,c,ns,m,most,rfl,⟨⟨kk,left,ho,q1,q2⟩,wd.sub _ _ q3,q4⟩,by omega,h2,h3,fun r H' r0 r1 P' K'=>?_⟩
        refine h4 r r0 r1 (.int r) G H' ⟨fun _ _ q=>q,fun _ _ q=>.inl q,fun b o e n=>K' b o e n⟩ ⟨fun b o e=>K' b o (wd.sub b o e) (fun z=>by subst z; rw [wd.gpa] at e; cases e),wd.gpa,?_⟩ (.int r)
        obtain ⟨⟨k2,l2,e2,g1,g2⟩,_,_⟩:=P'
        exact ⟨_,e2,c,ns,k2,l2,rfl,g1,g2,q3,q4⟩
noncomputable def spLaw:PySem.W.Frag→Sp:=fun K vs H Q _=>∃ (a:Addr) (ns:List Int),vs=[.ref a]∧SqL K H a (ns.map V.int)∧ns.length≤63∧∀ H',Q (.bl true) H'
theorem law_start {D:Ends} {p c:Addr} {ns:List Int} {H:Hp} {σ:St} {s:List Sl→Tr Ou} {n:Nat} (P:Pen H p c ns 0) (hσ:σ.length=n+2) (h1:σ[1]?=some (some (.ref p))) (hrt:∀ H',D.rt (.bl true) H')
    (h:(s (.un::.pen::List.replicate n .un)).ok 0 fun _ o=>o=.ret (.d (.bool true))):TAs PK1 s D σ H:=by
  obtain ⟨⟨k,l,e,hk,hl⟩,hc,hn⟩:=P
  have npc:p≠c:=ne_of e hc (by intro z; cases z)
  have key:∀ (i:Nat) (sl:Sl),(Sl.un::.pen::List.replicate n .un)[i]?=some sl→sl=.un∨(i=1∧sl=.pen):=fun i sl hi=>by
    match i with
    | 0=>simp at hi; exact .inl hi.symm
    | 1=>simp at hi; exact .inr ⟨rfl,hi.symm⟩
    | i+2 =>
      simp [List.getElem?_replicate] at hi
      exact .inl hi.2.symm
  refine ⟨p,fun b=>if b=c then H c else none,H,0,_,fun b=>if b=c then H c else none,⟨⟨fun b o hb=>?_,if_neg npc,?_⟩,.refl,⟨_,e⟩,fun i sl hi=>?_,by simp [hσ],fun i j xs ys _ hi _=>?_⟩,Tr.ok_mono h fun m o ho=>?_⟩
  · by_cases hbc:b=c
    · subst hbc; simpa using hb
    · simp [hbc] at hb
  · exact ⟨_,e,c,ns,k,l,rfl,hk,hl,by simp [hc],hn⟩
  · have hlt:i < σ.length:=by
      have:=(List.getElem?_eq_some_iff.mp hi).1
      simp at this
      omega
    rcases key i sl hi with rfl | ⟨rfl,rfl⟩
    · exact ⟨σ[i],by simp [hlt],.un⟩
    · exact ⟨_,h1,.pen⟩
  · rcases key i _ hi with z | ⟨_,z⟩ <;> cases z
  · subst ho
    intro v G H' s' w' d
    cases (show Dn G v (.bool true) from d)
    exact hrt H'
end L2
set_option Elab.async false
set_option linter.all false
set_option maxRecDepth 100000
namespace My
open PySem PySem.Spec PyProof.Rows L2
noncomputable def top (i:Nat):Stmt:=PySem.Challenge.pw_twomarks_k02_shares_made.main.body.getD i (.Pass ⟨0,0,0,0⟩)
noncomputable abbrev s_is_whole:Stmt:=top 11
noncomputable abbrev N_is_whole:List Str:=["thing"]
theorem sc_is_whole:FnScope N_is_whole ["thing"] (defScope s_is_whole):=⟨rfl,rfl,rfl,by decide +kernel,rfl,by decide +kernel,by decide +kernel⟩
noncomputable abbrev s_common_divisor:Stmt:=top 13
noncomputable abbrev N_common_divisor:List Str:=["one","other"]
theorem sc_common_divisor:FnScope N_common_divisor ["one","other"] (defScope s_common_divisor):=⟨rfl,rfl,rfl,by decide +kernel,rfl,by decide +kernel,by decide +kernel⟩
noncomputable abbrev s_is_share:Stmt:=top 14
noncomputable abbrev N_is_share:List Str:=["thing","top","bottom"]
theorem sc_is_share:FnScope N_is_share ["thing"] (defScope s_is_share):=⟨rfl,rfl,rfl,by decide +kernel,rfl,by decide +kernel,by decide +kernel⟩
noncomputable abbrev s_share:Stmt:=top 15
noncomputable abbrev N_share:List Str:=["top","bottom","divisor"]
theorem sc_share:FnScope N_share ["top","bottom"] (defScope s_share):=⟨rfl,rfl,rfl,by decide +kernel,rfl,by decide +kernel,by decide +kernel⟩
noncomputable abbrev s__law_pen:Stmt:=top 17
noncomputable abbrev N__law_pen:List Str:=["_law_script"]
theorem sc__law_pen:FnScope N__law_pen ["_law_script"] (defScope s__law_pen):=⟨rfl,rfl,rfl,by decide +kernel,rfl,by decide +kernel,by decide +kernel⟩
noncomputable abbrev s__law_draw:Stmt:=top 18
noncomputable abbrev N__law_draw:List Str:=["_law_pen_here","_law_most","_law_cells","_law_at","_law_cell","_law_prime","_law_mixed","_law_found"]
theorem sc__law_draw:FnScope N__law_draw ["_law_pen_here","_law_most"] (defScope s__law_draw):=⟨rfl,rfl,rfl,by decide +kernel,rfl,by decide +kernel,by decide +kernel⟩
noncomputable abbrev s__law_number:Stmt:=top 19
noncomputable abbrev N__law_number:List Str:=["_law_pen_here","_law_way","_law_number_here"]
theorem sc__law_number:FnScope N__law_number ["_law_pen_here"] (defScope s__law_number):=⟨rfl,rfl,rfl,by decide +kernel,rfl,by decide +kernel,by decide +kernel⟩
noncomputable abbrev s__law_divisor:Stmt:=top 20
noncomputable abbrev N__law_divisor:List Str:=["_law_one","_law_other"]
theorem sc__law_divisor:FnScope N__law_divisor ["_law_one","_law_other"] (defScope s__law_divisor):=⟨rfl,rfl,rfl,by decide +kernel,rfl,by decide +kernel,by decide +kernel⟩
noncomputable abbrev s__law_lowest:Stmt:=top 21
noncomputable abbrev N__law_lowest:List Str:=["_law_top","_law_bottom","_law_both"]
theorem sc__law_lowest:FnScope N__law_lowest ["_law_top","_law_bottom"] (defScope s__law_lowest):=⟨rfl,rfl,rfl,by decide +kernel,rfl,by decide +kernel,by decide +kernel⟩
noncomputable abbrev s__law_refused:Stmt:=top 22
noncomputable abbrev N__law_refused:List Str:=["_law_top","_law_caught","e"]
theorem sc__law_refused:FnScope N__law_refused ["_law_top"] (defScope s__law_refused):=⟨rfl,rfl,rfl,by decide +kernel,rfl,by decide +kernel,by decide +kernel⟩
noncomputable abbrev s__law_right:Stmt:=top 23
noncomputable abbrev N__law_right:List Str:=["_law_top","_law_bottom","_law_expected","_law_found"]
theorem sc__law_right:FnScope N__law_right ["_law_top","_law_bottom"] (defScope s__law_right):=⟨rfl,rfl,rfl,by decide +kernel,rfl,by decide +kernel,by decide +kernel⟩
noncomputable abbrev s_law:Stmt:=top 24
noncomputable abbrev N_law:List Str:=["_law_script","_law_pen_here","_law_turn","_law_by","_law_top","_law_bottom","_law_one","_law_other"]
theorem sc_law:FnScope N_law ["_law_script"] (defScope s_law):=⟨rfl,rfl,rfl,by decide +kernel,rfl,by decide +kernel,by decide +kernel⟩
structure Txt (K:PySem.W.Frag) (mg:Str→Option Value):Prop where
  n_len:mg "len"=none
  n_abs:mg "abs"=none
  n_max:mg "max"=none
  n_min:mg "min"=none
  n_repr:mg "repr"=none
  n_int:mg "int"=none
  n_list:mg "list"=none
  n_tuple:mg "tuple"=none
  n_bool:mg "bool"=none
  n_range:mg "range"=none
  n_isinstance:mg "isinstance"=none
  n_ValueError:mg "ValueError"=none
  d_is_whole:Def K mg "is_whole" s_is_whole ["thing"]
  d_common_divisor:Def K mg "common_divisor" s_common_divisor ["one","other"]
  d_is_share:Def K mg "is_share" s_is_share ["thing"]
  d_share:Def K mg "share" s_share ["top","bottom"]
  d__law_pen:Def K mg "_law_pen" s__law_pen ["_law_script"]
  d__law_draw:Def K mg "_law_draw" s__law_draw ["_law_pen_here","_law_most"]
  d__law_number:Def K mg "_law_number" s__law_number ["_law_pen_here"]
  d__law_divisor:Def K mg "_law_divisor" s__law_divisor ["_law_one","_law_other"]
  d__law_lowest:Def K mg "_law_lowest" s__law_lowest ["_law_top","_law_bottom"]
  d__law_refused:Def K mg "_law_refused" s__law_refused ["_law_top"]
  d__law_right:Def K mg "_law_right" s__law_right ["_law_top","_law_bottom"]
  d_law:Def K mg "law" s_law ["_law_script"]
  x_err:∃ C D a0 a1 a2 a3 a4 a5 a6:Addr,mg "NoShare"=some (.ref C)∧mg "ShopError"=some (.ref D)∧mg "NoBack"=some (.ref a0)∧mg "NoFall"=some (.ref a1)∧mg "NoLevel"=some (.ref a2)∧mg "NoMean"=some (.ref a3)∧mg "NoRow"=some (.ref a4)∧mg "NoStand"=some (.ref a5)∧mg "NoText"=some (.ref a6)∧Exc K C D [a0,a1,a2,a3,a4,a5,a6]
theorem err_mk {K:PySem.W.Frag} {mg:Str→Option Value} {h:Heap} {C D a0 a1 a2 a3 a4 a5 a6:Addr} (X:K.In h) (G:h.Ns mainGlobals mg)
    (c:PySem.W.nsIn K mainGlobals "NoShare"=some (some (.ref C))) (d:PySem.W.nsIn K mainGlobals "ShopError"=some (some (.ref D)))
    (z0:PySem.W.nsIn K mainGlobals "NoBack"=some (some (.ref a0))) (z1:PySem.W.nsIn K mainGlobals "NoFall"=some (some (.ref a1))) (z2:PySem.W.nsIn K mainGlobals "NoLevel"=some (some (.ref a2))) (z3:PySem.W.nsIn K mainGlobals "NoMean"=some (some (.ref a3))) (z4:PySem.W.nsIn K mainGlobals "NoRow"=some (some (.ref a4))) (z5:PySem.W.nsIn K mainGlobals "NoStand"=some (some (.ref a5))) (z6:PySem.W.nsIn K mainGlobals "NoText"=some (some (.ref a6)))
    (q:xcIn K C bmV "ValueError.__new__"=true) (q2:xcIn K D bmV "ValueError.__new__"=true) (u:mroHas K C D=true) (v:PySem.W.kitOne K (.ref C) (.type "ValueError")=some true) (y:PySem.W.kitAny K (.ref C) [.ref a0,.ref a1,.ref a2,.ref a3,.ref a4,.ref a5,.ref a6]=some false) :
    ∃ C D a0 a1 a2 a3 a4 a5 a6:Addr,mg "NoShare"=some (.ref C)∧mg "ShopError"=some (.ref D)∧mg "NoBack"=some (.ref a0)∧mg "NoFall"=some (.ref a1)∧mg "NoLevel"=some (.ref a2)∧mg "NoMean"=some (.ref a3)∧mg "NoRow"=some (.ref a4)∧mg "NoStand"=some (.ref a5)∧mg "NoText"=some (.ref a6)∧Exc K C D [a0,a1,a2,a3,a4,a5,a6] :=
  ⟨C,D,a0,a1,a2,a3,a4,a5,a6,PySem.W.mg_of X G c,PySem.W.mg_of X G d,PySem.W.mg_of X G z0,PySem.W.mg_of X G z1,PySem.W.mg_of X G z2,PySem.W.mg_of X G z3,PySem.W.mg_of X G z4,PySem.W.mg_of X G z5,PySem.W.mg_of X G z6,exc_of X q q2 u v y⟩
set_option maxHeartbeats 4000000 in
theorem txt_mk {K:PySem.W.Frag} {mg:Str→Option Value} {h:Heap} (X:K.In h) (G:h.Ns mainGlobals mg)
    (z_len:PySem.W.nsIn K mainGlobals "len"=some none)
    (z_abs:PySem.W.nsIn K mainGlobals "abs"=some none)
    (z_max:PySem.W.nsIn K mainGlobals "max"=some none)
    (z_min:PySem.W.nsIn K mainGlobals "min"=some none)
    (z_repr:PySem.W.nsIn K mainGlobals "repr"=some none)
    (z_int:PySem.W.nsIn K mainGlobals "int"=some none)
    (z_list:PySem.W.nsIn K mainGlobals "list"=some none)
    (z_tuple:PySem.W.nsIn K mainGlobals "tuple"=some none)
    (z_bool:PySem.W.nsIn K mainGlobals "bool"=some none)
    (z_range:PySem.W.nsIn K mainGlobals "range"=some none)
    (z_isinstance:PySem.W.nsIn K mainGlobals "isinstance"=some none)
    (z_ValueError:PySem.W.nsIn K mainGlobals "ValueError"=some none)
    (z_is_whole:Def K mg "is_whole" s_is_whole ["thing"])
    (z_common_divisor:Def K mg "common_divisor" s_common_divisor ["one","other"])
    (z_is_share:Def K mg "is_share" s_is_share ["thing"])
    (z_share:Def K mg "share" s_share ["top","bottom"])
    (z__law_pen:Def K mg "_law_pen" s__law_pen ["_law_script"])
    (z__law_draw:Def K mg "_law_draw" s__law_draw ["_law_pen_here","_law_most"])
    (z__law_number:Def K mg "_law_number" s__law_number ["_law_pen_here"])
    (z__law_divisor:Def K mg "_law_divisor" s__law_divisor ["_law_one","_law_other"])
    (z__law_lowest:Def K mg "_law_lowest" s__law_lowest ["_law_top","_law_bottom"])
    (z__law_refused:Def K mg "_law_refused" s__law_refused ["_law_top"])
    (z__law_right:Def K mg "_law_right" s__law_right ["_law_top","_law_bottom"])
    (z_law:Def K mg "law" s_law ["_law_script"])
    (z_err:∃ C D a0 a1 a2 a3 a4 a5 a6:Addr,mg "NoShare"=some (.ref C)∧mg "ShopError"=some (.ref D)∧mg "NoBack"=some (.ref a0)∧mg "NoFall"=some (.ref a1)∧mg "NoLevel"=some (.ref a2)∧mg "NoMean"=some (.ref a3)∧mg "NoRow"=some (.ref a4)∧mg "NoStand"=some (.ref a5)∧mg "NoText"=some (.ref a6)∧Exc K C D [a0,a1,a2,a3,a4,a5,a6])
    : Txt K mg:=⟨PySem.W.mg_none_of X G z_len,PySem.W.mg_none_of X G z_abs,PySem.W.mg_none_of X G z_max,PySem.W.mg_none_of X G z_min,PySem.W.mg_none_of X G z_repr,PySem.W.mg_none_of X G z_int,PySem.W.mg_none_of X G z_list,PySem.W.mg_none_of X G z_tuple,PySem.W.mg_none_of X G z_bool,PySem.W.mg_none_of X G z_range,PySem.W.mg_none_of X G z_isinstance,PySem.W.mg_none_of X G z_ValueError,z_is_whole,z_common_divisor,z_is_share,z_share,z__law_pen,z__law_draw,z__law_number,z__law_divisor,z__law_lowest,z__law_refused,z__law_right,z_law,z_err⟩

theorem primes_at (a:Nat):∃ pr:Int,atI [V.int 2147483647,V.int 2147483629,V.int 2147483587,V.int 2147483579,V.int 2147483563,V.int 2147483549,V.int 2147483543] ((a:Int) % 7)=some (.int pr)∧2147483542 < pr∧pr≤2147483647:=by
  have e:(a:Int) % 7=((a % 7:Nat):Int):=by omega
  rw [e]
  have h:a % 7 < 7:=Nat.mod_lt _ (by decide)
  generalize a % 7=b at h
  match b,h with
  | 0,_=>exact ⟨_,atI_nat rfl,by decide,by decide⟩
  | 1,_=>exact ⟨_,atI_nat rfl,by decide,by decide⟩
  | 2,_=>exact ⟨_,atI_nat rfl,by decide,by decide⟩
  | 3,_=>exact ⟨_,atI_nat rfl,by decide,by decide⟩
  | 4,_=>exact ⟨_,atI_nat rfl,by decide,by decide⟩
  | 5,_=>exact ⟨_,atI_nat rfl,by decide,by decide⟩
  | 6,_=>exact ⟨_,atI_nat rfl,by decide,by decide⟩
theorem cell_at (ns:List Int) (a:Nat) (h:ns≠[]):∃ z:Int,atI (ns.map V.int) ((a:Int) % ((ns.map V.int).length:Nat))=some (.int z):=by
  have hl:0 < ns.length:=List.length_pos_iff.mpr h
  have hl':(ns.map V.int).length=ns.length:=List.length_map ..
  have e:(a:Int) % ((ns.map V.int).length:Nat)=((a % ns.length:Nat):Int):=by rw [hl']; omega
  have hlt:a % ns.length < ns.length:=Nat.mod_lt _ hl
  rw [e]
  exact ⟨ns[a % ns.length],atI_nat (by rw [List.getElem?_map,List.getElem?_eq_getElem hlt]; rfl)⟩
theorem base_small {r pr a:Int} (h0:0≤r) (h1:r < pr) (h2:pr≤2147483647) (h3:0≤a) (h4:a≤500000):((r+7919) * (2 * a+3)+104729 * a+5).natAbs < 2 ^ 64:=by
  have p0:0≤(r+7919) * (2 * a+3):=Int.mul_nonneg (by omega) (by omega)
  have p1:(r+7919) * (2 * a+3)≤2147491566 * 1000003:=Int.mul_le_mul (by omega) (by omega) (by omega) (by omega)
  omega
section
variable {P:Program} {w:World} {K:PySem.W.Frag} {mg:Str→Option Value} {base:Heap}
set_option maxHeartbeats 1000000 in
theorem ok_pen (T:Txt K mg):Callee P w K mg base "_law_pen" 1 ["_law_script"] (spPen K):=by
  refine T.d__law_pen.ok sc__law_pen (fun vs H Q E h=>?_) (fun f cdv A outer s H vs Q E hr h=>?_)
  · obtain ⟨a,ns,rfl,_⟩:=h
    rfl
  · obtain ⟨a,ns,rfl,hS,hlen,k⟩:=h
    have hu:=hu_of hr
    refine ⟨_,(pss_one (ps_ret (pe_disp (pps_cons pe_str (pe_callTy (call_list_of) rfl T.n_list boot_list (pa_cons (pe_slice sl_list (pv 0) po_none (po_some pe_int)) pa_nil)) (pps_cons pe_str pe_int (pps_cons pe_str pe_int pps_nil))) rfl rfl (by simp) (by decide)))),?_⟩
    intro p hp
    have s0:Same H (upd H p (.dK [])):=(Same.refl H).new hp
    refine ⟨_,rfl,63,rfl,a,_,rfl,s0.seq hS,fun q hq=>⟨q,_,rfl,Or.inl (SqL.of upd_same),fun c hc=>?_⟩⟩
    have s1:Same (upd H p (.dK [])) (upd (upd H p (.dK [])) q (.lst (cutV (ns.map V.int) none (some 63)))):=(Same.refl _).new hq
    have s2:Same (upd H p (.dK [])) (upd (upd (upd H p (.dK [])) q (.lst (cutV (ns.map V.int) none (some 63)))) c (.lst (cutV (ns.map V.int) none (some 63)))):=s1.new hc
    have hcut:cutV (ns.map V.int) none (some 63)=ns.map V.int:=by
      unfold cutV
      have e:HT.sIx (ns.map V.int).length (ns.map V.int).length (some 63)=(ns.map V.int).length:=by
        have q:=HT.sIx_nat (ns.map V.int).length (ns.map V.int).length 63
        rw [List.length_map] at q ⊢
        exact q.trans (Nat.min_eq_right hlen)
      rw [e]
      show ((ns.map V.int).drop 0).take ((ns.map V.int).length - 0)=_
      rw [List.drop_zero,Nat.sub_zero,List.take_length]
    have hpc:c≠p:=fun z=>by
      have q:=s1 p _ upd_same
      rw [z,q] at hc
      cases hc
    refine ⟨s2 _ _ upd_same,penK c 0 0,rfl,(by show 3≤15; decide),?_⟩
    refine k p c _ hp ⟨⟨0,0,?_,Nat.le_refl _,Int.le_refl _⟩,?_,hlen⟩ fun b o e=>?_
    · rw [upd_same]
      rfl
    · rw [upd_ne hpc,upd_same,hcut]
    · rw [upd_ne (ne_of_none e hp)]
      exact s2 b o (s0 b o e)
set_option maxHeartbeats 2000000 in
theorem ok_draw (T:Txt K mg):Callee P w K mg base "_law_draw" 1 ["_law_pen_here","_law_most"] spDraw:=by
  refine T.d__law_draw.ok sc__law_draw (fun vs H Q E h=>?_) (fun f cdv A outer s H vs Q E hr h=>?_)
  · obtain ⟨p,c,ns,m,most,rfl,_⟩:=h
    rfl
  · obtain ⟨p,c,ns,m,most,rfl,hP,hm,h0,h1,k⟩:=h
    have hu:=hu_of hr
    refine ⟨_,(pss_cons (ps_set (i:=2) sc__law_draw.nd rfl (Or.inl rfl) (pe_dget hu (pv 0) pe_str (fun _ _=>rfl)))
 (pss_cons (ps_set (i:=3) sc__law_draw.nd rfl (Or.inl rfl) (pe_dget hu (pv 0) pe_str (fun _ _=>rfl)))
 (pss_cons (PS.join (ps_if (pt_cmpR op_eq (pe_dget hu (pv 0) pe_str (fun _ _=>rfl)) pe_int (nomark _)) (pss_cons (ps_dput hu (pv 0) pe_str (pe_op op_add (pv 3) pe_int) rfl)
 (pss_cons (ps_set (i:=4) sc__law_draw.nd rfl (Or.inl rfl) pe_int)
 (pss_cons (PS.join (ps_if (pt_cmpR (op_neD hr) (pv 2) (pe_lst pa_nil) (nomark _)) (pss_one (ps_set (i:=4) sc__law_draw.nd rfl (Or.inl rfl) (pe_ix ix_list (pv 2) (pe_op op_mod (pv 3) (pe_callB (call_len_seq) rfl T.n_len boot_len (pa_cons (pv 2) pa_nil))) (fun _ _=>rfl)))) pss_nil))
 (pss_cons (ps_if (PT.join (PW.pt (pw_or (pt_cmpR op_ge (pv 3) (pe_callB (call_len_seq) rfl T.n_len boot_len (pa_cons (pv 2) pa_nil)) (nomark _)) (pw_or1 (pt_cmpR op_lt (pe_callB (call_abs) rfl T.n_abs boot_abs (pa_cons (pv 4) pa_nil)) (pe_op op_pow pe_int pe_int) (nomark _)))))) (pss_cons (ps_set (i:=5) sc__law_draw.nd rfl (Or.inl rfl) (pe_ix ix_list (pe_lst (pa_cons pe_int (pa_cons pe_int (pa_cons pe_int (pa_cons pe_int (pa_cons pe_int (pa_cons pe_int (pa_cons pe_int pa_nil)))))))) (pe_op op_mod (pv 3) pe_int) (fun _ _=>rfl)))
 (pss_cons (ps_set (i:=6) sc__law_draw.nd rfl (Or.inl rfl) (pe_op op_mod (pe_op op_pow (pe_op op_add (pe_op op_add (pe_op op_mul (pe_op op_add (pe_op op_mod (pv 4) (pv 5)) pe_int) (pe_op op_add (pe_op op_mul pe_int (pv 3)) pe_int)) (pe_op op_mul pe_int (pv 3))) pe_int) pe_int) (pv 5)))
 (pss_cons (ps_set (i:=6) sc__law_draw.nd rfl (Or.inl rfl) (pe_op op_mod (pe_op op_add (pe_op op_mul (pv 6) (pe_op op_add (pe_op op_add (pe_op op_mod (pv 6) pe_int) (pv 3)) pe_int)) (pe_op op_mul pe_int (pv 3))) pe_int))
 (pss_one (ps_ret (pe_op op_mod (pe_op op_fdiv (pv 6) pe_int) (pv 1))))))) pss_nil)
 (pss_one (ps_dput hu (pv 0) pe_str (pe_callB (call_abs) rfl T.n_abs boot_abs (pa_cons (pv 4) pa_nil)) rfl)))))) pss_nil))
 (pss_cons (ps_set (i:=7) sc__law_draw.nd rfl (Or.inl rfl) (pe_op op_mod (pe_dget hu (pv 0) pe_str (fun _ _=>rfl)) (pv 1)))
 (pss_cons (ps_dput hu (pv 0) pe_str (pe_op op_fdiv (pe_dget hu (pv 0) pe_str (fun _ _=>rfl)) (pv 1)) rfl)
 (pss_one (ps_ret (pv 7)))))))),?_⟩
    obtain ⟨⟨a,l,hd,ha,hl⟩,hc,hn⟩:=hP
    have npc:c≠p:=ne_of hc hd (by intro z; cases z)
    refine ⟨_,rfl,p,_,rfl,dg_script hd,?_⟩
    refine ⟨_,rfl,p,_,rfl,dg_at hd,?_⟩
    refine ⟨fun σ' H'=>∃ (v4:Option V) (a':Nat) (l':Int),σ'=[some (.ref p),some (.int most),some (.ref c),some (.int a),v4,none,none,none]∧H' p=some (.dK (penK c a' l'))∧a'≤m+1∧0≤l'∧H' c=some (.lst (ns.map V.int))∧Kept p H H',?_,?_⟩
    · refine ⟨_,rfl,p,_,rfl,dg_left hd,rfl,_,rfl,?_⟩
      refine ite2 (fun hz=>?_) (fun hz=>?_)
      · refine ⟨_,rfl,_,_,rfl,rfl,_,rfl,p,_,rfl,dp_at hd,?_⟩
        have hd1:(upd H p (.dK (penK c ((a:Int)+1) l))) p=some (.dK (penK c ((a+1:Nat):Int) l)):=by
          rw [upd_same]
          rfl
        have hc1:(upd H p (.dK (penK c ((a:Int)+1) l))) c=some (.lst (ns.map V.int)):=by
          rw [upd_ne npc]
          exact hc
        have k1:Kept p H (upd H p (.dK (penK c ((a:Int)+1) l))):=Kept.refl.pen
        refine ⟨fun σ' H'=>∃ (z:Int),σ'=[some (.ref p),some (.int most),some (.ref c),some (.int a),some (.int z),none,none,none]∧H' p=some (.dK (penK c ((a+1:Nat):Int) l))∧H' c=some (.lst (ns.map V.int))∧Kept p H H',?_,?_⟩
        · refine ⟨_,rfl,Nat.zero_le _,fun q hq=>?_⟩
          have hc2:=hc1
          have nq:∀ {b:Addr} {o:HO},(upd H p (.dK (penK c ((a:Int)+1) l))) b=some o→(upd (upd H p (.dK (penK c ((a:Int)+1) l))) q (.lst [])) b=some o:=fun e=>by
            rw [upd_ne (ne_of_none e hq)]
            exact e
          refine ⟨_,_,.lst (nq hc1) (DnAll.ints ns),.lst upd_same .nil,shaped_ints ns,shaped_ints [],_,rfl,?_⟩
          rw [eqv_nil]
          refine ite2 (fun hne=>?_) (fun _=>?_)
          · have hne':ns≠[]:=by
              rintro rfl
              cases hne
            obtain ⟨z,hz2⟩:=cell_at ns a hne'
            have hpos:0 < (((ns.map V.int).length:Nat):Int):=by
              rw [List.length_map]
              have:=List.length_pos_iff.mpr hne'
              omega
            refine ⟨_,rfl,_,rfl,_,rfl,c,_,rfl,.inl (SqL.of (nq hc1)),_,_,rfl,rfl,hpos,c,_,_,_,rfl,rfl,SqL.of (nq hc1),hz2,?_⟩
            exact ⟨z,rfl,nq hd1,nq hc1,k1.new hq⟩
          · exact ⟨17,rfl,nq hd1,nq hc1,k1.new hq⟩
        · rintro σ2 H2 ⟨z,rfl,hd2,hc2,k2⟩
          refine ⟨fun _ H'=>H'=H2,?_,?_⟩
          · refine ⟨_,rfl,_,rfl,c,_,rfl,.inl (SqL.of hc2),_,_,rfl,rfl,_,rfl,?_⟩
            refine ite2 (fun _=>rfl) (fun _=>?_)
            refine ⟨_,rfl,z,rfl,_,_,rfl,rfl,⟨by decide,by decide,by decide⟩,_,_,rfl,rfl,_,rfl,rfl⟩
          · rintro b H3 rfl
            refine ite2 (fun _=>?_) (fun _=>?_)
            · refine ⟨by show 7≤sizeLine; decide,fun q hq=>?_⟩
              obtain ⟨pr,hpr,g1,g2⟩:=primes_at a
              refine ⟨_,rfl,_,_,rfl,rfl,(by show (0:Int) < 7; decide),q,_,_,_,rfl,rfl,SqL.of upd_same,hpr,?_⟩
              have r0:0≤z % pr:=Int.emod_nonneg _ (by omega)
              have r1:z % pr < pr:=Int.emod_lt_of_pos _ (by omega)
              refine ⟨_,rfl,_,rfl,_,_,rfl,rfl,(by show (0:Int) < pr; omega),_,_,rfl,rfl,_,rfl,_,_,rfl,rfl,.inl ⟨by decide,by decide⟩,_,_,rfl,rfl,_,_,rfl,rfl,.inr ⟨by omega,by omega⟩,_,rfl,_,_,rfl,rfl,.inl ⟨by decide,by decide⟩,_,_,rfl,rfl,_,_,rfl,rfl,_,_,rfl,rfl,⟨by decide,by decide,base_small r0 r1 g2 (by omega) (by omega)⟩,_,rfl,_,_,rfl,rfl,(by show (0:Int) < pr; omega),?_⟩
              generalize hM:(((z % pr+7919) * (2 * (a:Int)+3)+104729 * (a:Int)+5) ^ (5:Int).toNat) % pr=M
              have m0:0≤M:=by rw [← hM]; exact Int.emod_nonneg _ (by omega)
              have m1:M < pr:=by rw [← hM]; exact Int.emod_lt_of_pos _ (by omega)
              refine ⟨_,rfl,_,rfl,_,_,rfl,rfl,(by show (0:Int) < 65521; decide),_,rfl,_,_,rfl,rfl,_,_,rfl,rfl,_,_,rfl,rfl,.inl ⟨by omega,by omega⟩,_,rfl,_,_,rfl,rfl,.inl ⟨by decide,by decide⟩,_,_,rfl,rfl,_,_,rfl,rfl,(by show (0:Int) < 2147483497; decide),?_⟩
              refine ⟨_,rfl,_,_,rfl,rfl,⟨by decide,by decide⟩,_,rfl,_,_,rfl,rfl,h0,?_⟩
              refine k _ _ (Int.emod_nonneg _ (by omega)) (Int.emod_lt_of_pos _ h0) ⟨⟨a+1,l,?_,by omega,hl⟩,?_,hn⟩ (k2.new hq)
              · rw [upd_ne (ne_of_none hd2 hq)]
                exact hd2
              · rw [upd_ne (ne_of_none hc2 hq)]
                exact hc2
            · refine ⟨_,rfl,z,rfl,_,rfl,p,_,rfl,dp_left hd2,?_⟩
              refine ⟨_,a+1,_,rfl,upd_same,by omega,?_,by rw [upd_ne npc]; exact hc2,k2.pen⟩
              split <;> omega
      · exact ⟨none,a,l,rfl,hd,by omega,hl,hc,Kept.refl⟩
    · rintro σ2 H2 ⟨v4,a',l',rfl,hd2,ha2,hl2,hc2,k2⟩
      refine ⟨_,rfl,p,_,rfl,dg_left hd2,_,rfl,_,_,rfl,rfl,h0,?_⟩
      refine ⟨_,rfl,p,_,rfl,dg_left hd2,_,rfl,_,_,rfl,rfl,⟨h0,h1⟩,_,rfl,p,_,rfl,dp_left hd2,?_⟩
      refine ⟨_,rfl,?_⟩
      refine k _ _ (Int.emod_nonneg _ (by omega)) (Int.emod_lt_of_pos _ h0) ⟨⟨a',_,upd_same,ha2,Int.ediv_nonneg hl2 (by omega)⟩,?_,hn⟩ k2.pen
      rw [upd_ne npc]
      exact hc2
end
end My
set_option Elab.async false
set_option linter.all false
set_option maxRecDepth 100000
namespace My
open PySem PySem.Spec PyProof.Rows L2
section
variable {P:Program} {w:World} {K:PySem.W.Frag} {mg:Str→Option Value} {base:Heap}
noncomputable def m_is_whole:List Sl→Tr Re:=aDef 1 0
 (aRet (aAndV (aIsi "int" (aVar 0)) (aNotV (aIsi "bool" (aVar 0)))))
set_option maxHeartbeats 2000000 in
theorem c_is_whole (T:Txt K mg):ACal PK1 P w K mg base "is_whole" 1 ["thing"] m_is_whole:=acal_of T.d_is_whole sc_is_whole rfl fun f cdv A outer sh H E hr=>by
  exact (ass_one (as_ret (ae_and (ae_isi (T:="int") (Or.inl rfl) rfl (pe_callB call_isi rfl T.n_isinstance boot_isinstance (pa_cons (ae_var (pv 0)) (pa_cons (pe_bltn (v:=.ty "int") rfl T.n_int boot_int rfl) pa_nil)))) (ae_one (ae_not (ae_isi (T:="bool") (Or.inr (Or.inl rfl)) rfl (pe_callB call_isi rfl T.n_isinstance boot_isinstance (pa_cons (ae_var (pv 0)) (pa_cons (pe_bltn (v:=.ty "bool") rfl T.n_bool boot_bool rfl) pa_nil)))))))))
noncomputable def w_common_divisor_1:List Sl→Tr Bool :=
 (aTru (aVar 1))
noncomputable def l_common_divisor_1:List Sl→Tr Ou :=
 (aPar 0 1 (aCons (aVar 1) (aCons (aBin modD (aVar 0) (aVar 1)) aNil)))
noncomputable def m_common_divisor:List Sl→Tr Re:=aDef 2 0
 (aSeq (aPar 0 1 (aCons (aCB absD (aCons (aVar 0) aNil)) (aCons (aCB absD (aCons (aVar 1) aNil)) aNil)))
 (aSeq (whL w_common_divisor_1 l_common_divisor_1 100000)
 (aRetV 0)))
set_option maxHeartbeats 2000000 in
theorem c_common_divisor (T:Txt K mg):ACal PK1 P w K mg base "common_divisor" 1 ["one","other"] m_common_divisor:=acal_of T.d_common_divisor sc_common_divisor rfl fun f cdv A outer sh H E hr=>by
  exact (ass_cons (as_par (ps_par (i:=0) (j:=1) rfl sc_common_divisor.nd rfl rfl (by decide) rfl rfl (ad_cons (ae_cb (t:=tNil) (pe_callB call_abs rfl T.n_abs boot_abs (ad_cons (ae_var (pv 0)) ad_nil)) vc_abs) (ad_cons (ae_cb (t:=tNil) (pe_callB call_abs rfl T.n_abs boot_abs (ad_cons (ae_var (pv 1)) ad_nil)) vc_abs) ad_nil)) rfl))
 (ass_cons (as_while 100000 PassesOwn.never (at_tru (ae_var (pv 1)))
  (ass_one (as_par (ps_par (i:=0) (j:=1) rfl sc_common_divisor.nd rfl rfl (by decide) rfl rfl (ad_cons (ae_var (pv 1)) (ad_cons (ae_op op_modN vo_mod (ae_var (pv 0)) (ae_var (pv 1))) ad_nil)) rfl))))
 (ass_one (as_retV (pv 0)))))
noncomputable abbrev m_law_draw:=m_draw
theorem c_law_draw (T:Txt K mg):ACal PK1 P w K mg base "_law_draw" 1 ["_law_pen_here","_law_most"] m_law_draw:=draw1 rfl (ok_draw T)
noncomputable def w_law_divisor_1:List Sl→Tr Bool :=
 (aTest (aBin (cmpD fun i j=>decide (i > j)) (aVar 0) (aC (.int 0))))
noncomputable def l_law_divisor_1:List Sl→Tr Ou :=
 (aPar 0 1 (aCons (aBin modD (aVar 1) (aVar 0)) (aCons (aVar 0) aNil)))
noncomputable def m_law_divisor:List Sl→Tr Re:=aDef 2 0
 (aSeq (aSet 0 (aCB absD (aCons (aVar 0) aNil)))
 (aSeq (aSet 1 (aCB absD (aCons (aVar 1) aNil)))
 (aSeq (whL w_law_divisor_1 l_law_divisor_1 100000)
 (aRetV 1))))
set_option maxHeartbeats 2000000 in
theorem c_law_divisor (T:Txt K mg):ACal PK1 P w K mg base "_law_divisor" 1 ["_law_one","_law_other"] m_law_divisor:=acal_of T.d__law_divisor sc__law_divisor rfl fun f cdv A outer sh H E hr=>by
  exact (ass_cons (as_set (ps_set (i:=0) sc__law_divisor.nd rfl (Or.inl rfl) (ae_cb (t:=tNil) (pe_callB call_abs rfl T.n_abs boot_abs (ad_cons (ae_var (pv 0)) ad_nil)) vc_abs)))
 (ass_cons (as_set (ps_set (i:=1) sc__law_divisor.nd rfl (Or.inl rfl) (ae_cb (t:=tNil) (pe_callB call_abs rfl T.n_abs boot_abs (ad_cons (ae_var (pv 1)) ad_nil)) vc_abs)))
 (ass_cons (as_while 100000 PassesOwn.never (at_cmp op_gt vo_cmp (ae_var (pv 0)) ae_int (nomark _))
  (ass_one (as_par (ps_par (i:=0) (j:=1) rfl sc__law_divisor.nd rfl rfl (by decide) rfl rfl (ad_cons (ae_op op_modN vo_mod (ae_var (pv 1)) (ae_var (pv 0))) (ad_cons (ae_var (pv 0)) ad_nil)) rfl))))
 (ass_one (as_retV (pv 1))))))
noncomputable def m_is_share:List Sl→Tr Re:=aDef 1 2
 (aSeq (aIfS (aOr (aNot (aTru (aIsi "tuple" (aVar 0)))) (aTest (aBin neD (aCB lenD (aCons (aVar 0) aNil)) (aC (.int 2)))))
  (aRet (aC (.bool false)))
  aSkip)
 (aSeq (aAsg (gTupD (gsCons (gSet 1) (gsCons (gSet 2) gsNil))) (aVar 0))
 (aSeq (aIfS (aOr (aNot (aTru (aRe (aCall m_is_whole (aaCons (aVar 1) aaNil))))) (aOr (aNot (aTru (aRe (aCall m_is_whole (aaCons (aVar 2) aaNil))))) (aTest (aBin (cmpD fun i j=>decide (i < j)) (aVar 2) (aC (.int 1))))))
  (aRet (aC (.bool false)))
  aSkip)
 (aRet (aBin eqD (aRe (aCall m_common_divisor (aaCons (aVar 1) (aaCons (aVar 2) aaNil)))) (aC (.int 1)))))))
set_option maxHeartbeats 2000000 in
theorem c_is_share (T:Txt K mg):ACal PK1 P w K mg base "is_share" 2 ["thing"] m_is_share:=acal_of T.d_is_share sc_is_share rfl fun f cdv A outer sh H E hr=>by
  exact (ass_cons (as_if (at_w (aw_or (at_not (at_tru (ae_isi (T:="tuple") (Or.inr (Or.inr (Or.inr (Or.inr (Or.inl rfl))))) rfl (pe_callB call_isi rfl T.n_isinstance boot_isinstance (pa_cons (ae_var (pv 0)) (pa_cons (pe_bltn (v:=.ty "tuple") rfl T.n_tuple boot_tuple rfl) pa_nil)))))) (aw_or1 (at_cmp (op_neA hr) vo_ne (ae_cb (t:=tNil) (pe_callB call_len_seq rfl T.n_len boot_len (ad_cons (ae_var (pv 0)) ad_nil)) vc_len) ae_int (nomark _)))))
  (ass_one (as_ret ae_bl))
  ass_nil)
 (ass_cons (as_asg (ps_asg (ae_var (pv 0)) (ag_tup rfl (ags_cons (ag_name (pg_name (i:=1) sc_is_share.nd rfl (Or.inl rfl))) (ags_cons (ag_name (pg_name (i:=2) sc_is_share.nd rfl (Or.inl rfl))) ags_nil)) (gsLen_cons (gsLen_cons gsLen_nil)))))
 (ass_cons (as_if (at_w (aw_or (at_not (at_tru (ae_r (ar_call (c_is_whole T) (hr.mono (by decide)) rfl (aa_cons (ae_var (pv 1)) aa_nil))))) (aw_or (at_not (at_tru (ae_r (ar_call (c_is_whole T) (hr.mono (by decide)) rfl (aa_cons (ae_var (pv 2)) aa_nil))))) (aw_or1 (at_cmp op_lt vo_cmp (ae_var (pv 2)) ae_int (nomark _))))))
  (ass_one (as_ret ae_bl))
  ass_nil)
 (ass_one (as_ret (ae_cmp (op_eqA hr) vo_eq (ae_r (ar_call (c_common_divisor T) (hr.mono (by decide)) rfl (aa_cons (ae_var (pv 1)) (aa_cons (ae_var (pv 2)) aa_nil)))) ae_int (nomark _)))))))
noncomputable def m_share:List Sl→Tr Re:=aDef 2 1
 (aSeq (aIfS (aTest (aBin eqD (aVar 1) (aC (.int 0))))
  aNever
  aSkip)
 (aSeq (aSet 2 (aRe (aCall m_common_divisor (aaCons (aVar 0) (aaCons (aVar 1) aaNil)))))
 (aSeq (aIfS (aTest (aBin (cmpD fun i j=>decide (i < j)) (aVar 1) (aC (.int 0))))
  (aSet 2 (aNeg (aVar 2)))
  aSkip)
 (aRet (aTup (aCons (aBin fdivD (aVar 0) (aVar 2)) (aCons (aBin fdivD (aVar 1) (aVar 2)) aNil)))))))
set_option maxHeartbeats 2000000 in
theorem c_share (T:Txt K mg):ACal PK1 P w K mg base "share" 2 ["top","bottom"] m_share:=acal_of T.d_share sc_share rfl fun f cdv A outer sh H E hr=>by
  exact (ass_cons (as_if (at_cmp (op_eqA hr) vo_eq (ae_var (pv 1)) ae_int (nomark _))
  (ass_one as_never)
  ass_nil)
 (ass_cons (as_set (ps_set (i:=2) sc_share.nd rfl (Or.inl rfl) (ae_r (ar_call (c_common_divisor T) (hr.mono (by decide)) rfl (aa_cons (ae_var (pv 0)) (aa_cons (ae_var (pv 1)) aa_nil))))))
 (ass_cons (as_if (at_cmp op_lt vo_cmp (ae_var (pv 1)) ae_int (nomark _))
  (ass_one (as_set (ps_set (i:=2) sc_share.nd rfl (Or.inl rfl) (ae_neg (ae_var (pv 2))))))
  ass_nil)
 (ass_one (as_ret (ae_tup (ad_cons (ae_op op_fdivG vo_fdiv (ae_var (pv 0)) (ae_var (pv 2))) (ad_cons (ae_op op_fdivG vo_fdiv (ae_var (pv 1)) (ae_var (pv 2))) ad_nil))))))))
noncomputable def m_law_number:List Sl→Tr Re:=aDef 1 2
 (aSeq (aSet 1 (aRe (aCall m_law_draw (aaPen 0 (aaCons (aC (.int 8)) aaNil)))))
 (aSeq (aIfS (aTest (aBin (cmpD fun i j=>decide (i > j)) (aVar 1) (aC (.int 5))))
  (aSeq (aSet 2 (aBin addD (aBin mulD' (aRe (aCall m_law_draw (aaPen 0 (aaCons (aBin powD (aC (.int 10)) (aC (.int 6))) aaNil)))) (aBin powD (aC (.int 10)) (aC (.int 6)))) (aRe (aCall m_law_draw (aaPen 0 (aaCons (aBin powD (aC (.int 10)) (aC (.int 6))) aaNil))))))
 (aRet (aBin mulD' (aBin addD (aVar 2) (aBin mulD' (aBin powD (aC (.int 10)) (aC (.int 29))) (aBin subD (aVar 1) (aC (.int 6))))) (aBin subD (aC (.int 1)) (aBin mulD' (aC (.int 2)) (aRe (aCall m_law_draw (aaPen 0 (aaCons (aC (.int 2)) aaNil)))))))))
  aSkip)
 (aRet (aBin subD (aRe (aCall m_law_draw (aaPen 0 (aaCons (aBin ixD (aLst (aLo (aCons (aC (.int 7)) (aCons (aC (.int 31)) (aCons (aC (.int 2000)) aNil))))) (aBin modD (aVar 1) (aC (.int 3)))) aaNil)))) (aBin ixD (aLst (aLo (aCons (aC (.int 3)) (aCons (aC (.int 15)) (aCons (aC (.int 1000)) aNil))))) (aBin modD (aVar 1) (aC (.int 3))))))))
set_option maxHeartbeats 2000000 in
theorem c_law_number (T:Txt K mg):ACal PK1 P w K mg base "_law_number" 2 ["_law_pen_here"] m_law_number:=acal_of T.d__law_number sc__law_number rfl fun f cdv A outer sh H E hr=>by
  exact (ass_cons (as_set (ps_set (i:=1) sc__law_number.nd rfl (Or.inl rfl) (ae_r (ar_call (c_law_draw T) (hr.mono (by decide)) rfl (aa_pen (pv 0) (aa_cons ae_int aa_nil))))))
 (ass_cons (as_if (at_cmp op_gt vo_cmp (ae_var (pv 1)) ae_int (nomark _))
  (ass_cons (as_set (ps_set (i:=2) sc__law_number.nd rfl (Or.inl rfl) (ae_op op_addD vo_add (ae_op op_mulD vo_mul (ae_r (ar_call (c_law_draw T) (hr.mono (by decide)) rfl (aa_pen (pv 0) (aa_cons (ae_op op_pow vo_pow ae_int ae_int) aa_nil)))) (ae_op op_pow vo_pow ae_int ae_int)) (ae_r (ar_call (c_law_draw T) (hr.mono (by decide)) rfl (aa_pen (pv 0) (aa_cons (ae_op op_pow vo_pow ae_int ae_int) aa_nil)))))))
 (ass_one (as_ret (ae_op op_mulD vo_mul (ae_op op_addD vo_add (ae_var (pv 2)) (ae_op op_mulD vo_mul (ae_op op_pow vo_pow ae_int ae_int) (ae_op op_sub vo_sub (ae_var (pv 1)) ae_int))) (ae_op op_sub vo_sub ae_int (ae_op op_mulD vo_mul ae_int (ae_r (ar_call (c_law_draw T) (hr.mono (by decide)) rfl (aa_pen (pv 0) (aa_cons ae_int aa_nil))))))))))
  ass_nil)
 (ass_one (as_ret (ae_op op_sub vo_sub (ae_r (ar_call (c_law_draw T) (hr.mono (by decide)) rfl (aa_pen (pv 0) (aa_cons (ae_ix ix_seq vo_ix (ae_o (ao_lst (ad_cons ae_int (ad_cons ae_int (ad_cons ae_int ad_nil))))) (ae_op op_modN vo_mod (ae_var (pv 1)) ae_int) (fun _ _=>rfl)) aa_nil)))) (ae_ix ix_seq vo_ix (ae_o (ao_lst (ad_cons ae_int (ad_cons ae_int (ad_cons ae_int ad_nil))))) (ae_op op_modN vo_mod (ae_var (pv 1)) ae_int) (fun _ _=>rfl)))))))
noncomputable def m_law_lowest:List Sl→Tr Re:=aDef 2 1
 (aSeq (aSet 2 (aBin mulD' (aRe (aCall m_law_divisor (aaCons (aVar 0) (aaCons (aVar 1) aaNil)))) (aBin subD (aC (.int 1)) (aBin mulD' (aC (.int 2)) (aCB intD (aCons (aBin (cmpD fun i j=>decide (i < j)) (aVar 1) (aC (.int 0))) aNil))))))
 (aRet (aTup (aCons (aBin fdivD (aVar 0) (aVar 2)) (aCons (aBin fdivD (aVar 1) (aVar 2)) aNil)))))
set_option maxHeartbeats 2000000 in
theorem c_law_lowest (T:Txt K mg):ACal PK1 P w K mg base "_law_lowest" 2 ["_law_top","_law_bottom"] m_law_lowest:=acal_of T.d__law_lowest sc__law_lowest rfl fun f cdv A outer sh H E hr=>by
  exact (ass_cons (as_set (ps_set (i:=2) sc__law_lowest.nd rfl (Or.inl rfl) (ae_op op_mulD vo_mul (ae_r (ar_call (c_law_divisor T) (hr.mono (by decide)) rfl (aa_cons (ae_var (pv 0)) (aa_cons (ae_var (pv 1)) aa_nil)))) (ae_op op_sub vo_sub ae_int (ae_op op_mulD vo_mul ae_int (ae_cb (t:=tNil) (pe_callTy call_int1 rfl T.n_int boot_int (ad_cons (ae_cmp op_lt vo_cmp (ae_var (pv 1)) ae_int (nomark _)) ad_nil)) vc_int))))))
 (ass_one (as_ret (ae_tup (ad_cons (ae_op op_fdivG vo_fdiv (ae_var (pv 0)) (ae_var (pv 2))) (ad_cons (ae_op op_fdivG vo_fdiv (ae_var (pv 1)) (ae_var (pv 2))) ad_nil))))))
set_option maxHeartbeats 2000000 in
theorem c_share0 (T:Txt K mg) {C:Addr} (hC:mg "NoShare"=some (.ref C)) (xc:Xcl K C bmV "ValueError.__new__"):CalleeX P w K mg base "share" 2 ["top","bottom"] (fun vs H Q E=>∃ t,vs=[t,.int 0]∧E (.ref C) none H):=by
  refine T.d_share.okX sc_share (fun vs H Q E h=>?_) (fun f cdv A outer s H vs Q E hr h=>?_)
  · obtain ⟨t,rfl,_⟩:=h
    rfl
  · obtain ⟨t,rfl,h⟩:=h
    refine ⟨_,pss_cons (ps_if (pt_cmpR op_eq (pv 1) pe_int rfl) (pss_one (ps_raise F.excBase_ValueError xc rfl hC)) pss_nil) pss_never,?_⟩
    exact ⟨_,rfl,rfl,_,rfl,by dsimp only; rw [if_pos (decide_eq_true rfl)]; exact h⟩
noncomputable def m_law_refused:List Sl→Tr Re:=aDef 1 2 (aRet (aC (.bool true)))
set_option maxHeartbeats 2000000 in
theorem c_law_refused (T:Txt K mg):ACal PK1 P w K mg base "_law_refused" 3 ["_law_top"] m_law_refused:=by
  have len:∀ as m Z,(m_law_refused as).ok m Z→as.length=1:=fun as m Z h=>by
    unfold m_law_refused aDef at h
    exact of_decide_eq_true (ok_if h).1
  refine ⟨T.d__law_refused.ok sc__law_refused (fun vs H Q E h=>h.1) fun f cdv A outer sh H vs Q E hr hsp=>?_,len⟩
  obtain ⟨hv,pa,m,G,as,wd,ar,z⟩:=hsp
  obtain ⟨v,rfl⟩:∃ v,vs=[v]:=by
    obtain ⟨v,rfl⟩:=L2.len1 hv
    exact ⟨v,rfl⟩
  obtain ⟨C,D,a0,a1,a2,a3,a4,a5,a6,hC,hD,h0,h1,h2,h3,h4,h5,h6,xc⟩:=T.x_err
  obtain ⟨fs,fds,FS,hms,hks,hbs⟩:=(c_share0 (P:=P) (w:=w) (base:=base) T hC xc.cl).ex
  refine ⟨_,pss_cons (ps_set (i:=1) sc__law_refused.nd rfl (Or.inl rfl) pe_non)
    (pss_cons (ps_try (i:=2) rfl rfl sc__law_refused.nd FS (hr.mono (by decide)) rfl hms hks hbs (pa_cons (pv 0) (pa_cons pe_int pa_nil)) xc.un rfl hD rfl rfl (Or.inl rfl) (Or.inl rfl) (fun ea=>pss_one (ps_set (i:=1) sc__law_refused.nd rfl (Or.inl rfl) (pv 2))))
    (pss_cons (ps_if (pt_val (pe_callB (call_isiEU xc.ci F.attrBase_ValueError (by decide +kernel) lk_ValueError_class) rfl T.n_isinstance rfl (pa_cons (pv 1) (pa_cons (pe_tup (pa_cons (pe_glob (v:=.ref a0) rfl h0 rfl) (pa_cons (pe_glob (v:=.ref a1) rfl h1 rfl) (pa_cons (pe_glob (v:=.ref a2) rfl h2 rfl) (pa_cons (pe_glob (v:=.ref a3) rfl h3 rfl) (pa_cons (pe_glob (v:=.ref a4) rfl h4 rfl) (pa_cons (pe_glob (v:=.ref a5) rfl h5 rfl) (pa_cons (pe_glob (v:=.ref a6) rfl h6 rfl) pa_nil)))))))) pa_nil)))) (pss_one (ps_ret pe_bl)) pss_nil)
    (pss_one (ps_ret (pe_and (pe_callB (call_isiE xc.ci F.attrBase_ValueError (by decide +kernel) lk_ValueError_class) rfl T.n_isinstance rfl (pa_cons (pv 1) (pa_cons (pe_glob (v:=.ref C) rfl hC rfl) pa_nil))) (pe_one (pe_callB (call_isiET xc.ci F.attrBase_ValueError (by decide +kernel) lk_ValueError_class) rfl T.n_isinstance rfl (pa_cons (pv 1) (pa_cons (pe_bltn (v:=.ty "ValueError") rfl T.n_ValueError boot_ValueError rfl) pa_nil))))))))),?_⟩
  refine ⟨v,rfl,v,rfl,rfl,fun ea hea=>?_⟩
  refine ⟨.ref ea,rfl,?_⟩
  refine ⟨.ref ea,rfl,by show 7≤sizeLine; decide,fun p hp=>?_⟩
  have hne:ea≠p:=fun e=>by rw [e,upd_same] at hp; cases hp
  obtain ⟨w1,s1⟩:=wd.own (o:=.ext (xcAt ea (.ref C))) hea
  obtain ⟨w2,s2⟩:=w1.own (o:=.tup [.ref a0,.ref a1,.ref a2,.ref a3,.ref a4,.ref a5,.ref a6]) hp
  have hat:upd (upd H ea (.ext (xcAt ea (.ref C)))) p (.tup [.ref a0,.ref a1,.ref a2,.ref a3,.ref a4,.ref a5,.ref a6]) ea=some (.ext (xcAt ea (.ref C))):=by rw [upd_ne hne,upd_same]
  refine ⟨ea,p,[a0,a1,a2,a3,a4,a5,a6],false,rfl,hat,upd_same,xc.any,false,rfl,?_⟩
  refine ⟨.ref ea,rfl,ea,C,true,rfl,hat,kitOne_self,true,rfl,.ref ea,rfl,ea,"ValueError",true,rfl,hat,xc.vt,?_⟩
  unfold m_law_refused aDef at z
  exact (ok_if z).2 (.bl true) G _ (s1.trans s2 w1.some) w2 (.bl true)

noncomputable def m_law_right:List Sl→Tr Re:=aDef 2 2
 (aSeq (aSet 2 (aCB reprN (aCons (aRe (aCall m_law_lowest (aaCons (aVar 0) (aaCons (aVar 1) aaNil)))) aNil)))
 (aSeq (aSet 3 (aRe (aCall m_share (aaCons (aVar 0) (aaCons (aVar 1) aaNil)))))
 (aSeq (aIfS (aOr (aTest (aBin neD (aCB reprN (aCons (aVar 3) aNil)) (aVar 2))) (aTest (aBin isnBD (aRe (aCall m_is_share (aaCons (aVar 3) aaNil))) (aC (.bool true)))))
  (aRet (aC (.bool false)))
  aSkip)
 (aRet (aBin eqD (aCB reprN (aCons (aRe (aCall m_share (aaCons (aBin ixD (aVar 3) (aC (.int 0))) (aaCons (aBin ixD (aVar 3) (aC (.int 1))) aaNil)))) aNil)) (aVar 2))))))
set_option maxHeartbeats 2000000 in
theorem c_law_right (T:Txt K mg):ACal PK1 P w K mg base "_law_right" 3 ["_law_top","_law_bottom"] m_law_right:=acal_of T.d__law_right sc__law_right rfl fun f cdv A outer sh H E hr=>by
  exact (ass_cons (as_set (ps_set (i:=2) sc__law_right.nd rfl (Or.inl rfl) (ae_cb (t:=tNil) (pe_callB (call_reprN hr) rfl T.n_repr boot_repr (ad_cons (ae_r (ar_call (c_law_lowest T) (hr.mono (by decide)) rfl (aa_cons (ae_var (pv 0)) (aa_cons (ae_var (pv 1)) aa_nil)))) ad_nil)) vc_reprN)))
 (ass_cons (as_set (ps_set (i:=3) sc__law_right.nd rfl (Or.inl rfl) (ae_r (ar_call (c_share T) (hr.mono (by decide)) rfl (aa_cons (ae_var (pv 0)) (aa_cons (ae_var (pv 1)) aa_nil))))))
 (ass_cons (as_if (at_w (aw_or (at_cmp (op_neA hr) vo_ne (ae_cb (t:=tNil) (pe_callB (call_reprN hr) rfl T.n_repr boot_repr (ad_cons (ae_var (pv 3)) ad_nil)) vc_reprN) (ae_var (pv 2)) (nomark _)) (aw_or1 (at_cmp op_isnotB vo_isnB (ae_r (ar_call (c_is_share T) (hr.mono (by decide)) rfl (aa_cons (ae_var (pv 3)) aa_nil))) ae_bl (nomark _)))))
  (ass_one (as_ret ae_bl))
  ass_nil)
 (ass_one (as_ret (ae_cmp (op_eqA hr) vo_eq (ae_cb (t:=tNil) (pe_callB (call_reprN hr) rfl T.n_repr boot_repr (ad_cons (ae_r (ar_call (c_share T) (hr.mono (by decide)) rfl (aa_cons (ae_ix ix_seq vo_ix (ae_var (pv 3)) ae_int (fun _ _=>rfl)) (aa_cons (ae_ix ix_seq vo_ix (ae_var (pv 3)) ae_int (fun _ _=>rfl)) aa_nil)))) ad_nil)) vc_reprN) (ae_var (pv 2)) (nomark _)))))))
noncomputable def l_law_1:List Sl→Tr Ou :=
 (aIfS (aNot (aTru (aRe (aCall m_law_right (aaCons (aVar 6) (aaCons (aVar 7) aaNil))))))
  (aRet (aC (.bool false)))
  aSkip)
noncomputable def l_law_2:List Sl→Tr Ou :=
 (aSeq (aSet 3 (aBin addD (aC (.int 1)) (aRe (aCall m_law_draw (aaPen 1 (aaCons (aBin ixD (aLst (aLo (aCons (aC (.int 3)) (aCons (aC (.int 100)) (aCons (aBin powD (aC (.int 10)) (aC (.int 9))) aNil))))) (aRe (aCall m_law_draw (aaPen 1 (aaCons (aC (.int 3)) aaNil))))) aaNil))))))
 (aSeq (aSet 4 (aBin mulD' (aRe (aCall m_law_number (aaPen 1 aaNil))) (aBin ixD (aLst (aLo (aCons (aC (.int 1)) (aCons (aVar 3) aNil)))) (aRe (aCall m_law_draw (aaPen 1 (aaCons (aC (.int 2)) aaNil)))))))
 (aSeq (aSet 5 (aBin mulD' (aRe (aCall m_law_number (aaPen 1 aaNil))) (aBin ixD (aLst (aLo (aCons (aC (.int 1)) (aCons (aVar 3) aNil)))) (aRe (aCall m_law_draw (aaPen 1 (aaCons (aC (.int 2)) aaNil)))))))
 (aSeq (aSet 5 (aBin addD (aVar 5) (aCB intD (aCons (aBin eqD (aVar 5) (aC (.int 0))) aNil))))
 (aSeq (aFor (aIt (aTup (aCons (aTup (aCons (aVar 4) (aCons (aVar 5) aNil))) (aCons (aTup (aCons (aBin mulD' (aVar 4) (aVar 3)) (aCons (aBin mulD' (aVar 5) (aVar 3)) aNil))) (aCons (aTup (aCons (aBin subD (aC (.int 0)) (aVar 4)) (aCons (aBin subD (aC (.int 0)) (aVar 5)) aNil))) (aCons (aTup (aCons (aC (.int 0)) (aCons (aVar 5) aNil))) (aCons (aTup (aCons (aVar 4) (aCons (aC (.int 1)) aNil))) aNil))))))) (gTupD (gsCons (gSet 6) (gsCons (gSet 7) gsNil))) l_law_1)
 (aIfS (aOr (aNot (aTru (aRe (aCall m_law_refused (aaCons (aVar 4) aaNil))))) (aNot (aTru (aRe (aCall m_law_refused (aaCons (aC (.int 0)) aaNil))))))
  (aRet (aC (.bool false)))
  aSkip))))))
noncomputable def m_law (sn:Nat):List Sl→Tr Ou :=
 (aSeq (aFor (aScr 3 20 sn) (gSet 2) l_law_2)
 (aRet (aAndV (aBin eqD (aRe (aCall m_share (aaCons (aC (.int 0)) (aaCons (aNeg (aC (.int 7))) aaNil)))) (aTup (aCons (aC (.int 0)) (aCons (aC (.int 1)) aNil)))) (aBin eqD (aRe (aCall m_share (aaCons (aC (.int 6)) (aaCons (aNeg (aC (.int 4))) aaNil)))) (aTup (aCons (aNeg (aC (.int 3))) (aCons (aC (.int 2)) aNil)))))))
noncomputable abbrev law0:List Sl:=.un::.pen::List.replicate 6 .un
set_option maxHeartbeats 4000000 in
theorem ok_law (T:Txt K mg) {f:Addr} {fd:FuncData} (F:Fun K "law" "law" s_law f fd) (hl:∀ sn:Nat,sn≤63→(m_law sn law0).ok 0 fun _ o=>o=.ret (.d (.bool true))):FnOk P w K mg base CX0 4 f fd ["_law_script"] (spLaw K):=by
  refine F.ok sc_law (fun vs H Q E h=>?_) (fun cdv A outer s H vs Q E hr h=>?_)
  · obtain ⟨a,ns,rfl,_⟩:=h
    rfl
  · obtain ⟨a,ns,rfl,hS,hlen,k⟩:=h
    have hu:=hu_of hr
    refine ⟨_,(pss_cons (ps_set (i:=1) sc_law.nd rfl (Or.inl rfl) (pe_callC (ok_pen T) (hr.mono (by decide)) rfl (pa_cons (pv 0) pa_nil)))
 (ass_consS (as_forS PassesOwn.never rfl (ai_scr (n:=ns.length) (lo:=3) (hi:=20) (pi_range1 rfl T.n_range (pa_cons (pe_callB (call_max2 rfl) rfl T.n_max boot_max (pa_cons pe_int (pa_cons (pe_callB (call_min2 rfl) rfl T.n_min boot_min (pa_cons (pe_callB call_len_seq rfl T.n_len boot_len (pa_cons (pv 0) pa_nil)) (pa_cons pe_int pa_nil))) pa_nil))) pa_nil)) (by decide) (by decide) (by decide) (fun σ H Z hF z=>by obtain ⟨a,xs,h0,hS,hl⟩:=hF; exact ⟨_,h0,a,xs,rfl,.inl hS,_,_,rfl,_,_,rfl,by rw [hl]; exact z⟩)) (ag_name (pg_name (i:=2) sc_law.nd rfl (Or.inl rfl)))
  (ass_cons (as_set (ps_set (i:=3) sc_law.nd rfl (Or.inl rfl) (ae_op op_addD vo_add ae_int (ae_r (ar_call (c_law_draw T) (hr.mono (by decide)) rfl (aa_pen (pv 1) (aa_cons (ae_ix ix_seq vo_ix (ae_o (ao_lst (ad_cons ae_int (ad_cons ae_int (ad_cons (ae_op op_pow vo_pow ae_int ae_int) ad_nil))))) (ae_r (ar_call (c_law_draw T) (hr.mono (by decide)) rfl (aa_pen (pv 1) (aa_cons ae_int aa_nil)))) (fun _ _=>rfl)) aa_nil)))))))
 (ass_cons (as_set (ps_set (i:=4) sc_law.nd rfl (Or.inl rfl) (ae_op op_mulD vo_mul (ae_r (ar_call (c_law_number T) (hr.mono (by decide)) rfl (aa_pen (pv 1) aa_nil))) (ae_ix ix_seq vo_ix (ae_o (ao_lst (ad_cons ae_int (ad_cons (ae_var (pv 3)) ad_nil)))) (ae_r (ar_call (c_law_draw T) (hr.mono (by decide)) rfl (aa_pen (pv 1) (aa_cons ae_int aa_nil)))) (fun _ _=>rfl)))))
 (ass_cons (as_set (ps_set (i:=5) sc_law.nd rfl (Or.inl rfl) (ae_op op_mulD vo_mul (ae_r (ar_call (c_law_number T) (hr.mono (by decide)) rfl (aa_pen (pv 1) aa_nil))) (ae_ix ix_seq vo_ix (ae_o (ao_lst (ad_cons ae_int (ad_cons (ae_var (pv 3)) ad_nil)))) (ae_r (ar_call (c_law_draw T) (hr.mono (by decide)) rfl (aa_pen (pv 1) (aa_cons ae_int aa_nil)))) (fun _ _=>rfl)))))
 (ass_cons (as_set (ps_set (i:=5) sc_law.nd rfl (Or.inl rfl) (ae_op op_addD vo_add (ae_var (pv 5)) (ae_cb (t:=tNil) (pe_callTy call_int1 rfl T.n_int boot_int (ad_cons (ae_cmp (op_eqA hr) vo_eq (ae_var (pv 5)) ae_int (nomark _)) ad_nil)) vc_int))))
 (ass_cons (as_for PassesOwn.never rfl (ai_seq (ae_tup (ad_cons (ae_tup (ad_cons (ae_var (pv 4)) (ad_cons (ae_var (pv 5)) ad_nil))) (ad_cons (ae_tup (ad_cons (ae_op op_mulD vo_mul (ae_var (pv 4)) (ae_var (pv 3))) (ad_cons (ae_op op_mulD vo_mul (ae_var (pv 5)) (ae_var (pv 3))) ad_nil))) (ad_cons (ae_tup (ad_cons (ae_op op_sub vo_sub ae_int (ae_var (pv 4))) (ad_cons (ae_op op_sub vo_sub ae_int (ae_var (pv 5))) ad_nil))) (ad_cons (ae_tup (ad_cons ae_int (ad_cons (ae_var (pv 5)) ad_nil))) (ad_cons (ae_tup (ad_cons (ae_var (pv 4)) (ad_cons ae_int ad_nil))) ad_nil))))))) (ag_tup rfl (ags_cons (ag_name (pg_name (i:=6) sc_law.nd rfl (Or.inl rfl))) (ags_cons (ag_name (pg_name (i:=7) sc_law.nd rfl (Or.inl rfl))) ags_nil)) (gsLen_cons (gsLen_cons gsLen_nil)))
  (ass_one (as_if (at_not (at_tru (ae_r (ar_call (c_law_right T) (hr.mono (by decide)) rfl (aa_cons (ae_var (pv 6)) (aa_cons (ae_var (pv 7)) aa_nil))))))
  (ass_one (as_ret ae_bl))
  ass_nil)))
 (ass_one (as_if (at_w (aw_or (at_not (at_tru (ae_r (ar_call (c_law_refused T) (hr.mono (by decide)) rfl (aa_cons (ae_var (pv 4)) aa_nil))))) (aw_or1 (at_not (at_tru (ae_r (ar_call (c_law_refused T) (hr.mono (by decide)) rfl (aa_cons ae_int aa_nil))))))))
  (ass_one (as_ret ae_bl))
  ass_nil))))))))
 (ass_one (as_ret (ae_and (ae_cmp (op_eqA hr) vo_eq (ae_r (ar_call (c_share T) (hr.mono (by decide)) rfl (aa_cons ae_int (aa_cons (ae_neg ae_int) aa_nil)))) (ae_tup (ad_cons ae_int (ad_cons ae_int ad_nil))) (nomark _)) (ae_one (ae_cmp (op_eqA hr) vo_eq (ae_r (ar_call (c_share T) (hr.mono (by decide)) rfl (aa_cons ae_int (aa_cons (ae_neg ae_int) aa_nil)))) (ae_tup (ad_cons (ae_neg ae_int) (ad_cons ae_int ad_nil))) (nomark _)))))))),?_⟩
    refine ⟨_,rfl,a,ns,rfl,hS,hlen,fun p c H' hp hP hs=>?_⟩
    exact ⟨⟨a,_,rfl,hs.seq hS,List.length_map ..⟩,law_start (n:=6) hP rfl rfl (fun H'=>k H') (hl ns.length hlen)⟩
end
end My
set_option Elab.async false
set_option linter.all false
set_option maxRecDepth 100000
set_option exponentiation.threshold 9000
local macro_rules | `(tactic| simp_arith [$ls,*] $[$loc]?) => do let b : Lean.TSyntaxArray ``Lean.Parser.Tactic.simpLemma ← (("L2.ev_var0 L2.ev_varS L2.ev_C L2.ev_bin L2.ev_bin1 L2.ev_add L2.ev_addT L2.ev_addL L2.ev_sub L2.ev_cmp L2.ev_eqI L2.ev_neI L2.ev_eqB L2.ev_eqS L2.ev_neS L2.ev_isB L2.ev_isnB L2.ev_isN L2.ev_isnN L2.ev_ixL L2.ev_ixT L2.at_0 L2.at_1 L2.at_2 L2.at_3 L2.at_4 L2.at_5 L2.at_6 L2.at_7 L2.at_8 L2.ev_neg L2.ev_neg1 L2.ev_test L2.ev_tst1 L2.ev_tru L2.ev_truB L2.ev_truI L2.ev_truL L2.ev_truT L2.ev_truN L2.ev_and L2.ev_or L2.ev_not L2.ev_and1t L2.ev_and1f L2.ev_or1t L2.ev_or1f L2.ev_not1 L2.ev_andV L2.ev_orV L2.ev_notV L2.ev_andV1t L2.ev_andV1f L2.ev_orV1t L2.ev_orV1f L2.ev_notV1 L2.ev_if L2.ev_if1t L2.ev_if1f L2.ev_chain L2.ev_ch1 L2.ev_ch2 L2.ev_ch3 L2.ev_ch4t L2.ev_ch4f L2.ev_nil L2.ev_cons L2.ev_cons1 L2.ev_cons2 L2.ev_tup L2.ev_tup1 L2.ev_lst L2.ev_lst1 L2.ev_lo L2.ev_lo1 L2.small_le L2.ev_cb L2.ev_cbo L2.ev_lenL L2.ev_lenT L2.ev_abs L2.ev_max2 L2.ev_min2 L2.ev_intI L2.ev_intB L2.ev_tupL L2.ev_tupT L2.ev_lstL L2.ev_lstT L2.ev_sumL L2.ev_sumT L2.ev_maxL L2.ev_allL L2.ev_anyL L2.ev_isi L2.ev_isi1 L2.ev_sl L2.ev_sl1 L2.ev_sl2 L2.ev_sl3L L2.ev_sl3T L2.ev_p0 L2.ev_p1 L2.ev_pa1 L2.ev_tupR L2.ev_tupR1 L2.ev_lstR L2.ev_lstR1 L2.ev_aaNil L2.ev_aaCons L2.ev_aa1 L2.ev_aa2 L2.ev_pen0 L2.ev_penS L2.ev_aaPen L2.ev_aap L2.ev_call L2.ev_re L2.ev_re1 L2.ev_def L2.ev_finN L2.ev_finR L2.ev_seq L2.ev_seqN L2.ev_seqR L2.ev_seqB L2.ev_seqC L2.ev_skip L2.ev_brk L2.ev_cont L2.ev_ifs L2.ev_ifst L2.ev_ifsf L2.ev_ret L2.ev_ret1 L2.ev_retO L2.ev_retO1 L2.ev_retR L2.ev_retR1 L2.ev_retVd L2.ev_retVo L2.ev_retVs L2.ev_set L2.ev_set1 L2.ev_setO L2.ev_setO1 L2.ev_setR L2.ev_setR1d L2.ev_setR1o L2.ls_0 L2.ls_S L2.ev_aug L2.ev_aug1 L2.ev_aug2 L2.ev_iadd L2.ev_own0 L2.ev_ownS L2.ev_app L2.ev_app1 L2.ev_app2 L2.ev_rev L2.ev_rev1 L2.ev_fz L2.fz_o L2.fz_d L2.fz_p L2.fz_u L2.fz_S L2.ev_asg L2.ev_asg1 L2.ev_nx1 L2.g_set L2.g_tup L2.g_nil L2.g_cons L2.g_some L2.ev_par L2.ev_par1 L2.ev_it L2.ev_it1L L2.ev_it1T L2.ev_rng1 L2.ev_rng2 L2.ev_zip L2.ev_zip0 L2.ev_zip1 L2.ev_zip2 L2.ev_zip3 L2.ev_enum L2.ev_enu1 L2.ev_enu2 L2.ev_for L2.ev_for1 L2.for_nil L2.ev_for2 L2.ev_for3n L2.ev_for3c L2.ev_for3b L2.ev_for3r L2.ev_lc L2.ev_lc1 L2.ev_lc2 L2.mt_nil L2.mt_cons L2.mt_1 L2.mt_2 L2.ev_callF L2.ev_cf1 L2.ev_flatB L2.ev_flatI L2.ev_len0o L2.ev_len0d L2.ev_lenS L2.ev_lend L2.ev_in0 L2.ev_lcif L2.ev_lci1 L2.ev_lci2 L2.ev_ifE L2.ev_if2t L2.ev_if2f L2.ev_if3 L2.ev_cbF L2.ev_cbf1 L2.ev_fl1I L2.ev_six L2.ev_six1 L2.ev_six2 L2.ev_addE0 L2.ev_addE1 L2.g_lst2 L2.ev_revI L2.ev_rvi1 L2.ev_rvi2 L2.ev_revR1 L2.ev_revR2 L2.ev_rvr1 L2.ev_rvr2 L2.ev_revL L2.ev_revT L2.ev_ext L2.ev_ext1 L2.ev_ins L2.ev_ins0 L2.ev_ins1 L2.ev_min2T L2.ev_lstR1' L2.ev_tupR1' L2.ev_ixO L2.ev_ixo0 L2.ev_ixo0d L2.ev_ixoS L2.ev_ext2 L2.ev_ins2 L2.ev_mul L2.ev_imul L2.rb2 L2.Tr.of_some L2.Tr.bind_assoc L2.Tr.draw_bind List.cons_append List.nil_append List.replicate_succ List.replicate_zero List.length_cons List.length_nil L2.Re.val_d L2.Re.val_own L2.blk L2.blS List.map_cons List.map_nil List.getElem?_cons_zero List.getElem?_cons_succ Option.getD_some Nat.reduceAdd Nat.reduceLeDiff List.isEmpty_cons".splitOn " ").toArray.map fun s => Lean.mkIdent s.toName).mapM fun i => `(Lean.Parser.Tactic.simpLemma| $i:ident); `(tactic| simp only [$b,*, $ls,*] $[$loc]?)
namespace My
open PySem PySem.Spec PyProof.Rows L2 Tw
theorem e_gcd {a b:Int} (hb:nb 8000 b):m_common_divisor [.d (.int a),.d (.int b)]=.ret (.d (.int (Nat.gcd a.natAbs b.natAbs:Nat))):=by
  have key:=euclid (p:=w_common_divisor_1) (s:=l_common_divisor_1) (E:=fun a b=>[.d (.int a),.d (.int b)]) (fun a b=>by
    simp_arith [w_common_divisor_1]
    by_cases h:b=0
    · subst h; rfl
    · rw [decide_eq_true h]
      congr 1
      simp [h]) (fun a b h=>by
    have h':(b:Int)≠0:=by omega
    simp_arith [l_common_divisor_1,ev_mod h',fmod_nat]) 8000 83999 a.natAbs b.natAbs hb
  have e:2 * 8000+1+83999=100000:=rfl
  rw [e] at key
  simp_arith [m_common_divisor,absI_eq,key]
theorem e_share {t b:Int} (h0:b≠0) (hb:nb 7000 b):m_share [.d (.int t),.d (.int b)]=.ret (.d (shD t b)):=by
  have e:=e_gcd (a:=t) (b:=b) (nb_mono hb (by decide))
  have e0:(b == 0)=false:=beq_eq_false_iff_ne.mpr h0
  have hd:=Gc.den_ne (t:=t) h0
  have hf:=nb_fit (den_nb (t:=t) hb h0) (by decide)
  unfold shD Gc.lowT Gc.lowB
  by_cases hn:b < 0
  · have ed:Gc.den t b=-((Nat.gcd t.natAbs b.natAbs:Nat):Int):=by unfold Gc.den Gc.gcdI; rw [if_pos hn]
    rw [ed] at hd hf ⊢
    simp_arith [m_share,e0,e,decide_eq_true hn,ev_fdiv hd hf]
  · have ed:Gc.den t b=((Nat.gcd t.natAbs b.natAbs:Nat):Int):=by unfold Gc.den Gc.gcdI; rw [if_neg hn]
    rw [ed] at hd hf ⊢
    simp_arith [m_share,e0,e,decide_eq_false hn,ev_fdiv hd hf]
end My
set_option Elab.async false
set_option linter.all false
set_option maxRecDepth 100000
set_option exponentiation.threshold 9000
namespace My
open PySem PySem.Spec PyProof.Rows L2 Tw
theorem e_div {a b:Int} (ha:nb 8000 a):m_law_divisor [.d (.int a),.d (.int b)]=.ret (.d (.int (Nat.gcd a.natAbs b.natAbs:Nat))):=by
  have key:=euclid (p:=w_law_divisor_1) (s:=l_law_divisor_1) (E:=fun a b=>[.d (.int b),.d (.int a)]) (fun a b=>by
    simp_arith [w_law_divisor_1]
    by_cases h:b=0
    · subst h; rfl
    · rw [decide_eq_true h]
      congr 1
      exact decide_eq_true (by omega)) (fun a b h=>by
    have h':(b:Int)≠0:=by omega
    simp_arith [l_law_divisor_1,ev_mod h',fmod_nat]) 8000 83999 b.natAbs a.natAbs ha
  have e:2 * 8000+1+83999=100000:=rfl
  rw [e] at key
  rw [Nat.gcd_comm]
  simp_arith [m_law_divisor,absI_eq,key]
theorem it1:cb1 intD [.bool true]=.ret (.int 1):=rfl
theorem it0:cb1 intD [.bool false]=.ret (.int 0):=rfl
theorem e_lowest {t b:Int} (h0:b≠0) (ht:nb 7000 t) (hb:nb 7000 b):m_law_lowest [.d (.int t),.d (.int b)]=.ret (.d (shD t b)):=by
  have e:=e_div (a:=t) (b:=b) (nb_mono ht (by decide))
  have hd:=Gc.den_ne (t:=t) h0
  have hf:=nb_fit (den_nb (t:=t) hb h0) (by decide)
  have f0:fit (0:Int)=true:=by decide
  have f1:fit (1:Int)=true:=by decide
  have f2:fit (2:Int)=true:=by decide
  have fa:fit (1 - 2 * 0:Int)=true:=by decide
  have fb:fit (1 - 2 * 1:Int)=true:=by decide
  have fg:fit ((Nat.gcd t.natAbs b.natAbs:Nat):Int)=true:=by
    have q:=den_nb (t:=t) hb h0
    unfold nb at q
    rw [Gc.den_abs] at q
    exact nb_fit (k:=7000) (by unfold nb; exact q) (by decide)
  unfold shD Gc.lowT Gc.lowB
  by_cases hn:b < 0
  · have ed:Gc.den t b=((Nat.gcd t.natAbs b.natAbs:Nat):Int) * (1 - 2 * 1):=by unfold Gc.den Gc.gcdI; rw [if_pos hn]; omega
    rw [ed] at hd hf ⊢
    simp_arith [m_law_lowest,e,decide_eq_true hn,it1,↓reduceIte,f0,f1,f2,fb,fg,ev_fdiv hd hf]
  · have ed:Gc.den t b=((Nat.gcd t.natAbs b.natAbs:Nat):Int) * (1 - 2 * 0):=by unfold Gc.den Gc.gcdI; rw [if_neg hn]; omega
    rw [ed] at hd hf ⊢
    simp_arith [m_law_lowest,e,decide_eq_false hn,it0,Bool.false_eq_true,↓reduceIte,f0,f1,f2,fa,fg,ev_fdiv hd hf]
theorem big_sh {t b:Int} (h0:b≠0) (ht:nb 2100 t) (hb:nb 2100 b):bigT (shD t b)=true:=by
  obtain ⟨h1,h2⟩:=Gc.low_le (t:=t) h0
  have a1:(Gc.lowT t b).natAbs < b21:=b21_of (Nat.lt_of_le_of_lt h1 ht)
  have a2:(Gc.lowB t b).natAbs < b21:=b21_of (Nat.lt_of_le_of_lt h2 hb)
  show ((decide ((Gc.lowT t b).natAbs < b21) && (decide ((Gc.lowB t b).natAbs < b21) && true)) && decide (2≤1000))=true
  rw [decide_eq_true a1,decide_eq_true a2]
  rfl
theorem two_2:((((2:Nat):Int)) == 2)=true:=rfl
theorem isi_ii (n:Int):isiB "int" (tyD (.int n))=true:=rfl
theorem isi_ib (n:Int):isiB "bool" (tyD (.int n))=false:=rfl
theorem isi_tt (xs:List PyData):isiB "tuple" (tyD (.tuple xs))=true:=rfl
theorem e_whole (n:Int):m_is_whole [.d (.int n)]=.ret (.d (.bool true)):=by
  simp_arith [m_is_whole,isi_ii,isi_ib,Bool.not_false]
theorem hs2:small 2=true:=small_le (by decide)
theorem e_is_share {t b:Int} (hp:1≤b) (ho:Nat.gcd t.natAbs b.natAbs=1) (hn:nb 7000 b):m_is_share [.d (.tuple [.int t,.int b])]=.ret (.d (.bool true)):=by
  have h1:=e_gcd (a:=t) (b:=b) (nb_mono hn (by decide))
  have h2:¬ b < 1:=by omega
  have h3:((Nat.gcd t.natAbs b.natAbs:Nat):Int)=1:=by rw [ho]; rfl
  rw [h3] at h1
  simp_arith [m_is_share,isi_tt,two_2,Bool.not_true,e_whole,decide_eq_false h2,h1,beq_self_eq_true]
theorem e_right {t b:Int} (h0:b≠0) (nt:nb 1000 t) (nbb:nb 1000 b):m_law_right [.d (.int t),.d (.int b)]=.ret (.d (.bool true)):=by
  have e1:=e_lowest (t:=t) h0 (nb_mono nt (by decide)) (nb_mono nbb (by decide))
  have e2:=e_share (t:=t) h0 (nb_mono nbb (by decide))
  obtain ⟨_,_,p,g⟩:=Gc.low_spec (t:=t) h0
  obtain ⟨l1,l2⟩:=Gc.low_le (t:=t) h0
  have n2:nb 1000 (Gc.lowB t b):=Nat.lt_of_le_of_lt l2 nbb
  have e3:=e_is_share (t:=Gc.lowT t b) (b:=Gc.lowB t b) (by omega) g (nb_mono n2 (by decide))
  have e4:=e_share (t:=Gc.lowT t b) (b:=Gc.lowB t b) (Int.ne_of_gt p) (nb_mono n2 (by decide))
  obtain ⟨q1,q2⟩:=Gc.low_of_low p g
  have e5:shD (Gc.lowT t b) (Gc.lowB t b)=shD t b:=by unfold shD; rw [q1,q2]
  rw [e5] at e4
  have r1:=ev_reprN (.inr (big_sh (t:=t) h0 (nb_mono nt (by decide)) (nb_mono nbb (by decide))))
  have u:shD t b=.tuple [.int (Gc.lowT t b),.int (Gc.lowB t b)]:=rfl
  rw [u] at r1 e1 e2 e4
  simp_arith [m_law_right,e1,e2,r1,str_self,e3,e4,beq_self_eq_true,Bool.not_true,hs2]
theorem e_refused (x:PyData):m_law_refused [.d x]=.ret (.d (.bool true)):=rfl
theorem ev_drw (n:Int):m_law_draw [.pen,.d (.int n)]=.draw n fun r=>.ret (.d (.int r)):=rfl
theorem fitS {n:Int} (h1:-1000000000≤n) (h2:n≤1000000000):fit n=true:=nb_fit (k:=40) (nb_le (b:=1000000000) ⟨h1,h2⟩ (by decide)) (by decide)
theorem d_num:Al (m_law_number [.pen]) 4 fun r=>∃ z:Int,r=.d (.int z)∧-150000000000000000000000000000≤z∧z≤150000000000000000000000000000:=by
  have e6:bin2 powD (.int 10) (.int 6)=.ret (.int 1000000):=rfl
  have e29:bin2 powD (.int 10) (.int 29)=.ret (.int 100000000000000000000000000000):=rfl
  simp_arith [m_law_number,ev_drw]
  refine al_drw (n:=3) (by decide) (by decide) (by decide) fun w w0 w1=>?_
  try simp_arith [ev_drw]
  by_cases h5:w > 5
  · simp_arith [decide_eq_true h5,ev_drw,e6]
    refine al_drw (n:=2) (by decide) (by decide) (by decide) fun a a0 a1=>?_
    have f1:fit a=true:=fitS (by omega) (by omega)
    have f2:fit (1000000:Int)=true:=by decide
    simp_arith [ev_drw,e6,f1,f2]
    refine al_drw (n:=1) (by decide) (by decide) (by decide) fun b b0 b1=>?_
    have f3:fit (100000000000000000000000000000:Int)=true:=by decide
    have f4:fit (w - 6)=true:=fitS (by omega) (by omega)
    have f5:fit (2:Int)=true:=by decide
    simp_arith [ev_drw,e29,f3,f4]
    refine al_drw (n:=0) (by decide) (by decide) (by decide) fun c c0 c1=>?_
    have f6:fit c=true:=fitS (by omega) (by omega)
    have f7:fit (1 - 2 * c)=true:=fitS (by omega) (by omega)
    have hw:w=6∨w=7:=by omega
    have hc:c=0∨c=1:=by omega
    have f8:fit (a * 1000000+b+100000000000000000000000000000 * (w - 6))=true:=nb_fit (k:=98) (nb_le (b:=150000000000000000000000000000) (by omega) (by decide)) (by decide)
    simp_arith [ev_drw,f5,f6,f7,f8]
    refine al_ret ⟨_,rfl,?_⟩
    rcases hc with rfl | rfl <;> omega
  · simp_arith [decide_eq_false h5,ev_drw]
    have hj:w.fmod 3=0∨w.fmod 3=1∨w.fmod 3=2:=by
      have:w.fmod 3=w % 3:=Int.fmod_eq_emod_of_nonneg _ (by decide)
      omega
    have e3:=ev_mod (m:=w) (n:=3) (by decide)
    rcases hj with h | h | h <;> rw [h] at e3
    · simp_arith [ev_drw,e3]
      refine al_drw (n:=0) (by decide) (by decide) (by decide) fun a a0 a1=>?_
      try simp_arith [ev_drw,e3]
      exact al_ret ⟨_,rfl,by omega,by omega⟩
    · simp_arith [ev_drw,e3]
      refine al_drw (n:=0) (by decide) (by decide) (by decide) fun a a0 a1=>?_
      try simp_arith [ev_drw,e3]
      exact al_ret ⟨_,rfl,by omega,by omega⟩
    · simp_arith [ev_drw,e3]
      refine al_drw (n:=0) (by decide) (by decide) (by decide) fun a a0 a1=>?_
      try simp_arith [ev_drw,e3]
      exact al_ret ⟨_,rfl,by omega,by omega⟩
theorem ix3 {w:Int} (h0:0≤w) (h1:w < 3):∃ z:Int,0 < z∧z≤1000000000∧atI [PyData.int 3,.int 100,.int 1000000000] w=some (.int z):=by
  have:w=0∨w=1∨w=2:=by omega
  rcases this with rfl | rfl | rfl
  · exact ⟨3,by decide,by decide,rfl⟩
  · exact ⟨100,by decide,by decide,rfl⟩
  · exact ⟨1000000000,by decide,by decide,rfl⟩
theorem ix2 {b w:Int} (hb:1≤b∧b≤1000000000) (h0:0≤w) (h1:w < 2):∃ z:Int,(1≤z∧z≤1000000000)∧atI [PyData.int 1,.int b] w=some (.int z):=by
  have:w=0∨w=1:=by omega
  rcases this with rfl | rfl
  · exact ⟨1,by decide,rfl⟩
  · exact ⟨b,hb,rfl⟩
theorem n31 {z:Int} (h:1≤z∧z≤1000000000):nb 31 z:=nb_le (b:=1000000000) ⟨by omega,by omega⟩ (by decide)
theorem n97 {z:Int} (h1:-150000000000000000000000000001≤z) (h2:z≤150000000000000000000000000001):nb 97 z:=nb_le (b:=150000000000000000000000000001) ⟨h1,h2⟩ (by decide)
theorem nb1 {k:Nat} (h:0 < k):nb k 1:=by
  show 1 < 2 ^ k
  exact Nat.one_lt_two_pow (by omega)
theorem nb0 {k:Nat}:nb k 0:=Nat.pow_pos (by decide)
set_option maxHeartbeats 2000000 in
theorem law_turn (J2 J3 J4 J5 J6 J7:Sl):Al (l_law_2 [.un,.pen,J2,J3,J4,J5,J6,J7]) 12 fun o=>∃ K2 K3 K4 K5 K6 K7:Sl,o=.next [.un,.pen,K2,K3,K4,K5,K6,K7]:=by
  have e9:bin2 powD (.int 10) (.int 9)=.ret (.int 1000000000):=rfl
  simp_arith [l_law_2,ev_drw,e9]
  refine al_drw (n:=11) (by decide) (by decide) (by decide) fun w w0 w1=>?_
  obtain ⟨z,z0,z1,ez⟩:=ix3 w0 w1
  simp_arith [ev_drw,e9,ez]
  refine al_drw (n:=10) z0 (by omega) (by decide) fun b b0 b1=>?_
  have hb:1≤1+b∧1+b≤1000000000:=by omega
  try simp_arith [ev_drw]
  generalize 1+b=B at *
  refine al_bind (n:=4) (n':=6) d_num (by decide) ?_
  rintro _ ⟨t,rfl,t1,t2⟩
  try simp_arith [ev_drw]
  refine al_drw (n:=5) (by decide) (by decide) (by decide) fun u u0 u1=>?_
  obtain ⟨y,hy,ey⟩:=ix2 hb u0 u1
  have nt:=n97 (z:=t) (by omega) (by omega)
  have f1:=nb_fit nt (by decide)
  have f2:=nb_fit (n31 hy) (by decide)
  simp_arith [ev_drw,ey,f1,f2]
  refine al_bind (n:=4) (n':=1) d_num (by decide) ?_
  rintro _ ⟨c,rfl,c1,c2⟩
  try simp_arith [ev_drw]
  refine al_drw (n:=0) (by decide) (by decide) (by decide) fun v v0 v1=>?_
  obtain ⟨x,hx,ex⟩:=ix2 hb v0 v1
  have nc:=n97 (z:=c) (by omega) (by omega)
  have f3:=nb_fit nc (by decide)
  have f4:=nb_fit (n31 hx) (by decide)
  have ntop:=nb_mul nt (n31 hy)
  have nbot:=nb_mul nc (n31 hx)
  generalize t * y=T at *
  simp_arith [ev_drw,ex,f3,f4]
  generalize c * x=C at *
  have h0:C+(if C == 0 then 1 else 0)≠0:=by
    by_cases h:C=0
    · subst h; simp
    · rw [beq_eq_false_iff_ne.mpr h]; simpa using h
  have nbt:nb (97+31+1) (C+(if C == 0 then 1 else 0)):=by
    cases C == 0
    · exact nb_mono (nb_add nbot (nb0 (k:=128))) (by decide)
    · exact nb_mono (nb_add nbot (nb1 (k:=128) (by decide))) (by decide)
  generalize C+(if C == 0 then 1 else 0)=U at *
  have fT:=nb_fit ntop (by decide)
  have fU:=nb_fit nbt (by decide)
  have fB:=nb_fit (n31 hb) (by decide)
  have r1:=e_right (t:=T) h0 (nb_mono ntop (by decide)) (nb_mono nbt (by decide))
  have r2:=e_right (t:=T * B) (b:=U * B) (Int.mul_ne_zero h0 (by omega)) (nb_mono (nb_mul ntop (n31 hb)) (by decide)) (nb_mono (nb_mul nbt (n31 hb)) (by decide))
  have r3:=e_right (t:=0 - T) (b:=0 - U) (by omega) (nb_mono (by rw [Int.zero_sub]; exact nb_neg ntop) (by decide)) (nb_mono (by rw [Int.zero_sub]; exact nb_neg nbt) (by decide))
  have r4:=e_right (t:=0) (b:=U) h0 nb0 (nb_mono nbt (by decide))
  have r5:=e_right (t:=T) (b:=1) (by decide) (nb_mono ntop (by decide)) (nb1 (by decide))
  simp_arith [ev_drw,fT,fU,fB,for_cons,l_law_1,r1,r2,r3,r4,r5,Bool.not_true,e_refused]
  exact al_ret ⟨_,_,_,_,_,_,rfl⟩
theorem sh07:m_share [.d (.int 0),.d (.int (-7))]=.ret (.d (.tuple [.int 0,.int 1])):=by
  have e:=e_share (t:=0) (b:=-7) (by decide) (nb_mono (nb_le (k:=10) (b:=7) (by decide) (by decide)) (by decide))
  rw [e]
  rfl
theorem sh64:m_share [.d (.int 6),.d (.int (-4))]=.ret (.d (.tuple [.int (-3),.int 2])):=by
  have e:=e_share (t:=6) (b:=-4) (by decide) (nb_mono (nb_le (k:=10) (b:=7) (by decide) (by decide)) (by decide))
  rw [e]
  rfl
theorem law_true (sn:Nat) (hn:sn≤63):Al (m_law sn law0) 2000 fun o=>o=.ret (.d (.bool true)):=by
  have hlen:(rngL 0 (maxI 3 (minI sn 20))).length≤20:=by
    rw [rngL_len]
    unfold maxI minI
    split <;> split <;> omega
  simp_arith [m_law,law0,ev_scr,ev_drw]
  refine al_bind (n:=240) (n':=0) (P:=fun o=>∃ K2 K3 K4 K5 K6 K7:Sl,o=.next [.un,.pen,K2,K3,K4,K5,K6,K7]) ?_ (by decide) ?_
  · refine al_for (n:=12) (fun ρ=>∃ K2 K3 K4 K5 K6 K7:Sl,ρ=[.un,.pen,K2,K3,K4,K5,K6,K7]) ⟨_,_,_,_,_,_,rfl⟩ (by omega) ?_ ?_
    · rintro x ρ hx ⟨K2,K3,K4,K5,K6,K7,rfl⟩
      refine ⟨_,rfl,al_mono (law_turn _ _ _ _ _ _) (by decide) ?_⟩
      rintro _ ⟨A2,A3,A4,A5,A6,A7,rfl⟩
      exact ⟨_,rfl,_,_,_,_,_,_,rfl⟩
    · rintro ρ ⟨K2,K3,K4,K5,K6,K7,rfl⟩
      exact ⟨_,_,_,_,_,_,rfl⟩
  · rintro _ ⟨K2,K3,K4,K5,K6,K7,rfl⟩
    simp_arith [ev_drw,sh07,sh64]
    exact al_ret rfl
end My
set_option Elab.async false
set_option linter.all false
set_option maxRecDepth 100000
open PySem PySem.W PyProof.Rows L2
set_option maxRecDepth 100000 in
set_option maxHeartbeats 0 in
theorem PySem.Challenge.cw_twomarks_k02_shares_made_holds : PySem.Challenge.rw_twomarks_k02_shares_made.Holds := by
  refine My.hd ?_
  k_fill
  refine L2.walk_ofK (l:=PySem.Challenge.rw_twomarks_k02_shares_made) (n:=63) (k:=4) (x:="_law_script") (CX:=CX0) (sp:=L2.spLaw) rfl (by decide) rfl ⟨rfl,by decide,by decide,rfl⟩ (fun w h Y=>PySem.W.kIn_of Y) ?F ?S ?C
  case F =>
    intro w mg fa h KX G hmg
    have d_is_whole:Def (L2.KOf KX) mg "is_whole" My.s_is_whole ["thing"]:=by
      dsimp only [L2.KOf]
      refine' L2.def_mk KX G ?a ?l ?c ?k ?b
      (case a=>k_is); (case l=>k_is); (case c=>k_is); (case k=>k_is)
      (case b=>intro _ _ _ _ _ _ us hl; obtain ⟨_,rfl⟩:=L2.len1 hl; rfl)
    have d_common_divisor:Def (L2.KOf KX) mg "common_divisor" My.s_common_divisor ["one","other"]:=by
      dsimp only [L2.KOf]
      refine' L2.def_mk KX G ?a ?l ?c ?k ?b
      (case a=>k_is); (case l=>k_is); (case c=>k_is); (case k=>k_is)
      (case b=>intro _ _ _ _ _ _ us hl; obtain ⟨_,_,rfl⟩:=L2.len2 hl; rfl)
    have d_is_share:Def (L2.KOf KX) mg "is_share" My.s_is_share ["thing"]:=by
      dsimp only [L2.KOf]
      refine' L2.def_mk KX G ?a ?l ?c ?k ?b
      (case a=>k_is); (case l=>k_is); (case c=>k_is); (case k=>k_is)
      (case b=>intro _ _ _ _ _ _ us hl; obtain ⟨_,rfl⟩:=L2.len1 hl; rfl)
    have d_share:Def (L2.KOf KX) mg "share" My.s_share ["top","bottom"]:=by
      dsimp only [L2.KOf]
      refine' L2.def_mk KX G ?a ?l ?c ?k ?b
      (case a=>k_is); (case l=>k_is); (case c=>k_is); (case k=>k_is)
      (case b=>intro _ _ _ _ _ _ us hl; obtain ⟨_,_,rfl⟩:=L2.len2 hl; rfl)
    have d__law_pen:Def (L2.KOf KX) mg "_law_pen" My.s__law_pen ["_law_script"]:=by
      dsimp only [L2.KOf]
      refine' L2.def_mk KX G ?a ?l ?c ?k ?b
      (case a=>k_is); (case l=>k_is); (case c=>k_is); (case k=>k_is)
      (case b=>intro _ _ _ _ _ _ us hl; obtain ⟨_,rfl⟩:=L2.len1 hl; rfl)
    have d__law_draw:Def (L2.KOf KX) mg "_law_draw" My.s__law_draw ["_law_pen_here","_law_most"]:=by
      dsimp only [L2.KOf]
      refine' L2.def_mk KX G ?a ?l ?c ?k ?b
      (case a=>k_is); (case l=>k_is); (case c=>k_is); (case k=>k_is)
      (case b=>intro _ _ _ _ _ _ us hl; obtain ⟨_,_,rfl⟩:=L2.len2 hl; rfl)
    have d__law_number:Def (L2.KOf KX) mg "_law_number" My.s__law_number ["_law_pen_here"]:=by
      dsimp only [L2.KOf]
      refine' L2.def_mk KX G ?a ?l ?c ?k ?b
      (case a=>k_is); (case l=>k_is); (case c=>k_is); (case k=>k_is)
      (case b=>intro _ _ _ _ _ _ us hl; obtain ⟨_,rfl⟩:=L2.len1 hl; rfl)
    have d__law_divisor:Def (L2.KOf KX) mg "_law_divisor" My.s__law_divisor ["_law_one","_law_other"]:=by
      dsimp only [L2.KOf]
      refine' L2.def_mk KX G ?a ?l ?c ?k ?b
      (case a=>k_is); (case l=>k_is); (case c=>k_is); (case k=>k_is)
      (case b=>intro _ _ _ _ _ _ us hl; obtain ⟨_,_,rfl⟩:=L2.len2 hl; rfl)
    have d__law_lowest:Def (L2.KOf KX) mg "_law_lowest" My.s__law_lowest ["_law_top","_law_bottom"]:=by
      dsimp only [L2.KOf]
      refine' L2.def_mk KX G ?a ?l ?c ?k ?b
      (case a=>k_is); (case l=>k_is); (case c=>k_is); (case k=>k_is)
      (case b=>intro _ _ _ _ _ _ us hl; obtain ⟨_,_,rfl⟩:=L2.len2 hl; rfl)
    have d__law_refused:Def (L2.KOf KX) mg "_law_refused" My.s__law_refused ["_law_top"]:=by
      dsimp only [L2.KOf]
      refine' L2.def_mk KX G ?a ?l ?c ?k ?b
      (case a=>k_is); (case l=>k_is); (case c=>k_is); (case k=>k_is)
      (case b=>intro _ _ _ _ _ _ us hl; obtain ⟨_,rfl⟩:=L2.len1 hl; rfl)
    have d__law_right:Def (L2.KOf KX) mg "_law_right" My.s__law_right ["_law_top","_law_bottom"]:=by
      dsimp only [L2.KOf]
      refine' L2.def_mk KX G ?a ?l ?c ?k ?b
      (case a=>k_is); (case l=>k_is); (case c=>k_is); (case k=>k_is)
      (case b=>intro _ _ _ _ _ _ us hl; obtain ⟨_,_,rfl⟩:=L2.len2 hl; rfl)
    have d_law:Def (L2.KOf KX) mg "law" My.s_law ["_law_script"]:=by
      dsimp only [L2.KOf]
      refine' L2.def_mk KX G ?a ?l ?c ?k ?b
      (case a=>k_is); (case l=>k_is); (case c=>k_is); (case k=>k_is)
      (case b=>intro _ _ _ _ _ _ us hl; obtain ⟨_,rfl⟩:=L2.len1 hl; rfl)
    have x_err:∃ C D a0 a1 a2 a3 a4 a5 a6:Addr,mg "NoShare"=some (.ref C)∧mg "ShopError"=some (.ref D)∧mg "NoBack"=some (.ref a0)∧mg "NoFall"=some (.ref a1)∧mg "NoLevel"=some (.ref a2)∧mg "NoMean"=some (.ref a3)∧mg "NoRow"=some (.ref a4)∧mg "NoStand"=some (.ref a5)∧mg "NoText"=some (.ref a6)∧L2.Exc (L2.KOf KX) C D [a0,a1,a2,a3,a4,a5,a6]:=by
      dsimp only [L2.KOf]
      refine' My.err_mk KX G ?c ?d ?z0 ?z1 ?z2 ?z3 ?z4 ?z5 ?z6 ?q ?q2 ?u ?v ?y
      (case c=>k_is); (case d=>k_is); (case z0=>k_is); (case z1=>k_is); (case z2=>k_is); (case z3=>k_is); (case z4=>k_is); (case z5=>k_is); (case z6=>k_is)
      (case q=>kernel_rfl!); (case q2=>kernel_rfl!); (case u=>kernel_rfl!); (case v=>kit_is); (case y=>kit_is)
    have T:My.Txt (L2.KOf KX) mg:=by
      dsimp only [L2.KOf] at *
      refine' My.txt_mk KX G ?z_len ?z_abs ?z_max ?z_min ?z_repr ?z_int ?z_list ?z_tuple ?z_bool ?z_range ?z_isinstance ?z_ValueError  d_is_whole d_common_divisor d_is_share d_share d__law_pen d__law_draw d__law_number d__law_divisor d__law_lowest d__law_refused d__law_right d_law x_err
      (case z_len=>k_is)
      (case z_abs=>k_is)
      (case z_max=>k_is)
      (case z_min=>k_is)
      (case z_repr=>k_is)
      (case z_int=>k_is)
      (case z_list=>k_is)
      (case z_tuple=>k_is)
      (case z_bool=>k_is)
      (case z_range=>k_is)
      (case z_isinstance=>k_is)
      (case z_ValueError=>k_is)
    obtain ⟨f,fd,F,hm,_⟩:=T.d_law.ex
    have e0:=hmg.symm.trans hm
    cases e0
    refine ⟨fd,?_,fun base _ _=>My.ok_law T F (fun sn hn=>L2.Tr.ok_mono (L2.Tr.all_ok (My.law_true sn hn).out (by decide)) fun _ _ h=>h.2)⟩
    obtain ⟨oc,od,kV,doc,pm,an,cdv,ct,osl,rfl,lk,hcd⟩:=F.ex
    exact fun s u=>.of_eq rfl
  case S=>exact fun K H a ns hl _ hS=>⟨a,ns,rfl,hS,hl,fun _=>rfl⟩
  case C=>exact fun _ _ _ _ z=>z

