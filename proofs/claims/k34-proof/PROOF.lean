import PyProof.Rows.All
import Wide.All
import OpenK.AllK
import Wide.FinOn
import Lean
import PyProof.EqAt
import PyProof.EqKinds
import PyProof.TupleCall
import PySem.Challenge.RW_twomarks_k34_whole_no_marks_at_all
set_option Elab.async false
set_option linter.all false
set_option maxRecDepth 100000
namespace L2
open PySem PySem.Spec PyProof.Rows
noncomputable abbrev Key:=Sum Int Str
noncomputable def keyIs:Key→Value→Bool
  | .inl k,v=>Value.isInt k v
  | .inr x,v=>Value.isStrOf x v
noncomputable def keyH (w:World):Key→Int
  | .inl k=>hashInt k
  | .inr x=>hashStr w x
theorem keyIs_shape:∀ {k:Key} {v:Value},keyIs k v=true→(∃ i t,k=Sum.inl i∧v=Value.int i t)∨(∃ x t,k=Sum.inr x∧v=Value.str x t)
  | .inl i,v,h=>by
    obtain ⟨t,e⟩:=Value.isInt_shape (k:=i) (v:=v) h
    exact .inl ⟨i,t,rfl,e⟩
  | .inr x,v,h=>by
    obtain ⟨t,e⟩:=Value.isStrOf_shape (x:=x) (v:=v) h
    exact .inr ⟨x,t,rfl,e⟩
theorem keyIs_int (i:Int) (t:Tok):keyIs (.inl i) (.int i t)=true:=by simp [keyIs,Value.isInt]
theorem keyIs_str (x:Str) (t:Tok):keyIs (.inr x) (.str x t)=true:=by simp [keyIs,Value.isStrOf]
theorem key_ll (a b:Int):decide ((Sum.inl a:Key)=Sum.inl b)=(a == b):=by
  by_cases e:a=b
  · subst e; simp
  · have h:¬ (Sum.inl a:Key)=Sum.inl b:=fun q=>e (Sum.inl.inj q)
    rw [decide_eq_false h]
    exact (beq_eq_false_iff_ne.mpr e).symm
theorem key_rr (a b:Str):decide ((Sum.inr a:Key)=Sum.inr b)=decide (a=b):=by
  by_cases e:a=b
  · subst e; simp
  · have h:¬ (Sum.inr a:Key)=Sum.inr b:=fun q=>e (Sum.inr.inj q)
    rw [decide_eq_false h,decide_eq_false e]
theorem key_lr (a:Int) (b:Str):decide ((Sum.inl a:Key)=Sum.inr b)=false:=decide_eq_false (fun q=>nomatch q)
theorem key_rl (a:Str) (b:Int):decide ((Sum.inr a:Key)=Sum.inl b)=false:=decide_eq_false (fun q=>nomatch q)

noncomputable def mixKind (prog:Program) (w:World):PySem.KeyKind prog w Key where
  is:=keyIs
  hash:=keyH w
  inj:=fun v a b ha hb=>by
    rcases keyIs_shape ha with ⟨i,t,rfl,rfl⟩ | ⟨x,t,rfl,rfl⟩
    · rcases keyIs_shape hb with ⟨j,u,rfl,e⟩ | ⟨y,u,rfl,e⟩
      · injection e with e1 _; rw [e1]
      · exact nomatch e
    · rcases keyIs_shape hb with ⟨j,u,rfl,e⟩ | ⟨y,u,rfl,e⟩
      · exact nomatch e
      · injection e with e1 _; rw [e1]
  byValue:=fun k v h=>by
    rcases keyIs_shape h with ⟨i,t,rfl,rfl⟩ | ⟨x,t,rfl,rfl⟩ <;> rfl
  pyHash:=fun hv h=>by
    rcases keyIs_shape hv with ⟨i,t,rfl,rfl⟩ | ⟨x,t,rfl,rfl⟩
    · exact wpAny_pyHash_int h
    · exact wpAny_pyHash_str h
  eqBool:=fun hu hv h=>by
    rcases keyIs_shape hu with ⟨i,t,rfl,rfl⟩ | ⟨x,t,rfl,rfl⟩
    · rcases keyIs_shape hv with ⟨j,u,rfl,rfl⟩ | ⟨y,u,rfl,rfl⟩
      · rw [key_ll] at h; exact wpAny_eqBool_int h
      · rw [key_lr] at h; exact SeqAt.EqAt.int_str i t y u _ _ _ _ h
    · rcases keyIs_shape hv with ⟨j,u,rfl,rfl⟩ | ⟨y,u,rfl,rfl⟩
      · rw [key_rl] at h; exact SeqAt.EqAt.str_int x t j u _ _ _ _ h
      · rw [key_rr] at h; exact wpAny_eqBool_str h
  «strs»:=fun k x t v h=>by
    rcases keyIs_shape h with ⟨i,u,rfl,e⟩ | ⟨y,u,rfl,e⟩
    · exact nomatch e
    · injection e with e1 _
      subst e1
      cases v <;> rfl

theorem mixKind_int (prog:Program) (w:World) (i:Int) (t:Tok):(mixKind prog w).is (.inl i) (.int i t)=true:=keyIs_int i t
theorem mixKind_str (prog:Program) (w:World) (x:Str) (t:Tok):(mixKind prog w).is (.inr x) (.str x t)=true:=keyIs_str x t
end L2
namespace L2
open PySem PySem.Spec PyProof.Rows
inductive V where
  | non | bl (b:Bool) | int (i:Int) | str (x:Str) | byt (b:Array UInt8) | flt (b:UInt64) | ref (a:Addr) | ty (n:String)
  deriving DecidableEq

noncomputable def RelV:V→Value→Prop
  | .non,u=>u=Value.none
  | .bl b,u=>u=Value.bool b
  | .int i,u=>∃ t,u=Value.int i t
  | .str x,u=>∃ t,u=Value.str x t
  | .byt b,u=>∃ t,u=Value.bytes b t
  | .flt b,u=>∃ t,u=Value.float b t
  | .ref a,u=>u=Value.ref a
  | .ty n,u=>u=Value.type n

noncomputable abbrev Vals:List V→List Value→Prop:=Paired RelV
theorem Vals.length {xs:List V} {us:List Value} (r:Vals xs us):xs.length=us.length:=Paired.length r
theorem Vals.get {xs:List V} {us:List Value} {i:Nat} {x:V} (h:Vals xs us) (e:xs[i]?=some x):∃ u,us[i]?=some u∧RelV x u:=by
  induction h generalizing i with
  | nil=>cases e
  | cons r t ih=>cases i with | zero=>cases e; exact ⟨_,rfl,r⟩ | succ i=>exact ih (i:=i) e
theorem Vals.set {x:V} {u:Value} (r:RelV x u) {xs:List V} {us:List Value} (i:Nat) (h:Vals xs us):Vals (xs.set i x) (us.set i u):=by
  induction h generalizing i with
  | nil=>exact .nil
  | cons q t ih=>cases i with | zero=>exact .cons r t | succ i=>exact .cons q (ih i)
theorem Vals.append {xs ys:List V} {us ws:List Value} (h:Vals xs us) (s:Vals ys ws):Vals (xs++ys) (us++ws):=by
  induction h with
  | nil=>exact s
  | cons r t ih=>exact .cons r ih
theorem Vals.take {xs:List V} {us:List Value} (n:Nat) (h:Vals xs us):Vals (xs.take n) (us.take n):=by
  induction h generalizing n with
  | nil=>rw [List.take_nil,List.take_nil]; exact .nil
  | cons r t ih=>cases n with | zero=>exact .nil | succ n=>exact .cons r (ih n)
theorem Vals.drop {xs:List V} {us:List Value} (n:Nat) (h:Vals xs us):Vals (xs.drop n) (us.drop n):=by
  induction h generalizing n with
  | nil=>rw [List.drop_nil,List.drop_nil]; exact .nil
  | cons r t ih=>cases n with | zero=>exact .cons r t | succ n=>exact ih n
noncomputable def RelO:Option V→Option Value→Prop
  | some v,some u=>RelV v u
  | none,none=>True
  | _,_=>False
noncomputable def KV {κ:Type}:List (κ×V)→List (κ×Value)→Prop:=Paired fun (p:κ×V) (q:κ×Value)=>p.1=q.1∧RelV p.2 q.2

noncomputable def kV:Key→V
  | .inl i=>.int i
  | .inr x=>.str x

inductive HO where
  /-- a list -/
  | lst (xs:List V)
  /-- a tuple (never changes) -/
  | tup (xs:List V)
  /-- a dict whose keys are ints and texts; one whose keys are tuples of ints and texts (the empty one is both) -/
  | dK (kvs:List (Key×V)) | dT (kvs:List (List Key×V))
  /-- a set of ints: its members,its size -/
  | set (S:Int→Bool) (n:Nat)
  /-- an instance of the class at C,its dict at dx,its attributes -/
  | ins (C dx:Addr) (fs:List (Str×V))
  /-- the dict of the instance at x -/
  | own (x:Addr)
  /-- the dict of an exception -/
  | xd (fs:List (Str×V))
  /-- a bound method,f of x -/
  | met (f x:Addr)
  /-- a range object lo,lo+1,.. below hi -/
  | rng (lo hi:Int)
  /-- a thing that is known to the object (the script; a dict while a loop walks it): read,never written while it is so -/
  | frz (o:Obj) (u:HO)
  /-- a code object's table -/
  | tbl (ps:Array Value)
  /-- any other thing,by what is true of its one object (a def of one's own: SetO a S n:=HO.ext fun h=>..) -/
  | ext (φ:Heap→Prop)

noncomputable abbrev Hp:=Addr→Option HO
noncomputable def upd (H:Hp) (a:Addr) (o:HO):Hp:=fun b=>if b=a then some o else H b
theorem upd_same {H:Hp} {a:Addr} {o:HO}:upd H a o a=some o:=by unfold upd; rw [if_pos rfl]
theorem upd_ne {H:Hp} {a b:Addr} {o:HO} (h:b≠a):upd H a o b=H b:=by unfold upd; rw [if_neg h]
theorem ne_of {H:Hp} {a b:Addr} {o u:HO} (h:H a=some o) (h':H b=some u) (d:o≠u):a≠b:=by
  intro e; subst e; rw [h] at h'; exact d (Option.some.inj h')
theorem ne_of_none {H:Hp} {a b:Addr} {o:HO} (h:H a=some o) (h':H b=none):a≠b:=by
  intro e; subst e; rw [h] at h'; cases h'

section
variable (P:Program) (w:World)
noncomputable def ObjOk (H:Hp) (h:Heap) (a:Addr):HO→Prop
  | .lst xs=>xs.length≤sizeLine∧∃ (its:List Value) (n:Nat),Vals xs its∧h.get? a=some { cls:=.type "list",data:=.seq its.toArray n }
  | .tup xs=>xs.length≤sizeLine∧∃ its:List Value,Vals xs its∧IsTup h a its.toArray
  | .dK kvs=>kvs.length≤sizeLine∧(a == sysModules)=false∧∃ vs,KV kvs vs∧h.DictOf (mixKind P w) a vs
  | .dT kvs=>kvs.length≤sizeLine∧(a == sysModules)=false∧∃ xs:List (List Key×Addr×Value),
      Paired (fun (p:List Key×V) (q:List Key×Addr×Value)=>p.1=q.1∧H q.2.1=some (.tup (p.1.map kV))∧RelV p.2 q.2.2) kvs xs ∧
      ∃ o es ep,h.get? a=some o∧o.ExactDict∧o.data=.dict es ep∧es.toList=xs.map (entryOfKey (tupleKind (mixKind P w)))∧(xs.map (·.1)).Nodup
  | .set S n=>h.SetOf (intKind P w) a S n
  | .ins C dx fs=>H dx=some (.own a)∧fs.length≤1000∧dx≠a∧h.get? a=some (PySem.W.instObj C dx) ∧
      ∃ mA,h.Ns1 dx mA∧(∀ f,RelO (fs.lookup f) (mA f))∧PySem.Within mA (fs.map (·.1))
  | .own _=>∃ o,h.get? a=some o
  | .xd fs=>∃ mA,h.Ns1 a mA∧∀ f,RelO (fs.lookup f) (mA f)
  | .rng lo hi=>∃ t u v,h.get? a=some { cls:=.type "range",data:=.fields #[.int lo t,.int hi u,.int 1 v] }
  | .frz o u=>h.get? a=some o∧ObjOk H h a u
  | .tbl ps=>h.get? a=some { cls:=.none,data:=.fields ps }
  | .met f x=>h.get? a=some (PySem.W.methodObj (.ref f) (.ref x))
  | .ext φ=>φ h∧(∃ o,h.get? a=some o)∧∀ h1 h2:Heap,φ h1→(∀ o,h1.get? a=some o→h2.get? a=some o)→φ h2
noncomputable def HOk (H:Hp) (h:Heap):Prop:=∀ a o,H a=some o→ObjOk P w H h a o
end
section
variable {P:Program} {w:World} {H H':Hp} {h h':Heap} {a:Addr} {o:HO}
theorem ObjOk.lt (x:ObjOk P w H h a o):a < h.objs.size:=by
  cases o with
  | lst xs=>obtain ⟨_,_,_,_,e⟩:=x; exact Heap.lt_size e
  | tup xs=>obtain ⟨_,_,_,p⟩:=x; exact p.lt
  | dK kvs=>obtain ⟨_,_,_,_,o,_,_,e,_⟩:=x; exact Heap.lt_size e
  | dT kvs=>obtain ⟨_,_,_,_,o,_,_,e,_⟩:=x; exact Heap.lt_size e
  | set S n=>obtain ⟨o,_,_,_,e,_⟩:=x; exact Heap.lt_size e
  | ins C dx fs=>obtain ⟨_,_,_,e,_⟩:=x; exact Heap.lt_size e
  | own y=>obtain ⟨_,e⟩:=x; exact Heap.lt_size e
  | xd fs=>obtain ⟨_,⟨_,_,_,e,_⟩,_⟩:=x; exact Heap.lt_size e
  | rng lo hi=>obtain ⟨_,_,_,e⟩:=x; exact Heap.lt_size e
  | frz ob u=>obtain ⟨e,_⟩:=x; exact Heap.lt_size e
  | tbl ps=>exact Heap.lt_size (show h.get? a=some _ from x)
  | met f y=>exact Heap.lt_size (show h.get? a=some _ from x)
  | ext φ=>obtain ⟨_,⟨_,e⟩,_⟩:=x; exact Heap.lt_size e
theorem Paired.mapP {α β:Type} {F G:α→β→Prop} {l₁:List α} {l₂:List β} (h:Paired F l₁ l₂) (f:∀ a b,F a b→G a b):Paired G l₁ l₂:=by
  induction h with
  | nil=>exact .nil
  | cons r t ih=>exact .cons (f _ _ r) ih
theorem ObjOk.stay (x:ObjOk P w H h a o) (k:∀ b u,(b=a∨H b=some (.own a))→h.get? b=some u→h'.get? b=some u)
    (ho:∀ b,H b=some (.own a)→H' b=some (.own a)) (ht:∀ b xs,H b=some (.tup xs)→H' b=some (.tup xs)):ObjOk P w H' h' a o:=by
  induction o with
  | lst xs=>obtain ⟨z,its,n,r,e⟩:=x; exact ⟨z,its,n,r,k _ _ (.inl rfl) e⟩
  | tup xs=>obtain ⟨z,its,r,ob,e,c⟩:=x; exact ⟨z,its,r,ob,k _ _ (.inl rfl) e,c⟩
  | dK kvs=>obtain ⟨z,y,vs,r,ob,es,ep,e,c⟩:=x; exact ⟨z,y,vs,r,ob,es,ep,k _ _ (.inl rfl) e,c⟩
  | dT kvs =>
    obtain ⟨z,y,xs,r,ob,es,ep,e,c⟩:=x
    exact ⟨z,y,xs,Paired.mapP r fun p q z=>⟨z.1,ht _ _ z.2.1,z.2.2⟩,ob,es,ep,k _ _ (.inl rfl) e,c⟩
  | set S n=>obtain ⟨ob,es,ep,t,e,c⟩:=x; exact ⟨ob,es,ep,t,k _ _ (.inl rfl) e,c⟩
  | ins C dx fs =>
    obtain ⟨d,z,ne,e,mA,⟨od,es,ep,e2,c⟩,r⟩:=x
    exact ⟨ho _ d,z,ne,k _ _ (.inl rfl) e,mA,⟨od,es,ep,k _ _ (.inr d) e2,c⟩,r⟩
  | own y=>obtain ⟨ob,e⟩:=x; exact ⟨ob,k _ _ (.inl rfl) e⟩
  | xd fs=>obtain ⟨mA,⟨od,es,ep,e,c⟩,r⟩:=x; exact ⟨mA,⟨od,es,ep,k _ _ (.inl rfl) e,c⟩,r⟩
  | rng lo hi=>obtain ⟨t,u,v,e⟩:=x; exact ⟨t,u,v,k _ _ (.inl rfl) e⟩
  | frz ob u ih=>obtain ⟨e,q⟩:=x; exact ⟨k _ _ (.inl rfl) e,ih q⟩
  | tbl ps =>
    have e:h.get? a=some { cls:=.none,data:=.fields ps }:=x
    show h'.get? a=some { cls:=.none,data:=.fields ps }
    exact k a _ (.inl rfl) e
  | met f y =>
    have e:h.get? a=some (PySem.W.methodObj (.ref f) (.ref y)):=x
    show h'.get? a=some (PySem.W.methodObj (.ref f) (.ref y))
    exact k a _ (.inl rfl) e
  | ext φ=>obtain ⟨p,⟨o,e⟩,st⟩:=x; exact ⟨st _ _ p fun o q=>k _ _ (.inl rfl) q,⟨o,k _ _ (.inl rfl) e⟩,st⟩
theorem HOk.lt (x:HOk P w H h) (e:H a=some o):a < h.objs.size:=(x a o e).lt
theorem HOk.fresh (x:HOk P w H h) (e:h.objs.size≤a):H a=none:=by
  cases q:H a with
  | none=>rfl
  | some u=>exact absurd (Nat.lt_of_lt_of_le (x.lt q) e) (Nat.lt_irrefl _)
theorem HOk.kept (x:HOk P w H h) (k:∀ b u,h.get? b=some u→h'.get? b=some u):HOk P w H h':=fun a o e =>
  (x a o e).stay (fun b u _ q=>k b u q) (fun _ q=>q) fun _ _ q=>q
theorem HOk.laid (x:HOk P w H h) (k:∀ b u,h.get? b=some u→h'.get? b=some u) (hp:h.objs.size≤a) (new:ObjOk P w (upd H a o) h' a o):HOk P w (upd H a o) h':=fun b u e=>by
  have hn:=x.fresh hp
  by_cases hb:b=a
  · subst hb; rw [upd_same] at e; cases e; exact new
  · rw [upd_ne hb] at e
    exact (x b u e).stay (fun c v _ q=>k c v q) (fun c q=>by rw [upd_ne (ne_of_none q hn)]; exact q) fun c xs q=>by rw [upd_ne (ne_of_none q hn)]; exact q
end
noncomputable def Rd (H:Hp) (a:Addr) (u:HO):Prop:=H a=some u∨∃ o,H a=some (.frz o u)
theorem Rd.ok {P:Program} {w:World} {H:Hp} {h:Heap} {a:Addr} {u:HO} (r:Rd H a u) (x:HOk P w H h):ObjOk P w H h a u:=by
  rcases r with r | ⟨o,r⟩
  · exact x a u r
  · obtain ⟨_,q⟩:=x a _ r
    exact q
noncomputable def Mut:Option HO→Prop
  | some (.lst _)=>True
  | some (.dK _)=>True
  | some (.dT _)=>True
  | some (.set _ _)=>True
  | some (.ins _ _ _)=>True
  | some (.ext _)=>True
  | _=>False
section
variable {P:Program} {w:World} {H:Hp} {h h':Heap} {x e:Addr} {o':HO}
theorem HOk.write (ok:HOk P w H h) (mu:Mut (H x)) (he:e=x∨H e=some (.own x)) (k:∀ b u,b≠e→h.get? b=some u→h'.get? b=some u) (heo:∃ u,h'.get? e=some u)
    (new:ObjOk P w (upd H x o') h' x o'):HOk P w (upd H x o') h':=fun b u q=>by
  have nown:∀ c y,H c=some (.own y)→c≠x:=fun c y r z=>by subst z; rw [r] at mu; exact mu
  have ntup:∀ c xs,H c=some (.tup xs)→c≠x:=fun c xs r z=>by subst z; rw [r] at mu; exact mu
  by_cases hb:b=x
  · subst hb; rw [upd_same] at q; cases q; exact new
  · rw [upd_ne hb] at q
    by_cases hbe:b=e
    · have q':H b=some (.own x):=by
        rcases he with z | z
        · exact absurd (hbe.trans z) hb
        · rw [hbe]; exact z
      rw [q] at q'; cases q'
      obtain ⟨v,hv⟩:=heo
      exact ⟨v,by rw [hbe]; exact hv⟩
    · refine (ok b u q).stay (fun c v hc r=>k c v ?_ r) (fun c r=>by rw [upd_ne (nown c b r)]; exact r) fun c xs r=>by rw [upd_ne (ntup c xs r)]; exact r
      rcases hc with rfl | hc
      · exact hbe
      · rintro rfl
        rcases he with z | z
        · exact nown c b hc z
        · rw [hc] at z; cases z; exact hb rfl
end
structure Un (fs ex:List Addr) (H H':Hp) (h h':Heap):Prop where
  keep:∀ b o,h.get? b=some o→H b=none→b ∉ fs→b ∉ ex→h'.get? b=some o
  slot:∀ b o,h.get? b=some o→H b=none→b∈fs→b ∉ ex→∃ sl,h'.get? b=some { o with slots:=sl }
  free:∀ b o,h.get? b=some o→H b=none→b ∉ ex→H' b=none
  there:∀ b o,h.get? b=some o→b ∉ ex→∃ o',h'.get? b=some o'
  tups:∀ b xs,H b=some (.tup xs)→H' b=some (.tup xs)
  frzs:∀ b o u,H b=some (.frz o u)→H' b=some (.frz o u)
  tbls:∀ b ps,H b=some (.tbl ps)→∃ more,H' b=some (.tbl (ps++more))
section
variable {fs fs' ex ex':List Addr} {H H1 H2:Hp} {h h1 h2 h':Heap} {a x e:Addr} {o:HO}
theorem Un.any (u:Un fs ex H H1 h h1) {b:Addr} {ob:Obj} (q:h.get? b=some ob) (n:H b=none) (hx:b ∉ ex):∃ sl,h1.get? b=some { ob with slots:=sl }:=by
  by_cases hb:b∈fs
  · exact u.slot b ob q n hb hx
  · exact ⟨ob.slots,u.keep b ob q n hb hx⟩
theorem Un.kept (k:∀ b u,h.get? b=some u→h'.get? b=some u):Un fs ex H H h h' :=
  ⟨fun b ob q _ _ _=>k b ob q,fun b ob q _ _ _=>⟨ob.slots,k b ob q⟩,fun _ _ _ n _=>n,fun b ob q _=>⟨ob,k b ob q⟩,fun _ _ q=>q,fun _ _ _ q=>q,fun _ ps q=>⟨#[],by rw [q]; simp⟩⟩
theorem Un.refl:Un fs ex H H h h:=Un.kept fun _ _ q=>q
theorem Un.laid (k:∀ b u,h.get? b=some u→h'.get? b=some u) (hp:h.objs.size≤a) (hn:H a=none):Un fs ex H (upd H a o) h h' where
  keep:=fun b u q _ _ _=>k b u q
  slot:=fun b u q _ _ _=>⟨u.slots,k b u q⟩
  free:=fun b u q n _=>by rw [upd_ne (Nat.ne_of_lt (Nat.lt_of_lt_of_le (Heap.lt_size q) hp))]; exact n
  there:=fun b u q _=>⟨u,k b u q⟩
  tups:=fun b xs q=>by rw [upd_ne (ne_of_none q hn)]; exact q
  frzs:=fun b u xs q=>by rw [upd_ne (ne_of_none q hn)]; exact q
  tbls:=fun b ps q=>⟨#[],by rw [upd_ne (ne_of_none q hn),q]; simp⟩
theorem Un.write (mu:Mut (H x)) (he:e=x∨H e=some (.own x)) (k:∀ b u,b≠e→h.get? b=some u→h'.get? b=some u) (heo:∃ u,h'.get? e=some u):Un fs ex H (upd H x o) h h':=by
  have hx:∀ b,H b=none→b≠x:=fun b n z=>by subst z; rw [n] at mu; exact mu
  have hb:∀ b,H b=none→b≠e:=fun b n z=>by
    subst z
    rcases he with r | r
    · exact hx b n r
    · rw [n] at r; cases r
  have hm:∀ b u,H b=some u→¬ Mut (some u)→b≠x:=fun b u q nm z=>by subst z; rw [q] at mu; exact nm mu
  refine ⟨fun b u q n _ _=>k b u (hb b n) q,fun b u q n _ _=>⟨u.slots,k b u (hb b n) q⟩,fun b u q n _=>by rw [upd_ne (hx b n)]; exact n,fun b u q _=>?_,
    fun b xs q=>by rw [upd_ne (hm b _ q fun z=>z)]; exact q,fun b u xs q=>by rw [upd_ne (hm b _ q fun z=>z)]; exact q,fun b ps q=>⟨#[],by rw [upd_ne (hm b _ q fun z=>z),q]; simp⟩⟩
  by_cases hbe:b=e
  · subst hbe; exact heo
  · exact ⟨u,k b u hbe q⟩
end
noncomputable def trk (h:Heap) (H:Hp):List Addr:=(List.range h.objs.size).filter fun a=>(H a).isSome
noncomputable def hidT (h:Heap) (H:Hp):Heap:=PySem.W.hideAll h (trk h H)
theorem hidT_size (h:Heap) (H:Hp):(hidT h H).objs.size=h.objs.size:=PySem.W.hideAll_size _ _
theorem hidT_get {h:Heap} {H:Hp} {b:Addr} {o:Obj} (e:h.get? b=some o) (n:H b=none):(hidT h H).get? b=some o :=
  PySem.W.hideAll_get _ e fun hm=>by
    have q:(H b).isSome=true:=(List.mem_filter.mp hm).2
    rw [n] at q; simp at q
theorem of_hidT {h:Heap} {H:Hp} {b:Addr} {o:Obj} (e:(hidT h H).get? b=some o):h.get? b=some o∧H b=none:=by
  have e':h.get? b=some o:=PySem.W.of_hideAll (trk h H) e
  refine ⟨e',?_⟩
  cases q:H b with
  | none=>rfl
  | some x =>
    have hm:b∈trk h H:=List.mem_filter.mpr ⟨List.mem_range.mpr (Heap.lt_size e'),by simp [q]⟩
    have z:(hidT h H).get? b=none:=PySem.W.hideAll_none (trk h H) hm
    rw [z] at e; cases e

noncomputable def allNews (g h:Heap) (L:Addr):List (Addr×Obj):=(List.range h.objs.size).filterMap fun a=>if a=L∨(g.get? a).isSome=true then none else (h.get? a).map fun o=>(a,o)
noncomputable def rest (g h:Heap) (L d:Addr):List (Addr×Obj):=(allNews g h L).filter fun p=>decide (p.1≠d)
end L2
namespace L2
open PySem PySem.Spec PyProof.Rows
structure Mod (K:PySem.W.Frag) (mg:Str→Option Value) (base:Heap):Prop where
  kin:K.In base
  glob:base.Ns mainGlobals mg
  blt:∃ mb,base.Ns builtinsNs mb∧∀ x:Str,x≠"__name__"→mb x=bootBuiltins x
  nolimit:base.NoLimit

structure Cx where
  prog:Program
  w:World
  K:PySem.W.Frag
  mg:Str→Option Value
  base:Heap
  A:Around
  N:List Str
  s₀:Shared
  H₀:Hp
  env:Env
  outer:List Env
  stack:List Env
  ex:List Addr
  fn:Str→Bool
  calm:Bool
  pn:List (Addr×Obj)
  xe:Value→Shared→Prop
noncomputable def frs (l:List Env):List Addr:=l.filterMap (·.frame)
noncomputable abbrev Cx.fs (X:Cx):List Addr:=frs X.outer

noncomputable def Vis (sc:Scope) (x:Str):Prop:=sc.names.lookup x=some .local∨sc.names.lookup x=some .cell∨sc.names.lookup x=some .free
noncomputable def Loc (sc:Scope) (x:Str):Prop:=sc.names.lookup x=some .local∨sc.names.lookup x=some .cell
noncomputable def Look (env:Env) (h:Heap) (m:Str→Option Value) (x:Str) (u:Value):Prop :=
  (env.kindOf x=some .local∧m x=some u)∨((env.kindOf x=some .cell∨env.kindOf x=some .free)∧∃ c,env.cells.lookup x=some c∧h.IsCell c (some u))

structure Cx.Ok (X:Cx):Prop where
  mod:Mod X.K X.mg X.base
  kind:X.env.scope.kind=.function
  glob:X.env.globals=mainGlobals
  blt:X.env.builtins=builtinsNs
  above:X.s₀.heap.objs.size≤X.env.locals
  inj:∀ x y c,X.env.cells.lookup x=some c→X.env.cells.lookup y=some c→x=y
  has:∀ x,(X.env.kindOf x=some .cell∨X.env.kindOf x=some .free)→∃ c,X.env.cells.lookup x=some c
  cab:∀ x c,X.fn x=true→X.env.cells.lookup x=some c→X.s₀.heap.objs.size≤c
  hd:X.calm=true→X.A.handled=none
  frames:X.A.frames=some X.stack
  stk:X.stack=X.outer∨(X.stack=X.env::X.outer∧X.env.frame=some X.env.locals)
  exf:∀ b∈X.ex,b≠X.env.locals∧∀ x c,X.env.cells.lookup x=some c→c≠b
  bs:∀ b o,X.base.get? b=some o→X.s₀.heap.get? b=some o∧X.H₀ b=none
  bsz:X.base.objs.size≤X.s₀.heap.objs.size
  noex:∀ b o,X.base.get? b=some o→b ∉ X.ex
  exfs:∀ b∈X.ex,b ∉ X.fs
  funs:X.s₀.heap.FunFrames X.base X.outer
  frf:∀ b∈X.fs,X.H₀ b=none

structure Inv (X:Cx) (pins:List (Addr×Obj)) (σ:List (Option V)) (H:Hp) (s:Shared):Prop where
  ok:X.Ok
  os:s.os=X.s₀.os
  bare:AllBare s.gens
  base:Un X.fs X.ex X.H₀ H X.s₀.heap s.heap
  loc:∃ m,s.heap.Ns X.env.locals m∧∀ (i:Nat) (x:Str) (v:V),X.N[i]?=some x→σ[i]?=some (some v)→Vis X.env.scope x→∃ u,RelV v u∧Look X.env s.heap m x u
  cell:∀ x c,X.env.cells.lookup x=some c→∃ v,s.heap.IsCell c v
  free:H X.env.locals=none
  freeC:∀ x c,X.env.cells.lookup x=some c→H c=none
  pin:∀ p∈X.pn++pins,s.heap.get? p.1=some p.2∧H p.1=none∧p.1≠X.env.locals∧p.1 ∉ X.fs∧∀ v,p.2.data≠.cell v
  hok:HOk X.prog X.w H s.heap
  len:σ.length=X.N.length

section
variable {X:Cx} {pins:List (Addr×Obj)} {σ:List (Option V)} {H H':Hp} {s:Shared} {h':Heap}
theorem Cx.Ok.nofr (ok:X.Ok) {b:Addr} {o:Obj} (e:X.base.get? b=some o):b ∉ X.fs:=fun hb=>by
  have:=(ok.funs.mem hb).1
  rw [e] at this; cases this
theorem Inv.bs (I:Inv X pins σ H s):∀ b o,X.base.get? b=some o→s.heap.get? b=some o∧H b=none:=fun b o e =>
  ⟨I.base.keep b o (I.ok.bs b o e).1 (I.ok.bs b o e).2 (I.ok.nofr e) (I.ok.noex b o e),I.base.free b o (I.ok.bs b o e).1 (I.ok.bs b o e).2 (I.ok.noex b o e)⟩
theorem Inv.bk (I:Inv X pins σ H s):∀ b o,X.base.get? b=some o→s.heap.get? b=some o:=fun b o e=>(I.bs b o e).1
theorem Inv.mod (I:Inv X pins σ H s):Mod X.K X.mg X.base:=I.ok.mod
theorem Inv.kIn (I:Inv X pins σ H s):X.K.In s.heap:=I.ok.mod.kin.keeps I.bk
theorem Inv.lt (I:Inv X pins σ H s):X.env.locals < s.heap.objs.size:=let ⟨_,hn,_⟩:=I.loc; hn.lt
theorem Inv.sz (I:Inv X pins σ H s):X.s₀.heap.objs.size≤s.heap.objs.size:=Nat.le_trans I.ok.above (Nat.le_of_lt I.lt)
theorem Inv.nofs (I:Inv X pins σ H s) {a:Addr} (h:s.heap.objs.size≤a):a ∉ X.fs:=fun hb=>by
  obtain ⟨_,o,ho,_⟩:=I.ok.funs.mem hb
  exact absurd (Nat.lt_of_lt_of_le (Heap.lt_size ho) (Nat.le_trans I.sz h)) (Nat.lt_irrefl _)
theorem Inv.cne (I:Inv X pins σ H s):∀ x c,X.env.cells.lookup x=some c→c≠X.env.locals:=fun x c e z=>by
  obtain ⟨v,o,ho,hd⟩:=I.cell x c e
  obtain ⟨m,⟨o',es,ep,ho',hd',_⟩,_⟩:=I.loc
  rw [z,ho'] at ho; cases ho; rw [hd'] at hd; cases hd
theorem Inv.funs (I:Inv X pins σ H s):s.heap.FunFrames X.base X.outer:=by
  have all:∀ (l:List Env),(∀ b∈frs l,b∈X.fs)→X.s₀.heap.FunFrames X.base l→s.heap.FunFrames X.base l:=by
    intro l
    induction l with
    | nil=>intro _ _; trivial
    | cons env r ih =>
      intro hs hl
      obtain ⟨hk,⟨L,o,hf,hn,ho,hd⟩,hr⟩:=hl
      have hL:L∈X.fs:=hs L (by unfold frs; rw [List.filterMap_cons,hf]; exact List.mem_cons_self)
      obtain ⟨sl,e⟩:=I.base.slot L o ho (I.ok.frf L hL) hL fun z=>I.ok.exfs L z hL
      exact ⟨hk,⟨L,_,hf,hn,e,hd⟩,ih (fun b hb=>hs b (by unfold frs; rw [List.filterMap_cons,hf]; exact List.mem_cons_of_mem _ hb)) hr⟩
  exact all X.outer (fun _ hb=>hb) I.ok.funs

theorem Inv.stack (I:Inv X pins σ H s):s.heap.FunFrames X.base X.stack:=by
  rcases I.ok.stk with e | ⟨e,hf⟩
  · rw [e]; exact I.funs
  · rw [e]
    obtain ⟨m,hn,_⟩:=I.loc
    refine .cons (by rw [I.ok.kind]; decide) hf hn ?_ I.funs
    exact Heap.get?_none_of_le (Nat.le_trans I.ok.bsz I.ok.above)
theorem Inv.stkSub (I:Inv X pins σ H s):∀ b∈frs X.stack,b∈X.env.locals::X.fs:=fun b hb=>by
  rcases I.ok.stk with e | ⟨e,hf⟩
  · rw [e] at hb; exact List.mem_cons_of_mem _ hb
  · rw [e] at hb
    unfold frs at hb
    rw [List.filterMap_cons,hf] at hb
    exact hb
theorem Inv.stkFree (I:Inv X pins σ H s):∀ b∈frs X.stack,H b=none:=fun b hb=>by
  rcases List.mem_cons.mp (I.stkSub b hb) with e | hb
  · rw [e]; exact I.free
  · obtain ⟨_,o,ho,_⟩:=I.ok.funs.mem hb
    exact I.base.free b o ho (I.ok.frf b hb) fun z=>I.ok.exfs b z hb

theorem Inv.step {g':Array GenState} {t':Nat} {d':Drawn} {ch:List Addr} (I:Inv X pins σ H s)
    (hch:∀ b∈ch,(b∈X.ex∨X.s₀.heap.objs.size≤b)∧b≠X.env.locals∧(∀ x c,X.env.cells.lookup x=some c→c≠b)∧∀ p∈X.pn++pins,p.1≠b)
    (keep:∀ b o,b≠X.env.locals→b ∉ X.fs→b ∉ ch→s.heap.get? b=some o→H b=none→h'.get? b=some o)
    (slot:∀ b o,b≠X.env.locals→b∈X.fs→b ∉ ch→s.heap.get? b=some o→H b=none→∃ sl,h'.get? b=some { o with slots:=sl }) (free:∀ b o,b ∉ ch→s.heap.get? b=some o→H b=none→H' b=none)
    (there:∀ b o,b ∉ ch→s.heap.get? b=some o→∃ o',h'.get? b=some o')
    (tups:∀ b xs,H b=some (.tup xs)→H' b=some (.tup xs)) (frzs:∀ b o u,H b=some (.frz o u)→H' b=some (.frz o u)) (tbls:∀ b ps,H b=some (.tbl ps)→∃ more,H' b=some (.tbl (ps++more)))
    (ns:∀ m,s.heap.Ns X.env.locals m→h'.Ns X.env.locals m) (hok:HOk X.prog X.w H' h') (hg:AllBare g') :
    Inv X pins σ H' { s with heap:=h',gens:=g',drawn:=d',toks:=t' }:=by
  have neL:∀ b o,X.s₀.heap.get? b=some o→b≠X.env.locals:=fun b o e=>Nat.ne_of_lt (Nat.lt_of_lt_of_le (Heap.lt_size e) I.ok.above)
  have neC:∀ b o,X.s₀.heap.get? b=some o→b ∉ X.ex→b ∉ ch:=fun b o e hx hb=>by
    rcases (hch b hb).1 with z | z
    · exact hx z
    · exact absurd (Nat.lt_of_lt_of_le (Heap.lt_size e) z) (Nat.lt_irrefl _)
  have cellK:∀ x c,X.env.cells.lookup x=some c→∀ v,s.heap.IsCell c v→h'.IsCell c v:=fun x c e v hz0=>by
    obtain ⟨o,ho,hd⟩:=hz0
    have nch:c ∉ ch:=fun z=>(hch c z).2.2.1 x c e rfl
    by_cases hc:c∈X.fs
    · obtain ⟨sl,q⟩:=slot c o (I.cne x c e) hc nch ho (I.freeC x c e)
      exact ⟨_,q,hd⟩
    · exact ⟨o,keep c o (I.cne x c e) hc nch ho (I.freeC x c e),hd⟩
  refine ⟨I.ok,I.os,hg,⟨fun b o e n hb hx=>?_,fun b o e n hb hx=>?_,fun b o e n hx=>?_,fun b o e hx=>?_,fun b xs e=>tups b xs (I.base.tups b xs e),fun b o xs e=>frzs b o xs (I.base.frzs b o xs e),fun b ps e=>?_⟩,?_,fun x c e=>?_,?_,fun x c e=>?_,fun p hp=>?_,hok,I.len⟩
  · exact keep b o (neL b o e) hb (neC b o e hx) (I.base.keep b o e n hb hx) (I.base.free b o e n hx)
  · obtain ⟨sl,e1⟩:=I.base.slot b o e n hb hx
    obtain ⟨sl',e2⟩:=slot b _ (neL b o e) hb (neC b o e hx) e1 (I.base.free b o e n hx)
    exact ⟨sl',e2⟩
  · obtain ⟨o',e1⟩:=I.base.there b o e hx
    exact free b o' (neC b o e hx) e1 (I.base.free b o e n hx)
  · obtain ⟨o',e1⟩:=I.base.there b o e hx
    exact there b o' (neC b o e hx) e1
  · obtain ⟨m1,e1⟩:=I.base.tbls b ps e
    obtain ⟨m2,e2⟩:=tbls b _ e1
    exact ⟨m1++m2,by rw [e2,Array.append_assoc]⟩
  · obtain ⟨m,hn,hl⟩:=I.loc
    refine ⟨m,ns m hn,fun i x v e1 e2 e3=>?_⟩
    obtain ⟨u,r,l⟩:=hl i x v e1 e2 e3
    refine ⟨u,r,?_⟩
    rcases l with l | ⟨k,c,e,z⟩
    · exact .inl l
    · exact .inr ⟨k,c,e,cellK x c e _ z⟩
  · obtain ⟨v,z⟩:=I.cell x c e
    exact ⟨v,cellK x c e v z⟩
  · obtain ⟨m,⟨o,_,_,ho,_⟩,_⟩:=I.loc
    exact free _ o (fun z=>(hch _ z).2.1 rfl) ho I.free
  · obtain ⟨v,o,ho,hd⟩:=I.cell x c e
    exact free c o (fun z=>(hch c z).2.2.1 x c e rfl) ho (I.freeC x c e)
  · obtain ⟨e,n,ne,nf,d⟩:=I.pin p hp
    have nch:p.1 ∉ ch:=fun z=>(hch p.1 z).2.2.2 p hp rfl
    exact ⟨keep p.1 p.2 ne nf nch e n,free p.1 p.2 nch e n,ne,nf,d⟩
theorem Inv.un {t':Nat} (I:Inv X pins σ H s) (u:Un X.fs [] H H' s.heap h') (hok:HOk X.prog X.w H' h'):Inv X pins σ H' { s with heap:=h',toks:=t' }:=by
  obtain ⟨m,⟨o,es,ep,ho,r⟩,_⟩:=id I.loc
  obtain ⟨sl,hL⟩:=u.any ho I.free (by simp)
  exact I.step (g':=s.gens) (d':=s.drawn) (ch:=[]) (fun _ z=>nomatch z) (fun b o _ hb _ e n=>u.keep b o e n hb (by simp)) (fun b o _ hb _ e n=>u.slot b o e n hb (by simp)) (fun b o _ e n=>u.free b o e n (by simp)) (fun b o _ e=>u.there b o e (by simp)) u.tups u.frzs u.tbls (fun m' hm=>by
    obtain ⟨o',es',ep',ho',r'⟩:=hm
    rw [ho] at ho'; cases ho'
    exact ⟨_,es',ep',hL,r'⟩) hok I.bare
theorem Inv.call {g':Array GenState} {t':Nat} {d':Drawn} {ch:List Addr} (I:Inv X pins σ H s) (u:Un (frs X.stack) ch H H' s.heap h') (hok:HOk X.prog X.w H' h') (hg:AllBare g')
    (hch:∀ b∈ch,(b∈X.ex∨X.s₀.heap.objs.size≤b)∧b≠X.env.locals∧(∀ x c,X.env.cells.lookup x=some c→c≠b)∧∀ p∈X.pn++pins,p.1≠b) :
    Inv X pins σ H' { s with heap:=h',gens:=g',drawn:=d',toks:=t' }:=by
  obtain ⟨m,⟨o,es,ep,ho,r⟩,_⟩:=id I.loc
  obtain ⟨sl,hL⟩:=u.any ho I.free fun z=>(hch _ z).2.1 rfl
  exact I.step (ch:=ch) hch (fun b o hL hb hc e n=>u.keep b o e n (fun z=>(List.mem_cons.mp (I.stkSub b z)).elim hL hb) hc) (fun b o _ _ hc e n=>u.any e n hc) (fun b o hc e n=>u.free b o e n hc) (fun b o hc e=>u.there b o e hc) u.tups u.frzs u.tbls (fun m' hm=>by
    obtain ⟨o',es',ep',ho',r'⟩:=hm
    rw [ho] at ho'; cases ho'
    exact ⟨_,es',ep',hL,r'⟩) hok hg
theorem Inv.turned {t':Nat} {it:Addr} (I:Inv X pins σ H s) (k:∀ b o,b≠it→s.heap.get? b=some o→h'.get? b=some o) (hn:H it=none) (hL:it≠X.env.locals)
    (h1:it∈X.ex∨X.s₀.heap.objs.size≤it) (h2:∀ x c,X.env.cells.lookup x=some c→c≠it) (h3:∀ p∈X.pn++pins,p.1≠it):Inv X pins σ H { s with heap:=h',toks:=t' }:=by
  have nit:∀ b u,H b=some u→b≠it:=fun b u e z=>by rw [z,hn] at e; cases e
  refine I.step (g':=s.gens) (d':=s.drawn) (ch:=[it]) (fun b hb=>?_) (fun b o _ _ hc e _=>k b o (fun z=>hc (by simp [z])) e) (fun b o _ _ hc e _=>⟨o.slots,k b o (fun z=>hc (by simp [z])) e⟩) (fun _ _ _ _ n=>n)
    (fun b o hc e=>⟨o,k b o (fun z=>hc (by simp [z])) e⟩) (fun _ _ e=>e) (fun _ _ _ e=>e) (fun b ps e=>⟨#[],by rw [e]; simp⟩) (fun m hm=>?_) (fun b u e=>?_) I.bare
  · have e:b=it:=by simpa using hb
    subst e
    exact ⟨h1,hL,h2,h3⟩
  · obtain ⟨o,es,ep,ho,r⟩:=hm
    exact ⟨o,es,ep,k _ o (Ne.symm hL) ho,r⟩
  · refine (I.hok b u e).stay (fun c v hc q=>k c v ?_ q) (fun _ q=>q) fun _ _ q=>q
    rcases hc with z | z
    · rw [z]; exact nit b u e
    · exact nit c _ z
theorem Inv.tok (I:Inv X pins σ H s) (t:Nat):Inv X pins σ H { s with toks:=t }:=I.un (h':=s.heap) (t':=t) Un.refl I.hok
theorem Inv.kept {t':Nat} (I:Inv X pins σ H s) (k:∀ b u,s.heap.get? b=some u→h'.get? b=some u):Inv X pins σ H { s with heap:=h',toks:=t' }:=I.un (Un.kept k) (I.hok.kept k)
theorem Inv.laid {a:Addr} {o:HO} {t':Nat} (I:Inv X pins σ H s) (k:∀ b u,s.heap.get? b=some u→h'.get? b=some u) (hp:s.heap.objs.size≤a) (new:ObjOk X.prog X.w (upd H a o) h' a o) :
    Inv X pins σ (upd H a o) { s with heap:=h',toks:=t' }:=I.un (Un.laid k hp (I.hok.fresh hp)) (I.hok.laid k hp new)
theorem Inv.write {x e:Addr} {o:HO} {t':Nat} (I:Inv X pins σ H s) (mu:Mut (H x)) (he:e=x∨H e=some (.own x)) (k:∀ b u,b≠e→s.heap.get? b=some u→h'.get? b=some u) (heo:∃ u,h'.get? e=some u)
    (new:ObjOk X.prog X.w (upd H x o) h' x o):Inv X pins σ (upd H x o) { s with heap:=h',toks:=t' }:=I.un (Un.write mu he k heo) (I.hok.write mu he k heo new)
theorem Inv.pins_of {pins':List (Addr×Obj)} (I:Inv X pins σ H s) (h:∀ p∈pins',s.heap.get? p.1=some p.2∧H p.1=none∧p.1≠X.env.locals∧p.1 ∉ X.fs∧∀ v,p.2.data≠.cell v):Inv X pins' σ H s :=
  ⟨I.ok,I.os,I.bare,I.base,I.loc,I.cell,I.free,I.freeC,fun p hp=>(List.mem_append.mp hp).elim (fun z=>I.pin p (List.mem_append_left _ z)) (h p),I.hok,I.len⟩

theorem nodup_ix {N:List Str} (hN:N.Nodup) {i j:Nat} {x:Str} (a:N[i]?=some x) (b:N[j]?=some x):i=j:=by
  obtain ⟨h1,e1⟩:=List.getElem?_eq_some_iff.mp a
  obtain ⟨h2,e2⟩:=List.getElem?_eq_some_iff.mp b
  exact (List.getElem_inj hN).mp (e1.trans e2.symm)

theorem store_ok2 {M:Model} {A:Around} {E:Value→Shared→Prop} {i:Nat} {x:Str} {v:V} {u:Value} {Q:Unit→Shared→Prop} (I:Inv X pins σ H s) (hN:X.N.Nodup) (hi:X.N[i]?=some x) (hx:Loc X.env.scope x) (r:RelV v u)
    (h:∀ s',Inv X pins (σ.set i (some v)) H s'→(∃ a,Heap.SameBut a s.heap s'.heap∧(a=X.env.locals∨X.env.cells.lookup x=some a))→Q () s') (hf:X.fn x=true∨X.env.scope.names.lookup x=some .local:=by first | exact .inl rfl | exact .inr rfl | assumption):wpAny M A (storeName X.env x u) Q E s:=by
  obtain ⟨m,hn,hl⟩:=id I.loc
  have hcls:(X.env.scope.kind == .class || (X.env.scope.kind == .module && X.env.locals != X.env.globals))=false:=by rw [I.ok.kind]; rfl
  have hiσ:i < σ.length:=by rw [I.len]; exact (List.getElem?_eq_some_iff.mp hi).1
  have cne:=I.cne
  have tracked:∀ {a:Addr} {h':Heap},(∃ o,s.heap.get? a=some o∧H a=none)→Heap.SameBut a s.heap h'→HOk X.prog X.w H h':=fun {a h'} ha hs b ob e=>by
    obtain ⟨_,_,hfree⟩:=ha
    refine (I.hok b ob e).stay (fun c w' hc q=>(hs.2 c ?_).trans q) (fun _ q=>q) fun _ _ q=>q
    rintro rfl
    rcases hc with rfl | hc
    · rw [hfree] at e; cases e
    · rw [hfree] at hc; cases hc
  rcases hx with hk | hk
  · refine wpAny_storeName_local hk hn (fun h' hn' hs=>?_) hcls
    obtain ⟨oL,_,_,hoL,_⟩:=id hn
    refine h _ ⟨I.ok,I.os,I.bare,⟨fun b o e n hb hx=>?_,fun b o e n hb hx=>?_,I.base.free,fun b o e hx=>?_,I.base.tups,I.base.frzs,I.base.tbls⟩,⟨_,hn',fun j y v' e1 e2 e3=>?_⟩,fun y c e=>?_,I.free,I.freeC,fun p hp=>?_,tracked ⟨oL,hoL,I.free⟩ hs,by simpa using I.len⟩ ⟨_,hs,.inl rfl⟩
    · exact (hs.2 b (Nat.ne_of_lt (Nat.lt_of_lt_of_le (Heap.lt_size e) I.ok.above))).trans (I.base.keep b o e n hb hx)
    · obtain ⟨sl,e1⟩:=I.base.slot b o e n hb hx
      exact ⟨sl,(hs.2 b (Nat.ne_of_lt (Nat.lt_of_lt_of_le (Heap.lt_size e) I.ok.above))).trans e1⟩
    · obtain ⟨o',e1⟩:=I.base.there b o e hx
      exact ⟨o',(hs.2 b (Nat.ne_of_lt (Nat.lt_of_lt_of_le (Heap.lt_size e) I.ok.above))).trans e1⟩
    · by_cases hj:j=i
      · subst hj
        rw [hi] at e1; cases e1
        rw [List.getElem?_set_self hiσ] at e2
        cases e2
        exact ⟨u,r,.inl ⟨hk,by simp⟩⟩
      · rw [List.getElem?_set_ne (Ne.symm hj)] at e2
        obtain ⟨u',r',q⟩:=hl j y v' e1 e2 e3
        refine ⟨u',r',?_⟩
        rcases q with ⟨k,e⟩ | ⟨k,c,e,z⟩
        · refine .inl ⟨k,?_⟩
          have:y≠x:=fun e=>hj (nodup_ix hN e1 (e ▸ hi))
          simp [this,e]
        · exact .inr ⟨k,c,e,z.sameBut hs (cne y c e)⟩
    · obtain ⟨w',z⟩:=I.cell y c e
      exact ⟨w',z.sameBut hs (cne y c e)⟩
    · obtain ⟨e,n,ne,nf,d⟩:=I.pin p hp
      exact ⟨(hs.2 p.1 ne).trans e,n,ne,nf,d⟩
  · have hfn:X.fn x=true:=by
      rcases hf with z | z
      · exact z
      · rw [z] at hk; cases hk
    obtain ⟨c,hc⟩:=I.ok.has x (.inl hk)
    obtain ⟨w',z⟩:=I.cell x c hc
    refine wpAny_storeName_cell I.ok.kind hk hc z (fun h' hc' hs=>?_)
    obtain ⟨oc,hoc,hocd⟩:=id z
    refine h { s with heap:=h' } ⟨I.ok,I.os,I.bare,⟨fun b o e n hb hx=>?_,fun b o e n hb hx=>?_,I.base.free,fun b o e hx=>?_,I.base.tups,I.base.frzs,I.base.tbls⟩,⟨m,hn.sameBut hs (Ne.symm (cne x c hc)),fun j y v' e1 e2 e3=>?_⟩,fun y c' e=>?_,I.free,I.freeC,fun p hp=>?_,tracked ⟨oc,hoc,I.freeC x c hc⟩ hs,by simpa using I.len⟩ ⟨c,hs,.inr hc⟩
    · exact (hs.2 b (Nat.ne_of_lt (Nat.lt_of_lt_of_le (Heap.lt_size e) (I.ok.cab x c hfn hc)))).trans (I.base.keep b o e n hb hx)
    · obtain ⟨sl,e1⟩:=I.base.slot b o e n hb hx
      exact ⟨sl,(hs.2 b (Nat.ne_of_lt (Nat.lt_of_lt_of_le (Heap.lt_size e) (I.ok.cab x c hfn hc)))).trans e1⟩
    · obtain ⟨o',e1⟩:=I.base.there b o e hx
      exact ⟨o',(hs.2 b (Nat.ne_of_lt (Nat.lt_of_lt_of_le (Heap.lt_size e) (I.ok.cab x c hfn hc)))).trans e1⟩
    · by_cases hj:j=i
      · subst hj
        rw [hi] at e1; cases e1
        rw [List.getElem?_set_self hiσ] at e2
        cases e2
        exact ⟨u,r,.inr ⟨.inl hk,c,hc,hc'⟩⟩
      · rw [List.getElem?_set_ne (Ne.symm hj)] at e2
        obtain ⟨u',r',q⟩:=hl j y v' e1 e2 e3
        refine ⟨u',r',?_⟩
        rcases q with q | ⟨k,c',e,z'⟩
        · exact .inl q
        · refine .inr ⟨k,c',e,z'.sameBut hs ?_⟩
          rintro rfl
          exact hj (nodup_ix hN e1 (I.ok.inj _ _ _ e hc ▸ hi))
    · by_cases hcc:c'=c
      · subst hcc; exact ⟨_,hc'⟩
      · obtain ⟨w2,z2⟩:=I.cell y c' e
        exact ⟨w2,z2.sameBut hs hcc⟩
    · obtain ⟨e,n,ne,nf,d⟩:=I.pin p hp
      refine ⟨(hs.2 p.1 ?_).trans e,n,ne,nf,d⟩
      intro q
      rw [q,hoc] at e
      have q':oc=p.2:=Option.some.inj e
      exact d w' (by rw [← q']; exact hocd)
theorem store_ok {M:Model} {A:Around} {E:Value→Shared→Prop} {i:Nat} {x:Str} {v:V} {u:Value} {Q:Unit→Shared→Prop} (I:Inv X pins σ H s) (hN:X.N.Nodup) (hi:X.N[i]?=some x) (hx:Loc X.env.scope x) (r:RelV v u)
    (h:∀ s',Inv X pins (σ.set i (some v)) H s'→Q () s') (hf:X.fn x=true∨X.env.scope.names.lookup x=some .local:=by first | exact .inl rfl | exact .inr rfl | assumption):wpAny M A (storeName X.env x u) Q E s :=
  store_ok2 I hN hi hx r (fun s' I' _=>h s' I') hf
theorem Inv.call' {s':Shared} {ch:List Addr} (I:Inv X pins σ H s) (ho:s'.os=s.os) (u:Un (frs X.stack) ch H H' s.heap s'.heap) (hok:HOk X.prog X.w H' s'.heap) (hg:AllBare s'.gens)
    (hch:∀ b∈ch,(b∈X.ex∨X.s₀.heap.objs.size≤b)∧b≠X.env.locals∧(∀ x c,X.env.cells.lookup x=some c→c≠b)∧∀ p∈X.pn++pins,p.1≠b):Inv X pins σ H' s':=by
  obtain ⟨h',g',d',t',o'⟩:=s'
  have e:o'=s.os:=ho
  subst e
  exact I.call (g':=g') (t':=t') (d':=d') u hok hg hch
end
noncomputable abbrev XK:=Value→Option Addr→Hp→Prop
noncomputable abbrev St:=List (Option V)
noncomputable abbrev VK:=V→Hp→Prop
noncomputable abbrev TE:=St→Hp→VK→Prop
noncomputable abbrev TT:=St→Hp→(Bool→Hp→Prop)→Prop
noncomputable abbrev TA:=St→Hp→(List V→Hp→Prop)→Prop
structure Ends where
  nx:St→Hp→Prop
  rt:VK
  bk:St→Hp→Prop:=fun _ _=>False
  ct:St→Hp→Prop:=fun _ _=>False
noncomputable abbrev TS:=Ends→St→Hp→Prop

noncomputable def EP (X:Cx) (pins:List (Addr×Obj)) (σ:St) (Q:VK) (u:Value) (s':Shared):Prop:=∃ v H',Inv X pins σ H' s'∧RelV v u∧Q v H'
noncomputable def TP (X:Cx) (pins:List (Addr×Obj)) (σ:St) (Q:Bool→Hp→Prop) (b:Bool) (s':Shared):Prop:=∃ H',Inv X pins σ H' s'∧Q b H'
noncomputable def AP (X:Cx) (pins:List (Addr×Obj)) (σ:St) (Q:List V→Hp→Prop) (us:List Value) (s':Shared):Prop:=∃ vs H',Inv X pins σ H' s'∧Vals vs us∧Q vs H'
noncomputable def SP (X:Cx) (pins:List (Addr×Obj)) (D:Ends) (f:Flow) (s':Shared):Prop :=
  match f with
  | .next=>∃ σ' H',Inv X pins σ' H' s'∧D.nx σ' H'
  | .brk=>∃ σ' H',Inv X pins σ' H' s'∧D.bk σ' H'
  | .cont=>∃ σ' H',Inv X pins σ' H' s'∧D.ct σ' H'
  | .ret u=>∃ v σ' H',Inv X pins σ' H' s'∧RelV v u∧D.rt v H'

noncomputable def PE (X:Cx) (e:Expr) (t:TE):Prop :=
  ∀ (pins:List (Addr×Obj)) (s:Shared) (σ:St) (H:Hp) (Q:VK),Inv X pins σ H s→t σ H Q→wpAny (model X.prog X.w) X.A (eval e X.env) (EP X pins σ Q) X.xe s
noncomputable def PT (X:Cx) (e:Expr) (t:TT):Prop :=
  ∀ (pins:List (Addr×Obj)) (s:Shared) (σ:St) (H:Hp) (Q:Bool→Hp→Prop),Inv X pins σ H s→t σ H Q→wpAny (model X.prog X.w) X.A (isTrue e X.env (eval e X.env)) (TP X pins σ Q) X.xe s
noncomputable def PW (X:Cx) (e:Expr) (t:TT):Prop :=
  ∀ (whole:Sem Value) (pins:List (Addr×Obj)) (s:Shared) (σ:St) (H:Hp) (Q:Bool→Hp→Prop),Inv X pins σ H s→t σ H Q→wpAny (model X.prog X.w) X.A (isTrue e X.env whole) (TP X pins σ Q) X.xe s
theorem PW.pt {X:Cx} {e:Expr} {t:TT} (h:PW X e t):PT X e t:=h _
noncomputable def PA (X:Cx) (es:List Expr) (t:TA):Prop :=
  ∀ (pos:Pos) (pins:List (Addr×Obj)) (s:Shared) (σ:St) (H:Hp) (Q:List V→Hp→Prop),Inv X pins σ H s→t σ H Q→wpAny (model X.prog X.w) X.A (spliced (backTo pos (starEach es X.env))) (AP X pins σ Q) X.xe s
noncomputable def PS (X:Cx) (st:Stmt) (t:TS):Prop :=
  ∀ (pins:List (Addr×Obj)) (s:Shared) (σ:St) (H:Hp) (D:Ends),Inv X pins σ H s→t D σ H→wpAny (model X.prog X.w) X.A (exec st X.env) (SP X pins D) X.xe s
noncomputable def PSs (X:Cx) (st:List Stmt) (t:TS):Prop :=
  ∀ (pins:List (Addr×Obj)) (s:Shared) (σ:St) (H:Hp) (D:Ends),Inv X pins σ H s→t D σ H→wpAny (model X.prog X.w) X.A (execs st X.env) (SP X pins D) X.xe s
theorem thn {α:Type} {t:Sem α} {Q Q':α→Shared→Prop} {M:Model} {A:Around} {E:Value→Shared→Prop} {s:Shared} (h:wpAny M A t Q E s) (hQ:∀ a s,Q a s→Q' a s):wpAny M A t Q' E s:=wpAny_mono h hQ fun _ _ x=>x
end L2
namespace L2
open PySem PySem.Spec PyProof.Rows
section
variable {X:Cx}
noncomputable def tVar (i:Nat):TE:=fun σ H Q=>∃ v,σ[i]?=some (some v)∧Q v H
noncomputable def tC (v:V):TE:=fun _ H Q=>Q v H
theorem pe_var {i:Nat} {x:Str} {pos:Pos} (hN:X.N[i]?=some x) (hv:Vis X.env.scope x) (hd:(x == ("__debug__":Str))=false:=by decide) (hcd:(x == ("__classdict__":Str))=false:=by decide):PE X (.Name x pos) (tVar i):=by
  intro pins s σ H Q I h
  obtain ⟨v,e,h⟩:=h
  obtain ⟨m,hn,hl⟩:=I.loc
  obtain ⟨u,r,l⟩:=hl i x v hN e hv
  have fin:EP X pins σ Q u s:=⟨v,H,I,r,h⟩
  rcases l with ⟨hk,hm⟩ | ⟨hk,c,hc,hcell⟩
  · exact wpAny_Name (wpAny_loadName_local I.ok.kind hk hn hm fin) hd
  · rcases hk with hk | hk
    · exact wpAny_Name (wpAny_loadName_cell I.ok.kind hk hc hcell fin) hd
    · exact wpAny_Name (wpAny_loadName_free I.ok.kind hk hc hcell fin hcd) hd
theorem pe_int {i j pos}:PE X (.Constant (.int i) j pos) (tC (.int i)):=fun _ _ _ H _ I h=>wpAny_Constant_int ⟨.int i,H,I.tok _,⟨_,rfl⟩,h⟩
theorem pe_bl {b j pos}:PE X (.Constant (.bool b) j pos) (tC (.bl b)):=fun _ _ _ H _ I h=>Constant_bool ⟨.bl b,H,I,rfl,h⟩
theorem pe_str {x j pos}:PE X (.Constant (.str x) j pos) (tC (.str x)):=fun _ _ _ H _ I h=>Calls.Constant_str ⟨.str x,H,I.tok _,⟨_,rfl⟩,h⟩

noncomputable def Gl (X:Cx) (x:Str):Prop:=X.env.kindOf x=some .globalImplicit
theorem ld_glob {E:Value→Shared→Prop} {pins:List (Addr×Obj)} {s:Shared} {σ:St} {H:Hp} {x:Str} {u:Value} {pos:Pos} {Q:Value→Shared→Prop} (I:Inv X pins σ H s) (hg:Gl X x) (hm:X.mg x=some u) (h:Q u s)
    (hd:(x == ("__debug__":Str))=false:=by decide):wpAny (model X.prog X.w) X.A (eval (.Name x pos) X.env) Q E s :=
  Calls.Name_function_global I.ok.kind hg (Calls.loadGlobal_global (by rw [I.ok.glob]; exact I.mod.glob.keeps I.bk) hm h) hd
theorem ld_blt {E:Value→Shared→Prop} {pins:List (Addr×Obj)} {s:Shared} {σ:St} {H:Hp} {x:Str} {u:Value} {pos:Pos} {Q:Value→Shared→Prop} (I:Inv X pins σ H s) (hg:Gl X x) (hm:X.mg x=none) (hv:bootBuiltins x=some u) (h:Q u s)
    (hn:x≠"__name__":=by decide) (hd:(x == ("__debug__":Str))=false:=by decide):wpAny (model X.prog X.w) X.A (eval (.Name x pos) X.env) Q E s:=by
  obtain ⟨mb,h1,h2⟩:=I.mod.blt
  exact Calls.Name_function_global I.ok.kind hg (Calls.loadGlobal_builtin (by rw [I.ok.glob]; exact I.mod.glob.keeps I.bk) hm (by rw [I.ok.blt]; exact h1.keeps I.bk) ((h2 x hn).trans hv) h) hd
theorem pe_glob {x:Str} {v:V} {u:Value} {pos:Pos} (hg:Gl X x) (hm:X.mg x=some u) (r:RelV v u) (hd:(x == ("__debug__":Str))=false:=by decide):PE X (.Name x pos) (tC v) :=
  fun _ _ _ H _ I h=>ld_glob I hg hm ⟨v,H,I,r,h⟩ hd
variable {a b:Expr} {ta tb:TE} {pos:Pos}
variable {tA tB':TT} {rest:List Expr}
noncomputable def tAnd (t u:TT):TT:=fun σ H Q=>t σ H fun c H1=>if c=true then u σ H1 Q else Q false H1
noncomputable def tOr (t u:TT):TT:=fun σ H Q=>t σ H fun c H1=>if c=true then Q true H1 else u σ H1 Q
noncomputable def tNot (t:TT):TT:=fun σ H Q=>t σ H fun c H1=>Q (!c) H1
theorem pw_and1 (ha:PT X a tA):PW X (.BoolOp .And [a] pos) tA:=by
  intro wh pins s σ H Q I h
  refine isTrue_and (thn (ha pins s σ H Q I h) fun c s1 e=>?_)
  cases c with
  | true=>exact isTrue_and_nil e
  | false=>exact e
theorem pw_or1 (ha:PT X a tA):PW X (.BoolOp .Or [a] pos) tA:=by
  intro wh pins s σ H Q I h
  refine isTrue_or (thn (ha pins s σ H Q I h) fun c s1 e=>?_)
  cases c with
  | false=>exact isTrue_or_nil e
  | true=>exact e
theorem pw_and (ha:PT X a tA) (hb:PW X (.BoolOp .And (b::rest) pos) tB'):PW X (.BoolOp .And (a::b::rest) pos) (tAnd tA tB'):=by
  intro wh pins s σ H Q I h
  refine isTrue_and (thn (ha pins s σ H _ I h) fun c s1 hz0=>?_)
  obtain ⟨H1,I1,q1⟩:=hz0
  cases c with
  | true=>exact hb wh pins s1 σ H1 Q I1 q1
  | false=>exact ⟨H1,I1,q1⟩
theorem pw_or (ha:PT X a tA) (hb:PW X (.BoolOp .Or (b::rest) pos) tB'):PW X (.BoolOp .Or (a::b::rest) pos) (tOr tA tB'):=by
  intro wh pins s σ H Q I h
  refine isTrue_or (thn (ha pins s σ H _ I h) fun c s1 hz0=>?_)
  obtain ⟨H1,I1,q1⟩:=hz0
  cases c with
  | true=>exact ⟨H1,I1,q1⟩
  | false=>exact hb wh pins s1 σ H1 Q I1 q1
theorem pt_not (ha:PT X a tA):PT X (.UnaryOp .Not a pos) (tNot tA):=by
  intro pins s σ H Q I h
  exact isTrue_not (ha pins s σ H (fun c H1=>Q (!c) H1) I h)
noncomputable def tAndV (ta tb:TE):TE:=fun σ H Q=>ta σ H fun x H1=>∃ c,x=.bl c∧if c=true then tb σ H1 Q else Q (.bl false) H1
noncomputable def tOrV (ta tb:TE):TE:=fun σ H Q=>ta σ H fun x H1=>∃ c,x=.bl c∧if c=true then Q (.bl true) H1 else tb σ H1 Q
theorem pe_one {op} {t:TE} (h:PE X a t):PE X (.BoolOp op [a] pos) t:=fun pins s σ H Q I hw=>BoolOp_one (h pins s σ H Q I hw)
theorem pe_and (ha:PE X a ta) (hb:PE X (.BoolOp .And (b::rest) pos) tb):PE X (.BoolOp .And (a::b::rest) pos) (tAndV ta tb):=by
  intro pins s σ H Q I h
  refine BoolOp_and (thn (ha pins s σ H _ I h) fun v s1 hz0=>?_)
  obtain ⟨x,H1,I1,r1,q1⟩:=hz0
  obtain ⟨c,rfl,q1⟩:=q1
  cases r1
  refine wpAny_truthy_bool ?_
  cases c with
  | true=>exact hb pins s1 σ H1 Q I1 q1
  | false=>exact ⟨.bl false,H1,I1,rfl,q1⟩
theorem pe_or (ha:PE X a ta) (hb:PE X (.BoolOp .Or (b::rest) pos) tb):PE X (.BoolOp .Or (a::b::rest) pos) (tOrV ta tb):=by
  intro pins s σ H Q I h
  refine BoolOp_or (thn (ha pins s σ H _ I h) fun v s1 hz0=>?_)
  obtain ⟨x,H1,I1,r1,q1⟩:=hz0
  obtain ⟨c,rfl,q1⟩:=q1
  cases r1
  refine wpAny_truthy_bool ?_
  cases c with
  | false=>exact hb pins s1 σ H1 Q I1 q1
  | true=>exact ⟨.bl true,H1,I1,rfl,q1⟩
noncomputable def tIf (t:TT) (ta tb:TE):TE:=fun σ H Q=>t σ H fun c H1=>if c=true then ta σ H1 Q else tb σ H1 Q
theorem pe_ifExp {c:Expr} (hc:PT X c tA) (ha:PE X a ta) (hb:PE X b tb):PE X (.IfExp c a b pos) (tIf tA ta tb):=by
  intro pins s σ H Q I h
  refine wpAny_IfExp (thn (hc pins s σ H _ I h) fun d s1 hz0=>?_)
  obtain ⟨H1,I1,q1⟩:=hz0
  cases d with
  | true=>exact ha pins s1 σ H1 Q I1 q1
  | false=>exact hb pins s1 σ H1 Q I1 q1
end
end L2
namespace L2
open PySem PySem.Spec PyProof.Rows
noncomputable def SqL (K:PySem.W.Frag) (H:Hp) (a:Addr) (xs:List V):Prop :=
  Rd H a (.lst xs) ∨
    ∃ (o:Obj) (its:Array Value) (n:Nat),K.lookup a=some o∧o.cls=.type "list"∧o.dict=none∧o.data=.seq its n∧its.size≤sizeLine∧Vals xs its.toList
noncomputable def SqT (K:PySem.W.Frag) (H:Hp) (a:Addr) (xs:List V):Prop :=
  Rd H a (.tup xs) ∨
    ∃ (o:Obj) (its:Array Value) (n:Nat),K.lookup a=some o∧o.cls=.type "tuple"∧o.data=.seq its n∧its.size≤sizeLine∧Vals xs its.toList
noncomputable def absV:Value→Option V
  | .none=>some .non
  | .bool b=>some (.bl b)
  | .int i _=>some (.int i)
  | .str x _=>some (.str x)
  | .bytes b _=>some (.byt b)
  | .float b _=>some (.flt b)
  | .ref a=>some (.ref a)
  | .type n=>some (.ty n)
  | _=>none
theorem RelV.abs {x:V} {u:Value} (r:RelV x u):absV u=some x:=by
  cases x with
  | non=>cases r; rfl
  | bl _=>cases r; rfl
  | int _=>obtain ⟨t,rfl⟩:=r; rfl
  | str _=>obtain ⟨t,rfl⟩:=r; rfl
  | byt _=>obtain ⟨t,rfl⟩:=r; rfl
  | flt _=>obtain ⟨t,rfl⟩:=r; rfl
  | ref _=>cases r; rfl
  | ty _=>cases r; rfl
theorem RelV.inj {x y:V} {u:Value} (r:RelV x u) (q:RelV y u):x=y:=Option.some.inj (r.abs.symm.trans q.abs)
theorem Vals.inj {xs ys:List V} {us:List Value} (h:Vals xs us) (h':Vals ys us):xs=ys:=by
  induction h generalizing ys with
  | nil=>cases h'; rfl
  | cons r t ih=>cases h' with | cons r' t'=>rw [r.inj r',ih t']
section
variable {X:Cx} {pins:List (Addr×Obj)} {σ:St} {H:Hp} {s:Shared} {a:Addr} {xs ys:List V}
theorem SqL.of {K:PySem.W.Frag} (h:H a=some (.lst xs)):SqL K H a xs:=.inl (.inl h)
theorem SqT.of {K:PySem.W.Frag} (h:H a=some (.tup xs)):SqT K H a xs:=.inl (.inl h)
theorem Inv.list (I:Inv X pins σ H s) (h:SqL X.K H a xs):∃ its:List Value,Vals xs its∧PlainL s.heap a its.toArray∧xs.length≤sizeLine:=by
  rcases h with h | ⟨o,its,n,hk,hc,hd,hs,hz,r⟩
  · obtain ⟨z,its,n,r,e⟩:=h.ok I.hok
    exact ⟨its,r,⟨_,n,e,rfl,rfl,rfl⟩,z⟩
  · refine ⟨its.toList,r,⟨o,n,I.kIn a o hk,hc,hd,by simpa using hs⟩,?_⟩
    have e:=r.length
    simp only [Array.length_toList] at e
    omega
theorem Inv.tuple (I:Inv X pins σ H s) (h:SqT X.K H a xs):∃ its:List Value,Vals xs its∧IsTup s.heap a its.toArray∧xs.length≤sizeLine:=by
  rcases h with h | ⟨o,its,n,hk,hc,hs,hz,r⟩
  · obtain ⟨z,its,r,p⟩:=h.ok I.hok
    exact ⟨its,r,p,z⟩
  · refine ⟨its.toList,r,⟨o,I.kIn a o hk,hc,n,by simpa using hs⟩,?_⟩
    have e:=r.length
    simp only [Array.length_toList] at e
    omega
theorem Inv.list_inj (I:Inv X pins σ H s) (h:SqL X.K H a xs) (h':SqL X.K H a ys):xs=ys:=by
  obtain ⟨its,r,⟨o,n,e,_,_,d⟩,_⟩:=I.list h
  obtain ⟨its',r',⟨o',n',e',_,_,d'⟩,_⟩:=I.list h'
  rw [e] at e'; cases e'
  rw [d] at d'
  injection d' with d1 _
  have:its=its':=by simpa using congrArg Array.toList d1
  subst this
  exact r.inj r'
theorem Inv.tuple_inj (I:Inv X pins σ H s) (h:SqT X.K H a xs) (h':SqT X.K H a ys):xs=ys:=by
  obtain ⟨its,r,⟨o,e,_,n,d⟩,_⟩:=I.tuple h
  obtain ⟨its',r',⟨o',e',_,n',d'⟩,_⟩:=I.tuple h'
  rw [e] at e'; cases e'
  rw [d] at d'
  injection d' with d1 _
  have:its=its':=by simpa using congrArg Array.toList d1
  subst this
  exact r.inj r'
end
noncomputable abbrev Cx.wish (X:Cx) (E:Value→Shared→Prop):Cx:={ X with xe:=E }
noncomputable abbrev Cx.nox (X:Cx):Cx:=X.wish fun _ _=>False
theorem Cx.Ok.wish {X:Cx} (ok:X.Ok) (E:Value→Shared→Prop):(X.wish E).Ok :=
  ⟨ok.mod,ok.kind,ok.glob,ok.blt,ok.above,ok.inj,ok.has,ok.cab,ok.hd,ok.frames,ok.stk,ok.exf,ok.bs,ok.bsz,ok.noex,ok.exfs,ok.funs,ok.frf⟩
theorem Cx.Ok.unwish {X:Cx} {E:Value→Shared→Prop} (ok:(X.wish E).Ok):X.Ok :=
  ⟨ok.mod,ok.kind,ok.glob,ok.blt,ok.above,ok.inj,ok.has,ok.cab,ok.hd,ok.frames,ok.stk,ok.exf,ok.bs,ok.bsz,ok.noex,ok.exfs,ok.funs,ok.frf⟩
section
variable {X:Cx} {pins:List (Addr×Obj)} {σ:St} {H:Hp} {s:Shared} {E:Value→Shared→Prop}
theorem Inv.wish (I:Inv X pins σ H s) (E:Value→Shared→Prop):Inv (X.wish E) pins σ H s:=⟨I.ok.wish E,I.os,I.bare,I.base,I.loc,I.cell,I.free,I.freeC,I.pin,I.hok,I.len⟩
theorem Inv.unwish (I:Inv (X.wish E) pins σ H s):Inv X pins σ H s:=⟨I.ok.unwish,I.os,I.bare,I.base,I.loc,I.cell,I.free,I.freeC,I.pin,I.hok,I.len⟩
theorem SP.unwish {D:Ends} {f:Flow} {s':Shared} (h:SP (X.wish E) pins D f s'):SP X pins D f s':=by
  cases f with
  | next=>obtain ⟨σ',H',I,q⟩:=h; exact ⟨σ',H',I.unwish,q⟩
  | brk=>obtain ⟨σ',H',I,q⟩:=h; exact ⟨σ',H',I.unwish,q⟩
  | cont=>obtain ⟨σ',H',I,q⟩:=h; exact ⟨σ',H',I.unwish,q⟩
  | ret u=>obtain ⟨v,σ',H',I,r,q⟩:=h; exact ⟨v,σ',H',I.unwish,r,q⟩
theorem PSs.nox {st:List Stmt} {t:TS} (h:PSs X.nox st t):PSs X st t:=fun pins s σ H D I hw =>
  wpAny_mono (h pins s σ H D (I.wish _) hw) (fun _ _ q=>q.unwish) fun _ _ z=>False.elim z
end
section
variable {X:Cx} {st:Stmt} {rest:List Stmt} {t u:TS} {e:Expr} {te:TE} {pos:Pos}
noncomputable def tNext:TS:=fun D σ H=>D.nx σ H
noncomputable def tSeq (t u:TS):TS:=fun D σ H=>t { D with nx:=u D } σ H
theorem pss_nil:PSs X [] tNext:=fun _ _ σ H _ I h=>wpAny_execs_nil ⟨σ,H,I,h⟩
theorem pss_cons (h1:PS X st t) (h2:PSs X rest u):PSs X (st::rest) (tSeq t u):=by
  intro pins s σ H D I h
  refine wpAny_execs_cons (thn (h1 pins s σ H { D with nx:=u D } I h) fun f s1 q=>?_)
  cases f with
  | next =>
    obtain ⟨σ',H',I',q⟩:=q
    exact h2 pins s1 σ' H' D I' q
  | ret v=>exact q
  | brk=>exact q
  | cont=>exact q
theorem pss_one (h1:PS X st t):PSs X [st] t:=by
  intro pins s σ H D I h
  refine wpAny_execs_cons (thn (h1 pins s σ H D I h) fun f s1 q=>?_)
  cases f with
  | next=>exact wpAny_execs_nil q
  | ret v=>exact q
  | brk=>exact q
  | cont=>exact q
theorem Inv.quiet {pins:List (Addr×Obj)} {σ:St} {H:Hp} {s:Shared} (I:Inv X pins σ H s):interactive X.env=false:=by simp [interactive,I.ok.kind]
noncomputable def tDrop (te:TE):TS:=fun D σ H=>te σ H fun _ H1=>D.nx σ H1
theorem ps_expr (he:PE X e te) (hs:swapsWith e none pos.line X.env=pure false:=by rfl):PS X (.Expr e pos) (tDrop te):=by
  intro pins s σ H D I h
  exact wpAny_Expr_any (thn (he pins s σ H _ I h) fun v s1 ⟨x,H1,I1,r1,q1⟩=>⟨σ,H1,I1,q1⟩) I.quiet hs
noncomputable def tRet (te:TE):TS:=fun D σ H=>te σ H D.rt
theorem ps_ret (he:PE X e te):PS X (.Return (some e) pos) (tRet te):=by
  intro pins s σ H D I h
  exact wpAny_Return_some (thn (he pins s σ H _ I h) fun v s1 ⟨x,H1,I1,r1,q1⟩=>⟨x,σ,H1,I1,r1,q1⟩)
noncomputable def tIfS (c:TT) (t u:TS):TS:=fun D σ H=>c σ H fun b H1=>if b=true then t D σ H1 else u D σ H1
theorem ps_if {c:Expr} {a b:List Stmt} {tc:TT} (hc:PT X c tc) (ha:PSs X a t) (hb:PSs X b u):PS X (.If c a b pos) (tIfS tc t u):=by
  intro pins s σ H D I h
  refine wpAny_If (thn (hc pins s σ H _ I h) fun d s1 hz0=>?_)
  obtain ⟨H1,I1,q1⟩:=hz0
  cases d with
  | true=>exact ha pins s1 σ H1 D I1 q1
  | false=>exact hb pins s1 σ H1 D I1 q1
end
noncomputable abbrev TG:=V→St→Hp→(St→Hp→Prop)→Prop
noncomputable abbrev TGs:=List V→St→Hp→(St→Hp→Prop)→Prop
noncomputable def PG (X:Cx) (target:Expr) (t:TG):Prop :=
  ∀ (pins:List (Addr×Obj)) (s:Shared) (σ:St) (H:Hp) (v:V) (u:Value) (Q:St→Hp→Prop),Inv X pins σ H s→RelV v u→t v σ H Q →
    wpAny (model X.prog X.w) X.A (assign target X.env u) (fun _ s'=>∃ σ' H',Inv X pins σ' H' s'∧Q σ' H') X.xe s
noncomputable def PGs (X:Cx) (ts:List Expr) (t:TGs):Prop :=
  ∀ (pins:List (Addr×Obj)) (s:Shared) (σ:St) (H:Hp) (vs:List V) (us:List Value) (Q:St→Hp→Prop),Inv X pins σ H s→Vals vs us→t vs σ H Q →
    wpAny (model X.prog X.w) X.A (assignInOrder ((assignEach ts X.env).map (·.2)) us) (fun _ s'=>∃ σ' H',Inv X pins σ' H' s'∧Q σ' H') X.xe s
noncomputable abbrev TSet:=V→V→V→Hp→(Hp→Prop)→Prop
noncomputable def PSet (X:Cx) (t:TSet):Prop :=
  ∀ (pins:List (Addr×Obj)) (s:Shared) (σ:St) (H:Hp) (o i v:V) (ov iv u:Value) (Q:Hp→Prop),Inv X pins σ H s→RelV o ov→RelV i iv→RelV v u→t o i v H Q →
    wpAny (model X.prog X.w) X.A (setItem ov iv u) (fun _ s'=>∃ H',Inv X pins σ H' s'∧Q H') X.xe s
noncomputable abbrev TIp:=V→V→Hp→VK→Prop
noncomputable def PIp (X:Cx) (op:Operator) (t:TIp):Prop :=
  ∀ (pins:List (Addr×Obj)) (s:Shared) (σ:St) (H:Hp) (x y:V) (v u:Value) (Q:VK),Inv X pins σ H s→RelV x v→RelV y u→t x y H Q →
    wpAny (model X.prog X.w) X.A (inplaceOp op v u) (EP X pins σ Q) X.xe s
section
variable {X:Cx} {pos:Pos}
noncomputable def gName (i:Nat):TG:=fun v σ H Q=>Q (σ.set i (some v)) H
theorem pg_name {i:Nat} {x:Str} (hN:X.N.Nodup) (hi:X.N[i]?=some x) (hx:Loc X.env.scope x) (hf:X.fn x=true∨X.env.scope.names.lookup x=some .local:=by first | exact .inl rfl | exact .inr rfl | assumption):PG X (.Name x pos) (gName i):=by
  intro pins s σ H v u Q I r h
  exact wpAny_assign_Name (store_ok I hN hi hx r (fun s' I'=>⟨_,H,I',h⟩) hf)
noncomputable def gNil:TGs:=fun vs σ H Q=>vs=[]∧Q σ H
noncomputable def gCons (t:TG) (u:TGs):TGs:=fun vs σ H Q=>∃ v r,vs=v::r∧t v σ H fun σ' H'=>u r σ' H' Q
theorem pgs_nil:PGs X [] gNil:=by
  intro pins s σ H vs us Q I r h
  obtain ⟨e,h⟩:=h
  subst e
  cases r
  exact assignInOrder_nil ⟨σ,H,I,h⟩
theorem pgs_cons {e:Expr} {es:List Expr} {t:TG} {u:TGs} (h1:PG X e t) (h2:PGs X es u)
    (hs:(assignEach (e::es) X.env).map (·.2)=assign e X.env::(assignEach es X.env).map (·.2):=by rfl):PGs X (e::es) (gCons t u):=by
  intro pins s σ H vs us Q I r h
  obtain ⟨v,vr,e1,h⟩:=h
  subst e1
  cases r with
  | cons r rr =>
    rw [hs]
    refine assignInOrder_cons (thn (h1 pins s σ H _ _ _ I r h) fun _ s1 hz0=>?_)
    obtain ⟨σ1,H1,I1,q1⟩:=hz0
    exact h2 pins s1 σ1 H1 _ _ Q I1 rr q1
noncomputable def gTup (K:PySem.W.Frag) (n:Nat) (t:TGs):TG:=fun v σ H Q=>∃ a xs,v=.ref a∧SqT K H a xs∧xs.length=n∧t xs σ H Q
theorem pg_tup {es:List Expr} {k:Nat} {t:TGs} {n:Nat} (hc:X.calm=true) (h:PGs X es t)
    (hn:(assignEach es X.env).length=n:=by rfl) (hst:(assignEach es X.env).findIdx? (·.1)=none:=by rfl):PG X (.Tuple es k pos) (gTup X.K n t):=by
  intro pins s σ H v u Q I r hw
  obtain ⟨a,xs,e1,hq,hl,hw⟩:=hw
  subst e1
  cases r
  obtain ⟨its,rv,ht,hz⟩:=I.tuple hq
  refine assign_Tuple_tuple (I.ok.hd hc) ht (by simp [hn,← hl,rv.length]) hst fun h' hx=>?_
  have I1:Inv X pins σ H { s with heap:=h' }:=I.kept (t':=s.toks) fun b o e=>hx b o (Nat.ne_of_lt (Heap.lt_size e)) e
  exact h pins _ σ H xs _ Q I1 (by simpa using rv) hw
noncomputable def gSub (to ti:TE) (t:TSet):TG:=fun v σ H Q=>to σ H fun o H1=>ti σ H1 fun i H2=>t o i v H2 fun H3=>Q σ H3
theorem pg_sub {o i:Expr} {to ti:TE} {t:TSet} (ho:PE X o to) (hi:PE X i ti) (hs:PSet X t)
    (ha:∀ v,assign (.Subscript o i pos) X.env v=(do
      let ov ← holding [v] (eval o X.env)
      let iv ← holding [v,ov] (eval i X.env)
      standAt pos
      holding [v,ov,iv] (setItem ov iv v)
      release [v,ov,iv] []):=by intro _; rfl):PG X (.Subscript o i pos) (gSub to ti t):=by
  intro pins s σ H v u Q I r h
  rw [ha]
  refine wpAny_bind (wpAny_holding (thn (ho pins s σ H _ I h) fun ov s1 hz0=>?_))
  obtain ⟨x,H1,I1,r1,q1⟩:=hz0
  refine wpAny_bind (wpAny_holding (thn (hi pins s1 σ H1 _ I1 q1) fun iv s2 hz0=>?_))
  obtain ⟨y,H2,I2,r2,q2⟩:=hz0
  refine wpAny_bind (wpAny_standAt (wpAny_bind (wpAny_holding (thn (hs pins s2 σ H2 x y v ov iv u _ I2 r1 r2 r q2) fun _ s3 hz0=>?_))))
  obtain ⟨H3,I3,q3⟩:=hz0
  exact wpAny_release ⟨σ,H3,I3,q3⟩
noncomputable def tAsg (te:TE) (g:TG):TS:=fun D σ H=>te σ H fun x H1=>g x σ H1 D.nx
theorem ps_asg {tg e:Expr} {te:TE} {g:TG} (he:PE X e te) (hg:PG X tg g) (hs:swapsWithSole [tg] e pos.line X.env=pure false:=by rfl) (hw:swappedStores [tg] e X.env=pure none:=by rfl)
    (h1:(assignEach [tg] X.env).map (·.2)=[assign tg X.env]:=by rfl):PS X (.Assign [tg] e pos) (tAsg te g):=by
  intro pins s σ H D I h
  refine wpAny_Assign_stores (thn (he pins s σ H _ I h) fun v s1 hz0=>?_) hs hw
  obtain ⟨x,H1,I1,r1,q1⟩:=hz0
  rw [h1]
  exact thn (hg pins s1 σ H1 x v _ I1 r1 q1) fun _ s2 q=>q
theorem ps_set {i:Nat} {x:Str} {e:Expr} {te:TE} {pos':Pos} (hN:X.N.Nodup) (hi:X.N[i]?=some x) (hx:Loc X.env.scope x) (he:PE X e te) (hs:swapsWith e (some (.Name x pos')) pos.line X.env=pure false:=by rfl) (hf:X.fn x=true∨X.env.scope.names.lookup x=some .local:=by first | exact .inl rfl | exact .inr rfl | assumption) :
    PS X (.Assign [.Name x pos'] e pos) (tAsg te (gName i)):=by
  intro pins s σ H D I h
  refine wpAny_Assign_Name (thn (he pins s σ H _ I h) fun v s1 hz0=>?_) hs
  obtain ⟨y,H1,I1,r1,q1⟩:=hz0
  exact store_ok I1 hN hi hx r1 (fun s2 I2=>⟨_,H1,I2,q1⟩) hf
noncomputable def tAug (i:Nat) (te:TE) (ti:TIp):TS:=fun D σ H=>∃ x,σ[i]?=some (some x)∧te σ H fun y H1=>ti x y H1 fun z H2=>D.nx (σ.set i (some z)) H2
theorem ps_aug {i:Nat} {x:Str} {e:Expr} {te:TE} {op:Operator} {ti:TIp} {pos':Pos} (hN:X.N.Nodup) (hi:X.N[i]?=some x) (hx:Loc X.env.scope x) (he:PE X e te) (ho:PIp X op ti) (hf:X.fn x=true∨X.env.scope.names.lookup x=some .local:=by first | exact .inl rfl | exact .inr rfl | assumption) :
    PS X (.AugAssign (.Name x pos') op e pos) (tAug i te ti):=by
  intro pins s σ H D I h
  obtain ⟨v,e1,h⟩:=h
  obtain ⟨m,hn,hl⟩:=I.loc
  have vis:Vis X.env.scope x:=by rcases hx with k | k; exact .inl k; exact .inr (.inl k)
  obtain ⟨u,r,l⟩:=hl i x v hi e1 vis
  refine wpAny_AugAssign_Name ?_
  have go:wpAny (model X.prog X.w) X.A (eval e X.env) (fun w s₂=>wpAny (model X.prog X.w) X.A (inplaceOp op u w) (fun r s₃=>wpAny (model X.prog X.w) X.A (storeName X.env x r) (fun _=>SP X pins D .next) X.xe s₃) X.xe s₂) X.xe s:=by
    refine thn (he pins s σ H _ I h) fun w s1 hz0=>?_
    obtain ⟨y,H1,I1,r1,q1⟩:=hz0
    refine thn (ho pins s1 σ H1 v y u w _ I1 r r1 q1) fun z s2 hz0=>?_
    obtain ⟨zv,H2,I2,r2,q2⟩:=hz0
    exact store_ok I2 hN hi hx r2 (fun s3 I3=>⟨_,H2,I3,q2⟩) hf
  rcases l with ⟨hk,hm⟩ | ⟨hk,c,hc,hcell⟩
  · exact wpAny_loadName_local I.ok.kind hk hn hm go
  · rcases hk with hk | hk
    · exact wpAny_loadName_cell I.ok.kind hk hc hcell go
    · rcases hx with k | k
      · have:X.env.scope.names.lookup x=some .free:=hk
        rw [k] at this; cases this
      · have:X.env.scope.names.lookup x=some .free:=hk
        rw [k] at this; cases this
end
section
variable {X:Cx} {pos:Pos}
noncomputable def tWhile (c:TT) (tb:TS):TS:=fun D σ H=>∃ W:Nat→St→Hp→Prop,(∃ m,W m σ H)∧∀ m σ H,W m σ H →
  c σ H fun b H1=>if b=true then ∃ N:St→Hp→Prop,(∀ σ' H',N σ' H'→∃ m',m' < m∧W m' σ' H')∧tb { D with nx:=N,ct:=N,bk:=D.nx } σ H1 else D.nx σ H1
theorem ps_while {c:Expr} {body:List Stmt} {tc:TT} {tb:TS} (hp:PassesOwn (model X.prog X.w) X.A X.env X.xe) (hc:PT X c tc) (hb:PSs X body tb):PS X (.While c body [] pos) (tWhile tc tb):=by
  intro pins s σ H D I h
  obtain ⟨W,⟨m0,w0⟩,turn⟩:=h
  refine wpAny_While (codeAny_whileLoop (fun n s'=>∃ σ' H',Inv X pins σ' H' s'∧W n σ' H') ?_ m0 ⟨σ,H,I,w0⟩)
  rintro n s1 ⟨σ1,H1,I1,w1⟩
  refine wpAny_passesOwn hp (thn (hc pins s1 σ1 H1 _ I1 (turn n σ1 H1 w1)) fun b s2 hz0=>?_)
  obtain ⟨H2,I2,q2⟩:=hz0
  cases b with
  | true =>
    obtain ⟨N,hN,q2⟩:=q2
    rw [if_pos rfl]
    refine wpAny_passesOwn hp (thn (hb pins s2 σ1 H2 _ I2 q2) fun f s3 q3=>?_)
    cases f with
    | next =>
      obtain ⟨σ3,H3,I3,n3⟩:=q3
      obtain ⟨m',hm,w3⟩:=hN σ3 H3 n3
      exact ⟨m',hm,σ3,H3,I3,w3⟩
    | cont =>
      obtain ⟨σ3,H3,I3,n3⟩:=q3
      obtain ⟨m',hm,w3⟩:=hN σ3 H3 n3
      exact ⟨m',hm,σ3,H3,I3,w3⟩
    | brk=>exact q3
    | ret v=>exact q3
  | false =>
    rw [if_neg Bool.false_ne_true]
    exact wpAny_execs_nil ⟨σ1,H2,I2,q2⟩
end
structure It where
  go:Nat→Hp→Prop
  yld:Nat→Hp→V→Hp→Prop
  stop:Nat→Hp→Prop
noncomputable def FpOk (X:Cx) (pins:List (Addr×Obj)) (H:Hp) (b:Addr):Prop :=
  H b=none∧b≠X.env.locals∧b ∉ X.fs∧(b∈X.ex∨X.s₀.heap.objs.size≤b)∧(∀ x c,X.env.cells.lookup x=some c→c≠b)∧∀ p∈X.pn++pins,p.1≠b
theorem Inv.fpOk {X:Cx} {pins:List (Addr×Obj)} {σ:St} {H H':Hp} {s:Shared} {b:Addr} (I:Inv X pins σ H s) (hb:s.heap.objs.size≤b) (hn:H' b=none):FpOk X pins H' b:=by
  refine ⟨hn,Nat.ne_of_gt (Nat.lt_of_lt_of_le I.lt hb),I.nofs hb,.inr (Nat.le_trans I.sz hb),fun x c e z=>?_,fun p hp z=>?_⟩
  · obtain ⟨v,q⟩:=I.cell x c e
    exact absurd (Nat.lt_of_lt_of_le q.lt (by rw [z]; exact hb)) (Nat.lt_irrefl _)
  · exact absurd (Nat.lt_of_lt_of_le (Heap.lt_size (I.pin p hp).1) (by rw [z]; exact hb)) (Nat.lt_irrefl _)
structure Turn (P:Program) (w:World) (K:PySem.W.Frag) (tg:Expr) (J:It) (fp:List Addr) (it:Addr) (tn:Nat→Heap→Prop):Prop where
  mem:it∈fp
  obj:∀ i h,tn i h→∀ b∈fp,∃ o,h.get? b=some o∧∀ v,o.data≠.cell v
  keep:∀ i h h',tn i h→(∀ b∈fp,∀ o,h.get? b=some o→h'.get? b=some o)→tn i h'
  item:∀ (X:Cx),X.prog=P→X.w=w→X.K=K→X.calm=true→∀ (i:Nat) (pins:List (Addr×Obj)) (s:Shared) (σ:St) (H:Hp) (E:Value→Shared→Prop),Inv X pins σ H s→(∀ b∈fp,FpOk X pins H b)→tn i s.heap→J.go i H →
    wpAny (model P w) X.A (pyNext (.ref it)) (fun r s1=>∃ u,r=some u ∧
      wpAny (model P w) X.A (letOwnedTupleGo tg (.ref it) u) (fun _ s2=>∃ x H',Inv X pins σ H' s2∧RelV x u∧J.yld i H x H'∧tn (i+1) s2.heap∧∀ b∈fp,H' b=none) E s1) E s
  done:∀ (X:Cx),X.prog=P→X.w=w→X.K=K→X.calm=true→∀ (i:Nat) (pins:List (Addr×Obj)) (s:Shared) (σ:St) (H:Hp) (E:Value→Shared→Prop),Inv X pins σ H s→(∀ b∈fp,FpOk X pins H b)→tn i s.heap→J.stop i H →
    wpAny (model P w) X.A (pyNext (.ref it)) (fun r s1=>r=none∧Inv X pins σ H s1) E s
  self:∀ (A:Around) (i:Nat) (s:Shared) (Q:Value→Shared→Prop) (E:Value→Shared→Prop),tn i s.heap→Q (.ref it) s→wpAny (model P w) A (pyIter (.ref it)) Q E s
noncomputable abbrev TI:=St→Hp→(It→Hp→Prop)→Prop
noncomputable def PIE (X:Cx) (pins:List (Addr×Obj)) (σ:St) (tg:Expr) (R:It→Hp→Prop) (itv:Value) (s2:Shared):Prop :=
  ∃ (it:Addr) (fp:List Addr) (tn:Nat→Heap→Prop) (J:It) (H':Hp),itv=.ref it∧Inv X pins σ H' s2∧Turn X.prog X.w X.K tg J fp it tn∧tn 0 s2.heap∧(∀ b∈fp,FpOk X pins H' b)∧R J H'
noncomputable def PI (X:Cx) (tg iter:Expr) (wi:TI):Prop :=
  ∀ (pins:List (Addr×Obj)) (s:Shared) (σ:St) (H:Hp) (R:It→Hp→Prop),Inv X pins σ H s→wi σ H R →
    wpAny (model X.prog X.w) X.A (eval iter X.env) (fun v s1=>wpAny (model X.prog X.w) X.A (pyIter v) (PIE X pins σ tg R) X.xe s1) X.xe s

theorem go_of {M:Model} {A:Around} {E:Value→Shared→Prop} {s:Shared} {tg:Expr} {it:Addr} {u:Value} {o:Obj} {n:String} {vs:Array Value} {Q:Unit→Shared→Prop} (ho:s.heap.get? it=some o) (hc:o.cls=.type n) (hd:o.data=.fields vs)
    (hn:["enumerate","zip","dict_itemiterator","dict_reverseitemiterator","odict_iterator","itertools.zip_longest","itertools.pairwise"].contains n=false) (hQ:Q () s):wpAny M A (letOwnedTupleGo tg (.ref it) u) Q E s:=by
  unfold letOwnedTupleGo
  cases tg <;> first
    | exact wpAny_pure hQ
    | (cases u <;> first
        | exact wpAny_pure hQ
        | (refine wpAny_bind (wpAny_load ho ?_)
           rw [hc,hd]
           show wpAny M A (if (["enumerate","zip","dict_itemiterator","dict_reverseitemiterator","odict_iterator","itertools.zip_longest","itertools.pairwise"].contains n && vs[0]? == some (rawInt _))=true then _ else _) Q E s
           rw [if_neg (by intro h; rw [hn,Bool.false_and] at h; cases h)]
           exact wpAny_pure hQ))

noncomputable def Itl (K:PySem.W.Frag) (a:Addr):It :=
  ⟨fun i H=>∃ xs x,SqL K H a xs∧xs[i]?=some x,fun i H x H'=>H'=H∧∀ xs,SqL K H a xs→xs[i]?=some x,fun i H=>∃ xs,SqL K H a xs∧xs.length≤i⟩
noncomputable def Itt (K:PySem.W.Frag) (a:Addr):It :=
  ⟨fun i H=>∃ xs x,SqT K H a xs∧xs[i]?=some x,fun i H x H'=>H'=H∧∀ xs,SqT K H a xs→xs[i]?=some x,fun i H=>∃ xs,SqT K H a xs∧xs.length≤i⟩
noncomputable def Itr (lo:Int) (n:Nat):It:=⟨fun i _=>i < n,fun i H x H'=>H'=H∧x=.int (lo+i),fun i _=>n≤i⟩
theorem turn_list {P:Program} {w:World} {K:PySem.W.Frag} {tg:Expr} (a it:Addr):Turn P w K tg (Itl K a) [it] it (fun i h=>h.IsListIter it a i) where
  mem:=by simp
  obj:=fun i h st b hb=>by
    have e:b=it:=by simpa using hb
    subst e
    obtain ⟨o,e,c,d⟩:=st
    exact ⟨o,e,fun v z=>by rw [d] at z; cases z⟩
  keep:=fun i h h' st k=>st.at fun o e=>k it (by simp) o e
  item:=by
    intro X hP hw hK hc i pins s σ H E I hf st hg
    subst hP hw hK
    obtain ⟨xs,x,hq,hx⟩:=hg
    obtain ⟨its,rv,p,hz⟩:=I.list hq
    obtain ⟨u,hu,ru⟩:=rv.get hx
    obtain ⟨f0,f1,f2,f3,f4,f5⟩:=hf it (by simp)
    refine wpAny_pyNext_list_item st p.isList (x:=u) (by simpa using hu) fun h' st' sb=>?_
    have I1:Inv X pins σ H { s with heap:=h' }:=I.turned (t':=s.toks) (fun b o hb e=>(sb.2 b hb).trans e) f0 f1 f3 f4 f5
    obtain ⟨o,e,c,d⟩:=id st'
    exact ⟨u,rfl,go_of (s:={ s with heap:=h' }) e c d (by decide) ⟨x,H,I1,ru,⟨rfl,fun ys hy=>by rw [I.list_inj hy hq]; exact hx⟩,st',fun b hb=>(hf b hb).1⟩⟩
  done:=by
    intro X hP hw hK hc i pins s σ H E I hf st hg
    subst hP hw hK
    obtain ⟨xs,hq,hx⟩:=hg
    obtain ⟨its,rv,p,hz⟩:=I.list hq
    obtain ⟨f0,f1,f2,f3,f4,f5⟩:=hf it (by simp)
    have hl:=rv.length
    exact wpAny_pyNext_list_end (I.ok.hd hc) st p.isList (by simp; omega) fun h' eb=>⟨rfl,I.turned (t':=s.toks) (fun b o hb e=>eb b o hb e) f0 f1 f3 f4 f5⟩
  self:=fun _ _ _ _ _ st h=>wpAny_pyIter_listiter st h
theorem turn_tuple {P:Program} {w:World} {K:PySem.W.Frag} {tg:Expr} (a it:Addr):Turn P w K tg (Itt K a) [it] it (fun i h=>h.IsTupleIter it a i) where
  mem:=by simp
  obj:=fun i h st b hb=>by
    have e:b=it:=by simpa using hb
    subst e
    obtain ⟨o,e,c,d⟩:=st
    exact ⟨o,e,fun v z=>by rw [d] at z; cases z⟩
  keep:=fun i h h' st k=>st.at fun o e=>k it (by simp) o e
  item:=by
    intro X hP hw hK hc i pins s σ H E I hf st hg
    subst hP hw hK
    obtain ⟨xs,x,hq,hx⟩:=hg
    obtain ⟨its,rv,p,hz⟩:=I.tuple hq
    obtain ⟨u,hu,ru⟩:=rv.get hx
    obtain ⟨f0,f1,f2,f3,f4,f5⟩:=hf it (by simp)
    refine wpAny_pyNext_tuple_item st (show s.heap.IsTuple a its.toArray from p) (x:=u) (by simpa using hu) fun h' st' sb=>?_
    have I1:Inv X pins σ H { s with heap:=h' }:=I.turned (t':=s.toks) (fun b o hb e=>(sb.2 b hb).trans e) f0 f1 f3 f4 f5
    obtain ⟨o,e,c,d⟩:=id st'
    exact ⟨u,rfl,go_of (s:={ s with heap:=h' }) e c d (by decide) ⟨x,H,I1,ru,⟨rfl,fun ys hy=>by rw [I.tuple_inj hy hq]; exact hx⟩,st',fun b hb=>(hf b hb).1⟩⟩
  done:=by
    intro X hP hw hK hc i pins s σ H E I hf st hg
    subst hP hw hK
    obtain ⟨xs,hq,hx⟩:=hg
    obtain ⟨its,rv,p,hz⟩:=I.tuple hq
    obtain ⟨f0,f1,f2,f3,f4,f5⟩:=hf it (by simp)
    have hl:=rv.length
    exact wpAny_pyNext_tuple_end (I.ok.hd hc) st (show s.heap.IsTuple a its.toArray from p) (by simp; omega) fun h' eb=>⟨rfl,I.turned (t':=s.toks) (fun b o hb e=>eb b o hb e) f0 f1 f3 f4 f5⟩
  self:=fun _ _ _ _ _ st h=>wpAny_pyIter_tupleiter st h
theorem turn_range {P:Program} {w:World} {K:PySem.W.Frag} {tg:Expr} (it:Addr) (lo:Int) (n:Nat):Turn P w K tg (Itr lo n) [it] it (fun i h=>IsRangeIter h it (lo+(i:Nat) * 1) ((n:Int) - (i:Nat)) 1) where
  mem:=by simp
  obj:=fun i h st b hb=>by
    have e:b=it:=by simpa using hb
    subst e
    exact ⟨_,st,fun v z=>by
      have z':Data.fields _=Data.cell v:=z
      cases z'⟩
  keep:=fun i h h' st k=>k it (by simp) _ st
  item:=by
    intro X hP hw hK hc i pins s σ H E I hf st hg
    subst hP hw hK
    obtain ⟨f0,f1,f2,f3,f4,f5⟩:=hf it (by simp)
    have W:=Walks.range (prog:=X.prog) (w:=X.w) (I.ok.hd hc) it lo 1 n
    refine W.item i s _ _ hg st fun v h' tk hv st' kk=>?_
    obtain ⟨t,rfl⟩:=hv
    have I1:Inv X pins σ H { s with heap:=h',toks:=tk }:=I.turned (fun b o hb e=>kk b o (by simpa using hb) e) f0 f1 f3 f4 f5
    refine ⟨_,rfl,go_of (s:={ s with heap:=h',toks:=tk }) (n:="range_iterator") st' rfl rfl (by decide) ⟨.int (lo+i),H,I1,⟨t,?_⟩,⟨rfl,rfl⟩,st',fun b hb=>(hf b hb).1⟩⟩
    rw [Int.mul_one]
  done:=by
    intro X hP hw hK hc i pins s σ H E I hf st hg
    subst hP hw hK
    obtain ⟨f0,f1,f2,f3,f4,f5⟩:=hf it (by simp)
    exact wpAny_pyNext_range_end (I.ok.hd hc) st (by have:n≤i:=hg; omega) fun h' eb=>⟨rfl,I.turned (t':=s.toks) (fun b o hb e=>eb b o hb e) f0 f1 f3 f4 f5⟩
  self:=fun _ _ _ _ _ st h=>wpAny_pyIter_rangeiter st h
end L2
namespace L2
open PySem PySem.Spec PyProof.Rows
section
variable {X:Cx} {tg:Expr}
theorem range_it {pins:List (Addr×Obj)} {σ:St} {H:Hp} {s:Shared} {R:It→Hp→Prop} {E:Value→Shared→Prop} {lo hi:Int} {t u v:Tok} {tk:Nat} (I:Inv X pins σ H s) (h1:-(2 ^ 62)≤lo) (h2:lo < 2 ^ 62) (h3:-(2 ^ 62)≤hi) (h4:hi < 2 ^ 62)
    (q:R (Itr lo (hi - lo).toNat) H):wpAny (model X.prog X.w) X.A (pyIter (.ref s.heap.objs.size)) (PIE X pins σ tg R) E { s with heap:=s.heap.push { cls:=.type "range",data:=.fields #[.int lo t,.int hi u,.int 1 v] },toks:=tk }:=by
  refine wpAny_pyIter_range (IsRange.new ..) (small_one h1 h2 h3 h4) ?_
  have I1:Inv X pins σ H { s with heap:=s.heap.push { cls:=.type "range",data:=.fields #[.int lo t,.int hi u,.int 1 v] },toks:=tk }:=I.kept fun b o e=>Heap.get?_push_of_some _ e
  refine ⟨(s.heap.push { cls:=.type "range",data:=.fields #[.int lo t,.int hi u,.int 1 v] }).objs.size,[(s.heap.push { cls:=.type "range",data:=.fields #[.int lo t,.int hi u,.int 1 v] }).objs.size],_,_,H,rfl,
    I1.kept (t':=tk) fun b o e=>Heap.get?_push_of_some _ e,turn_range _ lo (hi - lo).toNat,?_,fun b hb=>?_,q⟩
  · have e1:lo+((0:Nat):Int) * 1=lo:=by simp
    have e2:(((hi - lo).toNat:Nat):Int) - ((0:Nat):Int)=Builtin.Range.rangeSize lo hi 1:=by rw [rangeSize_one]; split <;> omega
    show IsRangeIter _ _ (lo+((0:Nat):Int) * 1) ((((hi - lo).toNat:Nat):Int) - ((0:Nat):Int)) 1
    rw [e1,e2]
    exact Heap.get?_push_size _ rfl
  · have e:b=(s.heap.push { cls:=.type "range",data:=.fields #[.int lo t,.int hi u,.int 1 v] }).objs.size:=by simpa using hb
    subst e
    exact I1.fpOk (Nat.le_refl _) (I1.hok.fresh (Nat.le_refl _))
noncomputable def iRng1 (ta:TA):TI:=fun σ H R=>ta σ H fun vs H1=>∃ j:Int,vs=[.int j]∧-(2 ^ 62)≤j∧j < 2 ^ 62∧R (Itr 0 j.toNat) H1
noncomputable def iRng2 (ta:TA):TI:=fun σ H R=>ta σ H fun vs H1=>∃ i j:Int,vs=[.int i,.int j]∧(-(2 ^ 62)≤i∧i < 2 ^ 62∧-(2 ^ 62)≤j∧j < 2 ^ 62)∧R (Itr i (j - i).toNat) H1
theorem pi_range1 {a:Expr} {ta:TA} {p pos:Pos} (hg:Gl X "range") (hm:X.mg "range"=none) (ha:PA X [a] ta) (hs:starEach [a] X.env=[(false,eval a X.env)]:=by rfl):PI X tg (.Call (.Name "range" p) [a] [] pos) (iRng1 ta):=by
  intro pins s σ H R I h
  refine Call_ (ld_blt I hg hm boot_range (PyProof.Rows.callWith_type1 (thn (ha pos pins s σ H _ I h) fun us s1 hz0=>?_) hs rfl))
  obtain ⟨vs,H1,I1,r1,q1⟩:=hz0
  obtain ⟨j,e,q1,q2,q⟩:=q1
  subst e
  cases r1 with
  | cons r rr =>
    cases rr
    obtain ⟨t,rfl⟩:=r
    exact call_range_1 (range_it I1 (by omega) (by omega) q1 q2 (by simpa using q))
theorem pi_range2 {a b:Expr} {ta:TA} {p pos:Pos} (hg:Gl X "range") (hm:X.mg "range"=none) (ha:PA X [a,b] ta) (hs:starEach [a,b] X.env=[(false,eval a X.env),(false,eval b X.env)]:=by rfl) (hs2:starEach [b] X.env=[(false,eval b X.env)]:=by rfl) :
    PI X tg (.Call (.Name "range" p) [a,b] [] pos) (iRng2 ta):=by
  intro pins s σ H R I h
  refine Call_ (ld_blt I hg hm boot_range (PyProof.Rows.callWith_type1 (thn (ha pos pins s σ H _ I h) fun us s1 hz0=>?_) (by rw [hs,hs2]) (by rw [hs2]; rfl)))
  obtain ⟨vs,H1,I1,r1,q1⟩:=hz0
  obtain ⟨i,j,e,⟨q1,q2,q3,q4⟩,q⟩:=q1
  subst e
  cases r1 with
  | cons r rr =>
    cases rr with
    | cons r' rr =>
      cases rr
      obtain ⟨t,rfl⟩:=r
      obtain ⟨t',rfl⟩:=r'
      exact call_range_2 (range_it I1 q1 q2 q3 q4 q)

noncomputable def tFor (wi:TI) (g:TG) (tb:TS):TS:=fun D σ H=>wi σ H fun J H1=>∃ W:Nat→Nat→St→Hp→Prop,(∃ m,W 0 m σ H1)∧∀ i m σ H,W i m σ H →
  (J.stop i H∧D.nx σ H)∨(J.go i H∧∃ N:St→Hp→Prop,(∀ σ' H',N σ' H'→∃ m',m' < m∧W (i+1) m' σ' H')∧∀ x H',J.yld i H x H'→g x σ H' fun σ2 H2=>tb { D with nx:=N,ct:=N,bk:=D.nx } σ2 H2)
noncomputable def pinsAt (fp:List Addr) (h:Heap):List (Addr×Obj):=fp.filterMap fun b=>(h.get? b).map fun o=>(b,o)
theorem mem_pinsAt {fp:List Addr} {h:Heap} {b:Addr} {o:Obj} (hb:b∈fp) (e:h.get? b=some o):(b,o)∈pinsAt fp h:=List.mem_filterMap.mpr ⟨b,hb,by rw [e]; rfl⟩
theorem of_pinsAt {fp:List Addr} {h:Heap} {p:Addr×Obj} (hp:p∈pinsAt fp h):p.1∈fp∧h.get? p.1=some p.2:=by
  obtain ⟨b,hb,e⟩:=List.mem_filterMap.mp hp
  cases q:h.get? b with
  | none=>rw [q] at e; cases e
  | some o =>
    rw [q] at e
    have e':(b,o)=p:=Option.some.inj e
    subst e'
    exact ⟨hb,q⟩
theorem Inv.pinned {pins:List (Addr×Obj)} {σ:St} {H:Hp} {s:Shared} {fp:List Addr} (I:Inv X pins σ H s) (hf:∀ b∈fp,FpOk X pins H b) (ho:∀ b∈fp,∃ o,s.heap.get? b=some o∧∀ v,o.data≠.cell v):Inv X (pins++pinsAt fp s.heap) σ H s :=
  I.pins_of fun p hp=>(List.mem_append.mp hp).elim (fun z=>I.pin p (List.mem_append_right _ z)) fun z=>by
    obtain ⟨hb,e⟩:=of_pinsAt z
    obtain ⟨f0,f1,f2,_⟩:=hf p.1 hb
    obtain ⟨o,e',d⟩:=ho p.1 hb
    rw [e] at e'; cases e'
    exact ⟨e,f0,f1,f2,d⟩
theorem Inv.unpinned {pins pl:List (Addr×Obj)} {σ:St} {H:Hp} {s:Shared} (I:Inv X (pins++pl) σ H s):Inv X pins σ H s:=I.pins_of fun p hp=>I.pin p (List.mem_append_right _ (List.mem_append_left _ hp))
theorem ps_for {iter:Expr} {body:List Stmt} {wi:TI} {g:TG} {tb:TS} {pos:Pos} (hp:PassesOwn (model X.prog X.w) X.A X.env X.xe) (hc:X.calm=true) (hi:PI X tg iter wi) (hg:PG X tg g) (hb:PSs X body tb)
    (hs:∀ x,foldedSetIterable iter X.env x=pure x:=by intro _; rfl):PS X (.For tg iter body [] pos) (tFor wi g tb):=by
  intro pins s σ H D I h
  refine wpAny_For (thn (hi pins s σ H _ I h) fun v s1 h1=>thn h1 fun itv s2 h2=>?_) hs
  obtain ⟨it,fp,tn,J,H2,e,I2,T,st2,f2,W,⟨m0,w0⟩,turn⟩:=h2
  subst e
  -- what stays true of the iterator's objects through the loop
  have stat:∀ {H':Hp},(∀ b∈fp,H' b=none)→∀ b∈fp,FpOk X pins H' b:=fun hn b hb=>⟨hn b hb,(f2 b hb).2⟩
  refine codeAny_forLoop_any (fun n s'=>∃ i σ' H',Inv X pins σ' H' s'∧tn i s'.heap∧(∀ b∈fp,H' b=none)∧W i n σ' H') ?_ m0 ⟨0,σ,H2,I2,st2,fun b hb=>(f2 b hb).1,w0⟩
  rintro n s3 ⟨i,σ3,H3,I3,st3,fr3,w3⟩
  rcases turn i n σ3 H3 w3 with ⟨stop,qn⟩ | ⟨go,N,hN,step⟩
  · refine wpAny_passesOwn hp (thn (T.done X rfl rfl rfl hc i pins s3 σ3 H3 X.xe I3 (stat fr3) st3 stop) fun r s4 hz0=>?_)
    obtain ⟨hr,I4⟩:=hz0
    subst hr
    exact wpAny_execs_nil ⟨σ3,H3,I4,qn⟩
  · refine wpAny_passesOwn hp (thn (T.item X rfl rfl rfl hc i pins s3 σ3 H3 X.xe I3 (stat fr3) st3 go) fun r s4 hz0=>?_)
    obtain ⟨u,hr,h4⟩:=hz0
    subst hr
    refine wpAny_passesOwn hp (thn h4 fun _ s5 hz0=>?_)
    obtain ⟨x,H5,I5,r5,y5,st5,fr5⟩:=hz0
    have I5':=I5.pinned (stat fr5) (T.obj _ _ st5)
    refine wpAny_passesOwn hp (thn (hg _ s5 σ3 H5 x u _ I5' r5 (step x H5 y5)) fun _ s6 hz0=>?_)
    obtain ⟨σ6,H6,I6,q6⟩:=hz0
    refine wpAny_passesOwn hp (thn (hb _ s6 σ6 H6 _ I6 q6) fun f s7 q7=>?_)
    have again:∀ {σ7:St} {H7:Hp},Inv X (pins++pinsAt fp s5.heap) σ7 H7 s7→N σ7 H7→∃ m,m < n∧∃ i σ' H',Inv X pins σ' H' s7∧tn i s7.heap∧(∀ b∈fp,H' b=none)∧W i m σ' H':=fun {σ7 H7} I7 n7=>by
      obtain ⟨m',hm,w7⟩:=hN σ7 H7 n7
      refine ⟨m',hm,i+1,σ7,H7,I7.unpinned,T.keep _ _ _ st5 fun b hb o e=>(I7.pin (b,o) (List.mem_append_right _ (List.mem_append_right _ (mem_pinsAt hb e)))).1,fun b hb=>?_,w7⟩
      obtain ⟨o,e,d⟩:=T.obj _ _ st5 b hb
      exact (I7.pin (b,o) (List.mem_append_right _ (List.mem_append_right _ (mem_pinsAt hb e)))).2.1
    cases f with
    | next=>obtain ⟨σ7,H7,I7,n7⟩:=q7; exact again I7 n7
    | cont=>obtain ⟨σ7,H7,I7,n7⟩:=q7; exact again I7 n7
    | brk=>obtain ⟨σ7,H7,I7,q7⟩:=q7; exact ⟨σ7,H7,I7.unpinned,q7⟩
    | ret v=>obtain ⟨x7,σ7,H7,I7,r7,q7⟩:=q7; exact ⟨x7,σ7,H7,I7.unpinned,r7,q7⟩
end
end L2
namespace L2
open PySem PySem.Spec PyProof.Rows
noncomputable abbrev R2:=V→V→Hp→VK→Prop
noncomputable def OpR (X:Cx) (f:Value→Value→Sem Value) (r:R2):Prop :=
  ∀ (pins:List (Addr×Obj)) (s:Shared) (σ:St) (H:Hp) (x y:V) (v u:Value) (Q:VK),Inv X pins σ H s→RelV x v→RelV y u→r x y H Q →
    wpAny (model X.prog X.w) X.A (f v u) (EP X pins σ Q) X.xe s
noncomputable def UnR (X:Cx) (f:Value→Sem Value) (r:V→Hp→VK→Prop):Prop :=
  ∀ (pins:List (Addr×Obj)) (s:Shared) (σ:St) (H:Hp) (x:V) (v:Value) (Q:VK),Inv X pins σ H s→RelV x v→r x H Q →
    wpAny (model X.prog X.w) X.A (f v) (EP X pins σ Q) X.xe s
noncomputable def CallR (X:Cx) (f:Value) (r:List V→Hp→VK→Prop):Prop :=
  ∀ (pins:List (Addr×Obj)) (s:Shared) (σ:St) (H:Hp) (xs:List V) (us:List Value) (Q:VK),Inv X pins σ H s→Vals xs us→r xs H Q →
    wpAny (model X.prog X.w) X.A (call f us) (EP X pins σ Q) X.xe s
noncomputable def TruR (X:Cx) (r:V→Hp→(Bool→Hp→Prop)→Prop):Prop :=
  ∀ (pins:List (Addr×Obj)) (s:Shared) (σ:St) (H:Hp) (x:V) (v:Value) (Q:Bool→Hp→Prop),Inv X pins σ H s→RelV x v→r x H Q →
    wpAny (model X.prog X.w) X.A (truthy v) (TP X pins σ Q) X.xe s

noncomputable def tOp (r:R2) (ta tb:TE):TE:=fun σ H Q=>ta σ H fun x H1=>tb σ H1 fun y H2=>r x y H2 Q
noncomputable def tUn (r:V→Hp→VK→Prop) (ta:TE):TE:=fun σ H Q=>ta σ H fun x H1=>r x H1 Q
noncomputable def rI (C:Int→Int→Prop) (g:Int→Int→V):R2:=fun x y H Q=>∃ i j,x=.int i∧y=.int j∧C i j∧Q (g i j) H
noncomputable def rI0 (g:Int→Int→V):R2:=fun x y H Q=>∃ i j,x=.int i∧y=.int j∧Q (g i j) H
noncomputable def rU (g:Int→V):V→Hp→VK→Prop:=fun x H Q=>∃ i,x=.int i∧Q (g i) H

section
variable {X:Cx} {a b c:Expr} {ta tb tc:TE} {pos:Pos}
theorem binT (ha:PE X a ta) (hb:PE X b tb) {pins:List (Addr×Obj)} {s:Shared} {σ:St} {H:Hp} {R:V→V→Hp→Prop} (I:Inv X pins σ H s)
    (h:ta σ H fun x H1=>tb σ H1 fun y H2=>R x y H2) {Q:Value→Shared→Prop} {f:Value→Value→Sem Value}
    (hf:∀ v u s2 x y H2,Inv X pins σ H2 s2→RelV x v→RelV y u→R x y H2→wpAny (model X.prog X.w) X.A (f v u) Q X.xe s2) :
    wpAny (model X.prog X.w) X.A (eval a X.env) (fun v s₁=>wpAny (model X.prog X.w) X.A (eval b X.env) (fun u s₂=>wpAny (model X.prog X.w) X.A (f v u) Q X.xe s₂) X.xe s₁) X.xe s:=by
  refine thn (ha pins s σ H _ I h) fun v s1 hz0=>?_
  obtain ⟨x,H1,I1,r1,q1⟩:=hz0
  refine thn (hb pins s1 σ H1 _ I1 q1) fun u s2 hz0=>?_
  obtain ⟨y,H2,I2,r2,q2⟩:=hz0
  exact hf v u s2 x y H2 I2 r1 r2 q2

theorem pe_op {op:Operator} {r:R2} (ho:OpR X (binaryOp op) r) (ha:PE X a ta) (hb:PE X b tb):PE X (.BinOp a op b pos) (tOp r ta tb):=by
  intro pins s σ H Q I h
  exact wpAny_BinOp (binT ha hb I h fun v u s2 x y H2 I2 rx ry q=>ho pins s2 σ H2 x y v u Q I2 rx ry q)
theorem pe_un {op:UnaryOp} {r:V→Hp→VK→Prop} (ho:UnR X (unaryOp op) r) (ha:PE X a ta):PE X (.UnaryOp op a pos) (tUn r ta):=by
  intro pins s σ H Q I h
  exact UnaryOp_ (thn (ha pins s σ H _ I h) fun v s1 ⟨x,H1,I1,r1,q1⟩=>ho pins s1 σ H1 x v Q I1 r1 q1)
theorem opI {f:Value→Value→Sem Value} {C:Int→Int→Prop} {g:Int→Int→Int}
    (rule:∀ (i j:Int) (t u:Tok) (s:Shared) (Q:Value→Shared→Prop) (E:Value→Shared→Prop),C i j→Q (.int (g i j) s.toks) { s with toks:=s.toks+1 }→wpAny (model X.prog X.w) X.A (f (.int i t) (.int j u)) Q E s) :
    OpR X f (rI C fun i j=>.int (g i j)):=by
  intro pins s σ H x y v u Q I rx ry h
  obtain ⟨i,j,rfl,rfl,hc,q⟩:=h
  obtain ⟨t,rfl⟩:=rx
  obtain ⟨t',rfl⟩:=ry
  exact rule i j t t' s _ _ hc ⟨.int (g i j),H,I.tok _,⟨_,rfl⟩,q⟩
theorem opI0 {f:Value→Value→Sem Value} {g:Int→Int→Int}
    (rule:∀ (i j:Int) (t u:Tok) (s:Shared) (Q:Value→Shared→Prop) (E:Value→Shared→Prop),Q (.int (g i j) s.toks) { s with toks:=s.toks+1 }→wpAny (model X.prog X.w) X.A (f (.int i t) (.int j u)) Q E s) :
    OpR X f (rI0 fun i j=>.int (g i j)):=by
  intro pins s σ H x y v u Q I rx ry h
  obtain ⟨i,j,rfl,rfl,q⟩:=h
  obtain ⟨t,rfl⟩:=rx
  obtain ⟨t',rfl⟩:=ry
  exact rule i j t t' s _ _ ⟨.int (g i j),H,I.tok _,⟨_,rfl⟩,q⟩
theorem opB0 {f:Value→Value→Sem Value} {g:Int→Int→Bool}
    (rule:∀ (i j:Int) (t u:Tok) (s:Shared) (Q:Value→Shared→Prop) (E:Value→Shared→Prop),Q (.bool (g i j)) s→wpAny (model X.prog X.w) X.A (f (.int i t) (.int j u)) Q E s) :
    OpR X f (rI0 fun i j=>.bl (g i j)):=by
  intro pins s σ H x y v u Q I rx ry h
  obtain ⟨i,j,rfl,rfl,q⟩:=h
  obtain ⟨t,rfl⟩:=rx
  obtain ⟨t',rfl⟩:=ry
  exact rule i j t t' s _ _ ⟨.bl (g i j),H,I,rfl,q⟩

noncomputable def CDiv (i j:Int):Prop:=0 < j∧j < 1073741824
noncomputable def CPow (i j:Int):Prop:=0≤j∧j≤1000000∧i.natAbs < 2 ^ 64
noncomputable def CMul (i j:Int):Prop:=(-(2 ^ 64) < i∧i < 2 ^ 64)∨(-(2 ^ 64) < j∧j < 2 ^ 64)
theorem CMul.ok {i j:Int} (h:CMul i j):IntMulOk i j:=by
  rcases h with ⟨h1,h2⟩ | ⟨h1,h2⟩
  · exact .of_left (intBits_le_64 h1 h2)
  · exact .of_right (intBits_le_64 h1 h2)
theorem op_add:OpR X (binaryOp .Add) (rI0 fun i j=>.int (i+j)):=opI0 fun _ _ _ _ _ _ _ q=>add_int q
theorem op_sub:OpR X (binaryOp .Sub) (rI0 fun i j=>.int (i - j)):=opI0 fun _ _ _ _ _ _ _ q=>sub_int q
theorem op_mul:OpR X (binaryOp .Mult) (rI CMul fun i j=>.int (i * j)):=opI fun _ _ _ _ _ _ _ hc q=>mul_int q hc.ok
theorem op_fdiv:OpR X (binaryOp .FloorDiv) (rI CDiv fun i j=>.int (i / j)):=opI fun i j _ _ _ _ _ hc q=>by
  have h1:(0:Int) < j:=hc.1
  have h2:j < 1073741824:=hc.2
  exact floordiv_int (by omega) (by rw [Int.fdiv_eq_ediv_of_nonneg i (by omega)]; exact q) (.inl (PyProof.noPylong_small (by omega)))
theorem op_mod:OpR X (binaryOp .Mod) (rI (fun _ j=>0 < j) fun i j=>.int (i % j)):=opI fun i j _ _ _ _ _ hc q=>by
  have h1:(0:Int) < j:=hc
  exact mod_int' (by omega) (by rw [Int.fmod_eq_emod_of_nonneg i (by omega)]; exact q)
theorem op_pow:OpR X (binaryOp .Pow) (rI CPow fun i j=>.int (i ^ j.toNat)):=opI fun _ _ _ _ _ _ _ hc q=>pow_int_small hc.1 hc.2.1 hc.2.2 q
theorem iop_add:OpR X (inplaceOp .Add) (rI0 fun i j=>.int (i+j)):=opI0 fun _ _ _ _ _ _ _ q=>iadd_int q
theorem iop_sub:OpR X (inplaceOp .Sub) (rI0 fun i j=>.int (i - j)):=opI0 fun _ _ _ _ _ _ _ q=>isub_int q
theorem unI {f:Value→Sem Value} {g:Int→Int}
    (rule:∀ (i:Int) (t:Tok) (s:Shared) (Q:Value→Shared→Prop) (E:Value→Shared→Prop),Q (.int (g i) s.toks) { s with toks:=s.toks+1 }→wpAny (model X.prog X.w) X.A (f (.int i t)) Q E s) :
    UnR X f (rU fun i=>.int (g i)):=by
  intro pins s σ H x v Q I rx h
  obtain ⟨i,rfl,q⟩:=h
  obtain ⟨t,rfl⟩:=rx
  exact rule i t s _ _ ⟨.int (g i),H,I.tok _,⟨_,rfl⟩,q⟩
theorem un_neg:UnR X (unaryOp .USub) (rU fun i=>.int (-i)):=unI fun _ _ _ _ _ q=>neg_int q
end
noncomputable def scal:V→V→Bool
  | .non,.non=>true | .non,.int _=>true | .int _,.non=>true | .non,.bl _=>true | .bl _,.non=>true | .non,.str _=>true | .str _,.non=>true
  | .int _,.int _=>true | .bl _,.bl _=>true | .str _,.str _=>true | .byt _,.byt _=>true
  | .int _,.str _=>true | .str _,.int _=>true | .bl _,.str _=>true | .str _,.bl _=>true
  | _,_=>false
noncomputable def rEq:R2:=fun x y H Q=>scal x y=true∧Q (.bl (decide (x=y))) H
theorem dec_int {i j:Int}:decide (V.int i=V.int j)=(i == j):=by
  rw [Bool.eq_iff_iff]
  simp
theorem dec_bl {i j:Bool}:decide (V.bl i=V.bl j)=(i == j):=by
  rw [Bool.eq_iff_iff]
  simp
theorem dec_str {i j:Str}:decide (V.str i=V.str j)=(i == j):=by
  rw [Bool.eq_iff_iff]
  simp
theorem dec_byt {i j:Array UInt8}:decide (V.byt i=V.byt j)=(i.toList == j.toList):=by
  rw [Bool.eq_iff_iff]
  cases i
  cases j
  simp

section
variable {X:Cx} {a b c:Expr} {ta tb tc:TE} {pos:Pos}
theorem fin_bl {pins:List (Addr×Obj)} {σ:St} {H:Hp} {s:Shared} {Q:VK} {k k':Bool} (I:Inv X pins σ H s) (q:Q (.bl k) H) (e:k=k'):EP X pins σ Q (.bool k') s:=by
  subst e
  exact ⟨.bl k,H,I,rfl,q⟩
theorem op_eq:OpR X (compareOp .Eq) rEq:=by
  intro pins s σ H x y v u Q I rx ry h
  obtain ⟨hs,q⟩:=h
  cases x with
  | non =>
    cases rx
    cases y with
    | non=>cases ry; exact PySem.EqNone.eq_none_none (fin_bl I q (by simp))
    | bl j=>cases ry; exact PySem.EqNone.eq_none_bool (fin_bl I q (by simp))
    | int j=>obtain ⟨t',rfl⟩:=ry; exact PySem.EqNone.eq_none_int (fin_bl I q (by simp))
    | str j=>obtain ⟨t',rfl⟩:=ry; exact PySem.EqNone.eq_none_str (fin_bl I q (by simp))
    | _=>exact absurd (show false=true from hs) Bool.false_ne_true
  | bl i =>
    cases rx
    cases y with
    | non=>cases ry; exact PySem.EqNone.eq_bool_none (fin_bl I q (by simp))
    | bl j=>cases ry; exact eq_bool (fin_bl I q dec_bl)
    | str j=>obtain ⟨t',rfl⟩:=ry; exact PySem.EqMixed.eq_bool_str (fin_bl I q (by simp))
    | _=>exact absurd (show false=true from hs) Bool.false_ne_true
  | int i =>
    obtain ⟨t,rfl⟩:=rx
    cases y with
    | non=>cases ry; exact PySem.EqNone.eq_int_none (fin_bl I q (by simp))
    | int j=>obtain ⟨t',rfl⟩:=ry; exact eq_int (fin_bl I q dec_int)
    | str j=>obtain ⟨t',rfl⟩:=ry; exact PySem.EqMixed.eq_int_str (fin_bl I q (by simp))
    | _=>exact absurd (show false=true from hs) Bool.false_ne_true
  | str i =>
    obtain ⟨t,rfl⟩:=rx
    cases y with
    | non=>cases ry; exact PySem.EqNone.eq_str_none (fin_bl I q (by simp))
    | bl j=>cases ry; exact PySem.EqMixed.eq_str_bool (fin_bl I q (by simp))
    | int j=>obtain ⟨t',rfl⟩:=ry; exact PySem.EqMixed.eq_str_int (fin_bl I q (by simp))
    | str j=>obtain ⟨t',rfl⟩:=ry; exact eq_str (fin_bl I q dec_str)
    | _=>exact absurd (show false=true from hs) Bool.false_ne_true
  | byt i =>
    obtain ⟨t,rfl⟩:=rx
    cases y with
    | byt j=>obtain ⟨t',rfl⟩:=ry; exact PySem.W.eq_bytes (fin_bl I q dec_byt)
    | _=>exact absurd (show false=true from hs) Bool.false_ne_true
  | _=>cases y <;> exact absurd (show false=true from hs) Bool.false_ne_true
theorem op_lt:OpR X (compareOp .Lt) (rI0 fun i j=>.bl (decide (i < j))):=opB0 fun _ _ _ _ _ _ _ q=>lt_int q
theorem op_le:OpR X (compareOp .LtE) (rI0 fun i j=>.bl (decide (i≤j))):=opB0 fun _ _ _ _ _ _ _ q=>le_int q
theorem op_gt:OpR X (compareOp .Gt) (rI0 fun i j=>.bl (decide (j < i))):=opB0 fun _ _ _ _ _ _ _ q=>gt_int q
theorem op_ge:OpR X (compareOp .GtE) (rI0 fun i j=>.bl (decide (j≤i))):=opB0 fun _ _ _ _ _ _ _ q=>ge_int q
theorem OpR.or {f:Value→Value→Sem Value} {r r':R2} (h:OpR X f r) (h':OpR X f r'):OpR X f (fun x y H Q=>r x y H Q∨r' x y H Q):=by
  intro pins s σ H x y v u Q I rx ry q
  rcases q with q | q
  · exact h pins s σ H x y v u Q I rx ry q
  · exact h' pins s σ H x y v u Q I rx ry q

theorem nomark (b:Expr) {op:CmpOp} (h:op≠.In:=by decide) (h2:op≠.NotIn:=by decide):behindInMarks op b=false:=by
  have e1:(op == CmpOp.In)=false:=by cases op <;> first | rfl | exact absurd rfl h
  have e2:(op == CmpOp.NotIn)=false:=by cases op <;> first | rfl | exact absurd rfl h2
  cases b <;> first | rfl | (show (_ && (op == CmpOp.In || op == CmpOp.NotIn) && _)=false; rw [e1,e2,Bool.or_false,Bool.and_false,Bool.false_and])
theorem pe_cmpR {op:CmpOp} {r:R2} (ho:OpR X (compareOp op) r) (ha:PE X a ta) (hb:PE X b tb) (hm:behindInMarks op b=false):PE X (.Compare a [op] [b] pos) (tOp r ta tb):=by
  intro pins s σ H Q I h
  exact wpAny_Compare1 (binT ha hb I h fun v u s2 x y H2 I2 rx ry q=>ho pins s2 σ H2 x y v u Q I2 rx ry q) hm
noncomputable def tTest (t:TE):TT:=fun σ H Q=>t σ H fun x H'=>∃ k,x=.bl k∧Q k H'
theorem pt_cmpR {op:CmpOp} {r:R2} (ho:OpR X (compareOp op) r) (ha:PE X a ta) (hb:PE X b tb) (hm:behindInMarks op b=false):PT X (.Compare a [op] [b] pos) (tTest (tOp r ta tb)):=by
  intro pins s σ H Q I h
  refine wpAny_isTrue_Compare1 (thn (ha pins s σ H _ I h) fun v s1 ⟨x,H1,I1,r1,q1⟩=>thn (hb pins s1 σ H1 _ I1 q1) fun u s2 ⟨y,H2,I2,r2,q2⟩ =>
    thn (ho pins s2 σ H2 x y v u _ I2 r1 r2 q2) fun c s3 ⟨z,H3,I3,r3,k,e,q3⟩=>?_) hm
  subst e
  cases r3
  exact wpAny_truthy_bool ⟨H3,I3,q3⟩
noncomputable def tChain (r r':R2) (ta tb tc:TE):TE:=fun σ H Q=>ta σ H fun x H1=>tb σ H1 fun y H2=>r x y H2 fun z H3=>∃ k,z=.bl k ∧
  (if k=true then tc σ H3 fun w' H4=>r' y w' H4 Q else Q (.bl false) H3)
theorem pt_chain {op op':CmpOp} {r r':R2} (ho:OpR X (compareOp op) r) (ho':OpR X (compareOp op') r') (ha:PE X a ta) (hb:PE X b tb) (hc:PE X c tc)
    (hm:lastMarks [op,op'] [b,c]=false:=by with_unfolding_all rfl):PT X (.Compare a [op,op'] [b,c] pos) (tTest (tChain r r' ta tb tc)):=by
  intro pins s σ H Q I h
  refine isTrue_chain (thn (ha pins s σ H _ I h) fun v s1 ⟨x,H1,I1,r1,q1⟩=>test_link (thn (hb pins s1 σ H1 _ I1 q1) fun u s2 ⟨y,H2,I2,r2,q2⟩ =>
    thn (ho pins s2 σ H2 x y v u _ I2 r1 r2 q2) fun d s3 ⟨z,H3,I3,r3,k,e,q3⟩=>?_)) hm
  subst e
  cases r3
  refine wpAny_truthy_bool ?_
  cases k with
  | false =>
    obtain ⟨k',e',q'⟩:=q3
    cases e'
    exact ite_ff ⟨H3,I3,q'⟩
  | true =>
    refine ite_tt (test_last (thn (hc pins s3 σ H3 _ I3 q3) fun w' s4 ⟨z',H4,I4,r4,q4⟩=>thn (ho' pins s4 σ H4 y z' u w' _ I4 r2 r4 q4) fun d' s5 hz0=>?_))
    obtain ⟨z2,H5,I5,r5,k2,e2,q5⟩:=hz0
    subst e2
    cases r5
    exact wpAny_truthy_bool ⟨H5,I5,q5⟩

noncomputable def TruV (K:PySem.W.Frag) (x:V) (H:Hp) (k:Bool):Prop :=
  match x with
  | .non=>k=false
  | .bl b=>k=b
  | .int i=>k=(i != 0)
  | .str y=>y.length≤sizeLine∧k=((y.length:Int) != 0)
  | .byt y=>y.size≤sizeLine∧k=((y.size:Int) != 0)
  | .ref p=>(∃ xs,SqL K H p xs∧k=!xs.isEmpty)∨(∃ xs,SqT K H p xs∧k=!xs.isEmpty)∨∃ kvs,H p=some (.dK kvs)∧k=!kvs.isEmpty
  | _=>False
theorem isEmpty_kv {κ:Type} {kvs:List (κ×V)} {vs:List (κ×Value)} (r:KV kvs vs):(!vs.isEmpty)=!kvs.isEmpty:=by
  cases r <;> rfl
theorem isEmpty_of {xs:List V} {its:List Value} (r:Vals xs its):(!its.toArray.isEmpty)=!xs.isEmpty:=by
  cases r <;> simp
theorem line63:(sizeLine:Nat) < 2 ^ 63:=by rw [sizeLine_eq]; decide
theorem tru_ok:TruR X (fun x H Q=>∃ k,TruV X.K x H k∧Q k H):=by
  intro pins s σ H x v Q I rx h
  obtain ⟨k,e,q⟩:=h
  have hl:=line63
  have hs:sizeLine=16777216:=sizeLine_eq
  cases x with
  | non =>
    cases rx
    have e':k=false:=e
    subst e'
    exact truthy_none ⟨H,I,q⟩
  | bl b =>
    cases rx
    have e':k=b:=e
    subst e'
    exact wpAny_truthy_bool ⟨H,I,q⟩
  | int i =>
    obtain ⟨t,rfl⟩:=rx
    have e':k=(i != 0):=e
    subst e'
    exact PySem.P.truthy_int ⟨H,I,q⟩
  | str y =>
    obtain ⟨t,rfl⟩:=rx
    obtain ⟨hy,e'⟩:y.length≤sizeLine∧k=((y.length:Int) != 0):=e
    subst e'
    exact PySem.P.truthy_str (by omega) ⟨H,I.tok _,q⟩
  | byt y =>
    obtain ⟨t,rfl⟩:=rx
    obtain ⟨hy,e'⟩:y.size≤sizeLine∧k=((y.size:Int) != 0):=e
    subst e'
    exact PySem.W.truthy_bytes (by omega) ⟨H,I.tok _,q⟩
  | ref p =>
    cases rx
    have e':(∃ xs,SqL X.K H p xs∧k=!xs.isEmpty)∨(∃ xs,SqT X.K H p xs∧k=!xs.isEmpty)∨∃ kvs,H p=some (.dK kvs)∧k=!kvs.isEmpty:=e
    rcases e' with ⟨xs,hx,e'⟩ | ⟨xs,hx,e'⟩ | ⟨kvs,hx,e'⟩
    · subst e'
      obtain ⟨its,r,pl,hz⟩:=I.list hx
      have hlen:=r.length
      exact wpAny_truthy_list pl.isList (by simp only [List.size_toArray]; omega) ⟨H,I.tok _,by rw [isEmpty_of r]; exact q⟩
    · subst e'
      obtain ⟨its,r,pl,hz⟩:=I.tuple hx
      have hlen:=r.length
      exact truthy_tuple pl (by simp only [List.size_toArray]; omega) ⟨H,I.tok _,by rw [isEmpty_of r]; exact q⟩
    · subst e'
      obtain ⟨hz,hS,vs,r,m⟩:kvs.length≤sizeLine∧(p == sysModules)=false∧∃ vs,KV kvs vs∧s.heap.DictOf (mixKind X.prog X.w) p vs:=I.hok p _ hx
      have hlen:kvs.length=vs.length:=Paired.length r
      exact wpAny_truthy_dict hS m (by omega) ⟨H,I.tok _,by rw [isEmpty_kv r]; exact q⟩
  | _=>exact (show False from e).elim
theorem pt_truth (ha:PE X a ta) (he:∀ whole,isTrue a X.env whole=(do let v ← whole; standAt a.pos; holding [v] (truthy v))) :
    PT X a (fun σ H Q=>ta σ H fun x H'=>∃ k,TruV X.K x H' k∧Q k H'):=by
  intro pins s σ H Q I h
  exact isTrue_plain (thn (ha pins s σ H _ I h) fun v s1 ⟨x,H1,I1,r1,q1⟩=>tru_ok pins s1 σ H1 x v Q I1 r1 q1) (he _)

theorem vals1 {x:V} {us:List Value} (r:Vals [x] us):∃ u,us=[u]∧RelV x u:=by
  cases r with
  | cons r1 r2=>cases r2; exact ⟨_,rfl,r1⟩
theorem vals2 {x y:V} {us:List Value} (r:Vals [x,y] us):∃ u w',us=[u,w']∧RelV x u∧RelV y w':=by
  cases r with
  | cons r1 r2 =>
    cases r2 with
    | cons r3 r4=>cases r4; exact ⟨_,_,rfl,r1,r3⟩
theorem call_abs:CallR X (.builtin "abs") (fun xs H Q=>∃ i,xs=[.int i]∧Q (.int (if i < 0 then -i else i)) H):=by
  intro pins s σ H xs us Q I r h
  obtain ⟨i,rfl,q⟩:=h
  obtain ⟨u,rfl,t,rfl⟩:=vals1 r
  exact call_abs_int fun u tk=>⟨.int (if i < 0 then -i else i),H,I.tok _,⟨_,rfl⟩,q⟩
theorem call_max2 (hc:X.calm=true):CallR X (.builtin "max") (fun xs H Q=>∃ i j,xs=[.int i,.int j]∧Q (.int (if j > i then j else i)) H):=by
  intro pins s σ H xs us Q I r h
  obtain ⟨i,j,rfl,q⟩:=h
  obtain ⟨u,w',rfl,⟨t,rfl⟩,⟨t',rfl⟩⟩:=vals2 r
  refine max_two_ints (I.ok.hd hc) fun h' tk k=>⟨_,H,I.kept k,?_,q⟩
  by_cases hj:j > i
  · rw [if_pos hj,if_pos hj]; exact ⟨_,rfl⟩
  · rw [if_neg hj,if_neg hj]; exact ⟨_,rfl⟩
theorem call_min2 (hc:X.calm=true):CallR X (.builtin "min") (fun xs H Q=>∃ i j,xs=[.int i,.int j]∧Q (.int (if j < i then j else i)) H):=by
  intro pins s σ H xs us Q I r h
  obtain ⟨i,j,rfl,q⟩:=h
  obtain ⟨u,w',rfl,⟨t,rfl⟩,⟨t',rfl⟩⟩:=vals2 r
  refine min_two_ints (I.ok.hd hc) fun h' tk k=>⟨_,H,I.kept k,?_,q⟩
  by_cases hj:j < i
  · rw [if_pos hj,if_pos hj]; exact ⟨_,rfl⟩
  · rw [if_neg hj,if_neg hj]; exact ⟨_,rfl⟩
theorem call_int1:CallR X (.type "int") (fun xs H Q=>(∃ i,xs=[.int i]∧Q (.int i) H)∨∃ k,xs=[.bl k]∧Q (.int (if k then 1 else 0)) H):=by
  intro pins s σ H xs us Q I r h
  rcases h with ⟨i,rfl,q⟩ | ⟨k,rfl,q⟩
  · obtain ⟨u,rfl,t,rfl⟩:=vals1 r
    exact call_int_int ⟨.int i,H,I,⟨_,rfl⟩,q⟩
  · obtain ⟨u,rfl,r1⟩:=vals1 r
    cases r1
    exact call_int_bool ⟨.int (if k then 1 else 0),H,I.tok _,⟨_,rfl⟩,q⟩
end
end L2
namespace L2
open PySem PySem.Spec PyProof.Rows
section
variable {prog:Program} {w:World} {A:Around} {E:Value→Shared→Prop} {s:Shared} {K:PySem.W.Frag} {x dx C f:Addr} {mA:Str→Option Value} {name:Str} {v:Value}
end
theorem RelO.some_of {v:V} {o:Option Value} (r:RelO (some v) o):∃ u,o=some u∧RelV v u:=by
  cases o with
  | none=>exact (show False from r).elim
  | some u=>exact ⟨u,rfl,r⟩
section
variable {P:Program} {w:World} {H H':Hp} {h h':Heap} {a C dx:Addr} {fs fs':List (Str×V)}
end
section
variable {X:Cx} {pins:List (Addr×Obj)} {σ:St} {H:Hp} {s:Shared} {a C dx:Addr} {fs:List (Str×V)} {f:Str} {v:V} {A:Around} {E:Value→Shared→Prop}
end
section
variable {X:Cx} {o e value:Expr} {f:Str} {pos pos' tpos:Pos} {ta tv:TE}
end
section
variable {X:Cx} {pins:List (Addr×Obj)} {σ:St} {H:Hp} {s:Shared} {A:Around} {E:Value→Shared→Prop} {Q:Value→Shared→Prop} {c:Value} {b:Bool}
end
end L2
namespace L2
open PySem PySem.Spec PyProof.Rows
structure Room (k:Nat) (A:Around):Prop where
  hd:A.handled=none
  dp:A.depth+3 * k+5 < recursionLimit
  un:A.units+16 * k+200 < cLine
  gd:A.guards=some []
theorem Room.mono {j k:Nat} {A:Around} (r:Room k A) (h:j≤k):Room j A:=⟨r.hd,by have:=r.dp; omega,by have:=r.un; omega,r.gd⟩
theorem Room.deeper {k:Nat} {A:Around} (r:Room (k+1) A) (env:Env):Room k (A.deeper env) :=
  ⟨r.hd,by have:=r.dp; show A.depth+1+3 * k+5 < _; omega,by have:=r.un; show A.units+3+16 * k+200 < _; omega,r.gd⟩
theorem Room.depth {k:Nat} {A:Around} (r:Room k A):A.depth < recursionLimit:=by have:=r.dp; omega
theorem Room.units {k:Nat} {A:Around} (r:Room k A):A.units+64 < cLine:=by have:=r.un; omega
noncomputable def tNil:TA:=fun _ H Q=>Q [] H
noncomputable def tCons (ta:TE) (tr:TA):TA:=fun σ H Q=>ta σ H fun x H1=>tr σ H1 fun xs H2=>Q (x::xs) H2
section
variable {X:Cx} {e:Expr} {es:List Expr} {te:TE} {t:TA} {pos:Pos}
theorem pa_nil:PA X [] tNil:=fun _ _ _ _ H Q I h=>Calls.spliced_nil ⟨[],H,I,.nil,h⟩
theorem pa_cons (ha:PE X e te) (hr:PA X es t) (hs:starEach (e::es) X.env=(false,eval e X.env)::starEach es X.env:=by rfl):PA X (e::es) (tCons te t):=by
  intro pos pins s σ H Q I h
  rw [hs]
  show wpAny _ _ (spliced ((false,eval e X.env)::backTo pos (starEach es X.env))) _ _ s
  refine Calls.spliced_cons (thn (ha pins s σ H _ I h) fun u s1 hz0=>?_)
  obtain ⟨x,H1,I1,r1,q1⟩:=hz0
  exact thn (hr pos pins s1 σ H1 _ I1 q1) fun us s2 hz0=>by
    obtain ⟨xs,H2,I2,r2,q2⟩:=hz0
    exact ⟨x::xs,H2,I2,.cons r1 r2,q2⟩

noncomputable def tTup (t:TA):TE:=fun σ H Q=>t σ H fun xs H1=>xs.length≤sizeLine∧∀ p,H1 p=none→Q (.ref p) (upd H1 p (.tup xs))
noncomputable def tLst (t:TA):TE:=fun σ H Q=>t σ H fun xs H1=>xs.length≤sizeLine∧∀ p,H1 p=none→Q (.ref p) (upd H1 p (.lst xs))
theorem pe_tup {x1} (h:PA X es t):PE X (.Tuple es x1 pos) (tTup t):=by
  intro pins s σ H Q I hq
  refine wpAny_Tuple_spliced (thn (h pos pins s σ H _ I hq) fun us s1 ⟨xs,H1,I1,r,z,q⟩=>⟨by rw [← r.length]; exact z,?_⟩)
  have hf:H1 s1.heap.objs.size=none:=I1.hok.fresh (Nat.le_refl _)
  refine ⟨.ref s1.heap.objs.size,upd H1 s1.heap.objs.size (.tup xs),I1.laid (t':=s1.toks) (fun b u e=>Heap.get?_push_of_some _ e) (Nat.le_refl _) ?_,rfl,q _ hf⟩
  exact ⟨z,us,r,⟨_,Heap.get?_push_size _ rfl,rfl,_,rfl⟩⟩
theorem pe_lst (h:PA X es t):PE X (.List es pos) (tLst t):=by
  intro pins s σ H Q I hq
  refine wpAny_List_spliced (thn (h pos pins s σ H _ I hq) fun us s1 ⟨xs,H1,I1,r,z,q⟩=>⟨by rw [← r.length]; exact z,?_⟩)
  have hf:H1 s1.heap.objs.size=none:=I1.hok.fresh (Nat.le_refl _)
  refine ⟨.ref s1.heap.objs.size,upd H1 s1.heap.objs.size (.lst xs),I1.laid (t':=s1.toks) (fun b u e=>Heap.get?_push_of_some _ e) (Nat.le_refl _) ?_,rfl,q _ hf⟩
  exact ⟨z,us,0,r,Heap.get?_push_size _ rfl⟩
end
noncomputable abbrev Sp:=List V→Hp→VK→XK→Prop
noncomputable abbrev CXT:=List Env→Hp→Shared→XK→Value→Shared→Prop

structure Env0 (P:Program) (w:World) (K:PySem.W.Frag) (mg:Str→Option Value) (base:Heap) (A:Around) (outer:List Env) (s:Shared) (H:Hp):Prop where
  frames:A.frames=some outer
  mod:Mod K mg base
  bs:∀ b o,base.get? b=some o→s.heap.get? b=some o∧H b=none
  bsz:base.objs.size≤s.heap.objs.size
  funs:s.heap.FunFrames base outer
  frf:∀ b∈frs outer,H b=none
  hok:HOk P w H s.heap
  bare:AllBare s.gens
noncomputable def CE (outer:List Env) (P:Program) (w:World) (H:Hp) (s:Shared) (Q:VK) (u:Value) (s':Shared):Prop :=
  ∃ v H',s'.os=s.os∧AllBare s'.gens∧Un (frs outer) [] H H' s.heap s'.heap∧HOk P w H' s'.heap∧RelV v u∧Q v H'
noncomputable def CR (CX:CXT) (outer:List Env) (P:Program) (w:World) (H:Hp) (s:Shared) (Q:VK) (E:XK) (r:Result) (s':Shared):Prop :=
  match r with
  | .ok (.ret u)=>CE outer P w H s Q u s'
  | .ok _=>False
  | .error e=>CX outer H s E e s'
structure FnOk (P:Program) (w:World) (K:PySem.W.Frag) (mg:Str→Option Value) (base:Heap) (CX:CXT) (k:Nat) (f:Addr) (fd:FuncData) (ps:List Str) (sp:Sp):Prop where
  len:∀ vs H Q E,sp vs H Q E→vs.length=ps.length
  run:∀ (A:Around) (outer:List Env) (s:Shared) (H:Hp) (args:Args) (us:List Value) (vs:List V) (Q:VK) (E:XK),Room k A→Env0 P w K mg base A outer s H→BindsTo s fd args (ps.zip us)→Vals vs us→sp vs H Q E →
    codeAny (model P w) A (.call (.ref f) args) (CR CX outer P w H s Q E) s
theorem FnOk.imp {P:Program} {w:World} {K:PySem.W.Frag} {mg:Str→Option Value} {base:Heap} {CX:CXT} {k:Nat} {f:Addr} {fd:FuncData} {ps:List Str} {sp sp':Sp} (F:FnOk P w K mg base CX k f fd ps sp)
    (h:∀ vs H Q E,sp' vs H Q E→sp vs H Q E):FnOk P w K mg base CX k f fd ps sp' :=
  ⟨fun vs H Q E q=>F.len vs H Q E (h _ _ _ _ q),fun A outer s H args us vs Q E hr he hb hv hs=>F.run A outer s H args us vs Q E hr he hb hv (h _ _ _ _ hs)⟩

section
variable {X:Cx} {pins:List (Addr×Obj)} {σ:St} {H:Hp} {s s':Shared}
theorem Inv.env0 (I:Inv X pins σ H s):Env0 X.prog X.w X.K X.mg X.base X.A X.stack s H :=
  ⟨I.ok.frames,I.ok.mod,I.bs,Nat.le_trans I.ok.bsz I.sz,I.stack,I.stkFree,I.hok,I.bare⟩
theorem Inv.after {Q:VK} {u:Value} (I:Inv X pins σ H s) (h:CE X.stack X.prog X.w H s Q u s'):EP X pins σ Q u s':=by
  obtain ⟨v,H',os,bare,un,hok,r,q⟩:=h
  obtain ⟨hh,g,d,t,os'⟩:=s'
  obtain rfl:os'=s.os:=os
  exact ⟨v,H',I.call (h':=hh) (g':=g) (d':=d) (t':=t) (ch:=[]) un hok bare (fun b z=>absurd z (by simp)),r,q⟩
end
noncomputable def tCall (sp:Sp) (dvs:List V) (E:XK) (t:TA):TE:=fun σ H Q=>t σ H fun vs H1=>sp (vs++dvs) H1 Q E
noncomputable def Binds (K:PySem.W.Frag) (fd:FuncData) (ps:List Str) (ds:List Value):Prop :=
  ∀ (s:Shared) (us:List Value),K.In s.heap→(us++ds).length=ps.length→BindsTo s fd ⟨us,[]⟩ (ps.zip (us++ds))
theorem Binds.all {K:PySem.W.Frag} {fd:FuncData} {ps:List Str} (h:∀ us:List Value,us.length=ps.length→bindArgs fd ⟨us,[]⟩=pure (ps.zip us)):Binds K fd ps []:=fun s us _ hl=>by
  rw [List.append_nil] at hl ⊢
  exact .of_eq (h us hl)

noncomputable def Passes (CX:CXT) (X:Cx) (E:XK):Prop:=∀ (pins:List (Addr×Obj)) (σ:St) (H:Hp) (s:Shared) (e:Value) (s':Shared),Inv X pins σ H s→CX X.stack H s E e s'→X.xe e s'

section
variable {X:Cx} {CX:CXT} {k:Nat} {f C:Addr} {fd:FuncData} {ps:List Str} {sp:Sp} {dvs:List V} {ds:List Value} {E:XK} {x m:Str} {p pos apos:Pos} {e o:Expr} {es:List Expr} {ta:TE} {t:TA}
theorem run_fn {pins:List (Addr×Obj)} {σ:St} {H:Hp} {s:Shared} {Q:VK} {us:List Value} {vs:List V} (F:FnOk X.prog X.w X.K X.mg X.base CX k f fd ps sp) (hr:Room k X.A) (hb:Binds X.K fd ps ds) (hd:Vals dvs ds) (hx:Passes CX X E)
    (I:Inv X pins σ H s) (r:Vals vs us) (h:sp (vs++dvs) H Q E):wpAny (model X.prog X.w) X.A (call (.ref f) us) (EP X pins σ Q) X.xe s:=by
  have r2:Vals (vs++dvs) (us++ds):=r.append hd
  have hl:(us++ds).length=ps.length:=by rw [← r2.length]; exact F.len _ _ _ _ h
  refine wpAny_call (codeAny_mono (F.run X.A X.stack s H ⟨us,[]⟩ (us++ds) (vs++dvs) Q E hr I.env0 (hb s us I.kIn hl) r2 h) fun r s' hq=>?_)
  cases r with
  | error e=>exact hx pins σ H s e s' I hq
  | ok fl =>
    cases fl with
    | ret u=>exact I.after hq
    | next=>exact False.elim hq
    | brk=>exact False.elim hq
    | cont=>exact False.elim hq

theorem pe_call (F:FnOk X.prog X.w X.K X.mg X.base CX k f fd ps sp) (hr:Room k X.A) (hg:Gl X x) (hm:X.mg x=some (.ref f)) (hk:PySem.W.keepIn X.K (.ref f)=true) (hb:Binds X.K fd ps ds) (hd:Vals dvs ds) (hx:Passes CX X E)
    (ha:PA X (e::es) t) (hdb:(x == ("__debug__":Str))=false:=by decide) (he:starEach (e::es) X.env=(false,eval e X.env)::starEach es X.env:=by rfl) (hpl:(backTo pos (starEach es X.env)).any (·.1)=false:=by rfl) :
    PE X (.Call (.Name x p) (e::es) [] pos) (tCall sp dvs E t):=by
  intro pins s σ H Q I h
  refine wpAny_Call_Name_kw (ld_glob I hg hm ?_ hdb)
  refine PySem.W.callWith_K (h₀:=X.base) I.ok.mod.kin hk (thn (ha pos pins s σ H _ I h) fun us s1 ⟨vs,H1,I1,r,q⟩=>⟨I1.kIn,?_⟩) he hpl
  exact run_fn F hr hb hd hx I1 r q
end
noncomputable def PK (X:Cx) (kws:List Keyword) (t:TA):Prop :=
  ∀ (pos:Pos) (pins:List (Addr×Obj)) (s:Shared) (σ:St) (H:Hp) (Q:List V→Hp→Prop),Inv X pins σ H s→t σ H Q→wpAny (model X.prog X.w) X.A (evalAll ((backToKw pos (keywordEach kws X.env)).map (·.2))) (AP X pins σ Q) X.xe s
section
variable {X:Cx} {CX:CXT} {k:Nat} {f C:Addr} {fd:FuncData} {ps ks:List Str} {sp:Sp} {E:XK} {x m:Str} {p pos apos kpos:Pos} {e o:Expr} {es:List Expr} {kws:List Keyword} {te ta:TE} {t tk:TA} {nm:Option Str}
variable {g:List Value→List Value→List Value} {gV:List V→List V→List V}
end
structure FnScope (N P:List Str) (sc:Scope):Prop where
  kind:sc.kind=.function
  co:sc.isCoroutine=false
  gen:sc.isGenerator=false
  nd:N.Nodup
  pre:N.take P.length=P
  par:∀ x∈P,sc.names.lookup x=some .local∨sc.names.lookup x=some .cell
  nofree:∀ y∈sc.names,y.2≠.free

theorem bindL_out {kindOf:Str→Option NameKind} {x:Str}:∀ {binds:List (Str×Value)} {m:Str→Option Value},(∀ v,(x,v) ∉ binds)→bindL kindOf binds m x=m x
  | [],_,_=>rfl
  | (n,v)::r,m,h=>by
    unfold bindL
    rw [bindL_out fun w hw=>h w (List.mem_cons_of_mem _ hw)]
    split
    · have:x≠n:=by rintro rfl; exact h v List.mem_cons_self
      simp [this]
    · rfl
theorem bindC_out {kindOf:Str→Option NameKind} {x:Str}:∀ {binds:List (Str×Value)} {m:Str→Option Value},(∀ v,(x,v) ∉ binds)→bindC kindOf binds m x=m x
  | [],_,_=>rfl
  | (n,v)::r,m,h=>by
    unfold bindC
    rw [bindC_out fun w hw=>h w (List.mem_cons_of_mem _ hw)]
    split
    · rfl
    · have:x≠n:=by rintro rfl; exact h v List.mem_cons_self
      simp [this]
theorem bindL_get {kindOf:Str→Option NameKind} {x:Str} {v:Value}:∀ {P:List Str} {vs:List Value} {i:Nat} {m:Str→Option Value},P.Nodup→P[i]?=some x→vs[i]?=some v→kindOf x=some .local →
    bindL kindOf (P.zip vs) m x=some v
  | [],_,_,_,_,h,_,_=>by simp at h
  | _::_,[],_,_,_,_,h,_=>by simp at h
  | p::P,w::vs,0,m,nd,h1,h2,hk=>by
    simp at h1 h2; subst h1; subst h2
    show bindL kindOf ((p,w)::P.zip vs) m p=_
    unfold bindL
    rw [bindL_out fun v hv=>(List.nodup_cons.mp nd).1 (List.of_mem_zip hv).1,if_pos hk]
    simp
  | p::P,w::vs,i+1,m,nd,h1,h2,hk=>by
    show bindL kindOf ((p,w)::P.zip vs) m x=_
    unfold bindL
    exact bindL_get (i:=i) (List.nodup_cons.mp nd).2 (by simpa using h1) (by simpa using h2) hk
theorem bindC_get {kindOf:Str→Option NameKind} {x:Str} {v:Value}:∀ {P:List Str} {vs:List Value} {i:Nat} {m:Str→Option Value},P.Nodup→P[i]?=some x→vs[i]?=some v→kindOf x≠some .local →
    bindC kindOf (P.zip vs) m x=some v
  | [],_,_,_,_,h,_,_=>by simp at h
  | _::_,[],_,_,_,_,h,_=>by simp at h
  | p::P,w::vs,0,m,nd,h1,h2,hk=>by
    simp at h1 h2; subst h1; subst h2
    show bindC kindOf ((p,w)::P.zip vs) m p=_
    unfold bindC
    rw [bindC_out fun v hv=>(List.nodup_cons.mp nd).1 (List.of_mem_zip hv).1,if_neg hk]
    simp
  | p::P,w::vs,i+1,m,nd,h1,h2,hk=>by
    show bindC kindOf ((p,w)::P.zip vs) m x=_
    unfold bindC
    exact bindC_get (i:=i) (List.nodup_cons.mp nd).2 (by simpa using h1) (by simpa using h2) hk

noncomputable def start (N:List Str) (vs:List V):St:=vs.map some++List.replicate (N.length - vs.length) none

noncomputable def cxOf (CX:CXT) (P:Program) (w:World) (K:PySem.W.Frag) (mg:Str→Option Value) (base:Heap) (N:List Str) (qual:Str) (scope:Scope) (f:Addr) (cd:Value) (A:Around) (outer:List Env) (s:Shared) (H:Hp) (E:XK):Cx where
  prog:=P
  w:=w
  K:=K
  mg:=mg
  base:=base
  A:=A.deeper (envOfC qual scope s.heap.objs.size f cd)
  N:=N
  s₀:=s
  H₀:=H
  env:=envOfC qual scope s.heap.objs.size f cd
  outer:=outer
  stack:=envOfC qual scope s.heap.objs.size f cd::outer
  ex:=[]
  calm:=true
  fn:=fun _=>true
  pn:=[]
  xe:=fun e s'=>wpAny (model P w) (A.deeper (envOfC qual scope s.heap.objs.size f cd)) (leaving (envOfC qual scope s.heap.objs.size f cd) e) (fun _ s''=>CX outer H s E e s'') (fun e' s''=>CX outer H s E e' s'') s'

theorem cell_has {sc:Scope} {n:Nat} {x:Str} (h:sc.names.lookup x=some .cell):∃ c,(cellsFrom n sc.names []).lookup x=some c:=by
  have q:=PySem.W.cellsFrom_some sc.names n [] (.inl h)
  exact Option.isSome_iff_exists.mp q

theorem inv_start {CX:CXT} {P:Program} {w:World} {K:PySem.W.Frag} {mg:Str→Option Value} {base:Heap} {N ps:List Str} {qual:Str} {scope:Scope} {f:Addr} {cd:Value} {A:Around} {outer:List Env} {s s1:Shared} {H:Hp} {E:XK} {us:List Value} {vs:List V}
    (S:FnScope N ps scope) (hd:A.handled=none) (e0:Env0 P w K mg base A outer s H) (hl:vs.length=ps.length) (r:Vals vs us)
    (x:InCallC s s.heap.objs.size (bindL (envOfC qual scope s.heap.objs.size f cd).kindOf (ps.zip us) fun _=>none) (cellsFrom (s.heap.objs.size+1) scope.names []) (bindC (envOfC qual scope s.heap.objs.size f cd).kindOf (ps.zip us) fun _=>none) s1) :
    Inv (cxOf CX P w K mg base N qual scope f cd A outer s H E) [] (start N vs) H s1:=by
  have hpl:ps.length≤N.length:=by have:=congrArg List.length S.pre; rw [List.length_take] at this; omega
  obtain ⟨h1,tk,rfl,hk⟩:=x.done
  have noA:∀ b:Addr,b ∉ (cxOf CX P w K mg base N qual scope f cd A outer s H E).ex:=fun b z=>absurd (show b∈([]:List Addr) from z) (by simp)
  refine ⟨⟨e0.mod,S.kind,rfl,rfl,Nat.le_refl _,fun y z c h1 h2=>?_,fun y hy=>?_,fun y c _ h=>?_,fun _=>hd,Around.frames_deeper e0.frames,.inr ⟨rfl,rfl⟩,fun b z=>absurd z (noA b),e0.bs,e0.bsz,fun b _ _=>noA b,fun b z=>absurd z (noA b),e0.funs,e0.frf⟩,
    rfl,e0.bare,Un.kept hk,⟨_,x.toInCall.ns,fun i y v h1 h2 h3=>?_⟩,fun y c h=>⟨_,x.cell y c h⟩,e0.hok.fresh (Nat.le_refl _),fun y c h=>?_,fun p hp=>absurd (show p∈([]:List (Addr×Obj)) from hp) (by simp),e0.hok.kept hk,?_⟩
  · exact name_of_addr x.apart (PySem.mem_of_lookup h1) (PySem.mem_of_lookup h2)
  · have hy:scope.names.lookup y=some .cell∨scope.names.lookup y=some .free:=hy
    rcases hy with hy | hy
    · exact cell_has hy
    · exact absurd rfl (S.nofree _ (PySem.mem_of_lookup hy))
  · exact Nat.le_of_lt (x.above y c (PySem.mem_of_lookup h))
  · have hi:i < vs.length:=by
      unfold start at h2
      by_cases hi:i < vs.length
      · exact hi
      · rw [List.getElem?_append_right (by simpa using hi)] at h2
        rw [List.getElem?_replicate] at h2
        split at h2 <;> cases h2
    have ha:vs[i]?=some v:=by
      unfold start at h2
      rw [List.getElem?_append_left (by simpa using hi),List.getElem?_map] at h2
      cases e:vs[i]? with
      | none=>rw [e] at h2; cases h2
      | some a=>rw [e] at h2; cases h2; rfl
    obtain ⟨u,hu,rv⟩:=r.get ha
    have hp:ps[i]?=some y:=by
      rw [← S.pre,List.getElem?_take_of_lt (by omega)]; exact h1
    have ndP:ps.Nodup:=by rw [← S.pre]; exact S.nd.sublist (List.take_sublist _ _)
    refine ⟨u,rv,?_⟩
    rcases S.par y (List.mem_of_getElem? hp) with k | k
    · exact .inl ⟨k,bindL_get ndP hp hu k⟩
    · obtain ⟨c,e⟩:=cell_has (n:=s.heap.objs.size+1) k
      refine .inr ⟨.inl k,c,e,?_⟩
      have q:=x.cell y c e
      rw [bindC_get ndP hp hu (by show scope.names.lookup y≠_; rw [k]; decide)] at q
      exact q
  · exact e0.hok.fresh (Nat.le_of_lt (x.above y c (PySem.mem_of_lookup h)))
  · unfold start
    show _=N.length
    rw [List.length_append,List.length_map,List.length_replicate]
    omega

theorem fn_of {CX:CXT} {P:Program} {w:World} {K:PySem.W.Frag} {mg:Str→Option Value} {base:Heap} {k:Nat} {f:Addr} {name qual:Str} {params:Arguments} {body:List Stmt} {scope:Scope} {dV kV doc pm cdv ct oc:Value} {an od:Option Addr}
    {osl:Array (Option Value)} {N ps:List Str} {sp:Sp} (lk:K.lookup f=some ⟨oc,od,.func (PySem.W.fnOf name qual params body scope dV kV doc pm an cdv ct),osl⟩) (hcd:PySem.W.codeIn K cdv qual=true) (S:FnScope N ps scope)
    (len:∀ vs H Q E,sp vs H Q E→vs.length=ps.length)
    (hbody:∀ (A:Around) (outer:List Env) (s:Shared) (H:Hp) (vs:List V) (Q:VK) (E:XK),Room k (A.deeper (envOfC qual scope s.heap.objs.size f cdv))→sp vs H Q E →
      ∃ t,PSs (cxOf CX P w K mg base N qual scope f cdv A outer s H E) body t∧t { nx:=fun _ H'=>Q .non H',rt:=Q } (start N vs) H) :
    FnOk P w K mg base CX (k+1) f (PySem.W.fnOf name qual params body scope dV kV doc pm an cdv ct) ps sp:=by
  refine ⟨len,fun A outer s H args us vs Q E hr e0 hb r hsp=>?_⟩
  have hl:=len _ _ _ _ hsp
  have KX:K.In s.heap:=e0.mod.kin.keeps fun b o e=>(e0.bs b o e).1
  have lim:s.heap.NoLimit:=e0.mod.nolimit.keeps fun b o e=>(e0.bs b o e).1
  have hkind:∀ y∈ps.zip us,scope.names.lookup y.1=some .local∨(scope.names.lookup y.1=some .cell∧((cellsFrom (s.heap.objs.size+1) scope.names []).lookup y.1).isSome=true):=fun ⟨n,v⟩ hy=>by
    rcases S.par n (List.of_mem_zip hy).1 with q | q
    · exact .inl q
    · exact .inr ⟨q,PySem.W.cellsFrom_some _ _ _ (.inl q)⟩
  refine codeAny_call_function hr.depth (KX _ _ lk) rfl S.co S.gen rfl (PySem.W.codeRec_of KX hcd) (hb _ _ _ _ ?_)
  refine wpAny_newFunctionEnv_cells S.kind hkind fun env he s1 x=>?_
  subst he
  refine ⟨lim.keeps x.toInCall.keep,codeAny_func ?_⟩
  obtain ⟨t,ht,hq⟩:=hbody A outer s H vs Q E (hr.deeper _) hsp
  have I:Inv (cxOf CX P w K mg base N qual scope f cdv A outer s H E) [] (start N vs) H s1:=inv_start S hr.hd e0 hl r x
  refine wpAny_mono (ht [] s1 (start N vs) H _ I hq) (fun fl s' hs=>?_) fun e s' hs=>hs
  have fin:∀ {σ':St} {H':Hp} {v:V} {u:Value},Inv (cxOf CX P w K mg base N qual scope f cdv A outer s H E) [] σ' H' s'→RelV v u→Q v H'→CE outer P w H s Q u s' :=
    fun {σ' H' v u} J rv q=>⟨v,H',J.os,J.bare,J.base,J.hok,rv,q⟩
  cases fl with
  | ret u =>
    obtain ⟨v,σ',H',J,rv,q⟩:=hs
    exact fin J rv q
  | next =>
    obtain ⟨σ',H',J,q⟩:=hs
    exact fin (v:=V.non) (u:=Value.none) J rfl q
  | brk =>
    obtain ⟨_,_,_,q⟩:=hs
    exact False.elim q
  | cont =>
    obtain ⟨_,_,_,q⟩:=hs
    exact False.elim q
end L2
namespace L2
open PySem PySem.Spec PyProof.Rows
section
variable {X:Cx} {x:Str} {p pos:Pos} {e:Expr} {es:List Expr} {t:TA} {id T:String} {r:List V→Hp→VK→Prop}
noncomputable def tCB (r:List V→Hp→VK→Prop) (t:TA):TE:=fun σ H Q=>t σ H fun vs H1=>r vs H1 Q
theorem pe_callB (hc:CallR X (.builtin id) r) (hg:Gl X x) (hm:X.mg x=none) (hv:bootBuiltins x=some (.builtin id)) (ha:PA X (e::es) t) (hn:x≠"__name__":=by decide) (hdb:(x == ("__debug__":Str))=false:=by decide)
    (he:starEach (e::es) X.env=(false,eval e X.env)::starEach es X.env:=by rfl) (hpl:(backTo pos (starEach es X.env)).any (·.1)=false:=by rfl):PE X (.Call (.Name x p) (e::es) [] pos) (tCB r t):=by
  intro pins s σ H Q I h
  refine wpAny_Call_Name_kw (ld_blt I hg hm hv ?_ hn hdb)
  exact PyProof.Rows.callWith_builtin1 (thn (ha pos pins s σ H _ I h) fun us s1 ⟨vs,H1,I1,r1,q1⟩=>hc pins s1 σ H1 vs us Q I1 r1 q1) he hpl
theorem pe_callTy (hc:CallR X (.type T) r) (hg:Gl X x) (hm:X.mg x=none) (hv:bootBuiltins x=some (.type T)) (ha:PA X (e::es) t) (hn:x≠"__name__":=by decide) (hdb:(x == ("__debug__":Str))=false:=by decide)
    (he:starEach (e::es) X.env=(false,eval e X.env)::starEach es X.env:=by rfl) (hpl:(backTo pos (starEach es X.env)).any (·.1)=false:=by rfl):PE X (.Call (.Name x p) (e::es) [] pos) (tCB r t):=by
  intro pins s σ H Q I h
  refine wpAny_Call_Name_kw (ld_blt I hg hm hv ?_ hn hdb)
  exact PyProof.Rows.callWith_type1 (thn (ha pos pins s σ H _ I h) fun us s1 ⟨vs,H1,I1,r1,q1⟩=>hc pins s1 σ H1 vs us Q I1 r1 q1) he hpl
end
end L2
namespace HT
open PySem PyProof.Rows
noncomputable def lexLt:List Int→List Int→Bool
  | [],[]=>false
  | [],_::_=>true
  | _::_,[]=>false
  | x::xs,y::ys=>if x=y then lexLt xs ys else decide (x < y)
theorem lexLt_cons (x y:Int) (xs ys:List Int):lexLt (x::xs) (y::ys)=if x=y then lexLt xs ys else decide (x < y):=rfl
theorem lexLt_nil_nil:lexLt [] []=false:=rfl
theorem lexLt_nil_cons (y:Int) (ys:List Int):lexLt [] (y::ys)=true:=rfl
theorem lexLt_cons_nil (x:Int) (xs:List Int):lexLt (x::xs) []=false:=rfl

theorem eqAt_int (A:Around) (s:Shared) (a:Int) (t:Tok) (c:Int) (u:Tok):∃ e,SeqAt.EqAt A s (.int a t) (.int c u) e∧(e=true ↔ a=c) :=
  ⟨(a == c),SeqAt.EqAt.int_int a t c u,by simp⟩
theorem rcLt_int (A:Around) (s:Shared) (a:Int) (t:Tok) (c:Int) (u:Tok) (prog:Program) (w:World) (E:Value→Shared→Prop) (Q:Value→Shared→Prop) (h:Q (.bool (decide (a < c))) s) :
    wpAny (model prog w) A (richCompare .Lt (.int a t) (.int c u)) Q E s :=
  (PyProof.Rows.lt_int h:wpAny (model prog w) A (compareOp .Lt (.int a t) (.int c u)) Q E s)

section
open PySem.SeqAt
open PySem.AutoSeq1 (wpAny_loadPart')
open PySem.MeetsSeq PySem.MeetsSeq2 PySem.MeetsSeq3
theorem tuple_lt_ints (l b:Addr) (items items2:Array Value) (n n2:Nat) (dd dd2:Option Addr) (sl sl2:Array (Option Value)) (ns ms:List Int) (hi:IntsAre items.toList ns) (hj:IntsAre items2.toList ms) :
    Meets (Builtin.«tuple.__lt__» ⟨[.ref l,.ref b],[]⟩)
      (fun _ R s=>s.heap.get? l=some { cls:=.type "tuple",dict:=dd,data:=.seq items n,slots:=sl }∧s.heap.get? b=some { cls:=.type "tuple",dict:=dd2,data:=.seq items2 n2,slots:=sl2 } ∧
        R (.ok (.ret (.bool (lexLt ns ms)))) s) :=
  .of_wp fun prog w A R s h=>by
    obtain ⟨hp,g,d,tk,os⟩:=s; obtain ⟨hl,hb,h⟩:=h
    have f2:=AutoSeq1.sub_tuple_tuple
    have z1:items.size=ns.length:=by rw [← hi.length]; simp
    have z2:items2.size=ms.length:=by rw [← hj.length]; simp
    wp_walk using wpAny_loadPart' hl,wpAny_loadPart' hb,wpAny_forIn_list _ (fun rest b s'=>b.1=none∧s'=⟨hp,g,d,tk,os⟩∧∃ (vs ws:List Value) (ns' ms':List Int),rest=vs.zip ws ∧
      IntsAre vs ns'∧IntsAre ws ms'∧ns'.length+items2.size=ms'.length+items.size∧R (.ok (.ret (.bool (lexLt ns' ms')))) ⟨hp,g,d,tk,os⟩) _
    case turn =>
      rintro ⟨y,x⟩ rest b s' ⟨hb',rfl,vs,ws,ns',ms',hz,hvi,hwi,hlen,hR⟩
      cases hvi with
      | nil=>rw [List.zip_nil_left] at hz; cases hz
      | cons a t hvi' =>
        cases hwi with
        | nil=>rw [List.zip_nil_right] at hz; cases hz
        | cons c u hwi' =>
          rw [List.zip_cons_cons] at hz
          injection hz with hyx hrest
          injection hyx with hy hx
          subst hy hx
          rw [lexLt_cons] at hR
          simp only [List.length_cons] at hlen
          obtain ⟨e,he,hiff⟩:=eqAt_int A.in1 ⟨hp,g,d,tk,os⟩ a t c u
          refine wpAny_bind (he prog w _ _ ?_)
          cases e with
          | true =>
            rw [if_pos (hiff.mp rfl)] at hR
            wp_walk
            exact ⟨rfl,rfl,_,_,_,_,hrest,hvi',hwi',by omega,hR⟩
          | false =>
            rw [if_neg (fun q=>absurd (hiff.mpr q) Bool.false_ne_true)] at hR
            have hri:=rcLt_int A.in1 ⟨hp,g,d,tk,os⟩ a t c u prog w
            wp_walk using hri
            exact ⟨_,rfl,by simpa using hR⟩
    case fin =>
      rintro ⟨b1,b2⟩ s' ⟨hb',rfl,vs,ws,ns',ms',hz,hvi,hwi,hlen,hR⟩
      simp only at hb'
      subst hb'
      have hv:lexLt ns' ms'=decide (items.size < items2.size):=by
        cases hvi with
        | nil =>
          cases hwi with
          | nil =>
            simp only [List.length_nil] at hlen
            rw [lexLt_nil_nil]
            exact (decide_eq_false (by omega)).symm
          | cons c u hw =>
            simp only [List.length_nil,List.length_cons] at hlen
            rw [lexLt_nil_cons]
            exact (decide_eq_true (by omega)).symm
        | cons a t hv =>
          cases hwi with
          | nil =>
            simp only [List.length_nil,List.length_cons] at hlen
            rw [lexLt_cons_nil]
            exact (decide_eq_false (by omega)).symm
          | cons c u hw =>
            rw [List.zip_cons_cons] at hz
            cases hz
      rw [hv] at hR
      wp_walk
      exact ⟨_,rfl,by simpa [Builtin.Tuple.tupleCompareSizes] using hR⟩
    case h =>
      exact ⟨rfl,rfl,items.toList,items2.toList,ns,ms,rfl,hi,hj,by omega,h⟩
end
section
variable {prog:Program} {w:World} {A:Around} {E:Value→Shared→Prop} {s:Shared}
theorem lt_tupInts {l b:Addr} {items items2:Array Value} {ns ms:List Int} {Q:Value→Shared→Prop} (hl:IsTup s.heap l items) (hb:IsTup s.heap b items2) (hi:IntsAre items.toList ns) (hj:IntsAre items2.toList ms)
    (hu:A.units < cLine) (h:Q (.bool (lexLt ns ms)) s):wpAny (model prog w) A (compareOp .Lt (.ref l) (.ref b)) Q E s:=by
  obtain ⟨⟨cls,dd,data,sl⟩,ho,hc,n,hd⟩:=id hl
  obtain ⟨⟨cls2,dd2,data2,sl2⟩,ho2,hc2,n2,hd2⟩:=id hb
  simp only at hc hd hc2 hd2
  subst hc hd hc2 hd2
  exact richCompare_meets_room (op:=.Lt) ⟨_,ho,rfl⟩ ⟨_,ho2,rfl⟩ PySem.F.slot_tuple_lt PySem.F.entry_tuple_lt (PySem.F.args_tuple_lt_2 _ _) (tuple_lt_ints l b items items2 n n2 dd dd2 sl sl2 ns ms hi hj)
    ⟨ho,ho2,show Value.bool (lexLt ns ms)≠Value.notImplemented∧Q (.bool (lexLt ns ms)) s from ⟨(fun x=>nomatch x),h⟩⟩ hu

theorem cat_tup {t b:Addr} {vs ws:List Value} {Q:Value→Shared→Prop} (ht:IsTup s.heap t vs.toArray) (hb:IsTup s.heap b ws.toArray) (hv:vs≠[])
    (h1:ws=[]→Q (.ref t) s) (h2:ws≠[]→Q (.ref s.heap.objs.size) { s with heap:=s.heap.push { cls:=.type "tuple",data:=.seq (vs++ws).toArray } })
    (hsz:vs.length+ws.length≤sizeLine):wpAny (model prog w) A (binaryOp .Add (.ref t) (.ref b)) Q E s:=by
  obtain ⟨⟨cls,dd,data,sl⟩,ho,hc,n,hd⟩:=id ht
  obtain ⟨⟨cls2,dd2,data2,sl2⟩,ho2,hc2,n2,hd2⟩:=id hb
  simp only at hc hd hc2 hd2
  subst hc hd hc2 hd2
  have e:vs.toArray++ws.toArray=(vs++ws).toArray:=by simp
  by_cases hw:ws=[]
  · exact concat_meets ⟨_,ho,rfl⟩ ⟨_,ho2,rfl⟩ noFill_tuple_add seq_tuple_add PySem.F.slot_tuple_add PySem.F.entry_tuple_add (PySem.F.args_tuple_add_2 _ _)
      (tuple_addW1 t b vs.toArray ws.toArray n n2 dd dd2 sl sl2 (by simpa using hv) (by simp [hw])) ⟨ho,ho2,h1 hw⟩
  · refine concat_meets ⟨_,ho,rfl⟩ ⟨_,ho2,rfl⟩ noFill_tuple_add seq_tuple_add PySem.F.slot_tuple_add PySem.F.entry_tuple_add (PySem.F.args_tuple_add_2 _ _)
      (tuple_addW2 t b vs.toArray ws.toArray n n2 dd dd2 sl sl2 (by simpa using hv) (by simpa using hw) (by rw [List.size_toArray,List.size_toArray]; exact hsz)) ⟨ho,ho2,?_⟩
    rw [e]
    exact h2 hw

noncomputable def sIx (n d:Nat):Option Int→Nat
  | none=>d
  | some v=>if v < 0 then (v+(n:Int)).toNat else min v.toNat n
theorem sIx_le (n d:Nat) (hd:d≤n) (o:Option Int):sIx n d o≤n:=by
  cases o with
  | none=>exact hd
  | some v =>
    show (if v < 0 then (v+(n:Int)).toNat else min v.toNat n)≤n
    by_cases hv:v < 0
    · rw [if_pos hv]; omega
    · rw [if_neg hv]; exact Nat.min_le_right _ _
theorem clip_eq (v:Int) (n d:Nat):(if v < 0 then max (v+(n:Int)) 0 else min v (n:Int))=((sIx n d (some v):Nat):Int):=by
  show (if v < 0 then max (v+(n:Int)) 0 else min v (n:Int))=(((if v < 0 then (v+(n:Int)).toNat else min v.toNat n):Nat):Int)
  by_cases hv:v < 0
  · rw [if_pos hv,if_pos hv,Int.ofNat_toNat]
  · rw [if_neg hv,if_neg hv]
    obtain ⟨k,rfl⟩:=Int.eq_ofNat_of_zero_le (Int.not_lt.mp hv)
    rw [Int.toNat_natCast,← Lean.Omega.Int.ofNat_min]
theorem adjust_gen (lo hi:Option Int) (n:Nat):Builtin.Slice.sliceAdjust lo hi 1 (n:Int)=(((sIx n 0 lo:Nat):Int),((sIx n n hi:Nat):Int)):=by
  have h1:¬ ((1:Int) < 0):=by omega
  unfold Builtin.Slice.sliceAdjust
  simp only [h1,if_false]
  refine Prod.ext ?_ ?_
  · cases lo with
    | none=>rfl
    | some v=>exact clip_eq v n 0
  · cases hi with
    | none=>rfl
    | some v=>exact clip_eq v n n
theorem places_gen (i j:Nat):Builtin.Slice.slicePlaces (i:Int) (j:Int) 1=j - i:=by
  unfold Builtin.Slice.slicePlaces
  have h1:(1:Int) > 0:=by omega
  simp only [h1,if_true,Int.ediv_one]
  split <;> omega
theorem slicePart_ {v:Value} {o:Option Int} {Q:Option Int→Shared→Prop} (p:IsPart v o) (h:Q o s):wpAny (model prog w) A (Builtin.Slice.slicePartIndex v) Q E s:=by
  cases p with
  | none=>exact slicePart_none h
  | int i t=>exact slicePart_int h
theorem sliceApplied_gen {sl:Addr} {vl vu:Value} {lo hi:Option Int} {n:Nat} {Q:Int×Int×Nat→Shared→Prop} (hs:s.heap.IsSliceOf sl vl vu .none) (pl:IsPart vl lo) (pu:IsPart vu hi)
    (h:Q (((sIx n 0 lo:Nat):Int),1,sIx n n hi - sIx n 0 lo) s):wpAny (model prog w) A (Builtin.Slice.sliceApplied (.ref sl) (pure (n:Int))) Q E s:=by
  obtain ⟨os,hos,hcs,hds⟩:=id hs
  unfold Builtin.Slice.sliceApplied Builtin.Slice.sliceFields
  refine wpAny_bind (wpAny_bind (wpAny_field hos hds (x:=vl) rfl (wpAny_bind (wpAny_field hos hds (x:=vu) rfl (wpAny_bind (wpAny_field hos hds (x:=.none) rfl (wpAny_pure ?_)))))))
  refine wpAny_bind (slicePart_none ?_)
  show wpAny _ _ (if ((1:Int) == 0)=true then _ else _) _ _ s
  rw [if_neg (by decide)]
  refine wpAny_bind (slicePart_ pl (wpAny_bind (slicePart_ pu (wpAny_bind (wpAny_pure ?_)))))
  show wpAny _ _ (match Builtin.Slice.sliceAdjust lo hi 1 (n:Int) with | (lo,hi)=>pure (lo,(1:Int),Builtin.Slice.slicePlaces lo hi 1)) _ _ s
  rw [adjust_gen lo hi n]
  show wpAny _ _ (pure (((sIx n 0 lo:Nat):Int),(1:Int),Builtin.Slice.slicePlaces ((sIx n 0 lo:Nat):Int) ((sIx n n hi:Nat):Int) 1)) _ _ s
  rw [places_gen]
  exact wpAny_pure h
theorem pick_gen (xs:Array Value) (i k:Nat):((List.range k).filterMap fun (m:Nat)=>xs[((i:Int)+(m:Int) * 1).toNat]?).toArray=((xs.toList.drop i).take k).toArray:=by
  have e:(fun (m:Nat)=>xs[((i:Int)+(m:Int) * 1).toNat]?)=fun m=>xs[i+m]?:=by
    funext m
    have:((i:Int)+(m:Int) * 1).toNat=i+m:=by omega
    rw [this]
  rw [e]
  have:=pick_run xs i k
  rw [List.filterMap_map] at this
  have e2:((fun x=>xs[x]?) ∘ fun x=>i+x)=fun m=>xs[i+m]?:=rfl
  rw [e2] at this
  rw [this]

theorem getItem_tuple_cut {t sl:Addr} {items:Array Value} {vl vu:Value} {lo hi:Option Int} {Q:Value→Shared→Prop} (ht:IsTup s.heap t items) (hs:s.heap.IsSliceOf sl vl vu .none) (pl:IsPart vl lo) (pu:IsPart vu hi)
    (hw:¬ (sIx items.size 0 lo=0∧sIx items.size items.size hi=items.size))
    (h:Q (.ref s.heap.objs.size) { s with heap:=s.heap.push { cls:=.type "tuple",data:=.seq ((items.toList.drop (sIx items.size 0 lo)).take (sIx items.size items.size hi - sIx items.size 0 lo)).toArray } })
    (hsz:items.size≤sizeLine):wpAny (model prog w) A (getItem (.ref t) (.ref sl)) Q E s:=by
  have htake:sizeOk (.seq ((items.toList.drop (sIx items.size 0 lo)).take (sIx items.size items.size hi - sIx items.size 0 lo)).toArray):=by
    show ((items.toList.drop (sIx items.size 0 lo)).take (sIx items.size items.size hi - sIx items.size 0 lo)).toArray.size≤sizeLine
    rw [List.size_toArray,List.length_take,List.length_drop,Array.length_toList]
    exact Nat.le_trans (Nat.min_le_right _ _) (Nat.le_trans (Nat.sub_le _ _) hsz)
  have hj:sIx items.size items.size hi≤items.size:=sIx_le _ _ (Nat.le_refl _) hi
  obtain ⟨os,hos,hcs,hds⟩:=id hs
  have hTs:s.TypeIs (.ref sl) "slice":=⟨os,hos,hcs⟩
  unfold getItem
  try with_reducible refine wpAny_holding ?_
  first | refine wpAny_bind (wpAny_pure ?_) | skip
  refine wpAny_bind (wpAny_sequenceKey ht.typeIs (by decide) ?_)
  refine wpAny_bind (wpAny_callSpecial?_slot (name:=Str.ofString "__getitem__") ht.typeIs PyProof.Rows.slot_tuple_getitem
    (wpAny_call_entry PyProof.Rows.slot_tuple_getitem ht.typeIs entry_tuple_getitem ?_ (args_tuple_getitem _ _)))
  show wpAny _ _ (Builtin.Tuple.tupleItemsOf (.ref t) >>= _) _ _ s
  refine wpAny_bind (tupleItemsOf_ ht ?_)
  refine wpAny_bind (wpAny_typeOf hTs ?_)
  rw [if_pos (by decide)]
  refine wpAny_bind (sliceApplied_gen hs pl pu ?_)
  have hno:¬ ((((sIx items.size 0 lo:Nat):Int) == 0 && (1:Int) == 1 && (sIx items.size items.size hi - sIx items.size 0 lo) == items.size)=true):=by
    intro q
    rw [Bool.and_eq_true,Bool.and_eq_true] at q
    have q1:((sIx items.size 0 lo:Nat):Int)=0:=eq_of_beq q.1.1
    have q2:sIx items.size items.size hi - sIx items.size 0 lo=items.size:=eq_of_beq q.2
    exact hw ⟨by omega,by omega⟩
  show wpAny _ _ (if (((sIx items.size 0 lo:Nat):Int) == 0 && (1:Int) == 1 && (sIx items.size items.size hi - sIx items.size 0 lo) == items.size)=true then _ else _) _ _ s
  rw [if_neg hno,pick_gen]
  first
    | exact wpAny_bind (m:=Builtin.Tuple.tupleExact _) (wpAny_newObj_type (wpAny_pure ⟨_,rfl,wpAny_pure h⟩) htake)
    | exact wpAny_bind (m:=Builtin.Tuple.tupleExact _) (wpAny_newObj_type (wpAny_bind (wpAny_pure (wpAny_pure ⟨_,rfl,wpAny_pure h⟩))) htake)
    | exact wpAny_bind (wpAny_bind (m:=Builtin.Tuple.tupleExact _) (wpAny_newObj_type (wpAny_pure (wpAny_pure ⟨_,rfl,wpAny_pure h⟩)) htake))
    | exact wpAny_bind (wpAny_bind (m:=Builtin.Tuple.tupleExact _) (wpAny_newObj_type (wpAny_pure ⟨_,rfl,wpAny_pure h⟩) htake))
end
end HT
namespace L2
open PySem PySem.Spec PyProof.Rows
noncomputable abbrev TO:=St→Hp→(Option Int→Hp→Prop)→Prop
noncomputable def PO (X:Cx) (e:Option Expr) (t:TO):Prop :=
  ∀ (pins:List (Addr×Obj)) (s:Shared) (σ:St) (H:Hp) (Q:Option Int→Hp→Prop),Inv X pins σ H s→t σ H Q →
    wpAny (model X.prog X.w) X.A (evalPart e X.env) (fun u s'=>∃ o H',Inv X pins σ H' s'∧IsPart u o∧Q o H') X.xe s
noncomputable def tNoPart:TO:=fun _ H Q=>Q none H
noncomputable def tPart (t:TE):TO:=fun σ H Q=>t σ H fun x H1=>∃ i,x=.int i∧Q (some i) H1

theorem intsAre_of {ns:List Int}:∀ {us:List Value},Vals (ns.map V.int) us→IntsAre us ns:=by
  induction ns with
  | nil=>intro us r; rw [List.map_nil] at r; cases r; exact .nil
  | cons n ns ih =>
    intro us r
    rw [List.map_cons] at r
    cases r with
    | cons r1 r2 =>
      obtain ⟨t,e⟩:=r1
      subst e
      exact .cons n t (ih r2)

section
variable {X:Cx} {e:Expr} {te:TE} {lo hi:Option Expr} {tl th:TO} {pos p2:Pos}
theorem po_none:PO X none tNoPart:=by
  intro pins s σ H Q I h
  rw [evalPart_none]
  exact wpAny_pure ⟨none,H,I,.none,h⟩
theorem po_some (h:PE X e te):PO X (some e) (tPart te):=by
  intro pins s σ H Q I hw
  rw [evalPart_some]
  refine thn (h pins s σ H _ I hw) fun u s1 hz0=>?_
  obtain ⟨x,H1,I1,r1,q1⟩:=hz0
  obtain ⟨i,rfl,q⟩:=q1
  obtain ⟨t,rfl⟩:=r1
  exact ⟨some i,H1,I1,.int i t,q⟩

noncomputable def SlR (X:Cx) (r:V→Option Int→Option Int→Hp→VK→Prop):Prop :=
  ∀ (pins:List (Addr×Obj)) (s:Shared) (σ:St) (H:Hp) (x:V) (v vl vu:Value) (lo hi:Option Int) (sl:Addr) (Q:VK),Inv X pins σ H s→RelV x v→s.heap.IsSliceOf sl vl vu .none→IsPart vl lo→IsPart vu hi→r x lo hi H Q →
    ∃ T id,typeLookup (.type T) "__getitem__"=pure (some (.builtin id))∧s.TypeIs v T∧wpAny (model X.prog X.w) X.A (getItem v (.ref sl)) (EP X pins σ Q) X.xe s
theorem SlR.or {r r':V→Option Int→Option Int→Hp→VK→Prop} (h:SlR X r) (h':SlR X r'):SlR X (fun x lo hi H Q=>r x lo hi H Q∨r' x lo hi H Q):=by
  intro pins s σ H x v vl vu lo hi sl Q I rx hs pl pu q
  rcases q with q | q
  · exact h pins s σ H x v vl vu lo hi sl Q I rx hs pl pu q
  · exact h' pins s σ H x v vl vu lo hi sl Q I rx hs pl pu q
noncomputable def tSl (r:V→Option Int→Option Int→Hp→VK→Prop) (te:TE) (tl th:TO):TE:=fun σ H Q=>te σ H fun x H1=>tl σ H1 fun l H2=>th σ H2 fun u H3=>r x l u H3 Q
theorem pe_slice {r:V→Option Int→Option Int→Hp→VK→Prop} (hr:SlR X r) (he:PE X e te) (hl:PO X lo tl) (hu:PO X hi th):PE X (.Subscript e (.Slice lo hi none p2) pos) (tSl r te tl th):=by
  intro pins s σ H Q I h
  refine Subscript_ (thn (he pins s σ H _ I h) fun v s1 hz0=>?_)
  obtain ⟨x,H1,I1,r1,q1⟩:=hz0
  refine wpAny_Slice (thn (hl pins s1 σ H1 _ I1 q1) fun vl s2 ⟨l,H2,I2,pl,q2⟩=>thn (hu pins s2 σ H2 _ I2 q2) fun vu s3 hz0=>?_)
  obtain ⟨u,H3,I3,pu,q3⟩:=hz0
  rw [evalPart_none]
  refine wpAny_pure ?_
  have I4:Inv X pins σ H3 { s3 with heap:=s3.heap.push { cls:=.type "slice",data:=.fields #[vl,vu,.none] } }:=I3.kept (t':=s3.toks) fun b ob q=>Heap.get?_push_of_some _ q
  obtain ⟨T,id,hT,ht,hg⟩:=hr pins { s3 with heap:=s3.heap.push { cls:=.type "slice",data:=.fields #[vl,vu,.none] } } σ H3 x v vl vu l u s3.heap.objs.size Q I4 r1 (Heap.IsSliceOf.new ..) pl pu q3
  show wpAny (model X.prog X.w) X.A (subscriptTail e (.Slice lo hi none p2) v (.ref s3.heap.objs.size)) (EP X pins σ Q) X.xe { s3 with heap:=s3.heap.push { cls:=.type "slice",data:=.fields #[vl,vu,.none] } }
  exact tail_any (ops:=[.ref s3.heap.objs.size,v]) ht hT hg (by with_unfolding_all rfl)

noncomputable def cutV (xs:List V) (lo hi:Option Int):List V:=(xs.drop (HT.sIx xs.length 0 lo)).take (HT.sIx xs.length xs.length hi - HT.sIx xs.length 0 lo)
theorem cutV_length (xs:List V) (lo hi:Option Int):(cutV xs lo hi).length≤xs.length:=by
  unfold cutV
  rw [List.length_take,List.length_drop]
  exact Nat.le_trans (Nat.min_le_right _ _) (Nat.sub_le _ _)
noncomputable def rSlT (K:PySem.W.Frag):V→Option Int→Option Int→Hp→VK→Prop:=fun x lo hi H Q=>∃ a xs,x=.ref a∧SqT K H a xs ∧
  ¬ (HT.sIx xs.length 0 lo=0∧HT.sIx xs.length xs.length hi=xs.length)∧∀ p,H p=none→Q (.ref p) (upd H p (.tup (cutV xs lo hi)))
theorem sl_tup:SlR X (rSlT X.K):=by
  intro pins s σ H x v vl vu lo hi sl Q I rx hs pl pu h
  obtain ⟨a,xs,rfl,hx,hw,q⟩:=h
  cases rx
  obtain ⟨its,r,ht,hz⟩:=I.tuple hx
  have hlen:its.toArray.size=xs.length:=by rw [List.size_toArray]; exact r.length.symm
  refine ⟨"tuple",_,PyProof.Rows.slot_tuple_getitem.lookup,ht.typeIs,?_⟩
  refine HT.getItem_tuple_cut ht hs pl pu (by rw [hlen]; exact hw) ?_ (by rw [hlen]; exact hz)
  rw [hlen]
  refine ⟨.ref s.heap.objs.size,_,I.laid (t':=s.toks) (o:=.tup (cutV xs lo hi)) (fun b ob q=>Heap.get?_push_of_some _ q) (Nat.le_refl _) ?_,rfl,q _ (I.hok.fresh (Nat.le_refl _))⟩
  exact ⟨Nat.le_trans (cutV_length xs lo hi) hz,_,(r.drop (HT.sIx xs.length 0 lo)).take (HT.sIx xs.length xs.length hi - HT.sIx xs.length 0 lo),IsTup.new _ _⟩

noncomputable def rCatT (K:PySem.W.Frag):R2:=fun x y H Q=>∃ a b xs ys,x=.ref a∧y=.ref b∧SqT K H a xs∧SqT K H b ys∧xs≠[]∧xs.length+ys.length≤sizeLine ∧
  (ys=[]→Q (.ref a) H)∧(ys≠[]→∀ p,H p=none→Q (.ref p) (upd H p (.tup (xs++ys))))
theorem Vals.nil_iff {xs:List V} {us:List Value} (r:Vals xs us):us=[] ↔ xs=[]:=by
  cases r with
  | nil=>simp
  | cons _ _=>simp
theorem op_catT:OpR X (binaryOp .Add) (rCatT X.K):=by
  intro pins s σ H x y v u Q I rx ry h
  obtain ⟨a,b,xs,ys,rfl,rfl,ha,hb,hx,hz,q1,q2⟩:=h
  cases rx
  cases ry
  obtain ⟨its,r1,p1,_⟩:=I.tuple ha
  obtain ⟨its2,r2,p2,_⟩:=I.tuple hb
  refine HT.cat_tup p1 p2 (fun z=>hx (r1.nil_iff.mp z)) (fun z=>⟨.ref a,H,I,rfl,q1 (r2.nil_iff.mp z)⟩) (fun z=>?_) (by rw [← r1.length,← r2.length]; exact hz)
  refine ⟨.ref s.heap.objs.size,_,I.laid (t':=s.toks) (o:=.tup (xs++ys)) (fun b ob q=>Heap.get?_push_of_some _ q) (Nat.le_refl _) ?_,rfl,q2 (fun w=>z (r2.nil_iff.mpr w)) _ (I.hok.fresh (Nat.le_refl _))⟩
  exact ⟨by rw [List.length_append]; exact hz,_,r1.append r2,IsTup.new _ _⟩
end
end L2
namespace L2
open PySem PySem.Spec PyProof.Rows
noncomputable def ixN (n:Nat) (i:Int):Option Nat:=if 0≤i then (if i < n then some i.toNat else none) else if -(n:Int)≤i then some (i+n).toNat else none
noncomputable def atI {α:Type} (xs:List α) (i:Int):Option α:=(ixN xs.length i).bind fun j=>xs[j]?
theorem ixN_seq {n:Nat} {i:Int} {j:Nat} (h:ixN n i=some j):seqIndex? i n=some j∧j < n∧-(n:Int)≤i∧i < n:=by
  unfold ixN at h
  by_cases h0:0≤i
  · rw [if_pos h0] at h
    by_cases h1:i < n
    · rw [if_pos h1] at h
      have e:i.toNat=j:=Option.some.inj h
      exact ⟨by rw [seqIndex_of h0 h1,e],by omega,by omega,h1⟩
    · rw [if_neg h1] at h; cases h
  · rw [if_neg h0] at h
    by_cases h1:-(n:Int)≤i
    · rw [if_pos h1] at h
      have e:(i+n).toNat=j:=Option.some.inj h
      exact ⟨by rw [seqIndex_neg (by omega) h1,e],by omega,h1,by omega⟩
    · rw [if_neg h1] at h; cases h
theorem atI_get {α:Type} {xs:List α} {i:Int} {v:α} (h:atI xs i=some v):∃ j,seqIndex? i xs.length=some j∧xs[j]?=some v∧j < xs.length∧-(xs.length:Int)≤i∧i < xs.length:=by
  unfold atI at h
  cases e:ixN xs.length i with
  | none=>rw [e] at h; cases h
  | some j =>
    rw [e] at h
    obtain ⟨h1,h2,h3,h4⟩:=ixN_seq e
    exact ⟨j,h1,h,h2,h3,h4⟩
theorem atI_nat {α:Type} {xs:List α} {j:Nat} {v:α} (h:xs[j]?=some v):atI xs (j:Int)=some v:=by
  have hj:j < xs.length:=(List.getElem?_eq_some_iff.mp h).1
  have e:ixN xs.length (j:Int)=some j:=by
    unfold ixN
    rw [if_pos (by omega),if_pos (by omega)]; simp
  unfold atI; rw [e]; exact h
noncomputable def PlainIx (b:Expr):Prop:=∀ o i,subscripted b false o i=operate [o,i] (getItem o i)
noncomputable def IxR (X:Cx) (r:R2):Prop :=
  ∀ (value slice:Expr) (pins:List (Addr×Obj)) (s:Shared) (σ:St) (H:Hp) (x y:V) (v u:Value) (Q:VK),Inv X pins σ H s→RelV x v→RelV y u→r x y H Q →
    subscripted slice false v u=operate [v,u] (getItem v u)→wpAny (model X.prog X.w) X.A (subscriptTail value slice v u) (EP X pins σ Q) X.xe s
noncomputable def MtR (X:Cx) (id:String) (r:V→List V→Hp→VK→Prop):Prop :=
  ∀ (pins:List (Addr×Obj)) (s:Shared) (σ:St) (H:Hp) (x:V) (xs:List V) (v:Value) (us:List Value) (Q:VK),Inv X pins σ H s→RelV x v→Vals xs us→r x xs H Q →
    wpAny (model X.prog X.w) X.A (call (.builtin id) (v::us)) (EP X pins σ Q) X.xe s
section
variable {X:Cx} {a b:Expr} {ta tb:TE} {pos:Pos}
theorem IxR.or {r r':R2} (h:IxR X r) (h':IxR X r'):IxR X (fun x y H Q=>r x y H Q∨r' x y H Q):=by
  intro value slice pins s σ H x y v u Q I rx ry q hs
  rcases q with q | q
  · exact h value slice pins s σ H x y v u Q I rx ry q hs
  · exact h' value slice pins s σ H x y v u Q I rx ry q hs
theorem pe_ix {r:R2} (hr:IxR X r) (ha:PE X a ta) (hb:PE X b tb) (hs:PlainIx b):PE X (.Subscript a b pos) (tOp r ta tb):=by
  intro pins s σ H Q I h
  exact Subscript_ (binT ha hb I h fun v u s2 x y H2 I2 rx ry q=>hr a b pins s2 σ H2 x y v u Q I2 rx ry q (hs _ _))

noncomputable def rIxL (K:PySem.W.Frag):R2:=fun x y H Q=>∃ p xs i v,x=.ref p∧y=.int i∧SqL K H p xs∧atI xs i=some v∧Q v H
noncomputable def rIxT (K:PySem.W.Frag):R2:=fun x y H Q=>∃ p xs i v,x=.ref p∧y=.int i∧SqT K H p xs∧atI xs i=some v∧Q v H
noncomputable def rIxS:R2:=fun x y H Q=>∃ z i c,x=.str z∧y=.int i∧z.length≤sizeLine∧atI z.cps.toList i=some c∧Q (.str ⟨#[c]⟩) H
theorem ix_list:IxR X (rIxL X.K):=by
  intro value slice pins s σ H x y v u Q I rx ry h hs
  obtain ⟨p,xs,i,z,rfl,rfl,hq,he,q⟩:=h
  cases rx
  obtain ⟨t,rfl⟩:=ry
  obtain ⟨its,r,pl,hz⟩:=I.list hq
  obtain ⟨j,h1,h2,h3,h4,h5⟩:=atI_get he
  obtain ⟨w,ew,rw'⟩:=r.get h2
  have hl:=r.length
  have hn:=line63
  have fin:EP X pins σ Q w s:=⟨z,H,I,rw',q⟩
  by_cases h0:0≤i
  · have hj:i.toNat=j:=by
      rw [seqIndex_of h0 h5] at h1
      exact Option.some.inj h1
    exact item_listR pl.isList h0 (by omega) (by rw [hj]; simpa using ew) fin hs
  · have hj:(i+(its.toArray.size:Int)).toNat=j:=by
      rw [seqIndex_neg (by omega) h4] at h1
      rw [List.size_toArray,← hl]
      exact Option.some.inj h1
    exact subscriptTail_builtinR (x:=w) pl.isList.typeIs slot_list_getitem.lookup
      (wpAny_getItem_list_neg (Q:=fun r s'=>r=w∧EP X pins σ Q r s') pl.isList (by omega) (by rw [List.size_toArray] <;> omega) (by omega) (by rw [hj]; simpa using ew) ⟨rfl,fin⟩) hs
theorem ix_tup:IxR X (rIxT X.K):=by
  intro value slice pins s σ H x y v u Q I rx ry h hs
  obtain ⟨p,xs,i,z,rfl,rfl,hq,he,q⟩:=h
  cases rx
  obtain ⟨t,rfl⟩:=ry
  obtain ⟨its,r,pl,hz⟩:=I.tuple hq
  obtain ⟨j,h1,h2,h3,h4,h5⟩:=atI_get he
  obtain ⟨w,ew,rw'⟩:=r.get h2
  have hl:=r.length
  have hn:=line63
  have fin:EP X pins σ Q w s:=⟨z,H,I,rw',q⟩
  exact subscriptTail_builtinR (x:=w) pl.typeIs slot_tuple_getitem.lookup
    (getItem_tuple (j:=j) (Q:=fun r s'=>r=w∧EP X pins σ Q r s') pl (by omega) (by omega) (by rw [List.size_toArray,← hl]; exact h1) (by simpa using ew) ⟨rfl,fin⟩) hs
theorem ix_str:IxR X rIxS:=by
  intro value slice pins s σ H x y v u Q I rx ry h hs
  obtain ⟨z,i,c,rfl,rfl,hz,he,q⟩:=h
  obtain ⟨t,rfl⟩:=rx
  obtain ⟨t',rfl⟩:=ry
  obtain ⟨j,h1,h2,h3,h4,h5⟩:=atI_get he
  have hl:z.cps.toList.length=z.length:=by simp [Str.length]
  rw [hl] at h1 h4 h5
  have hn:=line63
  exact tail_any (typeIs_str s z t) slot_str_getitem.lookup (getItem_str (c:=c) (by
    have e1:decide (i < -(2 ^ 63:Int))=false:=decide_eq_false (by omega)
    have e2:decide (i ≥ 2 ^ 63)=false:=decide_eq_false (by omega)
    rw [e1,e2,Bool.or_false]) (by rw [h1]; simpa using h2) ⟨.str ⟨#[c]⟩,H,I.tok _,⟨_,rfl⟩,q⟩) hs
noncomputable def rIx (K:PySem.W.Frag):R2:=fun x y H Q=>rIxL K x y H Q∨rIxT K x y H Q∨rIxS x y H Q
theorem ix_seq:IxR X (rIx X.K):=ix_list.or (ix_tup.or ix_str)

theorem mapSeq_set (its:List Value) (n j:Nat) (u:Value):Obj.mapSeq (·.setIfInBounds j u) { cls:=.type "list",data:=.seq its.toArray n }={ cls:=.type "list",data:=.seq (its.set j u).toArray n }:=by
  simp [Obj.mapSeq]
theorem Inv.lst {pins:List (Addr×Obj)} {σ:St} {H:Hp} {s:Shared} {p:Addr} {xs:List V} (I:Inv X pins σ H s) (h:H p=some (.lst xs)) :
    ∃ (its:List Value) (n:Nat),Vals xs its∧s.heap.get? p=some { cls:=.type "list",data:=.seq its.toArray n }∧xs.length≤sizeLine:=by
  obtain ⟨z,its,n,r,e⟩:=I.hok p _ h
  exact ⟨its,n,r,e,z⟩
theorem Inv.lstUpd {pins:List (Addr×Obj)} {σ:St} {H:Hp} {s:Shared} {p:Addr} {xs ys:List V} {its its':List Value} {n n':Nat} {f:Obj→Obj} (I:Inv X pins σ H s) (h:H p=some (.lst xs))
    (ho:s.heap.get? p=some { cls:=.type "list",data:=.seq its.toArray n }) (hf:f { cls:=.type "list",data:=.seq its.toArray n }={ cls:=.type "list",data:=.seq its'.toArray n' }) (r:Vals ys its') (hz:ys.length≤sizeLine) (t:Nat) :
    Inv X pins σ (upd H p (.lst ys)) { s with heap:=s.heap.update p f,toks:=t }:=by
  have e:(s.heap.update p f).get? p=some { cls:=.type "list",data:=.seq its'.toArray n' }:=by
    rw [Heap.get?_update_self f ho (by rw [hf] <;> rfl),hf]
  refine I.write (x:=p) (e:=p) (by rw [h]; trivial) (.inl rfl) (fun b u hb q=>(Heap.get?_update_other _ _ (Ne.symm hb)).trans q) ⟨_,e⟩ ?_
  exact ⟨hz,its',n',r,e⟩
noncomputable def rSetL:V→V→V→Hp→(Hp→Prop)→Prop:=fun o i v H Q=>∃ p xs k j,o=.ref p∧i=.int k∧H p=some (.lst xs)∧ixN xs.length k=some j∧Q (upd H p (.lst (xs.set j v)))
theorem set_list:PSet X rSetL:=by
  intro pins s σ H o i v ov iv u Q I ro ri rv h
  obtain ⟨p,xs,k,j,rfl,rfl,hp,hj,q⟩:=h
  cases ro
  obtain ⟨t,rfl⟩:=ri
  obtain ⟨its,n,r,ho,hz⟩:=I.lst hp
  obtain ⟨h1,h2,h3,h4⟩:=ixN_seq hj
  have hl:=r.length
  have hn:=line63
  have I':Inv X pins σ (upd H p (.lst (xs.set j v))) { s with heap:=s.heap.update p (Obj.mapSeq (·.setIfInBounds j u)) } :=
    I.lstUpd hp ho (mapSeq_set its n j u) (r.set rv j) (by rw [List.length_set]; exact hz) s.toks
  by_cases h0:0≤k
  · have hk:k.toNat=j:=by
      rw [seqIndex_of h0 h4] at h1
      exact Option.some.inj h1
    exact PySem.W.ki_setAt ho h0 (by omega) (by rw [List.size_toArray,← hl]; exact h4) (by rw [hk]; exact ⟨_,I',q⟩)
  · have hk:(k+(its.toArray.size:Int)).toNat=j:=by
      rw [seqIndex_neg (by omega) h3] at h1
      rw [List.size_toArray,← hl]
      exact Option.some.inj h1
    exact PySem.W.ki_setBack ho (by omega) (by rw [List.size_toArray,← hl]; exact h3) (by omega) (by rw [hk]; exact ⟨_,I',q⟩)

theorem slice_bounds (lo hi:Option Int) (n:Nat):(sliceBounds lo hi none n).1=((HT.sIx n 0 lo:Nat):Int)∧(sliceBounds lo hi none n).2.1=((HT.sIx n n hi:Nat):Int)∧(sliceBounds lo hi none n).2.2=1:=by
  have q1:∀ i:Int,i < 0→max 0 (min (i+(n:Int)) n)=(((i+n).toNat:Nat):Int):=fun i h=>by
    rw [Int.min_eq_left (by omega),Int.ofNat_toNat,Int.max_comm]
  have q2:∀ i:Int,¬ i < 0→max 0 (min i (n:Int))=((min i.toNat n:Nat):Int):=fun i h=>by
    obtain ⟨k,rfl⟩:=Int.eq_ofNat_of_zero_le (Int.not_lt.mp h)
    rw [Int.toNat_natCast,← Lean.Omega.Int.ofNat_min]
    exact Int.max_eq_right (Int.natCast_nonneg _)
  refine ⟨?_,?_,rfl⟩
  · cases lo with
    | none=>simp [sliceBounds,HT.sIx]
    | some i =>
      simp only [sliceBounds,HT.sIx,Option.getD_none,show (1:Int) > 0 by decide,if_true]
      by_cases h:i < 0
      · simp only [h,if_true]
        exact q1 i h
      · simp only [h,if_false]
        exact q2 i h
  · cases hi with
    | none=>simp [sliceBounds,HT.sIx]
    | some i =>
      simp only [sliceBounds,HT.sIx,Option.getD_none,show (1:Int) > 0 by decide,if_true]
      by_cases h:i < 0
      · simp only [h,if_true]
        exact q1 i h
      · simp only [h,if_false]
        exact q2 i h
theorem slicePick_cut (its:List Value) (lo hi:Option Int):slicePick its.toArray lo hi none=((its.drop (HT.sIx its.length 0 lo)).take (HT.sIx its.length its.length hi - HT.sIx its.length 0 lo)).toArray:=by
  obtain ⟨h1,h2,h3⟩:=slice_bounds lo hi its.toArray.size
  unfold slicePick
  rw [h1,h2,h3]
  simp only [sliceRange_one,pick_run,List.size_toArray] <;> rfl
noncomputable def rSlL (K:PySem.W.Frag):V→Option Int→Option Int→Hp→VK→Prop:=fun x lo hi H Q=>∃ a xs,x=.ref a∧SqL K H a xs∧∀ p,H p=none→Q (.ref p) (upd H p (.lst (cutV xs lo hi)))
theorem sl_list:SlR X (rSlL X.K):=by
  intro pins s σ H x v vl vu lo hi sl Q I rx hs pl pu h
  obtain ⟨a,xs,rfl,hx,q⟩:=h
  cases rx
  obtain ⟨its,r,ht,hz⟩:=I.list hx
  have hlen:=r.length
  refine ⟨"list",_,slot_list_getitem.lookup,ht.isList.typeIs,?_⟩
  refine wpAny_getItem_list_slice ht.isList hs pl pu .none (by simp) ?_ (by rw [List.size_toArray] <;> omega)
  rw [slicePick_cut,← hlen]
  refine ⟨.ref s.heap.objs.size,_,I.laid (t':=s.toks) (o:=.lst (cutV xs lo hi)) (fun b ob q=>Heap.get?_push_of_some _ q) (Nat.le_refl _) ?_,rfl,q _ (I.hok.fresh (Nat.le_refl _))⟩
  exact ⟨Nat.le_trans (cutV_length xs lo hi) hz,_,0,(r.drop (HT.sIx xs.length 0 lo)).take (HT.sIx xs.length xs.length hi - HT.sIx xs.length 0 lo),Heap.get?_push_size _ rfl⟩

theorem call_len_seq:CallR X (.builtin "len") (fun xs H Q=>∃ p ys,xs=[.ref p]∧(SqL X.K H p ys∨SqT X.K H p ys)∧Q (.int ys.length) H):=by
  intro pins s σ H xs us Q I r h
  obtain ⟨p,ys,rfl,hq,q⟩:=h
  obtain ⟨u,rfl,rx⟩:=vals1 r
  cases rx
  have hn:=line63
  rcases hq with hq | hq
  · obtain ⟨its,r',pl,hz⟩:=I.list hq
    have hlen:=r'.length
    exact Calls.call_len_list pl.isList (by simp only [List.size_toArray] <;> omega) ⟨.int ys.length,H,I.tok _,⟨s.toks+1,by rw [List.size_toArray,hlen]⟩,q⟩
  · obtain ⟨its,r',pl,hz⟩:=I.tuple hq
    have hlen:=r'.length
    exact len_tuple pl (by simp only [List.size_toArray] <;> omega) ⟨.int ys.length,H,I.tok _,⟨s.toks+1,by rw [List.size_toArray,hlen]⟩,q⟩
theorem call_tuple_of:CallR X (.type "tuple") (fun xs H Q=>∃ p ys,xs=[.ref p]∧((SqL X.K H p ys∧∀ l,H l=none→Q (.ref l) (upd H l (.tup ys)))∨(SqT X.K H p ys∧Q (.ref p) H))):=by
  intro pins s σ H xs us Q I r h
  obtain ⟨p,ys,rfl,h⟩:=h
  obtain ⟨u,rfl,rx⟩:=vals1 r
  cases rx
  rcases h with ⟨hq,q⟩ | ⟨hq,q⟩
  · obtain ⟨its,r',pl,hz⟩:=I.list hq
    have hlen:=r'.length
    refine call_tuple_list pl.isList (fun h' kp=>?_) (by simp only [List.size_toArray] <;> omega)
    have I1:Inv X pins σ H { s with heap:=h' }:=I.kept (t':=s.toks) kp
    have I2:Inv X pins σ (upd H h'.objs.size (.tup ys)) { s with heap:=h'.push { cls:=.type "tuple",data:=.seq its.toArray } } :=
      I1.laid (t':=s.toks) (fun b o e=>Heap.get?_push_of_some _ e) (Nat.le_refl _) (show ObjOk X.prog X.w _ _ _ (.tup ys) from ⟨hz,its,r',IsTup.new _ _⟩)
    exact ⟨.ref h'.objs.size,_,I2,rfl,q _ (I1.hok.fresh (Nat.le_refl _))⟩
  · obtain ⟨its,r',pl,hz⟩:=I.tuple hq
    exact call_tuple_same pl ⟨.ref p,H,I,rfl,q⟩

noncomputable def tyV (K:PySem.W.Frag) (T:String) (x:V) (H:Hp):Prop:=match x with
  | .str _=>T="str"
  | .int _=>T="int"
  | .ref p=>(T="list"∧∃ xs,SqL K H p xs)∨(T="tuple"∧∃ o,K.lookup p=some o∧o.cls=.type "tuple"∧o.dict=none) ∨
      (T="dict"∧((∃ kvs,H p=some (.dK kvs))∨∃ kvs,H p=some (.dT kvs)))∨(T="set"∧∃ S n,H p=some (.set S n))
  | _=>False
theorem tyV_is {pins:List (Addr×Obj)} {σ:St} {H:Hp} {s:Shared} {T:String} {x:V} {v:Value} (I:Inv X pins σ H s) (r:RelV x v) (ty:tyV X.K T x H) :
    s.TypeIs v T∧∀ a,v=.ref a→∃ ob,s.heap.get? a=some ob∧ob.dict=none:=by
  cases x with
  | str z =>
    obtain ⟨t,rfl⟩:=r
    cases (show T="str" from ty)
    exact ⟨typeIs_str s z t,fun _ e=>nomatch e⟩
  | int i =>
    obtain ⟨t,rfl⟩:=r
    cases (show T="int" from ty)
    exact ⟨typeIs_int s i t,fun _ e=>nomatch e⟩
  | ref p =>
    cases r
    rcases ty with ⟨rfl,xs,hq⟩ | ⟨rfl,o,hk,hc,hd⟩ | ⟨rfl,hk⟩ | ⟨rfl,S,n,hk⟩
    · obtain ⟨its,_,pl,_⟩:=I.list hq
      refine ⟨pl.isList.typeIs,fun a e=>?_⟩
      cases e
      obtain ⟨o,n,e,c,hd,_⟩:=pl
      exact ⟨o,e,hd⟩
    · refine ⟨⟨o,I.kIn p o hk,hc⟩,fun a e=>?_⟩
      cases e
      exact ⟨o,I.kIn _ o hk,hd⟩
    · have z:∃ o,s.heap.get? p=some o∧o.ExactDict:=by
        rcases hk with ⟨kvs,hk⟩ | ⟨kvs,hk⟩
        · obtain ⟨_,_,_,_,o,_,_,e,ex,_⟩:=I.hok p _ hk
          exact ⟨o,e,ex⟩
        · obtain ⟨_,_,_,_,o,_,_,e,ex,_⟩:=I.hok p _ hk
          exact ⟨o,e,ex⟩
      obtain ⟨o,e,ex⟩:=z
      refine ⟨⟨o,e,ex.1⟩,fun a e2=>?_⟩
      cases e2
      exact ⟨o,e,ex.2.1⟩
    · obtain ⟨o,_,_,_,e,ex,_⟩:=I.hok p _ hk
      refine ⟨⟨o,e,ex.1⟩,fun a e2=>?_⟩
      cases e2
      exact ⟨o,e,ex.2.1⟩
  | _=>exact False.elim ty
noncomputable def tBM0 (K:PySem.W.Frag) (T:String) (r:V→List V→Hp→VK→Prop) (to:TE):TE:=fun σ H Q=>to σ H fun x H1=>tyV K T x H1∧r x [] H1 Q
noncomputable def tBM (K:PySem.W.Frag) (T:String) (r:V→List V→Hp→VK→Prop) (to:TE) (t:TA):TE:=fun σ H Q=>to σ H fun x H1=>tyV K T x H1∧t σ H1 fun xs H2=>r x xs H2 Q
variable {o e:Expr} {es:List Expr} {to:TE} {t:TA} {name:Str} {apos cpos:Pos} {T id:String} {r:V→List V→Hp→VK→Prop}
theorem pe_bm0 (pa:PlainAttrs T) (slot:Slot T name id) (hty:typeOf (.builtin id)=pure (.type "method_descriptor")) (hm:MtR X id r) (ho:PE X o to)
    (hbase:attributeBase o name X.env (eval o X.env)=eval o X.env:=by rfl) (hline:(apos.endLine == cpos.line)=true:=by rfl):PE X (.Call (.Attribute o name apos) [] [] cpos) (tBM0 X.K T r to):=by
  intro pins s σ H Q I h
  refine wpAny_Call_method0_late hbase hline (thn (ho pins s σ H _ I h) fun v s1 hz0=>?_)
  obtain ⟨x,H1,I1,r1,ty,q1⟩:=hz0
  obtain ⟨h1,h2⟩:=tyV_is I1 r1 ty
  exact ⟨T,id,pa,slot,hty,h1,h2,Calls.callWith_builtin rfl (PySem.evalArgs_none (hm pins s1 σ H1 x [] v [] Q I1 r1 .nil q1))⟩
theorem pe_bm (pa:PlainAttrs T) (slot:Slot T name id) (hty:typeOf (.builtin id)=pure (.type "method_descriptor")) (hm:MtR X id r) (ho:PE X o to) (ha:PA X (e::es) t)
    (hbase:attributeBase o name X.env (eval o X.env)=eval o X.env:=by rfl)
    (hfew:((backTo cpos (starEach (e::es) X.env)).all (fun x=>!x.1) && (backToKw cpos (keywordEach [] X.env)).all (fun x=>x.1.isSome)
      && decide ((e::es).length+([]:List Keyword).length+(if ([]:List Keyword).isEmpty then 0 else 1) < 30))=true:=by rfl)
    (hline:(apos.endLine == cpos.line)=true:=by rfl) (hs:starEach (e::es) X.env=(false,eval e X.env)::starEach es X.env:=by rfl) (hplain:(backTo cpos (starEach es X.env)).any (·.1)=false:=by rfl) :
    PE X (.Call (.Attribute o name apos) (e::es) [] cpos) (tBM X.K T r to t):=by
  intro pins s σ H Q I h
  refine wpAny_Call_method_late hbase hfew hline rfl (thn (ho pins s σ H _ I h) fun v s1 hz0=>?_)
  obtain ⟨x,H1,I1,r1,ty,q1⟩:=hz0
  obtain ⟨h1,h2⟩:=tyV_is I1 r1 ty
  refine ⟨T,id,pa,slot,hty,h1,h2,?_⟩
  have hA:=ha cpos pins s1 σ H1 _ I1 q1
  rw [hs] at hA ⊢
  refine Calls.callWith_builtin (by show (false || (backTo cpos (starEach es X.env)).any (·.1))=false; rw [hplain] <;> rfl) (Calls.evalArgs_plain ?_)
  exact thn hA fun us s2 hz0=>by
    obtain ⟨vs,H2,I2,r2,q2⟩:=hz0
    exact hm pins s2 σ H2 x vs v us Q I2 r1 r2 q2
end
end L2
namespace L2
open PySem PySem.Spec PyProof.Rows
noncomputable def MtM (X:Cx) (id:String) (r:V→List V→Hp→VK→Prop):Prop :=
  ∀ (pins:List (Addr×Obj)) (s:Shared) (σ:St) (H:Hp) (x:V) (xs:List V) (v:Value) (us:List Value) (Q:VK),Inv X pins σ H s→RelV x v→Vals xs us→r x xs H Q →
    wpAny (model X.prog X.w) X.A (call (.builtin id) (v::us)) (EP X pins σ Q) X.xe s

theorem Vals.one {x:V} {us:List Value} (h:Vals [x] us):∃ u,us=[u]∧RelV x u:=by
  cases h with
  | cons r t=>cases t; exact ⟨_,rfl,r⟩
theorem Vals.zero:∀ {us:List Value},Vals [] us→us=[]
  | _,.nil=>rfl
theorem Vals.reverse {xs:List V} {us:List Value} (h:Vals xs us):Vals xs.reverse us.reverse:=by
  induction h with
  | nil=>exact .nil
  | cons r t ih=>rw [List.reverse_cons,List.reverse_cons]; exact Vals.append ih (.cons r .nil)
theorem Vals.rep {xs:List V} {us:List Value} (h:Vals xs us):∀ k:Nat,Vals (List.replicate k xs).flatten (List.replicate k us).flatten
  | 0=>.nil
  | k+1=>by
    rw [List.replicate_succ,List.replicate_succ,List.flatten_cons,List.flatten_cons]
    exact Vals.append h (Vals.rep h k)
theorem foldl_rep (its:List Value):∀ (k:Nat) (acc:List Value),
    List.foldl (fun x1 x2=>x1++x2) acc.toArray (List.replicate k its.toArray)=(acc++(List.replicate k its).flatten).toArray
  | 0,acc=>by simp
  | k+1,acc=>by
    have e:acc.toArray++its.toArray=(acc++its).toArray:=by simp
    have e2:(acc++its)++(List.replicate k its).flatten=acc++(List.replicate (k+1) its).flatten:=by
      rw [List.replicate_succ,List.flatten_cons,List.append_assoc]
    rw [← e2,← foldl_rep its k (acc++its),← e,List.replicate_succ,List.foldl_cons]

section
variable {X:Cx} {pins:List (Addr×Obj)} {σ:St} {H:Hp} {s:Shared} {l b:Addr} {xs ys zs:List V}
theorem Inv.lset {its its':List Value} {n:Nat} {f:Array Value→Array Value} {t':Nat} (I:Inv X pins σ H s) (hH:H l=some (.lst xs))
    (e:s.heap.get? l=some { cls:=.type "list",data:=.seq its.toArray n }) (hf:f its.toArray=its'.toArray) (hv:Vals ys its') (hz:ys.length≤sizeLine) :
    Inv X pins σ (upd H l (.lst ys)) { s with heap:=s.heap.update l (Obj.mapSeq f),toks:=t' }:=by
  have q:=PySem.IsL.update e f
  rw [hf] at q
  refine I.write (x:=l) (e:=l) (by rw [hH]; exact trivial) (.inl rfl) (fun b' u hb hu=>(Heap.get?_update_other s.heap (Obj.mapSeq f) (Ne.symm hb)).trans hu) ⟨_,q⟩ ?_
  exact ⟨hz,its',_,hv,q⟩
theorem Inv.lnew {its:List Value} {t':Nat} (I:Inv X pins σ H s) (hv:Vals ys its) (hz:ys.length≤sizeLine) :
    Inv X pins σ (upd H s.heap.objs.size (.lst ys)) { s with heap:=s.heap.push { cls:=.type "list",data:=.seq its.toArray },toks:=t' } :=
  I.laid (fun _ _ q=>Heap.get?_push_of_some _ q) (Nat.le_refl _) ⟨hz,its,0,hv,Heap.get?_push_size _ rfl⟩
theorem Inv.fresh (I:Inv X pins σ H s):H s.heap.objs.size=none:=I.hok.fresh (Nat.le_refl _)
theorem Inv.lstM (I:Inv X pins σ H s) (hH:H l=some (.lst xs)):xs.length≤sizeLine∧∃ (its:List Value) (n:Nat),Vals xs its∧xs.length=its.length∧s.heap.get? l=some { cls:=.type "list",data:=.seq its.toArray n }:=by
  obtain ⟨z,its,n,r,e⟩:=I.hok l _ hH
  exact ⟨z,its,n,r,r.length,e⟩

theorem notLongL {n:Nat} (h:n≤sizeLine):Builtin.List.listTooLong n=false:=by
  unfold Builtin.List.listTooLong
  exact decide_eq_false (by omega)
end
section
variable {X:Cx}
noncomputable def rAppend:V→List V→Hp→VK→Prop:=fun x vs H Q=>∃ l xs y,x=.ref l∧vs=[y]∧H l=some (.lst xs)∧xs.length < sizeLine∧Q .non (upd H l (.lst (xs++[y])))
theorem mt_append:MtM X "list.append" rAppend:=by
  intro pins s σ H x vs v us Q I rx rv h
  obtain ⟨l,xs,y,rfl,rfl,hH,hz,q⟩:=h
  cases rx
  obtain ⟨u,rfl,ru⟩:=rv.one
  obtain ⟨z,its,n,r,hl,e⟩:=I.lstM hH
  refine call_meets F.slot_list_append ⟨_,e,rfl⟩ F.entry_list_append (F.args_list_append_2 _ _) (PySem.list_append l its.toArray n u (by rw [List.size_toArray]; omega)) ⟨e,?_⟩
  refine ⟨.non,_,I.lset (its':=its++[u]) hH e (by simp) (r.append (.cons ru .nil)) ?_,rfl,q⟩
  rw [List.length_append,List.length_singleton]
  omega

noncomputable def rExtend:V→List V→Hp→VK→Prop:=fun x vs H Q=>∃ l b xs zs,x=.ref l∧vs=[.ref b]∧H l=some (.lst xs)∧H b=some (.lst zs)∧xs.length+zs.length≤sizeLine∧Q .non (upd H l (.lst (xs++zs)))
theorem mt_extend:MtM X "list.extend" rExtend:=by
  intro pins s σ H x vs v us Q I rx rv h
  obtain ⟨l,b,xs,zs,rfl,rfl,hH,hB,hz,q⟩:=h
  cases rx
  obtain ⟨u,rfl,ru⟩:=rv.one
  cases ru
  obtain ⟨z,its,n,r,hl,e⟩:=I.lstM hH
  obtain ⟨z2,its2,n2,r2,hl2,e2⟩:=I.lstM hB
  have hsz:its.toArray.size+its2.toArray.size≤sizeLine:=by rw [List.size_toArray,List.size_toArray]; omega
  have hlong:¬ (!its.toArray.isEmpty && Builtin.List.listTooLong (its.toArray.size+its2.toArray.size))=true:=by
    rw [notLongL hsz,Bool.and_false]
    exact Bool.false_ne_true
  refine call_meets F.slot_list_extend ⟨_,e,rfl⟩ F.entry_list_extend (F.args_list_extend_2 _ _)
    (AutoSeq1.list_extend_list_list_0 l its.toArray n b its2.toArray n2 hlong (by rw [List.size_toArray]; omega) (by omega)) ⟨e,e2,?_⟩
  refine ⟨.non,_,I.lset (its':=its++its2) hH e (by simp) (r.append r2) ?_,rfl,q⟩
  rw [List.length_append]
  omega

noncomputable def rReverse:V→List V→Hp→VK→Prop:=fun x vs H Q=>∃ l xs,x=.ref l∧vs=[]∧H l=some (.lst xs)∧Q .non (upd H l (.lst xs.reverse))
theorem mt_reverse:MtM X "list.reverse" rReverse:=by
  intro pins s σ H x vs v us Q I rx rv h
  obtain ⟨l,xs,rfl,rfl,hH,q⟩:=h
  cases rx
  have hus:=rv.zero
  subst hus
  obtain ⟨z,its,n,r,hl,e⟩:=I.lstM hH
  refine call_meets F.slot_list_reverse ⟨_,e,rfl⟩ F.entry_list_reverse (F.args_list_reverse_1 _) (AutoSeq1.list_reverse_list_0 l its.toArray n (by rw [List.size_toArray]; omega)) ⟨e,?_⟩
  refine ⟨.non,_,I.lset (its':=its.reverse) hH e (by simp) r.reverse ?_,rfl,q⟩
  rw [List.length_reverse]
  omega

noncomputable def rCat:R2:=fun x y H Q=>∃ l b xs zs,x=.ref l∧y=.ref b∧H l=some (.lst xs)∧H b=some (.lst zs)∧xs.length+zs.length≤sizeLine∧∀ p,H p=none→Q (.ref p) (upd H p (.lst (xs++zs)))
theorem op_cat:OpR X (binaryOp .Add) rCat:=by
  intro pins s σ H x y v u Q I rx ry h
  obtain ⟨l,b,xs,zs,rfl,rfl,hH,hB,hz,q⟩:=h
  cases rx
  cases ry
  obtain ⟨z,its,n,r,hl,e⟩:=I.lstM hH
  obtain ⟨z2,its2,n2,r2,hl2,e2⟩:=I.lstM hB
  refine PySem.P.add_list e e2 ?_ (by rw [List.size_toArray,List.size_toArray]; omega)
  have ea:its.toArray++its2.toArray=(its++its2).toArray:=by simp
  rw [ea]
  exact ⟨.ref _,_,I.lnew (t':=s.toks) (r.append r2) (by rw [List.length_append]; omega),rfl,q _ I.fresh⟩
noncomputable def rRep:R2:=fun x y H Q=>∃ l k xs,x=.ref l∧y=.int k∧H l=some (.lst xs)∧-(2 ^ 63)≤k∧k < 2 ^ 63∧xs.length * k.toNat≤sizeLine ∧
  ∀ p,H p=none→Q (.ref p) (upd H p (.lst (List.replicate k.toNat xs).flatten))
theorem len_rep {α:Type} (xs:List α) (k:Nat):(List.replicate k xs).flatten.length=k * xs.length:=by
  induction k with
  | zero=>simp
  | succ k ih=>rw [List.replicate_succ,List.flatten_cons,List.length_append,ih,Nat.succ_mul,Nat.add_comm]
theorem op_rep:OpR X (binaryOp .Mult) rRep:=by
  intro pins s σ H x y v u Q I rx ry h
  obtain ⟨l,k,xs,rfl,rfl,hH,h1,h2,hz,q⟩:=h
  cases rx
  obtain ⟨t,rfl⟩:=ry
  obtain ⟨z,its,n,r,hl,e⟩:=I.lstM hH
  have hlen:its.toArray.size * k.toNat≤sizeLine:=by rw [List.size_toArray,← hl]; exact hz
  have hcap:¬ its.toArray.size * k.toNat > (2 ^ 63 - 1) / 8:=by
    have:(sizeLine:Nat)≤(2 ^ 63 - 1) / 8:=by decide
    omega
  have hfit:¬ (!Builtin.List.listFitsIndex k)=true:=by
    rw [fitsIndex_both h1 h2]
    exact Bool.false_ne_true
  have hlong:¬ Builtin.List.listTooLong (its.toArray.size * k.toNat)=true:=by
    rw [notLongL hlen]
    exact Bool.false_ne_true
  have hnew:List.foldl (fun x1 x2=>x1++x2) #[] (List.replicate (if its.toArray.isEmpty=true then 0 else k.toNat) its.toArray)=(List.replicate k.toNat its).flatten.toArray:=by
    have f0:∀ m:Nat,List.foldl (fun x1 x2=>x1++x2) #[] (List.replicate m its.toArray)=(List.replicate m its).flatten.toArray:=fun m=>by
      have:=foldl_rep its m []
      rw [List.nil_append] at this
      exact this
    rw [f0]
    cases its with
    | nil=>simp
    | cons a r'=>rw [if_neg (by simp)]
  refine wpAny_binaryOp_repeat_ref (T:="list") (U:="int") (by decide) ⟨_,e,rfl⟩ (fun s'=>typeIs_int s' k t) noFill_list_mul F.fills_int_mul F.slot_int_rmul repeat_list F.slot_int_index.lookup
    (call_meets F.slot_int_rmul (typeIs_int s k t) F.entry_int_rmul (F.args_int_rmul_2 _ _) (int___rmul___int_list k t l its.toArray n)
      ⟨e,rfl,⟨_,e,rfl⟩,call_meets F.slot_list_mul ⟨_,e,rfl⟩ F.entry_list_mul (F.args_list_mul_2 _ _) (AutoListH.list___mul___list_int_3 l its.toArray n k t hfit hcap hlong) ⟨e,?_⟩⟩)
  rw [hnew]
  exact ⟨.ref _,_,I.lnew (t':=s.toks) (r.rep k.toNat) (by rw [len_rep,Nat.mul_comm]; exact hz),rfl,q _ I.fresh⟩

end
section
variable {prog:Program} {w:World} {A:Around} {E:Value→Shared→Prop} {s:Shared}
end
section
variable {X:Cx}
end
end L2
namespace L2
open PySem PySem.Spec PyProof.Rows
section
variable {κ:Type} [DecidableEq κ]
noncomputable def valV (kvs:List (κ×V)) (k:κ):Option V:=(kvs.find? fun kv=>decide (kv.1=k)).map (·.2)
noncomputable def putK (kvs:List (κ×V)) (k:κ) (v:V):List (κ×V) :=
  if (kvs.any fun kv=>decide (kv.1=k))=true then kvs.map (fun kv=>if kv.1=k then (kv.1,v) else kv) else kvs++[(k,v)]
theorem valV_pos {p:κ×V} {r:List (κ×V)} {k:κ} (e:p.1=k):valV (p::r) k=some p.2:=by simp [valV,List.find?_cons,e]
theorem valV_neg {p:κ×V} {r:List (κ×V)} {k:κ} (e:¬ p.1=k):valV (p::r) k=valV r k:=by simp [valV,List.find?_cons,e]
theorem valV_any (k:κ):∀ kvs:List (κ×V),(kvs.any fun kv=>decide (kv.1=k))=(valV kvs k).isSome
  | []=>rfl
  | p::r=>by
    rw [List.any_cons]
    by_cases e:p.1=k
    · simp only [valV_pos e,decide_eq_true e,Bool.true_or,Option.isSome_some]
    · rw [valV_neg e,decide_eq_false e,Bool.false_or]; exact valV_any k r
theorem length_putK (kvs:List (κ×V)) (k:κ) (v:V):(putK kvs k v).length≤kvs.length+1:=by
  unfold putK
  split
  · rw [List.length_map]; omega
  · rw [List.length_append,List.length_cons,List.length_nil]; omega
theorem RelO.isSome_eq {o:Option V} {u:Option Value} (r:RelO o u):o.isSome=u.isSome:=by
  cases o with
  | none=>cases u with
    | none=>rfl
    | some _=>exact (show False from r).elim
  | some _=>cases u with
    | none=>exact (show False from r).elim
    | some _=>rfl
theorem KV.val {kvs:List (κ×V)} {vs:List (κ×Value)} (r:KV kvs vs) (k:κ):RelO (valV kvs k) (valueAt vs k):=by
  unfold KV at r
  induction r with
  | nil=>exact True.intro
  | @cons p q ps qs h t ih =>
    obtain ⟨h1,h2⟩:=h
    by_cases e:p.1=k
    · have e':q.1=k:=h1.symm.trans e
      have b:valueAt (q::qs) k=some q.2:=by simp [valueAt,List.find?_cons,e']
      rw [valV_pos e,b]; exact h2
    · have e':¬ q.1=k:=fun z=>e (h1.trans z)
      have b:valueAt (q::qs) k=valueAt qs k:=by simp [valueAt,List.find?_cons,e']
      rw [valV_neg e,b]; exact ih
theorem KV.any {kvs:List (κ×V)} {vs:List (κ×Value)} (r:KV kvs vs) (k:κ):(kvs.any fun kv=>decide (kv.1=k))=vs.any fun kv=>decide (kv.1=k):=by
  unfold KV at r
  induction r with
  | nil=>rfl
  | cons h t ih=>rw [List.any_cons,List.any_cons,ih,h.1]
theorem KV.repl {kvs:List (κ×V)} {vs:List (κ×Value)} (r:KV kvs vs) (k:κ) {y:V} {u:Value} (ry:RelV y u) :
    KV (kvs.map fun kv=>if kv.1=k then (kv.1,y) else kv) (vs.map fun kv=>if kv.1=k then (kv.1,u) else kv):=by
  unfold KV at r ⊢
  induction r with
  | nil=>exact .nil
  | @cons p q ps qs h t ih =>
    rw [List.map_cons,List.map_cons]
    refine .cons ?_ ih
    obtain ⟨h1,h2⟩:=h
    by_cases e:p.1=k
    · rw [if_pos e,if_pos (h1.symm.trans e)]; exact ⟨h1,ry⟩
    · rw [if_neg e,if_neg (fun z=>e (h1.trans z))]; exact ⟨h1,h2⟩
theorem KV.put {kvs:List (κ×V)} {vs:List (κ×Value)} (r:KV kvs vs) (k:κ) {y:V} {u:Value} (ry:RelV y u):KV (putK kvs k y) (stored vs k u):=by
  unfold putK stored
  rw [r.any k]
  by_cases e:(vs.any fun kv=>decide (kv.1=k))=true
  · rw [if_pos e,if_pos e]; exact r.repl k ry
  · rw [if_neg e,if_neg e]; exact Paired.snoc r ⟨rfl,ry⟩
theorem KV.length {kvs:List (κ×V)} {vs:List (κ×Value)} (r:KV kvs vs):kvs.length=vs.length:=Paired.length r
end
theorem kV_is {P:Program} {w:World} {k:Key} {u:Value} (r:RelV (kV k) u):(mixKind P w).is k u=true:=by
  cases k with
  | inl i=>obtain ⟨t,e⟩:=(show ∃ t,u=Value.int i t from r); subst e; exact mixKind_int P w i t
  | inr x=>obtain ⟨t,e⟩:=(show ∃ t,u=Value.str x t from r); subst e; exact mixKind_str P w x t
theorem items_are {P:Program} {w:World}:∀ {ks:List Key} {us:List Value},Vals (ks.map kV) us→ItemsAre (mixKind P w) ks us
  | [],_,r=>by rw [List.map_nil] at r; cases r; exact .nil
  | k::ks,_,r=>by
    rw [List.map_cons] at r
    cases r with
    | cons h t=>exact .cons (kV_is h) (items_are t)

noncomputable abbrev KT (H:Hp):List (List Key×V)→List (List Key×Addr×Value)→Prop:=Paired fun p q=>p.1=q.1∧H q.2.1=some (.tup (p.1.map kV))∧RelV p.2 q.2.2
theorem KT.val {H:Hp} {kvs:List (List Key×V)} {xs:List (List Key×Addr×Value)} (r:KT H kvs xs) (k:List Key):RelO (valV kvs k) ((atKey xs k).map (·.2)):=by
  induction r with
  | nil=>exact True.intro
  | @cons p q ps qs h t ih =>
    obtain ⟨h1,_,h2⟩:=h
    by_cases e:p.1=k
    · have e':q.1=k:=h1.symm.trans e
      have b:atKey (q::qs) k=some q.2:=by simp [atKey,List.find?_cons,e']
      rw [valV_pos e,b]; exact h2
    · have e':¬ q.1=k:=fun z=>e (h1.trans z)
      have b:atKey (q::qs) k=atKey qs k:=by simp [atKey,List.find?_cons,e']
      rw [valV_neg e,b]; exact ih
theorem KT.repl {H:Hp} {kvs:List (List Key×V)} {xs:List (List Key×Addr×Value)} (r:KT H kvs xs) (k:List Key) {y:V} {u:Value} (ry:RelV y u) :
    KT H (kvs.map fun kv=>if kv.1=k then (kv.1,y) else kv) (xs.map (putAt k u)):=by
  induction r with
  | nil=>exact .nil
  | @cons p q ps qs h t ih =>
    rw [List.map_cons,List.map_cons]
    refine .cons ?_ ih
    obtain ⟨h1,h2,h3⟩:=h
    unfold putAt
    by_cases e:p.1=k
    · rw [if_pos e,if_pos (h1.symm.trans e)]; exact ⟨h1,h2,ry⟩
    · rw [if_neg e,if_neg (fun z=>e (h1.trans z))]; exact ⟨h1,h2,h3⟩
theorem KT.put {H:Hp} {kvs:List (List Key×V)} {xs:List (List Key×Addr×Value)} (r:KT H kvs xs) (k:List Key) {b:Addr} {y:V} {u:Value} (hb:H b=some (.tup (k.map kV))) (ry:RelV y u) :
    KT H (putK kvs k y) (storedH xs k b u):=by
  have e:(kvs.any fun kv=>decide (kv.1=k))=(atKey xs k).isSome:=by
    rw [valV_any,(r.val k).isSome_eq,Option.isSome_map]
  unfold putK storedH
  rw [e]
  by_cases q:(atKey xs k).isSome=true
  · rw [if_pos q,if_pos q]; exact r.repl k ry
  · rw [if_neg q,if_neg q]; exact Paired.snoc r ⟨rfl,hb,ry⟩
theorem KT.keeps {H H':Hp} {kvs:List (List Key×V)} {xs:List (List Key×Addr×Value)} (r:KT H kvs xs) (ht:∀ b ys,H b=some (.tup ys)→H' b=some (.tup ys)):KT H' kvs xs :=
  Paired.mapP r fun _ _ z=>⟨z.1,ht _ _ z.2.1,z.2.2⟩

section
variable {P:Program} {w:World} {H:Hp} {h:Heap} {a:Addr}
theorem rd_of {u:HO} (ok:HOk P w H h) (e:Rd H a u):ObjOk P w H h a u:=e.ok ok
theorem dk_rd {kvs:List (Key×V)} (ok:HOk P w H h) (e:Rd H a (.dK kvs)):kvs.length≤sizeLine∧(a == sysModules)=false∧∃ vs,KV kvs vs∧h.DictOf (mixKind P w) a vs :=
  show ObjOk P w H h a (.dK kvs) from rd_of ok e
theorem dk_of {kvs:List (Key×V)} (ok:HOk P w H h) (e:H a=some (.dK kvs)):kvs.length≤sizeLine∧(a == sysModules)=false∧∃ vs,KV kvs vs∧h.DictOf (mixKind P w) a vs:=dk_rd ok (.inl e)
theorem key_of {ks:List Key} (ok:HOk P w H h) (e:H a=some (.tup (ks.map kV))):(tupleKind (mixKind P w)).is h ks a:=by
  obtain ⟨_,its,r,o,h1,h2,n,h3⟩:=(show ObjOk P w H h a (.tup (ks.map kV)) from ok a _ e)
  exact ⟨o,its.toArray,n,h1,h2,h3,by simpa using items_are r⟩
theorem dt_rd {kvs:List (List Key×V)} (ok:HOk P w H h) (e:Rd H a (.dT kvs)):kvs.length≤sizeLine∧(a == sysModules)=false ∧
    ∃ xs,KT H kvs xs∧h.DictOfH (tupleKind (mixKind P w)) a xs:=by
  obtain ⟨z,y,xs,r,o,es,ep,h1,h2,h3,h4,h5⟩:=(show ObjOk P w H h a (.dT kvs) from rd_of ok e)
  refine ⟨z,y,xs,r,o,es,ep,h1,h2,h3,h4,fun x hx=>?_,h5⟩
  have all:∀ {l:List (List Key×V)} {m:List (List Key×Addr×Value)},KT H l m→∀ x∈m,(tupleKind (mixKind P w)).is h x.1 x.2.1:=by
    intro l m q
    induction q with
    | nil=>intro x hx; exact nomatch hx
    | @cons p q ps qs hq t ih =>
      intro x hx
      rcases List.mem_cons.mp hx with e | hx
      · subst e
        exact key_of ok (by rw [← hq.1]; exact hq.2.1)
      · exact ih x hx
  exact all r x hx
theorem dt_of {kvs:List (List Key×V)} (ok:HOk P w H h) (e:H a=some (.dT kvs)):kvs.length≤sizeLine∧(a == sysModules)=false ∧
    ∃ xs,KT H kvs xs∧h.DictOfH (tupleKind (mixKind P w)) a xs:=dt_rd ok (.inl e)
end
noncomputable def DGet (H:Hp) (a:Addr) (y:V) (r:Option V):Prop :=
  (∃ kvs k,Rd H a (.dK kvs)∧y=kV k∧r=valV kvs k)∨∃ kvs k b,Rd H a (.dT kvs)∧y=.ref b∧H b=some (.tup (k.map kV))∧r=valV kvs k
noncomputable def DPut (H:Hp) (a:Addr) (y v:V) (H':Hp):Prop :=
  (∃ kvs k,H a=some (.dK kvs)∧y=kV k∧kvs.length < sizeLine∧H'=upd H a (.dK (putK kvs k v))) ∨
  ∃ kvs k b,H a=some (.dT kvs)∧y=.ref b∧H b=some (.tup (k.map kV))∧kvs.length < sizeLine∧H'=upd H a (.dT (putK kvs k v))
theorem DGet.k {H:Hp} {a:Addr} {kvs:List (Key×V)} {k:Key} (e:H a=some (.dK kvs)):DGet H a (kV k) (valV kvs k):=.inl ⟨kvs,k,.inl e,rfl,rfl⟩
theorem DPut.k {H:Hp} {a:Addr} {kvs:List (Key×V)} {k:Key} {v:V} (e:H a=some (.dK kvs)) (hl:kvs.length < sizeLine):DPut H a (kV k) v (upd H a (.dK (putK kvs k v))):=.inl ⟨kvs,k,e,rfl,hl,rfl⟩
section
variable {X:Cx} {pins:List (Addr×Obj)} {σ:St} {H:Hp} {s:Shared} {a:Addr} {y v:V} {u r:Value} {o:Option V} {A:Around} {E:Value→Shared→Prop}
theorem Inv.big (I:Inv X pins σ H s):sysModules < s.heap.objs.size:=by
  have h:mainGlobals < s.heap.objs.size:=(I.mod.glob.keeps I.bk).lt
  exact Nat.lt_trans (by decide) h

theorem d_getItem {Q:Value→Shared→Prop} (hu:A.units+1 < cLine) (I:Inv X pins σ H s) (g:DGet H a y (some v)) (ry:RelV y u) (h:∀ w' s',Inv X pins σ H s'→RelV v w'→Q w' s') :
    wpAny (model X.prog X.w) A (getItem (.ref a) u) Q E s:=by
  rcases g with ⟨kvs,k,e,ey,l⟩ | ⟨kvs,k,b,e,ey,eb,l⟩
  · subst ey
    obtain ⟨z,hd,vs,rel,dd⟩:=dk_rd I.hok e
    obtain ⟨w',hw,rw'⟩:=RelO.some_of (v:=v) (o:=valueAt vs k) (by rw [l]; exact rel.val k)
    exact wpAny_getItem_of (kV_is ry) dd.mapOf hw (h w' _ (I.tok _) rw')
  · subst ey
    cases (show u=Value.ref b from ry)
    obtain ⟨z,hd,xs,rel,dd⟩:=dt_rd I.hok e
    obtain ⟨w',hw,rw'⟩:=RelO.some_of (v:=v) (o:=(atKey xs k).map (·.2)) (by rw [l]; exact rel.val k)
    obtain ⟨p,hp,hp2⟩:=Option.map_eq_some_iff.mp hw
    refine wpAny_getItem_heap (tupleKind_room_in1 hu) (key_of I.hok eb) dd hp ?_
    rw [hp2]
    exact h w' _ (I.tok _) rw'
theorem d_write {h':Heap} {t':Nat} {ob:HO} (I:Inv X pins σ H s) (mu:Mut (H a)) (hs:Heap.SameBut a s.heap h') (he:∃ q,h'.get? a=some q) (new:ObjOk X.prog X.w (upd H a ob) h' a ob) :
    Inv X pins σ (upd H a ob) { s with heap:=h',toks:=t' } :=
  I.write (x:=a) (e:=a) mu (.inl rfl) (fun b q hb z=>(hs.2 b hb).trans z) he new
theorem dk_new {P:Program} {w:World} {H':Hp} {h':Heap} {kvs:List (Key×V)} {vs:List (Key×Value)} (z:kvs.length≤sizeLine) (hd:(a == sysModules)=false) (rel:KV kvs vs) (dd:h'.DictOf (mixKind P w) a vs) :
    ObjOk P w H' h' a (.dK kvs):=⟨z,hd,vs,rel,dd⟩
theorem d_setItem {H':Hp} {Q:Unit→Shared→Prop} (hu:A.units+1 < cLine) (I:Inv X pins σ H s) (g:DPut H a y v H') (ry:RelV y u) (rv:RelV v r) (h:∀ s',Inv X pins σ H' s'→Q () s') :
    wpAny (model X.prog X.w) A (setItem (.ref a) u r) Q E s:=by
  rcases g with ⟨kvs,k,e,ey,l,eH⟩ | ⟨kvs,k,b,e,ey,eb,l,eH⟩
  · subst ey eH
    obtain ⟨z,hd,vs,rel,dd⟩:=dk_of I.hok e
    have hz:vs.length≤sizeLine:=by rw [← rel.length]; exact z
    have hl:(putK kvs k v).length≤sizeLine:=by have:=length_putK kvs k v; omega
    refine wpAny_setItem_pairs (hsz:=hz) (kV_is ry) dd fun h' dd' hs=>h _ ?_
    have he:∃ q,h'.get? a=some q:=let ⟨q,_,_,hq,_⟩:=dd'; ⟨q,hq⟩
    exact d_write I (by rw [e]; exact True.intro) hs he (dk_new hl hd (rel.put k rv) dd')
  · subst ey eH
    cases (show u=Value.ref b from ry)
    obtain ⟨z,hd,xs,rel,dd⟩:=dt_of I.hok e
    have hz:xs.length≤sizeLine:=by rw [← Paired.length rel]; exact z
    have hl:(putK kvs k v).length≤sizeLine:=by have:=length_putK kvs k v; omega
    refine wpAny_setItem_heap (hsz:=hz) (tupleKind_room_in1 hu) (key_of I.hok eb) dd fun h' dd' hs=>h _ ?_
    obtain ⟨q,es,ep,hq,h2,h3,h4,_,h5⟩:=dd'
    refine d_write I (by rw [e]; exact True.intro) hs ⟨q,hq⟩ ⟨hl,hd,_,(rel.put k eb rv).keeps fun c ys ec=>?_,q,es,ep,hq,h2,h3,h4,h5⟩
    rw [upd_ne (ne_of ec e (fun z=>nomatch z))]
    exact ec
end
section
variable {X:Cx} {pins:List (Addr×Obj)} {σ:St} {H:Hp} {s:Shared} {a:Addr} {kvs:List (Key×V)} {k:Key} {u:Value} {A:Around} {E:Value→Shared→Prop}
end
noncomputable def NoSl (i:Expr):Prop:=∀ ov iv,subscripted i false ov iv=operate [ov,iv] (getItem ov iv)
theorem subD_of {prog:Program} {w:World} {A:Around} {E:Value→Shared→Prop} {s:Shared} {env:Env} {value slice:Expr} {pos:Pos} {T id:String} {Q:Value→Shared→Prop}
    (hl:typeLookup (.type T) "__getitem__"=pure (some (.builtin id))) (hs:NoSl slice)
    (h:wpAny (model prog w) A (eval value env) (fun o s₁=>wpAny (model prog w) A (eval slice env) (fun i s₂=>s₂.TypeIs o T∧wpAny (model prog w) A (getItem o i) Q E s₂) E s₁) E s) :
    wpAny (model prog w) A (eval (.Subscript value slice pos) env) Q E s:=by
  refine Subscript_ (wpAny_mono h (fun o s₁ h₁=>wpAny_mono h₁ (fun i s₂ h₂=>?_) fun _ _ x=>x) fun _ _ x=>x)
  obtain ⟨hT,h₂⟩:=h₂
  unfold subscriptTail
  refine wpAny_bind ?_
  rw [getitemInPython_of_ne hT.not_modules]
  refine wpAny_bind (wpAny_specialOf hT hl ?_)
  have fin:wpAny (model prog w) A (subscripted slice false o i) (fun r s₃=>wpAny (model prog w) A (letTemporaryGo value o r >>= fun _=>pure r) Q E s₃) E s₂:=by
    rw [hs o i]
    exact wpAny_operating (wpAny_mono h₂ (fun r s₃ h₃=>wpAny_bind (wpAny_letTemporaryGo (wpAny_pure h₃))) fun _ _ x=>x)
  first
    | exact wpAny_pure (wpAny_bind fin)
    | exact wpAny_bind (wpAny_pure (wpAny_bind fin))
    | exact wpAny_bind fin

theorem dict_typeIs {X:Cx} {pins:List (Addr×Obj)} {σ:St} {H:Hp} {s:Shared} {a:Addr} {y:V} {o:Option V} (I:Inv X pins σ H s) (g:DGet H a y o):s.TypeIs (.ref a) "dict":=by
  rcases g with ⟨kvs,k,e,_,_⟩ | ⟨kvs,k,b,e,_,_,_⟩
  · obtain ⟨_,_,vs,_,dd⟩:=dk_rd I.hok e
    exact dd.typeIs
  · obtain ⟨_,_,xs,_,dd⟩:=dt_rd I.hok e
    exact dd.typeIs
noncomputable def tDGet (td ty:TE):TE:=fun σ H Q=>td σ H fun x H1=>ty σ H1 fun y H2=>∃ a v,x=.ref a∧DGet H2 a y (some v)∧Q v H2
noncomputable def sDPut (td ty tv:TE):TS:=fun D σ H=>tv σ H fun v H1=>td σ H1 fun x H2=>ty σ H2 fun y H3=>∃ a H4,x=.ref a∧DPut H3 a y v H4∧D.nx σ H4
section
variable {X:Cx} {o i e value:Expr} {pos pos' tpos:Pos} {td ty tv:TE}
theorem pe_dget (hu:X.A.units+1 < cLine) (ho:PE X o td) (hi:PE X i ty) (hs:NoSl i):PE X (.Subscript o i pos) (tDGet td ty):=by
  intro pins s σ H Q I h
  refine subD_of PySem.F.slot_dict_getitem.lookup hs (thn (ho pins s σ H _ I h) fun u s1 ⟨x,H1,I1,rx,q1⟩=>thn (hi pins s1 σ H1 _ I1 q1) fun iv s2 hz0=>?_)
  obtain ⟨y,H2,I2,ry,a,v,ex,g,q2⟩:=hz0
  subst ex
  obtain rfl:u=Value.ref a:=rx
  exact ⟨dict_typeIs I2 g,d_getItem hu I2 g ry fun w' s3 I3 rw'=>⟨v,H2,I3,rw',q2⟩⟩
theorem ps_dput (hu:X.A.units+1 < cLine) (ho:PE X o td) (hi:PE X i ty) (hv:PE X value tv) (hs:swapsWith value (some (.Subscript o i pos')) pos.line X.env=pure false) :
    PS X (.Assign [.Subscript o i pos'] value pos) (sDPut td ty tv):=by
  intro pins s σ H D I h
  refine wpAny_Assign_Subscript (thn (hv pins s σ H _ I h) fun r s1 ⟨v,H1,I1,rv,q1⟩=>thn (ho pins s1 σ H1 _ I1 q1) fun u s2 ⟨x,H2,I2,rx,q2⟩=>thn (hi pins s2 σ H2 _ I2 q2) fun iv s3 hz0=>?_) hs
  obtain ⟨y,H3,I3,ry,a,H4,ex,g,q3⟩:=hz0
  subst ex
  obtain rfl:u=Value.ref a:=rx
  exact d_setItem hu I3 g ry rv fun s4 I4=>⟨σ,H4,I4,q3⟩
end
theorem dk_empty {P:Program} {w:World} {H:Hp} (h:Heap) (hb:sysModules < h.objs.size):ObjOk P w H (h.push { cls:=.type "dict",data:=.dict #[] }) h.objs.size (.dK []) :=
  ⟨Nat.zero_le _,beq_eq_false_iff_ne.mpr (Ne.symm (Nat.ne_of_lt hb)),[],.nil,Heap.DictOf.new h⟩
section
variable {X:Cx} {pos:Pos}
end
noncomputable def tPairs:List (TE×TE)→St→Hp→(List (V×V)→Hp→Prop)→Prop
  | [],_,H,Q=>Q [] H
  | (tk,tv)::r,σ,H,Q=>tk σ H fun x H1=>tv σ H1 fun y H2=>tPairs r σ H2 fun ps H3=>Q ((x,y)::ps) H3
noncomputable abbrev VV:List (V×V)→List (Value×Value)→Prop:=Paired fun p q=>RelV p.1 q.1∧RelV p.2 q.2
noncomputable def PPs (X:Cx) (pos:Pos) (keys:List (Option Expr)) (values:List Expr) (trs:List (TE×TE)):Prop :=
  ∀ (pins:List (Addr×Obj)) (s:Shared) (σ:St) (H:Hp) (Q:List (V×V)→Hp→Prop),Inv X pins σ H s→tPairs trs σ H Q →
    wpAny (model X.prog X.w) X.A (evalPairs (pairTrees keys values X.env pos)) (fun vs s'=>∃ ps H',Inv X pins σ H' s'∧VV ps vs∧Q ps H') X.xe s
theorem pps_nil {X:Cx} {pos:Pos}:PPs X pos [] [] []:=fun pins s σ H Q I h=>pairTrees_nil_walk ⟨[],H,I,.nil,h⟩
theorem pps_cons {X:Cx} {pos:Pos} {k v:Expr} {ks:List (Option Expr)} {vs:List Expr} {tk tv:TE} {trs:List (TE×TE)} (hk:PE X k tk) (hv:PE X v tv) (hr:PPs X pos ks vs trs) :
    PPs X pos (some k::ks) (v::vs) ((tk,tv)::trs):=fun pins s σ H Q I h =>
  pairTrees_cons_walk (thn (hk pins s σ H _ I h) fun u s1 ⟨x,H1,I1,rx,q1⟩=>thn (hv pins s1 σ H1 _ I1 q1) fun w2 s2 ⟨y,H2,I2,ry,q2⟩ =>
    thn (hr pins s2 σ H2 _ I2 q2) fun ws s3 ⟨ps,H3,I3,rel,q3⟩=>⟨(x,y)::ps,H3,I3,.cons ⟨rx,ry⟩ rel,q3⟩)

noncomputable def mergeK (kvs more:List (Key×V)):List (Key×V):=more.foldl (fun acc kv=>putK acc kv.1 kv.2) kvs
theorem KV.merge:∀ {more:List (Key×V)} {rs:List (Key×Value)} {kvs:List (Key×V)} {vs:List (Key×Value)},KV more rs→KV kvs vs→KV (mergeK kvs more) (merged vs rs):=by
  intro more rs kvs vs r
  unfold KV at r
  induction r generalizing kvs vs with
  | nil=>intro q; exact q
  | @cons p q ps qs h t ih =>
    intro r0
    have e:KV (putK kvs p.1 p.2) (stored vs q.1 q.2):=by
      have:=r0.put p.1 h.2
      rw [← h.1]; exact this
    exact ih e
theorem length_mergeK:∀ (more kvs:List (Key×V)),(mergeK kvs more).length≤kvs.length+more.length
  | [],kvs=>by show kvs.length≤kvs.length+0; omega
  | p::r,kvs=>by
    have h1:=length_mergeK r (putK kvs p.1 p.2)
    have h2:=length_putK kvs p.1 p.2
    show (mergeK (putK kvs p.1 p.2) r).length≤_
    rw [List.length_cons]; omega
theorem carries_of {P:Program} {w:World}:∀ {kvs:List (Key×V)} {ws:List (Value×Value)},VV (kvs.map fun kv=>(kV kv.1,kv.2)) ws→∃ rs,Carries (mixKind P w) ws rs∧KV kvs rs
  | [],_,r=>by rw [List.map_nil] at r; cases r; exact ⟨[],True.intro,.nil⟩
  | p::kvs,_,r=>by
    rw [List.map_cons] at r
    cases r with
    | @cons a b as bs h t =>
      obtain ⟨rs,c,q⟩:=carries_of (P:=P) (w:=w) t
      obtain ⟨b1,b2⟩:=b
      exact ⟨(p.1,b2)::rs,⟨kV_is h.1,rfl,c⟩,.cons ⟨rfl,h.2⟩ q⟩
noncomputable def tDisp (trs:List (TE×TE)):TE:=fun σ H Q=>∀ p,H p=none→tPairs trs σ (upd H p (.dK [])) fun ps H2=>H2 p=some (.dK [])∧∃ kvs:List (Key×V),ps=kvs.map (fun kv=>(kV kv.1,kv.2))∧kvs.length≤15∧Q (.ref p) (upd H2 p (.dK (mergeK [] kvs)))
theorem pe_disp {X:Cx} {pos:Pos} {keys:List (Option Expr)} {values:List Expr} {trs:List (TE×TE)} (h:PPs X pos keys values trs) (hall:keys.all (·.isSome)=true) (hl:keys.length=values.length) (h0:keys≠[])
    (h15:keys.length≤15):PE X (.Dict keys values pos) (tDisp trs):=by
  intro pins s σ H Q I q
  have hn:=I.hok.fresh (Nat.le_refl s.heap.objs.size)
  have I1:=I.laid (a:=s.heap.objs.size) (o:=.dK []) (h':=s.heap.push { cls:=.type "dict",data:=.dict #[] }) (t':=s.toks) (fun _ _ q=>Heap.get?_push_of_some _ q) (Nat.le_refl _) (dk_empty s.heap I.big)
  refine wpAny_Dict_walk (knd:=mixKind X.prog X.w) hall hl h0 h15 (thn (h pins _ σ _ _ I1 (q _ hn)) fun ws s2 hz0=>?_)
  obtain ⟨ps,H2,I2,rel,e,kvs,ep,lk,q2⟩:=hz0
  subst ep
  obtain ⟨rs,c,rk⟩:=carries_of (P:=X.prog) (w:=X.w) rel
  obtain ⟨z,hd,vs0,r0,dd⟩:=dk_of I2.hok e
  cases r0
  refine ⟨rs,c,dd,fun h' dd' hs=>⟨.ref s.heap.objs.size,_,?_,rfl,q2⟩⟩
  have hz:(mergeK [] kvs).length≤sizeLine:=by
    have h1:=length_mergeK kvs []
    rw [List.length_nil] at h1
    rw [sizeLine_eq]; omega
  have he:∃ q,h'.get? s.heap.objs.size=some q:=let ⟨q,_,_,hq,_⟩:=dd'; ⟨q,hq⟩
  exact d_write I2 (by rw [e]; exact True.intro) hs he (dk_new hz hd (rk.merge .nil) dd')

section
variable {X:Cx} {pins:List (Addr×Obj)} {σ:St} {H:Hp} {s:Shared} {a:Addr} {y d:V} {u r:Value} {o:Option V} {A:Around} {E:Value→Shared→Prop}
end
section
variable {X:Cx} {o e f:Expr} {apos cpos:Pos} {td ty tx:TE}
end
section
variable {X:Cx} {pins:List (Addr×Obj)} {σ:St} {H:Hp} {s:Shared} {a:Addr} {kvs:List (Key×V)} {A:Around} {E:Value→Shared→Prop}
end
section
variable {X:Cx} {pins:List (Addr×Obj)} {σ:St} {H:Hp} {s:Shared} {a:Addr} {y:V} {u:Value} {A:Around} {E:Value→Shared→Prop}
end
end L2
namespace Att
open PySem PySem.W PySem.Calls PyProof.Rows
theorem ints_of_wellAll {P:Params} {h:Heap}:∀ (ns:List Int) (vs:List Value),WellAll P h vs (ns.map WData.int)→IntsAre vs ns:=by
  intro ns
  induction ns with
  | nil =>
    intro vs w
    rw [List.map_nil] at w
    cases w
    exact .nil
  | cons n ns ih =>
    intro vs w
    rw [List.map_cons] at w
    cases w with
    | cons a b =>
      cases a
      exact .cons _ _ (ih _ b)

theorem script_of {l:OpenLaw} {n:Nat} (hn:l.most=some n) {P:Params} {h:Heap} {args:List WData} {vals:List Value}
    (hpre:l.row.toRowW.claim.pre args=true) (hwl:WellAll P h vals args) :
    ∃ a vs ns,vals=[Value.ref a]∧args=[WData.list (ns.map WData.int)]∧h.get? a=some { cls:=.type "list",data:=.seq vs.toArray }∧IntsAre vs ns∧ns.length≤n:=by
  have hsh:WShape.hasAll [] args [.list .int]=true:=(pre_splitW hpre).1
  have hc:l.pre.holds [] { args:=args }=true:=(pre_splitW hpre).2
  obtain ⟨d,r,rfl,h1,h2⟩:=hasAllW_cons hsh
  obtain rfl:=hasAllW_nil h2
  obtain ⟨xs,rfl,h3⟩:=hasW_list h1
  obtain ⟨ns,rfl⟩:=items_int h3
  have hlen:ns.length≤n:=by
    unfold OpenLaw.pre at hc
    have h4:(WTm.not (.lt (.lit (.int (n:Int))) (.len (.arg 0)))).holds [] { args:=[.list (ns.map .int)] }=true:=by
      have h4:=(holds_andW hc).1
      rw [hn] at h4
      exact h4
    have h5:=condW_of h4 (w_not (w_lt w_lit (w_len_list (w_arg rfl))))
    rw [List.length_map] at h5
    refine Nat.le_of_not_lt fun q=>?_
    have q':(n:Int) < ((ns.length:Nat):Int):=by omega
    first
      | (rw [decide_eq_true q'] at h5; exact absurd h5 (by decide))
      | (simp at h5; omega)
  cases hwl with
  | cons w1 w2 =>
    cases w2
    cases w1 with
    | list ho hall=>exact ⟨_,_,ns,rfl,rfl,ho,ints_of_wellAll ns _ hall,hlen⟩

theorem post_true (l:OpenLaw) (args:List WData):l.row.toRowW.claim.post args (.bool true) args=true :=
  postW_of (r:=l.row.toRowW) (X:=(true == true))
    (show WShape.has [] (.bool true) .bool=true by first | rfl | decide | simp [WShape.has,WShape.arms,WShape.armsAll])
    (show (WTm.eq .res (.lit (.bool true))).value [] { args:=args,res:=some (.bool true),after:=args }=some (.bool (true == true)) from w_eq_bool (w_res rfl) w_lit) rfl

theorem attach_call {l:OpenLaw} {n:Nat} {q:Program} {loose:List Str} {XP:(Str→Option Value)→Heap→Prop} {YP:World→Heap→Prop} {d:DefRec}
    (hn:l.most=some n) (hdf:d.params.defaults=[])
    (call:∀ (w:World) (s₀ s₁:Shared) (mg mb:Str→Option Value) (fa:Addr) (o:Obj) (pm cd doc:Value) (a:Addr) (vs:List Value) (ns:List Int),
      Ground q loose [] XP w s₀ mg mb s₁.heap→YP w s₁.heap →
      s₁.heap.get? fa=some o→o.data=.func (docDef d.name d.params d.body d.scope pm cd doc)→s₁.heap.CodeRec cd d.name→mg d.name=some (.ref fa) →
      s₁.heap.get? a=some { cls:=.type "list",data:=.seq vs.toArray }→IntsAre vs ns→ns.length≤n→s₁.gens=#[] →
      codeAny (model l.prog w) callerA (.call (.ref fa) ⟨[.ref a],[]⟩) (fun r s'=>r=.ok (.ret (.bool true))∧OldK s₁.heap s'.heap∧s'.os=s₁.os∧AllBare s'.gens) s₁) :
    WalkO q loose XP YP l.row.toRowW d [] (fun f vs=>PySem.call f vs):=by
  intro w s₀ s₁ mg mb G Y fa o pm cd doc dV kV ho hd hcd hD hmg hg args vals as hpre hlay hrd hwl hlo
  obtain rfl:dV=.none:=Dflts.none hD hdf
  obtain rfl:kV=.none:=Dflts.noKw hD
  obtain ⟨a,vs,ns,rfl,rfl,hobj,hints,hlen⟩:=script_of hn hpre hwl
  refine enter_call (codeAny_mono (call w s₀ s₁ mg mb fa o pm cd doc a vs ns G Y ho (fd_plain hd) hcd hmg hobj hints hlen hg) fun r s' hq=>?_)
  obtain ⟨rfl,h2,h3,h4⟩:=hq
  exact ⟨.inl ⟨.bool true,.bool true,[],rfl,fun _=>rfl,.bool true,post_true l _,fun _=>⟨List.Pairwise.nil,fun _ hm=>(nomatch hm)⟩⟩,h2,h3,h4⟩

section
variable {prog:Program} {w:World} {A:Around} {E:Value→Shared→Prop} {s:Shared} {K:Frag}
end
end Att
namespace L2
open PySem PySem.Spec PyProof.Rows
theorem vals_ints {vs:List Value} {ns:List Int} (h:IntsAre vs ns):Vals (ns.map V.int) vs:=by
  induction h with
  | nil=>exact .nil
  | cons n t h ih=>exact .cons ⟨t,rfl⟩ ih

noncomputable def Only (H:Hp):Prop:=∀ b,H b=none∨∃ o xs,H b=some (.frz o (.lst xs))

theorem law_call {P:Program} {w:World} {K:PySem.W.Frag} {mg mb:Str→Option Value} {CX:CXT} {k:Nat} {fa a:Addr} {fd:FuncData} {x:Str} {sp:Sp} {s₁:Shared} {vs:List Value} {ns:List Int}
    (KX:K.In s₁.heap) (hns:s₁.heap.Ns mainGlobals mg) (hb:s₁.heap.Ns builtinsNs mb) (hbb:∀ x:Str,x≠"__name__"→mb x=bootBuiltins x) (hlim:s₁.heap.NoLimit) (hg:s₁.gens=#[])
    (ha:s₁.heap.get? a=some { cls:=.type "list",data:=.seq vs.toArray }) (hi:IntsAre vs ns) (hl:ns.length≤sizeLine) (hr:Room k callerA)
    (F:∀ base:Heap,K.In base→base.Ns mainGlobals mg→FnOk P w K mg base CX k fa fd [x] sp) (hbind:∀ (s:Shared) (u:Value),BindsTo s fd ⟨[u],[]⟩ [(x,u)])
    (hsp:∀ H:Hp,Only H→SqL K H a (ns.map V.int)→sp [.ref a] H (fun v _=>v=.bl true) fun _ _ _=>False)
    (hCX:∀ H e s',CX [] H s₁ (fun _ _ _=>False) e s'→False) :
    codeAny (model P w) callerA (.call (.ref fa) ⟨[.ref a],[]⟩) (fun r s'=>r=.ok (.ret (.bool true))∧OldK s₁.heap s'.heap∧s'.os=s₁.os∧AllBare s'.gens) s₁:=by
  have rv:=vals_ints hi
  have lenV:=hi.length
  -- from an abstract heap in which nothing but the script may be tracked
  have core:∀ H:Hp,Only H→SqL K H a (ns.map V.int)→HOk P w H s₁.heap→(∀ b,H b≠none→b=a)→(H a≠none→K.lookup a=none) →
      codeAny (model P w) callerA (.call (.ref fa) ⟨[.ref a],[]⟩) (fun r s'=>r=.ok (.ret (.bool true))∧OldK s₁.heap s'.heap∧s'.os=s₁.os∧AllBare s'.gens) s₁:=by
    intro H hO hS hok hA hK
    have base_of:∀ {b:Addr} {o:Obj},s₁.heap.get? b=some o→H b=none→(hidT s₁.heap H).get? b=some o:=fun e n=>hidT_get e n
    have noA:∀ {b:Addr} {o:Obj} {es:Array DictEntry} {ep:Nat},s₁.heap.get? b=some o→o.data=.dict es ep→H b=none:=fun {b o es ep} e d=>by
      cases q:H b with
      | none=>rfl
      | some u =>
        have e':b=a:=hA b (by rw [q]; simp)
        subst e'
        rw [ha] at e; cases e
        have d':Data.seq vs.toArray _=Data.dict es ep:=d
        cases d'
    have nsK:∀ {b:Addr} {m:Str→Option Value},s₁.heap.Ns b m→(hidT s₁.heap H).Ns b m:=fun {b m} hz0=>by
      obtain ⟨o,es,ep,e,d,r⟩:=hz0
      exact ⟨o,es,ep,base_of e (noA e d),d,r⟩
    have hKb:K.In (hidT s₁.heap H):=fun b o e=>base_of (KX b o e) (by
      cases q:H b with
      | none=>rfl
      | some u =>
        have e':b=a:=hA b (by rw [q]; simp)
        subst e'
        rw [hK (by rw [q]; simp)] at e; cases e)
    have hM:Mod K mg (hidT s₁.heap H):=⟨hKb,nsK hns,⟨mb,nsK hb,hbb⟩,let ⟨mc,h1,h2⟩:=hlim; ⟨mc,nsK h1,h2⟩⟩
    have e0:Env0 P w K mg (hidT s₁.heap H) callerA [] s₁ H:=⟨rfl,hM,fun b o e=>of_hidT e,Nat.le_of_eq (hidT_size _ _),trivial,fun b hb=>absurd (show b∈([]:List Addr) from hb) (by simp),hok,.of_eq hg⟩
    refine codeAny_mono ((F _ hKb (nsK hns)).run callerA [] s₁ H ⟨[.ref a],[]⟩ [.ref a] [.ref a] _ _ hr e0 (hbind s₁ (.ref a)) (.cons rfl .nil) (hsp H hO hS)) fun r s' h=>?_
    cases r with
    | error e=>exact (hCX H e s' h).elim
    | ok fl =>
      cases fl with
      | next=>exact False.elim h
      | brk=>exact False.elim h
      | cont=>exact False.elim h
      | ret u =>
        obtain ⟨v,H',os,bare,un,hok',r',q⟩:=h
        have q':v=.bl true:=q
        subst q'
        obtain rfl:u=Value.bool true:=r'
        refine ⟨rfl,OldK.of_keep fun b o e=>?_,os,bare⟩
        cases q:H b with
        | none=>exact un.keep b o e q (by intro z; exact absurd (show b∈([]:List Addr) from z) (by simp)) (by simp)
        | some u =>
          rcases hO b with z | ⟨ob,xs,z⟩
          · rw [q] at z; cases z
          · have z2:=un.frzs b ob _ z
            obtain ⟨e1,_⟩:=hok b _ z
            obtain ⟨e2,_⟩:=hok' b _ z2
            rw [e] at e1; cases e1
            exact e2
  cases hk:K.lookup a with
  | some o =>
    -- the script is one of the module's own objects
    have e:=KX a o hk
    rw [ha] at e
    cases e
    refine core (fun _=>none) (fun _=>.inl rfl) (.inr ⟨_,vs.toArray,_,hk,rfl,rfl,rfl,by rw [List.size_toArray,lenV]; exact hl,by simpa using rv⟩) (fun b u z=>by have z':(none:Option HO)=some u:=z; cases z') (fun b z=>absurd rfl z) fun z=>absurd rfl z
  | none =>
    refine core (fun b=>if b=a then some (.frz { cls:=.type "list",data:=.seq vs.toArray } (.lst (ns.map V.int))) else none) (fun b=>?_) (.inl (.inr ⟨{ cls:=.type "list",data:=.seq vs.toArray },if_pos rfl⟩)) (fun b u z=>?_) (fun b z=>?_) fun _=>hk
    · by_cases hb:b=a
      · exact .inr ⟨_,_,if_pos hb⟩
      · exact .inl (if_neg hb)
    · by_cases hb:b=a
      · have z':=(if_pos hb).symm.trans z
        cases z'
        subst hb
        exact ⟨ha,by rw [List.length_map]; exact hl,vs,_,rv,ha⟩
      · have z':=(if_neg hb).symm.trans z
        cases z'
    · by_cases hb:b=a
      · exact hb
      · exact absurd (if_neg hb) z
end L2
namespace L2
open PySem PySem.Spec PyProof.Rows
noncomputable abbrev KOf {K:PySem.W.Frag} {h:Heap} (_:K.In h):PySem.W.Frag:=K

theorem walk_of {l:PySem.W.OpenLaw} {n k:Nat} {q:Program} {loose:List Str} {XP:(Str→Option Value)→Heap→Prop} {YP:World→Heap→Prop} {d:DefRec} {K:Params→PySem.W.Frag} {CX:World→CXT} {sp:World→Sp} {x:Str}
    (hn:l.most=some n) (hn2:n≤sizeLine) (hdf:d.params.defaults=[]) (hr:Room k callerA)
    (hY:∀ (w:World) (h:Heap),YP w h→(K w.params).In h)
    (F:∀ (w:World) (mg:Str→Option Value) (fa:Addr) (h:Heap),(K w.params).In h→h.Ns mainGlobals mg→mg d.name=some (.ref fa) →
      ∃ fd:FuncData,(∀ (s:Shared) (u:Value),BindsTo s fd ⟨[u],[]⟩ [(x,u)]) ∧
        ∀ base:Heap,(K w.params).In base→base.Ns mainGlobals mg→FnOk l.prog w (K w.params) mg base (CX w) k fa fd [x] (sp w))
    (hsp:∀ (w:World) (H:Hp) (a:Addr) (ns:List Int),ns.length≤n→Only H→SqL (K w.params) H a (ns.map V.int)→sp w [.ref a] H (fun v _=>v=.bl true) fun _ _ _=>False)
    (hCX:∀ (w:World) (H:Hp) (s:Shared) (e:Value) (s':Shared),CX w [] H s (fun _ _ _=>False) e s'→False) :
    PySem.W.WalkO q loose XP YP l.row.toRowW d [] (fun f vs=>PySem.call f vs):=by
  refine Att.attach_call hn hdf fun w s₀ s₁ mg mb fa o pm cd doc a vs ns G Y ho hd hcd hmg hobj hints hlen hg=>?_
  have KX:=hY w _ Y
  obtain ⟨fd,hb,hF⟩:=F w mg fa _ KX G.T.g hmg
  exact law_call KX G.T.g G.T.b G.T.builtins G.T.nolimit hg hobj hints (Nat.le_trans hlen hn2) hr hF hb (fun H hO hS=>hsp w H a ns hlen hO hS) fun H e s'=>hCX w H s₁ e s'
theorem walk_ofK {l:PySem.W.OpenLaw} {n k:Nat} {q:Program} {loose:List Str} {XP:(Str→Option Value)→Heap→Prop} {YP:World→Heap→Prop} {d:DefRec} {K:Params→PySem.W.Frag} {CX:CXT} {sp:PySem.W.Frag→Sp} {x:Str}
    (hn:l.most=some n) (hn2:n≤sizeLine) (hdf:d.params.defaults=[]) (hr:Room k callerA)
    (hY:∀ (w:World) (h:Heap),YP w h→(K w.params).In h)
    (F:∀ (w:World) (mg:Str→Option Value) (fa:Addr) (h:Heap),(K w.params).In h→h.Ns mainGlobals mg→mg d.name=some (.ref fa) →
      ∃ fd:FuncData,(∀ (s:Shared) (u:Value),BindsTo s fd ⟨[u],[]⟩ [(x,u)]) ∧
        ∀ base:Heap,(K w.params).In base→base.Ns mainGlobals mg→FnOk l.prog w (K w.params) mg base CX k fa fd [x] (sp (K w.params)))
    (hsp:∀ (K:PySem.W.Frag) (H:Hp) (a:Addr) (ns:List Int),ns.length≤n→Only H→SqL K H a (ns.map V.int)→sp K [.ref a] H (fun v _=>v=.bl true) fun _ _ _=>False)
    (hCX:∀ (H:Hp) (s:Shared) (e:Value) (s':Shared),CX [] H s (fun _ _ _=>False) e s'→False) :
    PySem.W.WalkO q loose XP YP l.row.toRowW d [] (fun f vs=>PySem.call f vs) :=
  walk_of (K:=K) (CX:=fun _=>CX) (sp:=fun w=>sp (K w.params)) hn hn2 hdf hr hY F (fun w H a ns h1 h2 h3=>hsp (K w.params) H a ns h1 h2 h3) fun _ H s e s'=>hCX H s e s'
end L2
namespace L2
open PySem PySem.Spec PyProof.Rows
noncomputable def defArgs (s:Stmt):Arguments:=match s with
  | .FunctionDef _ a _ _ _ _ _ _ _ _=>a
  | _=>{ posonlyargs:=[],args:=[],vararg:=none,kwonlyargs:=[],kw_defaults:=[],kwarg:=none,defaults:=[] }
noncomputable def defBody (s:Stmt):List Stmt:=match s with
  | .FunctionDef _ _ b _ _ _ _ _ _ _=>b
  | _=>[]
noncomputable def defScope (s:Stmt):Scope:=match s with
  | .FunctionDef _ _ _ _ _ _ sc _ _ _=>sc
  | _=>{ kind:=.function,names:=[],isGenerator:=false,isCoroutine:=false }

noncomputable abbrev CX0:CXT:=fun _ _ _ _ _ _=>False
noncomputable abbrev E0:XK:=fun _ _ _=>False
theorem pass0 {X:Cx}:Passes CX0 X E0:=fun _ _ _ _ _ _ _ h=>h.elim

structure Fun (K:PySem.W.Frag) (x qual:Str) (st:Stmt) (f:Addr) (fd:FuncData):Prop where
  ex:∃ (oc:Value) (od:Option Addr) (kV doc pm:Value) (an:Option Addr) (cdv ct:Value) (osl:Array (Option Value)),
    fd=PySem.W.fnOf x qual (defArgs st) (defBody st) (defScope st) .none kV doc pm an cdv ct∧K.lookup f=some ⟨oc,od,.func fd,osl⟩∧PySem.W.codeIn K cdv qual=true
  kp:PySem.W.keepIn K (.ref f)=true
section
variable {P:Program} {w:World} {K:PySem.W.Frag} {mg:Str→Option Value} {base:Heap}
theorem Fun.ok {x qual:Str} {st:Stmt} {f:Addr} {fd:FuncData} {N ps:List Str} {k:Nat} {sp:Sp} (F:Fun K x qual st f fd) (S:FnScope N ps (defScope st)) (len:∀ vs H Q E,sp vs H Q E→vs.length=ps.length)
    (hbody:∀ (cdv:Value) (A:Around) (outer:List Env) (s:Shared) (H:Hp) (vs:List V) (Q:VK) (E:XK),Room k (A.deeper (envOfC qual (defScope st) s.heap.objs.size f cdv))→sp vs H Q E →
      ∃ t,PSs (cxOf CX0 P w K mg base N qual (defScope st) f cdv A outer s H E).nox (defBody st) t∧t { nx:=fun _ H'=>Q .non H',rt:=Q } (start N vs) H):FnOk P w K mg base CX0 (k+1) f fd ps sp:=by
  obtain ⟨oc,od,kV,doc,pm,an,cdv,ct,osl,rfl,lk,hcd⟩:=F.ex
  refine fn_of lk hcd S len fun A outer s H vs Q E hr hsp=>?_
  obtain ⟨t,h,q⟩:=hbody cdv A outer s H vs Q E hr hsp
  exact ⟨t,h.nox,q⟩
theorem Fun.binds {x qual:Str} {st:Stmt} {f:Addr} {fd:FuncData} {ps:List Str} (F:Fun K x qual st f fd)
    (h:∀ (kV doc pm:Value) (an:Option Addr) (cdv ct:Value) (us:List Value),us.length=ps.length→bindArgs (PySem.W.fnOf x qual (defArgs st) (defBody st) (defScope st) .none kV doc pm an cdv ct) ⟨us,[]⟩=pure (ps.zip us)):Binds K fd ps []:=by
  obtain ⟨oc,od,kV,doc,pm,an,cdv,ct,osl,rfl,lk,hcd⟩:=F.ex
  exact .all (h kV doc pm an cdv ct)
theorem fun_mk {x qual:Str} {st:Stmt} {f:Addr} {oc:Value} {od an:Option Addr} {osl:Array (Option Value)} {kV doc pm cdv ct:Value} (l:K.lookup f=some ⟨oc,od,.func (PySem.W.fnOf x qual (defArgs st) (defBody st) (defScope st) .none kV doc pm an cdv ct),osl⟩)
    (c:PySem.W.codeIn K cdv qual=true) (k:PySem.W.keepIn K (.ref f)=true):Fun K x qual st f (PySem.W.fnOf x qual (defArgs st) (defBody st) (defScope st) .none kV doc pm an cdv ct):=⟨⟨oc,od,kV,doc,pm,an,cdv,ct,osl,rfl,l,c⟩,k⟩
end
theorem hu_of {A:Around} {k:Nat} (hr:Room k A):A.units+1 < cLine:=Nat.lt_of_le_of_lt (Nat.add_le_add_left (by decide:1≤64) _) hr.units
section
variable {X:Cx}
theorem pv (i:Nat) {x:Str} {pos:Pos} (hN:X.N[i]?=some x:=by rfl) (hv:Vis X.env.scope x:=by first | exact Or.inl rfl | exact Or.inr (Or.inl rfl) | exact Or.inr (Or.inr rfl)) (hd:(x == ("__debug__":Str))=false:=by decide)
    (hcd:(x == ("__classdict__":Str))=false:=by decide):PE X (.Name x pos) (tVar i):=pe_var hN hv hd hcd
end
theorem ite2 {c A B:Prop} [Decidable c] (h1:c→A) (h2:¬ c→B):if c then A else B:=by
  by_cases h:c
  · rw [if_pos h]
    exact h1 h
  · rw [if_neg h]
    exact h2 h
noncomputable def Same (H H':Hp):Prop:=∀ b o,H b=some o→H' b=some o
theorem Same.refl (H:Hp):Same H H:=fun _ _ h=>h
theorem Same.seq {K:PySem.W.Frag} {H H':Hp} {a:Addr} {xs:List V} (e:Same H H') (h:SqL K H a xs):SqL K H' a xs:=by
  rcases h with (h | ⟨o,h⟩) | h
  · exact .inl (.inl (e _ _ h))
  · exact .inl (.inr ⟨o,e _ _ h⟩)
  · exact .inr h

end L2
set_option Elab.async false
set_option linter.all false
set_option maxRecDepth 100000
namespace L2
open PySem PySem.Spec PyProof.Rows
structure Blk where
  cl:List (Str×Addr)
  C:Addr
  s:Shared
  H:Hp
  fp:List Addr
  pn:List (Addr×Obj)

noncomputable def cxC (X:Cx) (N:List Str) (scope:Scope) (b:Blk):Cx where
  prog:=X.prog
  w:=X.w
  K:=X.K
  mg:=X.mg
  base:=X.base
  A:=X.A
  N:=N
  s₀:=b.s
  H₀:=b.H
  env:=compEnvC scope b.cl b.C X.env
  outer:=X.stack
  stack:=X.stack
  ex:=b.fp
  fn:=fun _=>false
  calm:=X.calm
  pn:=b.pn
  xe:=fun _ _=>False

noncomputable def bN (Nx ts:List Str) (ix:List Nat):List Str:=ts++ix.map fun j=>(Nx[j]?).getD Str.empty
noncomputable def bSt (n:Nat) (ix:List Nat) (σ:St):St:=List.replicate n none++ix.map fun j=>(σ[j]?).getD none

structure BlkOk (Nx:List Str) (sc scope:Scope) (ix:List Nat):Prop where
  kind:scope.kind=.function
  nocell:∀ y∈scope.names,y.2≠.cell
  locs:∀ y∈scope.names,y.2=.local→scope.names.lookup y.1=some .local
  frees:∀ y∈scope.names,y.2=.free→sc.names.lookup y.1=some .cell∨sc.names.lookup y.1=some .free
  caps:∀ j∈ix,j < Nx.length∧scope.names.lookup ((Nx[j]?).getD Str.empty)=some .free

theorem forIn_frees {env:Env} {f:Str×NameKind→List (Str×Addr)→Sem (ForInStep (List (Str×Addr)))}
    (h1:∀ n k r,k≠NameKind.free→f (n,k) r=pure (.yield r)) (h2:∀ n r c,env.cells.lookup n=some c→f (n,NameKind.free) r=pure (.yield ((n,c)::r))) :
    ∀ (names:List (Str×NameKind)) (acc:List (Str×Addr)),(∀ y∈names,y.2=.free→∃ c,env.cells.lookup y.1=some c)→(∀ x c,acc.lookup x=some c→env.cells.lookup x=some c) →
      ∃ cl,forIn names acc f=pure cl∧(∀ x c,cl.lookup x=some c→env.cells.lookup x=some c)∧(∀ y∈names,y.2=.free→∃ c,cl.lookup y.1=some c)∧∀ x c,acc.lookup x=some c→∃ c',cl.lookup x=some c'
  | [],acc,_,ha=>⟨acc,rfl,ha,(fun _ h=>nomatch h),fun x c h=>⟨c,h⟩⟩
  | (n,k)::names,acc,hn,ha=>by
    have hn':∀ y∈names,y.2=.free→∃ c,env.cells.lookup y.1=some c:=fun y hy=>hn y (List.mem_cons_of_mem _ hy)
    by_cases hk:k=.free
    · subst hk
      obtain ⟨c,hc⟩:=hn (n,.free) List.mem_cons_self rfl
      have ha':∀ x d,((n,c)::acc).lookup x=some d→env.cells.lookup x=some d:=fun x d e=>by
        rw [List.lookup_cons] at e
        cases hx:x == n with
        | true =>
          rw [hx] at e
          have hxn:x=n:=by simpa using hx
          subst hxn
          cases e
          exact hc
        | false =>
          rw [hx] at e
          exact ha x d e
      obtain ⟨cl,e,p1,p2,p3⟩:=forIn_frees h1 h2 names ((n,c)::acc) hn' ha'
      refine ⟨cl,?_,p1,fun y hy hf=>?_,fun x d hx=>?_⟩
      · rw [List.forIn_cons,h2 n acc c hc,pure_bind]
        exact e
      · rcases List.mem_cons.mp hy with rfl | hy
        · exact p3 n c (by simp)
        · exact p2 y hy hf
      · by_cases e1:x=n
        · subst e1
          exact p3 x c (by simp)
        · exact p3 x d (by rw [List.lookup_cons,beq_false_of_ne e1]; exact hx)
    · obtain ⟨cl,e,p1,p2,p3⟩:=forIn_frees h1 h2 names acc hn' ha
      refine ⟨cl,?_,p1,fun y hy hf=>?_,p3⟩
      · rw [List.forIn_cons,h1 n k acc hk,pure_bind]
        exact e
      · rcases List.mem_cons.mp hy with rfl | hy
        · exact absurd hf hk
        · exact p2 y hy hf

theorem closure_of {scope:Scope} {env:Env} (hn:∀ y∈scope.names,y.2=.free→∃ c,env.cells.lookup y.1=some c) :
    ∃ cl,closureFor scope env=pure cl∧(∀ x c,cl.lookup x=some c→env.cells.lookup x=some c)∧∀ y∈scope.names,y.2=.free→∃ c,cl.lookup y.1=some c:=by
  unfold closureFor
  have key:=forIn_frees (env:=env) (f:=fun (x:Str×NameKind) (r:List (Str×Addr))=>match x with
    | (name,kind)=>if (kind == NameKind.free)=true then (do let a ← cellOf env name; pure (ForInStep.yield ((name,a)::r))) else pure (ForInStep.yield r))
    (fun n k r hk=>by
      have hb:(k == NameKind.free)=false:=by simpa using hk
      show (if (k == NameKind.free)=true then _ else _)=_
      rw [hb]
      rfl)
    (fun n r c hc=>by
      show (do let a ← cellOf env n; pure (ForInStep.yield ((n,a)::r)))=_
      unfold cellOf
      rw [hc]
      rfl) scope.names [] hn (fun x c h=>by simp at h)
  obtain ⟨cl,e,p1,p2,_⟩:=key
  refine ⟨cl,?_,p1,p2⟩
  show (forIn scope.names [] _ >>= fun r=>pure r)=pure cl
  exact (congrArg (fun t=>t >>= fun r=>pure r) e).trans (pure_bind _ _)

section
variable {X:Cx} {pins:List (Addr×Obj)} {σ:St} {H:Hp} {s:Shared}
theorem relabel_free {scope:Scope} {env:Env} {x:Str} (h:scope.names.lookup x=some .free):(relabel scope env).names.lookup x=some .cell∨(relabel scope env).names.lookup x=some .free:=by
  unfold relabel
  show List.lookup x (scope.names.map _)=_∨List.lookup x (scope.names.map _)=_
  generalize scope.names=l at h
  induction l with
  | nil=>simp at h
  | cons p r ih =>
    obtain ⟨n,k⟩:=p
    rw [List.map_cons]
    cases hx:x == n with
    | true =>
      rw [List.lookup_cons,hx] at h
      have hk:k=.free:=by simpa using h
      subst hk
      by_cases hc:(NameKind.free == NameKind.free && env.scope.kind == .function && env.kindOf n == some .cell)=true
      · refine .inl ?_
        show List.lookup x ((if (NameKind.free == NameKind.free && env.scope.kind == .function && env.kindOf n == some .cell)=true then (n,NameKind.cell) else (n,NameKind.free))::_)=_
        rw [if_pos hc,List.lookup_cons,hx]
      · refine .inr ?_
        show List.lookup x ((if (NameKind.free == NameKind.free && env.scope.kind == .function && env.kindOf n == some .cell)=true then (n,NameKind.cell) else (n,NameKind.free))::_)=_
        rw [if_neg hc,List.lookup_cons,hx]
    | false =>
      rw [List.lookup_cons,hx] at h
      have key:∀ q:Str×NameKind,(q=(n,NameKind.cell)∨q=(n,k))→∀ l',List.lookup x (q::l')=List.lookup x l':=fun q hq l'=>by
        rcases hq with rfl | rfl <;> rw [List.lookup_cons,hx]
      have hq:(if (k == NameKind.free && env.scope.kind == .function && env.kindOf n == some .cell)=true then (n,NameKind.cell) else (n,k))=(n,NameKind.cell)∨(if (k == NameKind.free && env.scope.kind == .function && env.kindOf n == some .cell)=true then (n,NameKind.cell) else (n,k))=(n,k):=by
        split
        · exact .inl rfl
        · exact .inr rfl
      rcases ih h with z | z
      · exact .inl ((key _ hq _).trans z)
      · exact .inr ((key _ hq _).trans z)

theorem relabel_cell {scope:Scope} {env:Env} (hnc:∀ y∈scope.names,y.2≠.cell) {x:Str} (h:(relabel scope env).names.lookup x=some .cell∨(relabel scope env).names.lookup x=some .free):∃ y∈scope.names,y.1=x∧y.2=.free:=by
  unfold relabel at h
  have h':List.lookup x (scope.names.map fun (n,k)=>if (k == .free && env.scope.kind == .function && env.kindOf n == some .cell) then (n,NameKind.cell) else (n,k))=some .cell∨List.lookup x (scope.names.map fun (n,k)=>if (k == .free && env.scope.kind == .function && env.kindOf n == some .cell) then (n,NameKind.cell) else (n,k))=some .free:=h
  clear h
  generalize scope.names=l at h' hnc
  induction l with
  | nil=>simp at h'
  | cons p r ih =>
    obtain ⟨n,k⟩:=p
    rw [List.map_cons] at h'
    cases hx:x == n with
    | true =>
      have hxn:x=n:=by simpa using hx
      by_cases hk:k=.free
      · exact ⟨(n,k),List.mem_cons_self,hxn.symm,hk⟩
      · exfalso
        have hb:(k == NameKind.free)=false:=by simpa using hk
        have e:(if (k == NameKind.free && env.scope.kind == .function && env.kindOf n == some .cell)=true then (n,NameKind.cell) else (n,k))=(n,k):=by
          rw [hb]
          rfl
        have h2:List.lookup x ((n,k)::r.map fun (n,k)=>if (k == .free && env.scope.kind == .function && env.kindOf n == some .cell) then (n,NameKind.cell) else (n,k))=some .cell∨List.lookup x ((n,k)::r.map fun (n,k)=>if (k == .free && env.scope.kind == .function && env.kindOf n == some .cell) then (n,NameKind.cell) else (n,k))=some .free:=by
          rw [← e]
          exact h'
        rw [List.lookup_cons,hx] at h2
        rcases h2 with z | z
        · exact hnc (n,k) List.mem_cons_self (Option.some.inj z)
        · exact hk (Option.some.inj z)
    | false =>
      have hq:∀ q:Str×NameKind,(q=(n,NameKind.cell)∨q=(n,k))→∀ l',List.lookup x (q::l')=List.lookup x l':=fun q hq l'=>by
        rcases hq with rfl | rfl <;> rw [List.lookup_cons,hx]
      have hqq:(if (k == NameKind.free && env.scope.kind == .function && env.kindOf n == some .cell)=true then (n,NameKind.cell) else (n,k))=(n,NameKind.cell)∨(if (k == NameKind.free && env.scope.kind == .function && env.kindOf n == some .cell)=true then (n,NameKind.cell) else (n,k))=(n,k):=by
        split
        · exact .inl rfl
        · exact .inr rfl
      obtain ⟨y,hy,e⟩:=ih (by
        rcases h' with z | z
        · exact .inl ((hq _ hqq _).symm.trans z)
        · exact .inr ((hq _ hqq _).symm.trans z)) (fun y hy=>hnc y (List.mem_cons_of_mem _ hy))
      exact ⟨y,List.mem_cons_of_mem _ hy,e⟩

theorem bN_get {Nx ts:List Str} {ix:List Nat} {i:Nat} {x:Str} (h:(bN Nx ts ix)[i]?=some x) (hi:ts.length≤i):∃ j,ix[i - ts.length]?=some j∧x=(Nx[j]?).getD Str.empty:=by
  unfold bN at h
  rw [List.getElem?_append_right hi,List.getElem?_map] at h
  cases e:ix[i - ts.length]? with
  | none=>rw [e] at h; cases h
  | some j=>rw [e] at h; exact ⟨j,rfl,(Option.some.inj h).symm⟩

theorem inv_block {scope:Scope} {cl:List (Str×Addr)} {fp:List Addr} {C:Addr} {h3:Heap} {tk:Nat} {m:Str→Option Value} {Nx ts:List Str} {ix:List Nat}
    (I:Inv X pins σ H s) (hNx:X.N=Nx) (ok:BlkOk Nx X.env.scope scope ix) (cl1:∀ x c,cl.lookup x=some c→X.env.cells.lookup x=some c) (cl2:∀ y∈scope.names,y.2=.free→∃ c,cl.lookup y.1=some c)
    (hf:∀ b∈fp,FpOk X pins H b) (hfs:∀ b∈fp,b < s.heap.objs.size) (hC:s.heap.objs.size≤C) (kp:∀ b o,s.heap.get? b=some o→h3.get? b=some o) (hns:h3.Ns C m) :
    Inv (cxC X (bN Nx ts ix) scope ⟨cl,C,s,H,fp,X.pn++pins⟩) [] (bSt ts.length ix σ) H { s with heap:=h3,toks:=tk }:=by
  have below:∀ {b:Addr},b < s.heap.objs.size→b≠C:=fun hb=>Nat.ne_of_lt (Nat.lt_of_lt_of_le hb hC)
  have cellIn:∀ x c,cl.lookup x=some c→c < s.heap.objs.size:=fun x c e=>by
    obtain ⟨v,q⟩:=I.cell x c (cl1 x c e)
    exact q.lt
  have nstk:∀ b,b≠X.env.locals→b ∉ X.fs→b ∉ frs X.stack:=fun b h1 h2 hb=>by
    rcases List.mem_cons.mp (I.stkSub b hb) with z | z
    · exact h1 z
    · exact h2 z
  refine ⟨⟨I.ok.mod,?_,I.ok.glob,I.ok.blt,hC,fun x y c h1 h2=>I.ok.inj x y c (cl1 x c h1) (cl1 y c h2),fun x hx=>?_,fun x c hfn _=>absurd (show false=true from hfn) Bool.false_ne_true,I.ok.hd,I.ok.frames,.inl rfl,fun b hb=>⟨below (hfs b hb),fun x c e=>(hf b hb).2.2.2.2.1 x c (cl1 x c e)⟩,I.bs,Nat.le_trans I.ok.bsz I.sz,fun b o e hb=>?_,fun b hb=>nstk b (hf b hb).2.1 (hf b hb).2.2.1,I.stack,I.stkFree⟩,
    rfl,I.bare,Un.kept kp,⟨m,hns,fun i x v h1 h2 h3'=>?_⟩,fun x c e=>?_,I.hok.fresh hC,fun x c e=>I.freeC x c (cl1 x c e),fun p hp=>?_,I.hok.kept kp,?_⟩
  · exact ok.kind
  · have hx':(relabel scope X.env).names.lookup x=some .cell∨(relabel scope X.env).names.lookup x=some .free:=hx
    obtain ⟨y,hy,e1,e2⟩:=relabel_cell ok.nocell hx'
    obtain ⟨c,hc⟩:=cl2 y hy e2
    exact ⟨c,by rw [← e1]; exact hc⟩
  · rcases (hf b hb).2.2.2.1 with z | z
    · exact I.ok.noex b o e z
    · exact absurd (Nat.lt_of_lt_of_le (Heap.lt_size e) (Nat.le_trans I.ok.bsz z)) (Nat.lt_irrefl _)
  · have hi:ts.length≤i:=by
      rcases Nat.lt_or_ge i ts.length with z | z
      · exfalso
        have h2':(bSt ts.length ix σ)[i]?=some (some v):=h2
        unfold bSt at h2'
        rw [List.getElem?_append_left (by simpa using z),List.getElem?_replicate] at h2'
        split at h2' <;> cases h2'
      · exact z
    obtain ⟨j,hj,ex⟩:=bN_get h1 hi
    have h2':(bSt ts.length ix σ)[i]?=some (some v):=h2
    unfold bSt at h2'
    rw [List.getElem?_append_right (by simpa using hi),List.getElem?_map,List.length_replicate,hj] at h2'
    have hσ:σ[j]?=some (some v):=by
      have q:(σ[j]?).getD none=some v:=Option.some.inj h2'
      cases e:σ[j]? with
      | none=>rw [e] at q; cases q
      | some w=>rw [e] at q; exact congrArg some q
    obtain ⟨hjl,hfree⟩:=ok.caps j (List.mem_of_getElem? hj)
    have hNj:X.N[j]?=some x:=by
      rw [hNx,ex,List.getElem?_eq_getElem hjl]
      rfl
    rw [← ex] at hfree
    obtain ⟨c,hc⟩:=cl2 (x,.free) (PySem.mem_of_lookup hfree) rfl
    have kx:=ok.frees (x,.free) (PySem.mem_of_lookup hfree) rfl
    obtain ⟨m0,hn0,hl0⟩:=I.loc
    obtain ⟨u,ru,look⟩:=hl0 j x v hNj hσ (by rcases kx with z | z; exact .inr (.inl z); exact .inr (.inr z))
    refine ⟨u,ru,.inr ⟨relabel_free hfree,c,hc,?_⟩⟩
    rcases look with ⟨k1,_⟩ | ⟨_,c',hc',z⟩
    · have k1':X.env.scope.names.lookup x=some .local:=k1
      rcases kx with z | z
      · rw [k1'] at z; cases z
      · rw [k1'] at z; cases z
    · have e:=cl1 x c hc
      rw [hc'] at e
      cases e
      obtain ⟨o,ho,hd⟩:=z
      exact ⟨o,kp _ _ ho,hd⟩
  · obtain ⟨v,o,ho,hd⟩:=I.cell x c (cl1 x c e)
    exact ⟨v,o,kp _ _ ho,hd⟩
  · have hp':p∈X.pn++pins:=by simpa [cxC] using hp
    obtain ⟨e,n,ne,nf,d⟩:=I.pin p hp'
    exact ⟨kp _ _ e,n,below (Heap.lt_size e),nstk _ ne nf,d⟩
  · show (bSt ts.length ix σ).length=(bN Nx ts ix).length
    unfold bSt bN
    simp

theorem Inv.track {D:Addr} {ys:List V} {its:List Value} {n:Nat} (I:Inv X pins σ H s) (hD:H D=none) (ho:s.heap.get? D=some { cls:=.type "list",data:=.seq its.toArray n }) (r:Vals ys its) (hz:ys.length≤sizeLine)
    (hL:D≠X.env.locals) (hs0:X.s₀.heap.objs.size≤D) (hc:∀ x c,X.env.cells.lookup x=some c→c≠D) (hp:∀ p∈X.pn++pins,p.1≠D):Inv X pins σ (upd H D (.lst ys)) s:=by
  have ne:∀ {b:Addr} {o:HO},H b=some o→b≠D:=fun e=>ne_of_none e hD
  refine I.step (g':=s.gens) (d':=s.drawn) (t':=s.toks) (h':=s.heap) (ch:=[D]) (fun b hb=>?_) (fun b o _ _ _ e _=>e) (fun b o _ _ _ e _=>⟨o.slots,e⟩) (fun b o hb e n=>?_) (fun b o _ e=>⟨o,e⟩)
    (fun b xs e=>by rw [upd_ne (ne e)]; exact e) (fun b o u e=>by rw [upd_ne (ne e)]; exact e) (fun b ps e=>⟨#[],by rw [upd_ne (ne e),e]; simp⟩) (fun m hm=>hm) (fun b u e=>?_) I.bare
  · have e:b=D:=by simpa using hb
    subst e
    exact ⟨.inr hs0,hL,hc,hp⟩
  · have hb':b≠D:=by simpa using hb
    rw [upd_ne hb']
    exact n
  · by_cases hb:b=D
    · subst hb
      rw [upd_same] at e
      cases e
      exact ⟨hz,its,n,r,ho⟩
    · rw [upd_ne hb] at e
      exact (I.hok b u e).stay (fun c v _ q=>q) (fun c q=>by rw [upd_ne (ne q)]; exact q) fun c xs q=>by rw [upd_ne (ne q)]; exact q
end
theorem compLoop_run {prog:Program} {w:World} {A:Around} {R:Result→Shared→Prop} {s:Shared} {elt target iter:Expr} {scope:Scope} {pos:Pos} {it acc:Value} {env:Env} (J:Nat→Shared→Prop)
    (step:∀ k s0,J k s0→wpAny (model prog w) A (pyNext it) (fun got s1=>match got with
      | none=>R (.ok .next) s1
      | some v=>wpAny (model prog w) A (letOwnedTupleGo target it v) (fun _ s2=>wpAny (model prog w) A (assign target env v) (fun _ s3=>wpAny (model prog w) A (eval elt env) (fun y s4 =>
          wpAny (model prog w) A (call (.builtin "list.append") [acc,y]) (fun _ s5=>∃ j,j < k∧J j s5) (fun _ _=>False) s4) (fun _ _=>False) s3) (fun _ _=>False) s2) (fun _ _=>False) s1) (fun _ _=>False) s0)
    (k:Nat) (h:J k s):codeAny (model prog w) A (.compLoop (.ListComp elt [⟨target,iter,[],0⟩] scope pos) 0 it acc env) R s:=by
  refine codeAny_loop rfl J (fun k0 s0 hJ=>?_) k h
  show wpAny _ _ ((compTurn (.ListComp elt [⟨target,iter,[],0⟩] scope pos) 0 it acc env).onRaise (fun x=>do noteFrame x env; theTreesLotGoes x)) _ _ s0
  apply wpAny_noted
  rw [compTurn_list1]
  refine wpAny_bind (wpAny_standAt (wpAny_bind (wpAny_mono (step k0 s0 hJ) (fun got s1 h1=>?_) fun _ _ z=>z.elim)))
  cases got with
  | none=>exact wpAny_pure h1
  | some v =>
    refine wpAny_bind (wpAny_mono h1 (fun _ s2 h2=>?_) fun _ _ z=>z.elim)
    refine wpAny_bind (wpAny_mono h2 (fun _ s3 h3=>?_) fun _ _ z=>z.elim)
    refine wpAny_bind (wpAny_bind (wpAny_mono h3 (fun y s4 h4=>?_) fun _ _ z=>z.elim))
    exact wpAny_bind (wpAny_mono h4 (fun _ s5 h5=>wpAny_pure (wpAny_pure ⟨rfl,h5⟩)) fun _ _ z=>z.elim)

noncomputable def tLc (wi:TI) (n:Nat) (ix:List Nat) (g:Blk→TG) (te:Blk→TE):TE:=fun σ H Q=>wi σ H fun J H1=>∀ b:Blk,∃ W:Nat→Nat→St→List V→Hp→Prop,(∃ m,W 0 m (bSt n ix σ) [] H1)∧∀ i m τ ys H2,W i m τ ys H2 →
  (J.stop i H2∧∀ p v H',H2 p=none→v=V.ref p→H'=upd H2 p (.lst ys)→Q v H') ∨
  (J.go i H2∧ys.length < sizeLine∧∀ x H3,J.yld i H2 x H3→g b x τ H3 fun τ2 H4=>te b τ2 H4 fun y H5=>∃ m',m' < m∧W (i+1) m' τ2 (ys++[y]) H5)

section
variable {X:Cx} {pins:List (Addr×Obj)} {σ:St} {H:Hp} {s:Shared}
theorem lc_block {elt target iter:Expr} {scope:Scope} {pos:Pos} {Nx ts:List Str} {ix:List Nat} {g:Blk→TG} {te:Blk→TE} {cl:List (Str×Addr)} {s2:Shared} {itv:Value} {R:Value→Addr→Result→Shared→Prop}
    {E:Value→Shared→Prop} {Q:VK}
    (hc:X.calm=true) (hg:∀ b,PG (cxC X (bN Nx ts ix) scope b) target (g b)) (he:∀ b,PE (cxC X (bN Nx ts ix) scope b) elt (te b))
    (hNx:X.N=Nx) (ok:BlkOk Nx X.env.scope scope ix) (cl1:∀ x c,cl.lookup x=some c→X.env.cells.lookup x=some c) (cl2:∀ y∈scope.names,y.2=.free→∃ c,cl.lookup y.1=some c)
    (h2:PIE X pins σ target (fun J H1=>∀ b:Blk,∃ W:Nat→Nat→St→List V→Hp→Prop,(∃ m,W 0 m (bSt ts.length ix σ) [] H1)∧∀ i m τ ys H2,W i m τ ys H2 →
      (J.stop i H2∧∀ p v H',H2 p=none→v=V.ref p→H'=upd H2 p (.lst ys)→Q v H') ∨
      (J.go i H2∧ys.length < sizeLine∧∀ x H3,J.yld i H2 x H3→g b x τ H3 fun τ2 H4=>te b τ2 H4 fun y H5=>∃ m',m' < m∧W (i+1) m' τ2 (ys++[y]) H5)) itv s2)
    (hR:∀ (D C:Addr) (H':Hp) (s':Shared) (v:V),Inv X pins σ H' s'→v=.ref D→Q v H'→(∃ m,s'.heap.Ns C m)→H' C=none→C≠X.env.locals→X.s₀.heap.objs.size≤C→(∀ x c,X.env.cells.lookup x=some c→c≠C)→(∀ p∈X.pn++pins,p.1≠C) →
      R (.ref D) C (.ok .next) s') :
    wpAny (model X.prog X.w) X.A (newList []) (fun acc s₃=>wpAny (model X.prog X.w) X.A (newFunctionEnv scope X.env.globals cl [] X.env.qual none .none (some X.env)) (fun cenv s₄ =>
      codeAny (model X.prog X.w) X.A (.compStart (.ListComp elt [⟨target,iter,[],0⟩] scope pos) 0 itv acc { cenv with scope:=relabel scope X.env }) (R acc cenv.locals) s₄) E s₃) E s2:=by
  obtain ⟨it,fp,tn,J,H1,e,I2,T,st2,f2,q2⟩:=h2
  subst e
  refine wpAny_newObj_type (wpAny_newFunctionEnv ok.nocell (by intro y hy; simp at hy) (fun h3 hns3 hsb3=>?_) ok.kind)
  dsimp only at hns3 hsb3 ⊢
  generalize hG:s2.heap.push { cls:=.type "list",dict:=none,data:=.seq ([]:List Value).toArray }=G at hns3 hsb3 ⊢
  have hGs:G.objs.size=s2.heap.objs.size+1:=by rw [← hG,Heap.size_push]
  have hfs:∀ b∈fp,b < s2.heap.objs.size:=fun b hb=>let ⟨o,e,_⟩:=T.obj _ _ st2 b hb; Heap.lt_size e
  have kpG:∀ b o,G.get? b=some o→h3.get? b=some o:=fun b o e=>hsb3.extBut b o (Nat.ne_of_lt (Heap.lt_size e)) (Heap.get?_push_of_some _ e)
  have kp:∀ b o,s2.heap.get? b=some o→h3.get? b=some o:=fun b o e=>kpG b o (by rw [← hG]; exact Heap.get?_push_of_some _ e)
  have hD3:h3.get? s2.heap.objs.size=some { cls:=.type "list",data:=.seq ([]:List Value).toArray }:=kpG _ _ (by rw [← hG]; exact Heap.get?_push_size _ rfl)
  generalize hCe:G.objs.size=C at hns3 hsb3 ⊢
  have hC:s2.heap.objs.size≤C:=by omega
  have hDC:s2.heap.objs.size≠C:=by omega
  let B:Blk:=⟨cl,C,s2,H1,fp,X.pn++pins⟩
  have I3:Inv (cxC X (bN Nx ts ix) scope B) [] (bSt ts.length ix σ) H1 { s2 with heap:=h3,toks:=s2.toks+([]:List (Str×Value)).length }:=inv_block I2 hNx ok cl1 cl2 f2 hfs hC kp hns3
  have fC:H1 s2.heap.objs.size=none:=I2.hok.fresh (Nat.le_refl _)
  have cellIn:∀ x c,cl.lookup x=some c→c≠s2.heap.objs.size:=fun x c e=>by
    obtain ⟨v,q⟩:=I2.cell x c (cl1 x c e)
    exact Nat.ne_of_lt q.lt
  have pinIn:∀ p∈X.pn++pins,p.1 < s2.heap.objs.size:=fun p hp=>Heap.lt_size (I2.pin p hp).1
  have nofrs:s2.heap.objs.size ∉ frs X.stack:=fun hb=>by
    rcases List.mem_cons.mp (I2.stkSub _ hb) with z | z
    · exact absurd I2.lt (by rw [← z]; exact Nat.lt_irrefl _)
    · exact I2.nofs (Nat.le_refl _) z
  -- a state with the list at its place,pinned
  have pinD:∀ {τ:St} {H':Hp} {s':Shared} {ob:Obj},Inv (cxC X (bN Nx ts ix) scope B) [] τ H' s'→s'.heap.get? s2.heap.objs.size=some ob→H' s2.heap.objs.size=none→(∀ v,ob.data≠.cell v)→Inv (cxC X (bN Nx ts ix) scope B) [(s2.heap.objs.size,ob)] τ H' s' :=
    fun {τ H' s' ob} I' ho hn hd=>I'.pins_of fun p hp=>by
      have e:p=(s2.heap.objs.size,ob):=by simpa using hp
      subst e
      exact ⟨ho,hn,hDC,nofrs,hd⟩
  obtain ⟨W,⟨m0,w0⟩,turn⟩:=q2 B
  have stat:∀ {H':Hp} {ob:Obj},(∀ b∈fp,H' b=none)→∀ b∈fp,FpOk (cxC X (bN Nx ts ix) scope B) [(s2.heap.objs.size,ob)] H' b:=fun {H' ob} hn b hb=>by
    refine ⟨hn b hb,Nat.ne_of_lt (Nat.lt_of_lt_of_le (hfs b hb) hC),fun z=>?_,.inl hb,fun x c e=>(f2 b hb).2.2.2.2.1 x c (cl1 x c e),fun p hp=>?_⟩
    · rcases List.mem_cons.mp (I2.stkSub _ z) with q | q
      · exact (f2 b hb).2.1 q
      · exact (f2 b hb).2.2.1 q
    · rcases List.mem_append.mp hp with z | z
      · exact (f2 b hb).2.2.2.2.2 p z
      · have e:p=(s2.heap.objs.size,ob):=by simpa using z
        subst e
        exact Nat.ne_of_gt (hfs b hb)
  have loop:∀ s4:Shared,s4={ s2 with heap:=h3,toks:=s2.toks+([]:List (Str×Value)).length } →
      codeAny (model X.prog X.w) X.A (.compLoop (.ListComp elt [⟨target,iter,[],0⟩] scope pos) 0 (.ref it) (.ref s2.heap.objs.size) (compEnvC scope cl C X.env)) (R (.ref s2.heap.objs.size) C) s4:=by
    rintro s4 rfl
    refine compLoop_run (fun k s'=>∃ i τ ys its n H',Inv (cxC X (bN Nx ts ix) scope B) [(s2.heap.objs.size,({ cls:=.type "list",data:=.seq (List.toArray its) n }:Obj))] τ H' s'∧tn i s'.heap∧(∀ b∈fp,H' b=none)∧Vals ys its∧ys.length≤sizeLine∧W i k τ ys H') ?_ m0
      ⟨0,_,[],[],_,H1,pinD I3 hD3 fC (fun v z=>by cases z),T.keep _ _ _ st2 fun b hb o e=>kp b o e,fun b hb=>(f2 b hb).1,.nil,Nat.zero_le _,w0⟩
    rintro k s5 ⟨i,τ,ys,its,n,H5,I5,st5,fr5,rv,hz,w5⟩
    rcases turn i k τ ys H5 w5 with ⟨stop,qn⟩ | ⟨go,hlt,step⟩
    · refine thn (T.done (cxC X (bN Nx ts ix) scope B) rfl rfl rfl hc i _ s5 τ H5 _ I5 (stat fr5) st5 stop) fun got s6 hz0=>?_
      obtain ⟨hr,I6⟩:=hz0
      subst hr
      obtain ⟨ho,hn,_,_,_⟩:=I6.pin (s2.heap.objs.size,({ cls:=.type "list",data:=.seq (List.toArray its) n }:Obj)) (List.mem_append_right _ (by simp))
      have I7:Inv X pins σ H5 s6:=I2.call' (ch:=fp) (H':=H5) (by exact I6.os) I6.base I6.hok I6.bare fun b hb=>⟨(f2 b hb).2.2.2.1,(f2 b hb).2.1,(f2 b hb).2.2.2.2.1,(f2 b hb).2.2.2.2.2⟩
      have hs0:X.s₀.heap.objs.size≤s2.heap.objs.size:=I2.sz
      have I8:=I7.track hn ho rv hz (Nat.ne_of_gt I2.lt) hs0 (fun x c e z=>by
        obtain ⟨v,q⟩:=I2.cell x c e
        exact absurd q.lt (by rw [z]; exact Nat.lt_irrefl _)) (fun p hp=>Nat.ne_of_lt (pinIn p hp))
      obtain ⟨m6,hm6,_⟩:=I6.loc
      refine hR _ C _ s6 _ I8 rfl (qn _ _ _ hn rfl rfl) ⟨m6,hm6⟩ ?_ (fun z=>?_) (Nat.le_trans hs0 hC) (fun x c e z=>?_) fun p hp=>Nat.ne_of_lt (Nat.lt_of_lt_of_le (pinIn p hp) hC)
      · rw [upd_ne (Ne.symm hDC)]
        exact I6.free
      · exact absurd (Nat.lt_of_lt_of_le I2.lt hC) (by rw [z]; exact Nat.lt_irrefl _)
      · obtain ⟨v,q⟩:=I2.cell x c e
        exact absurd (Nat.lt_of_lt_of_le q.lt hC) (by rw [z]; exact Nat.lt_irrefl _)
    · refine thn (T.item (cxC X (bN Nx ts ix) scope B) rfl rfl rfl hc i _ s5 τ H5 _ I5 (stat fr5) st5 go) fun got s6 hz0=>?_
      obtain ⟨u,hr,h6⟩:=hz0
      subst hr
      refine thn h6 fun _ s7 hz0=>?_
      obtain ⟨x,H7,I7,r7,y7,st7,fr7⟩:=hz0
      have I7':=I7.pinned (stat fr7) (T.obj _ _ st7)
      refine thn (hg B _ s7 τ H7 x u _ I7' r7 (step x H7 y7)) fun _ s8 hz0=>?_
      obtain ⟨τ8,H8,I8,q8⟩:=hz0
      refine thn (he B _ s8 τ8 H8 _ I8 q8) fun y s9 hz0=>?_
      obtain ⟨vy,H9,I9,r9,m',hm',w9⟩:=hz0
      obtain ⟨ho,hn,_,_,_⟩:=I9.pin (s2.heap.objs.size,({ cls:=.type "list",data:=.seq (List.toArray its) n }:Obj)) (List.mem_append_right _ (List.mem_append_left _ (by simp)))
      have lenv:=rv.length
      refine wpAny_list_append_plain (l:=s2.heap.objs.size) ⟨n,ho⟩ (fun h' hpl hsb=>?_) (by rw [List.size_toArray]; omega)
      obtain ⟨n',ho'⟩:=hpl
      have eobj:(its.toArray.push y)=List.toArray (its++[y]):=by simp
      rw [eobj] at ho'
      have I9':Inv (cxC X (bN Nx ts ix) scope B) [] τ8 H9 s9:=I9.pins_of fun p hp=>absurd hp (by simp)
      have I10:Inv (cxC X (bN Nx ts ix) scope B) [] τ8 H9 { s9 with heap:=h' }:=I9'.turned (it:=s2.heap.objs.size) (t':=s9.toks) (fun b o hb e=>(hsb.2 b hb).trans e) hn hDC (.inr (Nat.le_refl _)) cellIn (fun p hp=>by
        have hp':p∈(X.pn++pins)++[]:=hp
        rw [List.append_nil] at hp'
        exact Nat.ne_of_lt (pinIn p hp'))
      refine ⟨m',hm',i+1,τ8,ys++[vy],its++[y],n',H9,pinD I10 ho' hn (fun v z=>by cases z),?_,fun b hb=>?_,rv.append (.cons r9 .nil),by rw [List.length_append]; show ys.length+1≤_; omega,w9⟩
      · refine T.keep _ _ _ st7 fun b hb o e=>?_
        have q:=(I9.pin (b,o) (List.mem_append_right _ (List.mem_append_right _ (mem_pinsAt hb e)))).1
        exact (hsb.2 b (Nat.ne_of_lt (hfs b hb))).trans q
      · obtain ⟨o,e,d⟩:=T.obj _ _ st7 b hb
        exact (I9.pin (b,o) (List.mem_append_right _ (List.mem_append_right _ (mem_pinsAt hb e)))).2.1
  exact codeAny_compStart_list (loop _ rfl) (T.self X.A 0 _ _ _ (T.keep _ _ _ st2 fun b hb o e=>kp b o e) (loop _ rfl))

theorem pe_lc {elt target iter:Expr} {scope:Scope} {pos:Pos} {wi:TI} {g:Blk→TG} {te:Blk→TE} (Nx:List Str) (ts:List Str) (ix:List Nat)
    (hc:X.calm=true) (hi:PI X target iter wi) (hg:∀ b,PG (cxC X (bN Nx ts ix) scope b) target (g b)) (he:∀ b,PE (cxC X (bN Nx ts ix) scope b) elt (te b))
    (hNx:X.N=Nx) (ok:BlkOk Nx X.env.scope scope ix) (hs:∀ x,foldedSetIterable iter X.env x=pure x:=by intro _; rfl) :
    PE X (.ListComp elt [⟨target,iter,[],0⟩] scope pos) (tLc wi ts.length ix g te):=by
  intro pins s σ H Q I h
  obtain ⟨cl,hcl,cl1,cl2⟩:=closure_of (scope:=scope) (env:=X.env) fun y hy hf=>I.ok.has y.1 (ok.frees y hy hf)
  rw [eval_ListComp]
  refine wpAny_comprehension_free (use:=none) rfl hs hcl ok.kind ok.locs (thn (hi pins s σ H _ I h) fun v s1 h1=>thn h1 fun itv s2 h2=>?_)
  refine lc_block (R:=fun acc C=>compPost (model X.prog X.w) X.A X.xe none (EP X pins σ Q) acc C) hc hg he hNx ok cl1 cl2 h2 ?_
  rintro D C H' s' v I' rfl q ⟨m,hm⟩ hn hL h0 hcl' hp
  exact ⟨m,hm,fun h' hsb=>⟨.ref D,H',I'.turned (it:=C) (t':=s'.toks) (fun b o hb e=>(hsb.2 b hb).trans e) hn hL (.inr h0) hcl' hp,rfl,q⟩⟩

theorem ps_setLc {elt target iter:Expr} {scope:Scope} {pos pos' spos:Pos} {wi:TI} {g:Blk→TG} {te:Blk→TE} {i:Nat} {x:Str} (Nx:List Str) (ts:List Str) (ix:List Nat)
    (hc:X.calm=true) (hN:X.N.Nodup) (hix:X.N[i]?=some x) (hx:X.env.scope.names.lookup x=some .local) (hi:PI X target iter wi) (hg:∀ b,PG (cxC X (bN Nx ts ix) scope b) target (g b)) (he:∀ b,PE (cxC X (bN Nx ts ix) scope b) elt (te b))
    (hNx:X.N=Nx) (ok:BlkOk Nx X.env.scope scope ix) (hsw:swapsWith (.ListComp elt [⟨target,iter,[],0⟩] scope pos) (some (.Name x pos')) spos.line X.env=pure true) (hs:∀ x,foldedSetIterable iter X.env x=pure x:=by intro _; rfl) :
    PS X (.Assign [.Name x pos'] (.ListComp elt [⟨target,iter,[],0⟩] scope pos) spos) (tAsg (tLc wi ts.length ix g te) (gName i)):=by
  intro pins s σ H D0 I h
  obtain ⟨cl,hcl,cl1,cl2⟩:=closure_of (scope:=scope) (env:=X.env) fun y hy hf=>I.ok.has y.1 (ok.frees y hy hf)
  rw [exec_Assign_Name_used _ _ _ _ hsw]
  refine wpAny_bind (wpAny_standAt (wpAny_bind ?_))
  show wpAny _ X.A (do let _ ← comprehension (.ListComp elt [⟨target,iter,[],0⟩] scope pos) scope X.env _ (newList []) false (eval iter X.env) (some (assign (.Name x pos') X.env))) _ _ s
  refine wpAny_bind (thn (wpAny_comprehension_free (use:=some (assign (.Name x pos') X.env)) (Q:=fun _ s'=>SP X pins D0 .next s') rfl hs hcl ok.kind ok.locs (thn (hi pins s σ H _ I h) fun v s1 h1=>thn h1 fun itv s2 h2=>?_)) fun _ s' hq=>wpAny_pure (wpAny_pure hq))
  refine lc_block (R:=fun acc C=>compPost (model X.prog X.w) X.A X.xe (some (assign (.Name x pos') X.env)) (fun _ s'=>SP X pins D0 .next s') acc C) (Q:=fun x H1=>gName i x σ H1 D0.nx) hc hg he hNx ok cl1 cl2 h2 ?_
  rintro D C H' s' v I' rfl q ⟨m,hm⟩ hn hL h0 hcl' hp
  show wpAny _ X.A (assign (.Name x pos') X.env (.ref D)) _ _ _
  refine wpAny_assign_Name (store_ok2 I' hN hix (.inl hx) (show RelV (.ref D) (.ref D) from rfl) (fun s'' I'' hch=>?_) (.inr hx))
  obtain ⟨a,hsb,ha⟩:=hch
  have haC:C≠a:=by
    rcases ha with z | z
    · rw [z]; exact hL
    · exact fun e=>hcl' _ _ z e.symm
  exact ⟨m,hm.sameBut hsb haC,fun h'' hs''=>⟨_,H',I''.turned (it:=C) (t':=s''.toks) (fun b o hb e=>(hs''.2 b hb).trans e) hn hL (.inr h0) hcl' hp,q⟩⟩
end
end L2
set_option Elab.async false
set_option linter.all false
set_option maxRecDepth 100000
namespace L2
open PySem PySem.Spec PyProof.Rows
mutual
/-- the value bears the datum -/
inductive Dn (H:Hp):V→PyData→Prop
  | non:Dn H .non .none
  | bl (b:Bool):Dn H (.bl b) (.bool b)
  | int (i:Int):Dn H (.int i) (.int i)
  | str (x:Str):Dn H (.str x) (.str x)
  | tup {a:Addr} {xs:List V} {ds:List PyData}:H a=some (.tup xs)→DnAll H xs ds→Dn H (.ref a) (.tuple ds)
  | lst {a:Addr} {xs:List V} {ds:List PyData}:H a=some (.lst xs)→DnAll H xs ds→Dn H (.ref a) (.list ds)
  | dct {a:Addr} {ks:List (Key×V)} {ds:List PyData}:H a=some (.dK ks)→DnAll H (ks.map (·.2)) ds→Dn H (.ref a) (.dict ((ks.map fun k=>match k.1 with | .inl i=>PyData.int i | .inr x=>PyData.str x).zip ds))
inductive DnAll (H:Hp):List V→List PyData→Prop
  | nil:DnAll H [] []
  | cons {v:V} {vs:List V} {d:PyData} {ds:List PyData}:Dn H v d→DnAll H vs ds→DnAll H (v::vs) (d::ds)
end
mutual
theorem Dn.mono {H H':Hp} (e:∀ b o,H b=some o→H' b=some o):∀ {v:V} {d:PyData},Dn H v d→Dn H' v d
  | _,_,.non=>.non
  | _,_,.bl b=>.bl b
  | _,_,.int i=>.int i
  | _,_,.str x=>.str x
  | _,_,.tup h r=>.tup (e _ _ h) (DnAll.mono e r)
  | _,_,.lst h r=>.lst (e _ _ h) (DnAll.mono e r)
  | _,_,.dct h r=>.dct (e _ _ h) (DnAll.mono e r)
theorem DnAll.mono {H H':Hp} (e:∀ b o,H b=some o→H' b=some o):∀ {vs:List V} {ds:List PyData},DnAll H vs ds→DnAll H' vs ds
  | _,_,.nil=>.nil
  | _,_,.cons r t=>.cons (Dn.mono e r) (DnAll.mono e t)
end
theorem DnAll.ints {H:Hp}:∀ ns:List Int,DnAll H (ns.map V.int) (ns.map PyData.int)
  | []=>.nil
  | n::ns=>.cons (.int n) (DnAll.ints ns)
theorem DnAll.length {H:Hp} {vs:List V} {ds:List PyData} (h:DnAll H vs ds):vs.length=ds.length:=by
  induction vs generalizing ds with
  | nil=>cases h; rfl
  | cons v vs ih=>cases h with | cons r t=>exact congrArg (·+1) (ih t)
theorem DnAll.append {H:Hp} {vs ws:List V} {ds es:List PyData} (h:DnAll H vs ds) (s:DnAll H ws es):DnAll H (vs++ws) (ds++es):=by
  induction vs generalizing ds with
  | nil=>cases h; exact s
  | cons v vs ih=>cases h with | cons r t=>exact .cons r (ih t)

mutual
/-- data without dicts -/
theorem Dn.reads {P:Program} {w:World} {H:Hp} {h:Heap} (ok:HOk P w H h):∀ {v:V} {d:PyData} {u:Value},Dn H v d→d.hasDict=false→RelV v u→∃ as,Reads h u d as
  | _,_,_,.non,_,r=>by cases r; exact ⟨_,.none⟩
  | _,_,_,.bl b,_,r=>by cases r; exact ⟨_,.bool b⟩
  | _,_,_,.int i,_,r=>by obtain ⟨t,rfl⟩:=r; exact ⟨_,.int i t⟩
  | _,_,_,.str x,_,r=>by obtain ⟨t,rfl⟩:=r; exact ⟨_,.str x t⟩
  | _,_,_,.tup e rs,hd,r=>by
    cases r
    obtain ⟨z,its,rv,o,h1,h2,n,h3⟩:=ok _ _ e
    obtain ⟨as,q⟩:=DnAll.reads ok rs (by simpa [PyData.hasDict] using hd) rv
    exact ⟨_,.tuple h1 h2 h3 (by simpa using q)⟩
  | _,_,_,.lst e rs,hd,r=>by
    cases r
    obtain ⟨z,its,n,rv,h1⟩:=ok _ _ e
    obtain ⟨as,q⟩:=DnAll.reads ok rs (by simpa [PyData.hasDict] using hd) rv
    exact ⟨_,.list h1 rfl rfl (by simpa using q)⟩
  | _,_,_,.dct e rs,hd,r=>by simp [PyData.hasDict] at hd
theorem DnAll.reads {P:Program} {w:World} {H:Hp} {h:Heap} (ok:HOk P w H h):∀ {vs:List V} {ds:List PyData} {us:List Value},DnAll H vs ds→PyData.hasDictAll ds=false→Vals vs us→∃ as,ReadsAll h us ds as
  | _,_,_,.nil,_,r=>by cases r; exact ⟨_,.nil⟩
  | _,_,_,.cons p t,hd,r=>by
    cases r with
    | cons r1 r2 =>
      simp only [PyData.hasDictAll,Bool.or_eq_false_iff] at hd
      obtain ⟨as,q⟩:=Dn.reads ok p hd.1 r1
      obtain ⟨bs,q2⟩:=DnAll.reads ok t hd.2 r2
      exact ⟨_,.cons q q2⟩
end
section
variable {X:Cx}
theorem op_eqD {k:Nat} (hr:Room k X.A):OpR X (compareOp .Eq) (fun x y H Q=>∃ d e,Dn H x d∧Dn H y e∧SeqAt.shaped d=true∧SeqAt.shaped e=true∧Q (.bl (PyData.eqv d e)) H):=by
  intro pins s σ H x y v u Q I rx ry h
  obtain ⟨d,e,hd,he,sd,se,q⟩:=h
  obtain ⟨as,r1⟩:=Dn.reads I.hok hd (PyData.hasDict_of_canLay _ (SeqAt.canLay_of_shaped sd)) rx
  obtain ⟨bs,r2⟩:=Dn.reads I.hok he (PyData.hasDict_of_canLay _ (SeqAt.canLay_of_shaped se)) ry
  exact SeqAt.compareEq_shaped r1 r2 sd se hr.units ⟨.bl _,H,I,rfl,q⟩
theorem call_rangeV2:CallR X (.type "range") (fun xs H Q=>∃ i j:Int,xs=[.int i,.int j]∧∀ p,H p=none→Q (.ref p) (upd H p (.rng i j))):=by
  intro pins s σ H xs us Q I r h
  obtain ⟨i,j,rfl,q⟩:=h
  cases r with
  | cons r1 rr =>
    cases rr with
    | cons r2 rr =>
      cases rr
      obtain ⟨t,rfl⟩:=r1
      obtain ⟨u,rfl⟩:=r2
      refine call_range_2 ?_
      exact ⟨.ref s.heap.objs.size,_,I.laid (t':=s.toks+1) (fun b o e=>Heap.get?_push_of_some _ e) (Nat.le_refl _) (show ObjOk X.prog X.w _ _ _ (.rng i j) from ⟨t,u,s.toks,Heap.get?_push_size _ rfl⟩),rfl,q _ (I.hok.fresh (Nat.le_refl _))⟩

noncomputable def rangeV (lo:Int) (n:Nat):List V:=(List.range n).map fun (k:Nat)=>V.int (lo+(k:Int))
theorem vals_range (lo:Int):∀ (n:Nat) (l:List Value),l.length=n→(∀ (j:Nat) (v:Value),l[j]?=some v→∃ t,v=Value.int (lo+(j:Int)) t)→Vals (rangeV lo n) l:=by
  intro n
  unfold rangeV
  induction n with
  | zero =>
    intro l hl _
    have e:l=[]:=List.length_eq_zero_iff.mp hl
    subst e
    exact .nil
  | succ n ih =>
    intro l hl hl2
    obtain ⟨l',x,rfl⟩:∃ l' x,l=l'++[x]:=⟨l.dropLast,l.getLast (by intro e; rw [e] at hl; cases hl),(List.dropLast_concat_getLast _).symm⟩
    have hl':l'.length=n:=by rw [List.length_append] at hl; simpa using hl
    rw [List.range_succ,List.map_append]
    refine Vals.append (ih l' hl' fun j v hv=>hl2 j v (by rw [List.getElem?_append_left (List.getElem?_eq_some_iff.mp hv).1]; exact hv)) (.cons ?_ .nil)
    obtain ⟨t,e⟩:=hl2 n x (by rw [List.getElem?_append_right (by omega),hl',Nat.sub_self]; rfl)
    exact ⟨t,e⟩
end
end L2
set_option Elab.async false
set_option linter.all false
set_option maxRecDepth 100000
namespace L2
open PySem PySem.Spec PyProof.Rows
structure Def (K:PySem.W.Frag) (mg:Str→Option Value) (x:Str) (st:Stmt) (ps:List Str):Prop where
  ex:∃ f fd,Fun K x x st f fd∧mg x=some (.ref f)∧Binds K fd ps []
structure Callee (P:Program) (w:World) (K:PySem.W.Frag) (mg:Str→Option Value) (base:Heap) (x:Str) (k:Nat) (ps:List Str) (sp:Sp):Prop where
  ex:∃ f fd,FnOk P w K mg base CX0 k f fd ps sp∧mg x=some (.ref f)∧PySem.W.keepIn K (.ref f)=true∧Binds K fd ps []

section
variable {P:Program} {w:World} {K:PySem.W.Frag} {mg:Str→Option Value} {base:Heap}
theorem Def.ok {x:Str} {st:Stmt} {N ps:List Str} {k:Nat} {sp:Sp} (D:Def K mg x st ps) (S:FnScope N ps (defScope st)) (len:∀ vs H Q E,sp vs H Q E→vs.length=ps.length)
    (hbody:∀ (f:Addr) (cdv:Value) (A:Around) (outer:List Env) (s:Shared) (H:Hp) (vs:List V) (Q:VK) (E:XK),Room k (A.deeper (envOfC x (defScope st) s.heap.objs.size f cdv))→sp vs H Q E →
      ∃ t,PSs (cxOf CX0 P w K mg base N x (defScope st) f cdv A outer s H E).nox (defBody st) t∧t { nx:=fun _ H'=>Q .non H',rt:=Q } (start N vs) H):Callee P w K mg base x (k+1) ps sp:=by
  obtain ⟨f,fd,F,hm,hb⟩:=D.ex
  exact ⟨f,fd,F.ok S len fun cdv A outer s H vs Q E hr h=>hbody f cdv A outer s H vs Q E hr h,hm,F.kp,hb⟩
theorem def_mk {x:Str} {st:Stmt} {ps:List Str} {h:Heap} {f:Addr} {oc:Value} {od an:Option Addr} {osl:Array (Option Value)} {kV doc pm cdv ct:Value} (X:K.In h) (G:h.Ns mainGlobals mg)
    (a:PySem.W.nsIn K mainGlobals x=some (some (.ref f))) (l:K.lookup f=some ⟨oc,od,.func (PySem.W.fnOf x x (defArgs st) (defBody st) (defScope st) .none kV doc pm an cdv ct),osl⟩)
    (c:PySem.W.codeIn K cdv x=true) (k:PySem.W.keepIn K (.ref f)=true)
    (hb:∀ (kV doc pm:Value) (an:Option Addr) (cdv ct:Value) (us:List Value),us.length=ps.length→bindArgs (PySem.W.fnOf x x (defArgs st) (defBody st) (defScope st) .none kV doc pm an cdv ct) ⟨us,[]⟩=pure (ps.zip us)):Def K mg x st ps:=by
  have F:=fun_mk (st:=st) l c k
  exact ⟨f,_,F,PySem.W.mg_of X G a,F.binds hb⟩
end
section
variable {X:Cx} {x:Str} {k:Nat} {ps:List Str} {sp:Sp} {e:Expr} {es:List Expr} {t:TA} {p pos:Pos}
theorem pe_callC (C:Callee X.prog X.w X.K X.mg X.base x k ps sp) (hr:Room k X.A) (hg:Gl X x) (ha:PA X (e::es) t) (hdb:(x == ("__debug__":Str))=false:=by decide)
    (he:starEach (e::es) X.env=(false,eval e X.env)::starEach es X.env:=by rfl) (hpl:(backTo pos (starEach es X.env)).any (·.1)=false:=by rfl):PE X (.Call (.Name x p) (e::es) [] pos) (tCall sp [] E0 t):=by
  obtain ⟨f,fd,F,hm,hk,hb⟩:=C.ex
  exact pe_call F hr hg hm hk hb .nil pass0 ha hdb he hpl
theorem pe_gint {i:Int} (hg:Gl X x) (h:∃ t,X.mg x=some (.int i t)) (hd:(x == ("__debug__":Str))=false:=by decide):PE X (.Name x pos) (tC (.int i)):=by
  obtain ⟨t,e⟩:=h
  exact pe_glob hg e ⟨t,rfl⟩ hd
end
noncomputable def tJoinS (t:TS):TS:=fun D σ H=>∃ J:St→Hp→Prop,t { D with nx:=J } σ H∧∀ σ' H',J σ' H'→D.nx σ' H'
noncomputable def tJoinT (t:TT):TT:=fun σ H Q=>∃ J:Bool→Hp→Prop,t σ H J∧∀ b H',J b H'→Q b H'
section
variable {X:Cx} {st:Stmt} {e:Expr}
theorem PS.join {t:TS} (h:PS X st t):PS X st (tJoinS t):=by
  rintro pins s σ H D I ⟨J,q,hJ⟩
  refine thn (h pins s σ H _ I q) fun f s' z=>?_
  cases f with
  | next=>obtain ⟨σ',H',I',q'⟩:=z; exact ⟨σ',H',I',hJ _ _ q'⟩
  | brk=>exact z
  | cont=>exact z
  | ret u=>exact z
theorem PT.join {t:TT} (h:PT X e t):PT X e (tJoinT t):=by
  rintro pins s σ H Q I ⟨J,q,hJ⟩
  refine thn (h pins s σ H _ I q) fun b s' ⟨H',I',q'⟩=>⟨H',I',hJ _ _ q'⟩
end
noncomputable def penK (c:Addr) (at' left:Int):List (Key×V):=[(Sum.inr "script",.ref c),(Sum.inr "at",.int at'),(Sum.inr "left",.int left)]
theorem ne1:¬ ((Sum.inr ("script":Str):Key)=(Sum.inr ("at":Str):Key)):=by decide +kernel
theorem ne2:¬ ((Sum.inr ("script":Str):Key)=(Sum.inr ("left":Str):Key)):=by decide +kernel
theorem ne3:¬ ((Sum.inr ("at":Str):Key)=(Sum.inr ("left":Str):Key)):=by decide +kernel
theorem pen_script (c:Addr) (a l:Int):valV (penK c a l) (Sum.inr "script":Key)=some (.ref c):=valV_pos rfl
theorem pen_at (c:Addr) (a l:Int):valV (penK c a l) (Sum.inr "at":Key)=some (.int a):=by
  unfold penK
  rw [valV_neg ne1,valV_pos rfl]
theorem pen_left (c:Addr) (a l:Int):valV (penK c a l) (Sum.inr "left":Key)=some (.int l):=by
  unfold penK
  rw [valV_neg ne2,valV_neg ne3,valV_pos rfl]
theorem pen_put_at (c:Addr) (a l b:Int):putK (penK c a l) (Sum.inr "at":Key) (.int b)=penK c b l:=by
  have h:((penK c a l).any fun kv=>decide (kv.1=(Sum.inr "at":Key)))=true:=by rw [valV_any,pen_at]; rfl
  unfold putK
  rw [if_pos h]
  unfold penK
  simp only [List.map_cons,List.map_nil,if_neg ne1,if_neg (Ne.symm ne3),if_true]
theorem pen_put_left (c:Addr) (a l b:Int):putK (penK c a l) (Sum.inr "left":Key) (.int b)=penK c a b:=by
  have h:((penK c a l).any fun kv=>decide (kv.1=(Sum.inr "left":Key)))=true:=by rw [valV_any,pen_left]; rfl
  unfold putK
  rw [if_pos h]
  unfold penK
  simp only [List.map_cons,List.map_nil,if_neg ne2,if_neg ne3,if_true]
section
variable {H:Hp} {p c:Addr} {a l b:Int}
theorem dg_script (h:H p=some (.dK (penK c a l))):DGet H p (.str "script") (some (.ref c)):=by
  have q:=DGet.k (k:=(Sum.inr "script":Key)) h
  rw [pen_script] at q
  exact q
theorem dg_at (h:H p=some (.dK (penK c a l))):DGet H p (.str "at") (some (.int a)):=by
  have q:=DGet.k (k:=(Sum.inr "at":Key)) h
  rw [pen_at] at q
  exact q
theorem dg_left (h:H p=some (.dK (penK c a l))):DGet H p (.str "left") (some (.int l)):=by
  have q:=DGet.k (k:=(Sum.inr "left":Key)) h
  rw [pen_left] at q
  exact q
theorem dp_at (h:H p=some (.dK (penK c a l))):DPut H p (.str "at") (.int b) (upd H p (.dK (penK c b l))):=by
  have q:=DPut.k (k:=(Sum.inr "at":Key)) (v:=V.int b) h (by show 3 < sizeLine; decide)
  rw [pen_put_at] at q
  exact q
theorem dp_left (h:H p=some (.dK (penK c a l))):DPut H p (.str "left") (.int b) (upd H p (.dK (penK c a b))):=by
  have q:=DPut.k (k:=(Sum.inr "left":Key)) (v:=V.int b) h (by show 3 < sizeLine; decide)
  rw [pen_put_left] at q
  exact q
end
noncomputable def Kept (p:Addr) (H H':Hp):Prop:=∀ b o,H b=some o→b≠p→H' b=some o
theorem Kept.refl {p:Addr} {H:Hp}:Kept p H H:=fun _ _ h _=>h
theorem Kept.pen {p:Addr} {H H':Hp} {o:HO} (a:Kept p H H'):Kept p H (upd H' p o):=fun c u h n=>by
  rw [upd_ne n]
  exact a c u h n
theorem Same.new {q:Addr} {H H':Hp} {o:HO} (a:Same H H') (hq:H' q=none):Same H (upd H' q o):=fun c u h=>by
  have e:=a c u h
  rw [upd_ne (ne_of_none e hq)]
  exact e
theorem shaped_ints (ns:List Int):SeqAt.shaped (.list (ns.map PyData.int))=true:=by
  have h1:PyData.canLayAll0 (ns.map PyData.int)=true:=by
    induction ns with
    | nil=>rfl
    | cons n r ih=>simp [PyData.canLayAll0,PyData.canLay0,ih]
  have h2:PyData.depthAll (ns.map PyData.int)=0:=by
    induction ns with
    | nil=>rfl
    | cons n r ih=>simp [PyData.depthAll,PyData.depth]; exact ih (by
        have:=h1
        simp [PyData.canLayAll0] at this
        exact this.2)
  simp [SeqAt.shaped,PyData.canLay0,PyData.depth,h1,h2]
end L2
set_option Elab.async false
set_option linter.all false
set_option maxRecDepth 100000
namespace L2
open PySem PySem.Spec PyProof.Rows
section
variable {prog:Program} {w:World} {A:Around} {E:Value→Shared→Prop} {s:Shared} {r:Addr} {a b c:Int} {t u v:Tok} {n:Nat}
theorem collect_rng {Q:List Value→Shared→Prop} (hh:A.handled=none) (hr:IsRange s.heap r a b c t u v) (hs:Builtin.Range.small a b c=true) (hn:Builtin.Range.rangeSize a b c=n) (hl:n≤2 ^ 24)
    (hQ:∀ (h':Heap) (tk:Nat) (acc:Array Value),(∀ b o,s.heap.get? b=some o→h'.get? b=some o)→ItemsOf (fun i v=>∃ t,v=.int (a+i * c) t) acc n→Q acc.toList { s with heap:=h',toks:=tk }):wpAny (model prog w) A (collect (.ref r)) Q E s:=by
  unfold collect; apply wpAny_bind; apply wpAny_runValue; refine codeAny_builtin F.entry_proto_collect ?_
  rw [Around.under_plainId F.plain_proto_collect _]
  show wpAny _ A.in1 (newList [] >>= fun z=>again (.builtin "list.__iadd__" ⟨[z,.ref r],[]⟩)) _ _ s
  refine wpAny_bind (wpAny_newObj_type (wpAny_pure ⟨plainId_quiet F.plain_list_iadd _,codeAny_builtin F.entry_list_iadd ?_⟩))
  rw [Around.under_plainId F.plain_list_iadd _]
  show wpAny _ A.in1 (Builtin.List.listExtendWith (.ref s.heap.objs.size) (.ref r) (.ref s.heap.objs.size)) _ _ { s with heap:=s.heap.push { cls:=.type "list",data:=.seq ([]:List Value).toArray } }
  let R:Result→Shared→Prop:=fun z s'=>match z with
    | .ok (.ret v)=>wpAny (model prog w) A (match v with
      | .ref q=>(do match (← load q).data with
        | .seq xs _=>pure xs.toList
        | _=>unsupported "internal:collect")
      | _=>unsupported "internal:collect") Q E s'
    | .ok _=>False
    | .error e=>E e s'
  refine wpAny_extend_range (R:=R) (s:={ s with heap:=s.heap.push { cls:=.type "list",data:=.seq ([]:List Value).toArray } }) hh (Heap.get?_push_of_some _ hr) hs hn hl _ _ _ (show (s.heap.push { cls:=.type "list",data:=.seq ([]:List Value).toArray }).get? s.heap.objs.size=some { cls:=.type "list",data:=.seq #[] } from Heap.get?_push_size _ rfl) fun h' tk acc c' hk hS hacc=>?_
  show wpAny _ A (load s.heap.objs.size >>= _) _ _ { s with heap:=h',toks:=tk }
  exact wpAny_bind (wpAny_load hS (wpAny_pure (hQ h' tk acc (fun b o e=>hk b o (Nat.ne_of_lt (Heap.lt_size e)) (Heap.get?_push_of_some _ e)) hacc)))

theorem tuple_rng {Q:Value→Shared→Prop} (hh:A.handled=none) (hr:IsRange s.heap r a b c t u v) (hs:Builtin.Range.small a b c=true) (hn:Builtin.Range.rangeSize a b c=n) (hl:n≤2 ^ 24)
    (hQ:∀ (h':Heap) (tk:Nat) (acc:Array Value),(∀ b o,s.heap.get? b=some o→h'.get? b=some o)→ItemsOf (fun i v=>∃ t,v=.int (a+i * c) t) acc n→Q (.ref h'.objs.size) { s with heap:=h'.push { cls:=.type "tuple",data:=.seq acc },toks:=tk }) :
    wpAny (model prog w) A (call (.type "tuple") [.ref r]) Q E s:=by
  refine callType_codes (Q₁:=fun z s1=>s1.TypeIs z "tuple"∧Q z s1) F.called_tuple (F.typeCall_tuple_1 _) F.entry_object_init ?_ fun z s1 h1=>?_
  · apply codeAny_of_tree
    show wpAny _ A.in1.in1 (do checkBuiltinCall "tuple.__new__" ⟨[.type "tuple",.ref r],[]⟩; again (.builtin "tuple.__new__" ⟨[.type "tuple",.ref r],[]⟩)) _ _ s
    refine wpAny_bind (wpAny_of_eq (F.newCall_tuple_1 _) (wpAny_pure ⟨plainId_quiet F.plain_tuple_new _,codeAny_builtin F.entry_tuple_new ?_⟩))
    rw [Around.under_plainId F.plain_tuple_new _]
    have f1:=sub_tuple_self; have f2:=init_tuple_lookup; have f3:=madeHere_tuple
    have fT:s.TypeIs (.ref r) "range":=⟨_,hr,rfl⟩
    wp_walk using wpAny_typeOf fT,collect_rng (A:=A.in1.in1) hh hr hs hn hl
    intro h' tk acc hk hacc
    show wpAny _ _ (Builtin.Tuple.tupleExact acc.toList.toArray >>= fun z=>ret z) _ _ _
    unfold Builtin.Tuple.tupleExact
    have e:acc.toList.toArray=acc:=by simp
    rw [e]
    refine wpAny_bind (wpAny_newObj_type (wpAny_pure ⟨⟨_,Heap.get?_push_size _ rfl,rfl⟩,hQ h' tk acc hk hacc⟩) ?_)
    show acc.size≤sizeLine
    rw [hacc.1,sizeLine_eq]
    exact hl
  · exact ⟨h1.1,F.args_object_init_2 z _,object_init_meets F.called_tuple.init.lookup F.called_tuple.made (by decide) prog w A.in1 _ s1 ⟨h1.1,rfl,h1.2⟩⟩
end
section
variable {X:Cx}
theorem call_tuple_rng (hh:X.A.handled=none):CallR X (.type "tuple") (fun xs H Q=>∃ a lo hi,xs=[.ref a]∧H a=some (.rng lo hi)∧-(2 ^ 62)≤lo∧lo < 2 ^ 62∧-(2 ^ 62)≤hi∧hi < 2 ^ 62∧(hi - lo).toNat≤1000∧∀ p,H p=none→Q (.ref p) (upd H p (.tup (rangeV lo (hi - lo).toNat)))):=by
  intro pins s σ H xs us Q I r h
  obtain ⟨a,lo,hi,rfl,ha,b1,b2,b3,b4,hn,q⟩:=h
  obtain ⟨u,rfl,ru⟩:=vals1 r
  cases ru
  obtain ⟨t,u,v,e⟩:=I.hok a _ ha
  have hsz:Builtin.Range.rangeSize lo hi 1=(((hi - lo).toNat:Nat):Int):=by rw [rangeSize_one]; split <;> omega
  refine tuple_rng hh (r:=a) (t:=t) (u:=u) (v:=v) e (small_one b1 b2 b3 b4) hsz (by omega) fun h' tk acc hk hacc=>?_
  have I1:Inv X pins σ H { s with heap:=h',toks:=tk }:=I.kept hk
  have hv:Vals (rangeV lo (hi - lo).toNat) acc.toList:=vals_range lo _ _ (by simpa using hacc.1) fun j v hv=>by
    obtain ⟨t,e⟩:=hacc.2 j v (by simpa using hv)
    exact ⟨t,by rw [e,Int.mul_one]⟩
  have hz:(rangeV lo (hi - lo).toNat).length≤sizeLine:=by
    unfold rangeV
    rw [List.length_map,List.length_range]
    exact Nat.le_trans hn (by decide)
  refine ⟨.ref h'.objs.size,_,I1.laid (h':=h'.push { cls:=.type "tuple",data:=.seq acc }) (t':=tk) (fun b o e=>Heap.get?_push_of_some _ e) (Nat.le_refl _) (show ObjOk X.prog X.w _ _ _ (.tup (rangeV lo (hi - lo).toNat)) from ⟨hz,acc.toList,hv,⟨_,Heap.get?_push_size _ rfl,rfl,0,by simp⟩⟩),rfl,q _ (I1.hok.fresh (Nat.le_refl _))⟩

theorem noFill_tup:fillsNumberSlot (.type "tuple") "mul"=pure false :=
  PySem.fillsNumberSlot_seq (id:="tuple.__mul__") (r:=some (.builtin "tuple.__rmul__")) PySem.F.slot_tuple_mul.lookup (by decide +kernel) PySem.F.slot_tuple_rmul.lookup (by decide +kernel)
theorem repeat_tup:seqRepeat? (.type "tuple")=pure (some (.builtin "tuple.__mul__")):=by
  unfold seqRepeat?
  rw [PySem.seqSlot_of (T:="tuple") (name:="__mul__") (id:="tuple.__mul__") PySem.F.slot_tuple_mul.lookup (by decide +kernel),PySem.seqSlot_of (T:="tuple") (name:="__rmul__") (id:="tuple.__rmul__") PySem.F.slot_tuple_rmul.lookup (by decide +kernel)]; rfl
theorem rmul_tup (x:Int) (t:Tok) (l:Addr) (items:Array Value) (n:Nat) (dd:Option Addr) (sl:Array (Option Value)) :
    Meets (Builtin.«int.__rmul__» ⟨[.int x t,.ref l],[]⟩) (fun _ R s=>s.heap.get? l=some { cls:=.type "tuple",dict:=dd,data:=.seq items n,slots:=sl }∧R (.ok (.ret Value.notImplemented)) s):=by
  refine .of_wp fun prog w A R s h=>?_
  obtain ⟨hp,g,d,tk,os⟩:=s
  obtain ⟨hl,h⟩:=h
  wp_walk
  exact ⟨_,rfl,h⟩
theorem mul_tup (x:Int) (t:Tok) (l:Addr) (items:Array Value) (n:Nat) (dd:Option Addr) (sl:Array (Option Value)) (h1:1 < x) (h2:x≤1000) (h3:items.isEmpty=false) (h4:items.size≤1000) :
    Meets (Builtin.«tuple.__mul__» ⟨[.ref l,.int x t],[]⟩) (fun _ R s=>s.heap.get? l=some { cls:=.type "tuple",dict:=dd,data:=.seq items n,slots:=sl } ∧
      R (.ok (.ret (.ref s.heap.objs.size))) { s with heap:=s.heap.push { cls:=.type "tuple",data:=.seq ((List.replicate x.toNat items).foldl (·++·) #[]) } }):=by
  refine .of_wp fun prog w A R s h=>?_
  obtain ⟨hp,g,d,tk,os⟩:=s
  obtain ⟨hl,h⟩:=h
  have hp0:0≤(items.size:Int) * x:=Int.mul_nonneg (by omega) (by omega)
  have hp1:(items.size:Int) * x≤1000 * 1000:=Int.mul_le_mul (by omega) h2 (by omega) (by omega)
  have hne:items.size≠0:=fun e=>by simp [Array.isEmpty,e] at h3
  wp_walk
  refine wpAny_ite_split (fun z=>absurd z (by simp; omega)) (fun _=>?_)
  refine wpAny_bind ?_
  unfold Builtin.Tuple.tupleItemsOf
  refine wpAny_bind (wpAny_seqItems hl rfl (wpAny_pure ?_))
  refine wpAny_ite_split (fun z=>absurd z (by rw [h3]; simp; omega)) (fun _=>?_)
  refine wpAny_ite_split (fun z=>absurd z (by rw [h3]; simp; omega)) (fun _=>?_)
  refine wpAny_ite_split (fun z=>absurd z (by omega)) (fun _=>?_)
  refine wpAny_ite_split (fun z=>absurd z (by unfold Builtin.Tuple.tupleTooMany; rw [sizeLine_eq]; simp; omega)) (fun _=>?_)
  unfold Builtin.Tuple.tupleExact
  have hlen:∀ k:Nat,((List.replicate k items).foldl (·++·) #[]).size=k * items.size:=fun k=>by
    have key:∀ (k:Nat) (acc:Array Value),((List.replicate k items).foldl (·++·) acc).size=acc.size+k * items.size:=by
      intro k
      induction k with
      | zero=>intro acc; simp
      | succ k ih =>
        intro acc
        rw [List.replicate_succ,List.foldl_cons,ih,Array.size_append,Nat.succ_mul]
        omega
    simpa using key k #[]
  refine wpAny_bind (wpAny_newObj_type (wpAny_pure ⟨_,rfl,h⟩) ?_)
  show ((List.replicate x.toNat items).foldl (·++·) #[]).size≤sizeLine
  rw [hlen,sizeLine_eq]
  have hx:x.toNat≤1000:=by omega
  exact Nat.le_trans (Nat.mul_le_mul hx h4) (by decide)
noncomputable def rRepT (K:PySem.W.Frag):R2:=fun x y H Q=>∃ a k xs,x=.ref a∧y=.int k∧SqT K H a xs∧1 < k∧k≤1000∧xs≠[]∧xs.length≤1000∧∀ p,H p=none→Q (.ref p) (upd H p (.tup (List.replicate k.toNat xs).flatten))
theorem vals_rep {xs:List V} {us:List Value} (r:Vals xs us):∀ k:Nat,Vals (List.replicate k xs).flatten (List.replicate k us).flatten
  | 0=>.nil
  | k+1=>by
    rw [List.replicate_succ,List.replicate_succ,List.flatten_cons,List.flatten_cons]
    exact r.append (vals_rep r k)
theorem op_repT:OpR X (binaryOp .Mult) (rRepT X.K):=by
  intro pins s σ H x y v u Q I rx ry h
  obtain ⟨a,k,xs,rfl,rfl,hq,h1,h2,hne,hl,q⟩:=h
  cases rx
  obtain ⟨t,rfl⟩:=ry
  obtain ⟨its,rv,p,hz⟩:=I.tuple hq
  obtain ⟨o,ho,hc,n,hd⟩:=p
  obtain ⟨oc,od,odd,osl⟩:=o
  have hc':oc=.type "tuple":=hc
  have hd':odd=.seq its.toArray n:=hd
  subst hc' hd'
  have hlen:=rv.length
  have hemp:its.toArray.isEmpty=false:=by
    cases its with
    | nil=>cases rv; exact absurd rfl hne
    | cons i r=>rfl
  have efl:(List.replicate k.toNat its.toArray).foldl (·++·) #[]=(List.replicate k.toNat its).flatten.toArray:=by
    have key:∀ (k:Nat) (acc:Array Value),(List.replicate k its.toArray).foldl (·++·) acc=acc++(List.replicate k its).flatten.toArray:=by
      intro k
      induction k with
      | zero=>intro acc; simp
      | succ k ih =>
        intro acc
        rw [List.replicate_succ,List.foldl_cons,ih,List.replicate_succ,List.flatten_cons]
        simp
    simpa using key k.toNat #[]
  refine wpAny_binaryOp_repeat_ref (T:="tuple") (U:="int") (by decide) ⟨_,ho,rfl⟩ (fun s'=>typeIs_int s' k t) noFill_tup PySem.F.fills_int_mul PySem.F.slot_int_rmul repeat_tup PySem.F.slot_int_index.lookup ?_
  refine call_meets PySem.F.slot_int_rmul (typeIs_int s k t) PySem.F.entry_int_rmul (PySem.F.args_int_rmul_2 _ _) (rmul_tup k t a its.toArray n od osl) ⟨ho,rfl,⟨_,ho,rfl⟩,?_⟩
  refine call_meets PySem.F.slot_tuple_mul ⟨_,ho,rfl⟩ PySem.F.entry_tuple_mul (PySem.F.args_tuple_mul_2 _ _) (mul_tup k t a its.toArray n od osl h1 h2 hemp (by rw [List.size_toArray]; omega)) ⟨ho,?_⟩
  rw [efl]
  have hzz:(List.replicate k.toNat xs).flatten.length≤sizeLine:=by
    have hx:k.toNat≤1000:=by omega
    have e:(List.replicate k.toNat xs).flatten.length=k.toNat * xs.length:=by simp
    rw [e,sizeLine_eq]
    exact Nat.le_trans (Nat.mul_le_mul hx hl) (by decide)
  exact ⟨.ref s.heap.objs.size,_,I.laid (t':=s.toks) (fun b o e=>Heap.get?_push_of_some _ e) (Nat.le_refl _) (show ObjOk X.prog X.w _ _ _ (.tup (List.replicate k.toNat xs).flatten) from ⟨hzz,_,vals_rep rv k.toNat,IsTup.new _ _⟩),rfl,q _ (I.hok.fresh (Nat.le_refl _))⟩
end
end L2
set_option Elab.async false
set_option linter.all false
set_option maxRecDepth 100000
namespace L2
open PySem PySem.Spec PyProof.Rows
noncomputable def rangeI (lo:Int) (n:Nat):List Int:=(List.range n).map fun (k:Nat)=>lo+(k:Int)
theorem rangeV_eq (lo:Int) (n:Nat):rangeV lo n=(rangeI lo n).map V.int:=by
  unfold rangeV rangeI
  rw [List.map_map]
  rfl
theorem rangeI_length (lo:Int) (n:Nat):(rangeI lo n).length=n:=by
  unfold rangeI
  rw [List.length_map,List.length_range]
theorem rangeI_mem {lo x:Int} {n:Nat} (h:x∈rangeI lo n):lo≤x∧x < lo+n:=by
  unfold rangeI at h
  obtain ⟨k,hk,rfl⟩:=List.mem_map.mp h
  have:=List.mem_range.mp hk
  omega
end L2
set_option Elab.async false
set_option linter.all false
set_option maxRecDepth 100000
namespace L2
open PySem PySem.Spec PyProof.Rows
noncomputable def CMulG (i j:Int):Prop:=i.natAbs < 2 ^ 8000∧j.natAbs < 2 ^ 8000
noncomputable def CDivG (i j:Int):Prop:=j≠0∧j.natAbs < 2 ^ 8000
theorem bits_le {x:Int} (h:x.natAbs < 2 ^ 8000):Builtin.Int.intBits x≤8000:=by
  unfold Builtin.Int.intBits
  split
  · exact Nat.zero_le _
  · rename_i hx
    have h0:x.natAbs≠0:=by
      intro z
      have e:x=0:=Int.natAbs_eq_zero.mp z
      rw [e] at hx
      exact hx rfl
    exact (Nat.log2_lt h0).mpr h
theorem CMulG.ok {i j:Int} (h:CMulG i j):IntMulOk i j:=by
  have h1:=bits_le h.1
  have h2:=bits_le h.2
  unfold IntMulOk
  have e:Builtin.Int.intTooBig ((Builtin.Int.intBits i+Builtin.Int.intBits j:Nat):Int)=false:=by
    unfold Builtin.Int.intTooBig
    refine decide_eq_false ?_
    have hb:((16000:Nat):Int)≤(bitsLine:Int):=by decide
    omega
  intro z
  rw [Bool.and_eq_true] at z
  have z2:Builtin.Int.intTooBig ((Builtin.Int.intBits i+Builtin.Int.intBits j:Nat):Int)=true:=z.2
  rw [e] at z2
  cases z2
section
variable {X:Cx}
theorem op_mulG:OpR X (binaryOp .Mult) (rI CMulG fun i j=>.int (i * j)):=opI fun _ _ _ _ _ _ _ hc q=>mul_int q hc.ok
theorem op_fdivG:OpR X (binaryOp .FloorDiv) (rI CDivG fun i j=>.int (i.fdiv j)):=opI fun i j _ _ _ _ _ hc q=>by
  refine floordiv_int hc.1 q (.inl (PyProof.noPylong_of_log2 ?_))
  by_cases h0:j.natAbs=0
  · exact absurd (Int.natAbs_eq_zero.mp h0) hc.1
  · exact Nat.lt_trans ((Nat.log2_lt h0).mpr hc.2) (by decide)
noncomputable def rInsert:V→List V→Hp→VK→Prop:=fun x vs H Q=>∃ l xs k y,x=.ref l∧vs=[.int k,y]∧H l=some (.lst xs)∧0≤k∧k≤1000∧xs.length≤1000∧Q .non (upd H l (.lst (xs.take k.toNat++y::xs.drop k.toNat)))
theorem mt_insert:MtM X "list.insert" rInsert:=by
  intro pins s σ H x vs v us Q I rx rv h
  obtain ⟨l,xs,k,y,rfl,rfl,hH,h0,h1,hz,q⟩:=h
  cases rx
  obtain ⟨u1,u2,rfl,r1,r2⟩:=vals2 rv
  obtain ⟨t,rfl⟩:=r1
  obtain ⟨z,its,n,r,hl,e⟩:=I.lstM hH
  have hfit:¬ (!Builtin.List.listFitsIndex k)=true:=by
    rw [fitsIndex_both (by omega) (by omega)]
    exact Bool.false_ne_true
  refine call_meets F.slot_list_insert ⟨_,e,rfl⟩ F.entry_list_insert (F.args_list_insert_3 _ _ _) (AutoListH.list_insert_list_int_val_1 l its.toArray n k t u2 hfit (by rw [List.size_toArray]; omega)) ⟨e,?_⟩
  refine ⟨.non,_,I.lset (its':=its.take k.toNat++u2::its.drop k.toNat) hH e ?_ ((r.take _).append (.cons r2 (r.drop _))) ?_,rfl,q⟩
  · have hk:(if k < 0 then (k+((its.toArray.size:Nat):Int)).toNat else min k.toNat its.toArray.size)=min k.toNat its.length:=by
      rw [if_neg (by omega),List.size_toArray]
    show ((its.toArray.extract 0 (if k < 0 then (k+((its.toArray.size:Nat):Int)).toNat else min k.toNat its.toArray.size)).push u2++its.toArray.extract (if k < 0 then (k+((its.toArray.size:Nat):Int)).toNat else min k.toNat its.toArray.size))=_
    rw [hk]
    apply Array.ext'
    rw [Array.toList_append,Array.toList_push]
    simp only [List.extract_toArray,List.extract_eq_drop_take,List.drop_zero,Nat.sub_zero]
    rcases Nat.le_total k.toNat its.length with hle | hle
    · rw [Nat.min_eq_left hle]
      simp only [Array.toList_append,List.size_toArray,List.toList_toArray,List.append_assoc,List.singleton_append]
      rw [List.take_of_length_le (Nat.le_of_eq (List.length_drop ..))]
    · rw [Nat.min_eq_right hle]
      simp [List.take_of_length_le hle,List.drop_of_length_le hle]
  · have hlen:(xs.take k.toNat++y::xs.drop k.toNat).length=xs.length+1:=by
      rw [List.length_append,List.length_cons,List.length_take,List.length_drop]
      omega
    rw [hlen,sizeLine_eq]
    omega
end
end L2
set_option Elab.async false
set_option linter.all false
set_option maxRecDepth 100000
namespace Gc
end Gc
set_option Elab.async false
set_option linter.all false
set_option maxRecDepth 100000
namespace L2
open PySem PySem.Spec PyProof.Rows
end L2
set_option Elab.async false
set_option linter.all false
set_option maxRecDepth 100000
namespace L2
open PySem PySem.Spec PyProof.Rows
theorem ints_of_vals:∀ (ns:List Int) (us:List Value),Vals (ns.map V.int) us→IntsAre us ns
  | [],_,r=>by cases r; exact .nil
  | n::ns,_,r=>by
    cases r with
    | cons r1 r2 =>
      obtain ⟨t,rfl⟩:=r1
      exact .cons n t (ints_of_vals ns _ r2)
theorem vals_of_ints:∀ {us:List Value} {ns:List Int},IntsAre us ns→Vals (ns.map V.int) us
  | _,_,.nil=>.nil
  | _,_,.cons n t r=>.cons ⟨t,rfl⟩ (vals_of_ints r)
theorem call_sortedI {X:Cx}:CallR X (.builtin "sorted") (fun xs H Q=>∃ l ns,xs=[.ref l]∧H l=some (.lst (ns.map V.int))∧ns.length < 64 ∧
    ∀ (ns':List Int) q,ns'.Perm ns→ns'.Pairwise (·≤·)→H q=none→Q (.ref q) (upd H q (.lst (ns'.map V.int)))):=by
  intro pins s σ H xs us Q I r h
  obtain ⟨l,ns,rfl,hl,h64,q⟩:=h
  obtain ⟨u,rfl,ru⟩:=vals1 r
  cases ru
  obtain ⟨z,its,n,rv,h1⟩:=I.hok _ _ hl
  have hlen:its.length=ns.length:=by
    have:=rv.length
    rw [List.length_map] at this
    exact this.symm
  refine sorted_ints (vs:=its) ⟨_,h1,rfl,n,rfl⟩ (ints_of_vals ns its rv) (by omega) fun out ns' a1 a2 a3=>?_
  obtain ⟨e,he⟩:=sortedAll_at s.heap its out
  refine ⟨.ref (s.heap.objs.size+1),_,I.laid (h':=sortedAll s.heap its out) (t':=s.toks) (fun _ _ w=>sortedAll_old w) (Nat.le_succ _) (show ObjOk X.prog X.w _ _ _ (.lst (ns'.map V.int)) from ⟨?_,out.toList,e,vals_of_ints a1,by simpa using he⟩),rfl,q ns' _ a2 a3 (I.hok.fresh (Nat.le_succ _))⟩
  rw [List.length_map,a2.length_eq,sizeLine_eq]
  omega
end L2
set_option Elab.async false
set_option linter.all false
set_option maxRecDepth 100000
namespace L2
open PySem PySem.Spec PyProof.Rows
inductive Tr (α:Type) where
  | ret (a:α)
  | draw (n:Int) (k:Int→Tr α)
  | fail
namespace Tr
variable {α β γ:Type}
noncomputable def bind:Tr α→(α→Tr β)→Tr β
  | .ret a,f=>f a
  | .draw n k,f=>.draw n fun r=>(k r).bind f
  | .fail,_=>.fail
@[simp] theorem ret_bind (a:α) (f:α→Tr β):(Tr.ret a).bind f=f a:=rfl
@[simp] theorem draw_bind (n:Int) (k:Int→Tr α) (f:α→Tr β):(Tr.draw n k).bind f=.draw n fun r=>(k r).bind f:=rfl
@[simp] theorem fail_bind (f:α→Tr β):(Tr.fail:Tr α).bind f=.fail:=rfl
@[simp] theorem bind_assoc:∀ (t:Tr α) (f:α→Tr β) (g:β→Tr γ),(t.bind f).bind g=t.bind fun a=>(f a).bind g
  | .ret a,f,g=>rfl
  | .draw n k,f,g=>by simp only [draw_bind]; congr 1; funext r; exact bind_assoc (k r) f g
  | .fail,f,g=>rfl
noncomputable def of:Option α→Tr α
  | some a=>.ret a
  | none=>.fail
@[simp] theorem of_some (a:α):Tr.of (some a)=.ret a:=rfl
@[simp] theorem of_none:Tr.of (none:Option α)=.fail:=rfl
noncomputable def ok:Tr α→Nat→(Nat→α→Prop)→Prop
  | .ret a,m,Q=>Q m a
  | .draw n k,m,Q=>m < 400000∧0 < n∧n < 1073741824∧∀ r,0≤r→r < n→(k r).ok (m+1) Q
  | .fail,_,_=>False
theorem ok_mono:∀ {t:Tr α} {m:Nat} {Q Q':Nat→α→Prop},t.ok m Q→(∀ m a,Q m a→Q' m a)→t.ok m Q'
  | .ret a,m,_,_,h,hq=>hq m a h
  | .draw n k,m,_,_,⟨h1,h2,h3,h⟩,hq=>⟨h1,h2,h3,fun r h0 h1=>ok_mono (h r h0 h1) hq⟩
theorem ok_bind:∀ {t:Tr α} {f:α→Tr β} {m:Nat} {Q:Nat→β→Prop},(t.bind f).ok m Q ↔ t.ok m fun m' a=>(f a).ok m' Q
  | .ret a,f,m,Q=>Iff.rfl
  | .draw n k,f,m,Q=>by
    show (_∧_∧_∧∀ r,_) ↔ (_∧_∧_∧∀ r,_)
    refine and_congr_right fun _=>and_congr_right fun _=>and_congr_right fun _=>forall_congr' fun r=>forall_congr' fun _=>forall_congr' fun _=>ok_bind
  | .fail,f,m,Q=>Iff.rfl
theorem ok_of {o:Option α} {m:Nat} {Q:Nat→α→Prop} (h:(Tr.of o).ok m Q):∃ a,o=some a∧Q m a:=by
  cases o with
  | none=>exact h.elim
  | some a=>exact ⟨a,rfl,h⟩
noncomputable def all:Tr α→Nat→(α→Prop)→Prop
  | .ret a,_,P=>P a
  | .draw w k,n+1,P=>0 < w∧w < 1073741824∧∀ r,0≤r→r < w→(k r).all n P
  | .draw _ _,0,_=>False
  | .fail,_,_=>False
theorem all_ok:∀ {t:Tr α} {n m:Nat} {P:α→Prop},t.all n P→m+n≤400000→t.ok m fun m' a=>m'≤m+n∧P a
  | .ret a,n,m,P,h,hm=>⟨by omega,h⟩
  | .draw w k,n+1,m,P,⟨h1,h2,h⟩,hm=>⟨by omega,h1,h2,fun r a b=>ok_mono (all_ok (h r a b) (by omega)) fun m' x hz0=>by
    obtain ⟨p,q⟩:=hz0
    exact ⟨by omega,q⟩⟩
theorem all_mono:∀ {t:Tr α} {n n':Nat} {P P':α→Prop},t.all n P→n≤n'→(∀ a,P a→P' a)→t.all n' P'
  | .ret a,n,n',P,P',h,hn,hp=>hp a h
  | .draw w k,n+1,n'+1,P,P',⟨h1,h2,h⟩,hn,hp=>⟨h1,h2,fun r a b=>all_mono (h r a b) (by omega) hp⟩
  | .draw w k,n+1,0,P,P',h,hn,hp=>by omega
theorem all_bind:∀ {t:Tr α} {f:α→Tr β} {n n':Nat} {P:α→Prop} {P':β→Prop},t.all n P→(∀ a,P a→(f a).all n' P')→(t.bind f).all (n+n') P'
  | .ret a,f,n,n',P,P',h,hf=>all_mono (hf a h) (by omega) fun _ x=>x
  | .draw w k,f,n+1,n',P,P',⟨h1,h2,h⟩,hf=>by
    have e:n+1+n'=(n+n')+1:=by omega
    rw [e]
    exact ⟨h1,h2,fun r a b=>all_bind (h r a b) hf⟩
end Tr
noncomputable abbrev Sub (G H:Hp):Prop:=∀ b o,G b=some o→H b=some o
structure Pk where
  is:HO→Hp→Nat→Prop
  mono:∀ {o:HO} {G G':Hp} {m:Nat},Sub G G'→is o G m→is o G' m
structure Wd (PK:Pk) (pa:Addr) (m:Nat) (G H:Hp):Prop where
  sub:Sub G H
  gpa:G pa=none
  pen:∃ o,H pa=some o∧PK.is o G m
structure Stp (pa:Addr) (G H G' H':Hp):Prop where
  gs:Sub G G'
  gn:∀ b o,G' b=some o→G b=some o∨H b=none
  hk:∀ b o,H b=some o→b≠pa→H' b=some o
theorem Stp.refl {pa:Addr} {G H:Hp}:Stp pa G H G H:=⟨fun _ _ h=>h,fun _ _ h=>.inl h,fun _ _ h _=>h⟩
theorem Stp.trans {pa:Addr} {G H G1 H1 G2 H2:Hp} (a:Stp pa G H G1 H1) (b:Stp pa G1 H1 G2 H2) (hp:∃ o,H1 pa=some o):Stp pa G H G2 H2:=by
  refine ⟨fun c o h=>b.gs c o (a.gs c o h),fun c o h=>?_,fun c o h n=>b.hk c o (a.hk c o h n) n⟩
  rcases b.gn c o h with z | z
  · exact a.gn c o z
  · refine .inr ?_
    cases e:H c with
    | none=>rfl
    | some u =>
      by_cases hc:c=pa
      · subst hc
        obtain ⟨o',z'⟩:=hp
        rw [z'] at z; cases z
      · rw [a.hk c u e hc] at z; cases z
section
variable {PK:Pk} {pa:Addr} {m:Nat} {G H:Hp}
theorem Wd.some (w:Wd PK pa m G H):∃ o,H pa=some o:=let ⟨o,h,_⟩:=w.pen; ⟨o,h⟩
theorem Wd.ne (w:Wd PK pa m G H) {p:Addr} (hp:H p=none):pa≠p:=fun e=>by
  obtain ⟨o,h⟩:=w.some
  rw [e,hp] at h; cases h
theorem Sub.new {p:Addr} {o:HO} (hp:G p=none):Sub G (upd G p o):=fun b u h=>by rw [upd_ne (ne_of_none h hp)]; exact h
theorem Wd.gnone (w:Wd PK pa m G H) {p:Addr} (hp:H p=none):G p=none:=by
  cases e:G p with
  | none=>rfl
  | some o=>rw [w.sub p o e] at hp; cases hp
theorem Sub.upd2 {p:Addr} {o:HO} (s:Sub G H):Sub (upd G p o) (upd H p o):=fun b u h=>by
  by_cases e:b=p
  · subst e; rw [upd_same] at h ⊢; exact h
  · rw [upd_ne e] at h ⊢; exact s b u h
theorem Wd.new (w:Wd PK pa m G H) {p:Addr} {o:HO} (hp:H p=none):Wd PK pa m (upd G p o) (upd H p o)∧Stp pa G H (upd G p o) (upd H p o):=by
  have hg:=w.gnone hp
  have hne:=w.ne hp
  refine ⟨⟨w.sub.upd2,by rw [upd_ne hne]; exact w.gpa,?_⟩,⟨Sub.new hg,fun b u h=>?_,fun b u h _=>by rw [upd_ne (ne_of_none h hp)]; exact h⟩⟩
  · obtain ⟨u,h,q⟩:=w.pen
    exact ⟨u,by rw [upd_ne hne]; exact h,PK.mono (Sub.new hg) q⟩
  · by_cases e:b=p
    · subst e; exact .inr hp
    · rw [upd_ne e] at h; exact .inl h
theorem Wd.own (w:Wd PK pa m G H) {p:Addr} {o:HO} (hp:H p=none):Wd PK pa m G (upd H p o)∧Stp pa G H G (upd H p o):=by
  have hne:=w.ne hp
  refine ⟨⟨fun b u h=>by rw [upd_ne (ne_of_none (w.sub b u h) hp)]; exact w.sub b u h,w.gpa,?_⟩,⟨fun _ _ h=>h,fun _ _ h=>.inl h,fun b u h _=>by rw [upd_ne (ne_of_none h hp)]; exact h⟩⟩
  obtain ⟨u,h,q⟩:=w.pen
  exact ⟨u,by rw [upd_ne hne]; exact h,q⟩
theorem Wd.freeze (w:Wd PK pa m G H) {p:Addr} {o:HO} (hp:H p=Option.some o) (hg:G p=none) (hne:pa≠p):Wd PK pa m (upd G p o) H:=by
  refine ⟨fun b u h=>?_,by rw [upd_ne hne]; exact w.gpa,?_⟩
  · by_cases e:b=p
    · subst e; rw [upd_same] at h; rw [hp]; exact h
    · rw [upd_ne e] at h; exact w.sub b u h
  · obtain ⟨u,h,q⟩:=w.pen
    exact ⟨u,h,PK.mono (Sub.new hg) q⟩

noncomputable def Kn (PK:Pk) (pa:Addr) (m:Nat) (G H:Hp) (x:PyData) (Q:VK):Prop:=∀ v G' H',Stp pa G H G' H'→Wd PK pa m G' H'→Dn G' v x→Q v H'
variable {x:PyData} {Q:VK} {v:V} {vs:List V} {ds:List PyData} {p:Addr}
theorem Kn.here (k:Kn PK pa m G H x Q) (w:Wd PK pa m G H) (d:Dn G v x):Q v H:=k v G H .refl w d
theorem Kn.tup (k:Kn PK pa m G H (.tuple ds) Q) (w:Wd PK pa m G H) (d:DnAll G vs ds) (hp:H p=none):Q (.ref p) (upd H p (.tup vs)):=by
  obtain ⟨w1,s1⟩:=w.new (o:=.tup vs) hp
  exact k _ _ _ s1 w1 (.tup upd_same (DnAll.mono s1.gs d))
theorem Kn.lst (k:Kn PK pa m G H (.list ds) Q) (w:Wd PK pa m G H) (d:DnAll G vs ds) (hp:H p=none):Q (.ref p) (upd H p (.lst vs)):=by
  obtain ⟨w1,s1⟩:=w.new (o:=.lst vs) hp
  exact k _ _ _ s1 w1 (.lst upd_same (DnAll.mono s1.gs d))
theorem Kn.later {G1 H1:Hp} (k:Kn PK pa m G H x Q) (s:Stp pa G H G1 H1) (hp:∃ o,H1 pa=Option.some o):Kn PK pa m G1 H1 x Q:=fun v G' H' s' w d=>k v G' H' (s.trans s' hp) w d
end
inductive Sl where
  | un | d (x:PyData) | own (xs:List PyData) | pen
inductive SlOk (pa:Addr) (H₀ G H:Hp):Option V→Sl→Prop
  | un {o:Option V}:SlOk pa H₀ G H o .un
  | d {v:V} {x:PyData}:Dn G v x→SlOk pa H₀ G H (some v) (.d x)
  | own {p:Addr} {vs:List V} {xs:List PyData}:H p=some (.lst vs)→G p=none→H₀ p=none→DnAll G vs xs→SlOk pa H₀ G H (some (.ref p)) (.own xs)
  | pen:SlOk pa H₀ G H (some (.ref pa)) .pen
structure Rl (PK:Pk) (pa:Addr) (G₀ H₀:Hp) (m:Nat) (σ:St) (ρ:List Sl) (G H:Hp):Prop where
  wd:Wd PK pa m G H
  st:Stp pa G₀ H₀ G H
  p0:∃ o,H₀ pa=some o
  sl:∀ (i:Nat) (s:Sl),ρ[i]?=some s→∃ o,σ[i]?=some o∧SlOk pa H₀ G H o s
  len:ρ.length=σ.length
  dj:∀ (i j:Nat) (xs ys:List PyData),i≠j→ρ[i]?=some (.own xs)→ρ[j]?=some (.own ys)→σ[i]?≠σ[j]?
section
variable {PK:Pk} {pa:Addr} {G₀ H₀ G H:Hp} {m:Nat} {σ:St} {ρ:List Sl}
theorem SlOk.step {G' H':Hp} {o:Option V} {s:Sl} (k:SlOk pa H₀ G H o s) (hp0:∃ o,H₀ pa=some o) (st:Stp pa G H G' H'):SlOk pa H₀ G' H' o s:=by
  cases k with
  | un=>exact .un
  | d h=>exact .d (h.mono st.gs)
  | pen=>exact .pen
  | @own p vs xs h1 h2 h3 h4 =>
    have hne:p≠pa:=fun e=>by
      obtain ⟨u,hu⟩:=hp0
      rw [← e,h3] at hu; cases hu
    refine .own (st.hk _ _ h1 hne) ?_ h3 (DnAll.mono st.gs h4)
    cases e:G' p with
    | none=>rfl
    | some u =>
      rcases st.gn p u e with z | z
      · rw [h2] at z; cases z
      · rw [h1] at z; cases z
theorem Rl.step {G' H':Hp} {m':Nat} (r:Rl PK pa G₀ H₀ m σ ρ G H) (s:Stp pa G H G' H') (w:Wd PK pa m' G' H'):Rl PK pa G₀ H₀ m' σ ρ G' H' :=
  ⟨w,r.st.trans s r.wd.some,r.p0,fun i sl h=>let ⟨o,h1,h2⟩:=r.sl i sl h; ⟨o,h1,h2.step r.p0 s⟩,r.len,r.dj⟩
theorem Rl.set (r:Rl PK pa G₀ H₀ m σ ρ G H) {v:V} {x:PyData} (d:Dn G v x) (k:Nat):Rl PK pa G₀ H₀ m (σ.set k (some v)) (ρ.set k (.d x)) G H:=by
  refine ⟨r.wd,r.st,r.p0,fun i s h=>?_,by rw [List.length_set,List.length_set]; exact r.len,fun i j xs ys hij h1 h2=>?_⟩
  · by_cases e:k=i
    · subst e
      have hl:k < ρ.length:=by
        have:=(List.getElem?_eq_some_iff.mp h).1
        rwa [List.length_set] at this
      rw [List.getElem?_set_self hl] at h
      cases h
      exact ⟨_,List.getElem?_set_self (by rw [← r.len]; exact hl),.d d⟩
    · rw [List.getElem?_set_ne e] at h ⊢
      exact r.sl i s h
  · have hi:k≠i:=fun e=>by
      subst e
      have hl:k < ρ.length:=by
        have:=(List.getElem?_eq_some_iff.mp h1).1
        rwa [List.length_set] at this
      rw [List.getElem?_set_self hl] at h1; cases h1
    have hj:k≠j:=fun e=>by
      subst e
      have hl:k < ρ.length:=by
        have:=(List.getElem?_eq_some_iff.mp h2).1
        rwa [List.length_set] at this
      rw [List.getElem?_set_self hl] at h2; cases h2
    rw [List.getElem?_set_ne hi] at h1 ⊢
    rw [List.getElem?_set_ne hj] at h2 ⊢
    exact r.dj i j xs ys hij h1 h2
theorem Rl.setO (r:Rl PK pa G₀ H₀ m σ ρ G H) {p:Addr} {vs:List V} {xs:List PyData} (h1:H p=some (.lst vs)) (h2:G p=none) (h3:H₀ p=none) (h4:DnAll G vs xs)
    (hd:∀ (i:Nat) (ys:List PyData),ρ[i]?=some (.own ys)→σ[i]?≠some (some (.ref p))) (k:Nat):Rl PK pa G₀ H₀ m (σ.set k (some (.ref p))) (ρ.set k (.own xs)) G H:=by
  have up:∀ {i:Nat} {s:Sl},(ρ.set k (.own xs))[i]?=some s→i=k→s=.own xs∧(σ.set k (some (V.ref p)))[i]?=some (some (.ref p)):=fun {i s} h e=>by
    subst e
    have hl:i < ρ.length:=by
      have:=(List.getElem?_eq_some_iff.mp h).1
      rwa [List.length_set] at this
    rw [List.getElem?_set_self hl] at h
    cases h
    exact ⟨rfl,List.getElem?_set_self (by rw [← r.len]; exact hl)⟩
  refine ⟨r.wd,r.st,r.p0,fun i s h=>?_,by rw [List.length_set,List.length_set]; exact r.len,fun i j ys zs hij e1 e2=>?_⟩
  · by_cases e:i=k
    · obtain ⟨e1,e2⟩:=up h e
      subst e1
      exact ⟨_,e2,.own h1 h2 h3 h4⟩
    · rw [List.getElem?_set_ne (Ne.symm e)] at h ⊢
      exact r.sl i s h
  · by_cases ei:i=k
    · have q:=(up e1 ei).2
      have hj:k≠j:=fun e=>hij (ei.trans e)
      rw [q]
      rw [List.getElem?_set_ne hj] at e2 ⊢
      exact fun z=>hd j zs e2 z.symm
    · rw [List.getElem?_set_ne (Ne.symm ei)] at e1 ⊢
      by_cases ej:j=k
      · rw [(up e2 ej).2]
        exact hd i ys e1
      · rw [List.getElem?_set_ne (Ne.symm ej)] at e2 ⊢
        exact r.dj i j ys zs hij e1 e2
theorem Rl.h0 (r:Rl PK pa G₀ H₀ m σ ρ G H) {p:Addr} (hp:H p=none):H₀ p=none:=by
  cases e:H₀ p with
  | none=>rfl
  | some u =>
    by_cases hc:p=pa
    · subst hc
      obtain ⟨o,h⟩:=r.wd.some
      rw [hp] at h; cases h
    · rw [r.st.hk p u e hc] at hp; cases hp
theorem Rl.apart (r:Rl PK pa G₀ H₀ m σ ρ G H) {p:Addr} (hp:H p=none) (i:Nat) (ys:List PyData) (h:ρ[i]?=some (.own ys)):σ[i]?≠some (some (.ref p)):=fun e=>by
  obtain ⟨o,h1,h2⟩:=r.sl i _ h
  rw [e] at h1
  cases h1
  cases h2 with
  | own a _ _ _=>rw [hp] at a; cases a
theorem Rl.change (r:Rl PK pa G₀ H₀ m σ ρ G H) {k:Nat} {xs ys:List PyData} {p:Addr} {ws:List V} (hk:ρ[k]?=some (.own xs)) (hσ:σ[k]?=some (some (.ref p))) (d:DnAll G ws ys) :
    Rl PK pa G₀ H₀ m σ (ρ.set k (.own ys)) G (upd H p (.lst ws)):=by
  obtain ⟨o,h1,h2⟩:=r.sl k _ hk
  rw [hσ] at h1
  cases h1
  cases h2 with
  | @own _ vs _ a1 a2 a3 a4 =>
    have hne:pa≠p:=fun e=>by
      obtain ⟨u,hu⟩:=r.p0
      rw [e,a3] at hu; cases hu
    have hl:k < ρ.length:=(List.getElem?_eq_some_iff.mp hk).1
    refine ⟨⟨fun b o h=>?_,r.wd.gpa,?_⟩,⟨r.st.gs,r.st.gn,fun b o h hb=>?_⟩,r.p0,fun i s h=>?_,by rw [List.length_set]; exact r.len,fun i j us ws hij e1 e2=>?_⟩
    · rw [upd_ne (fun e=>by subst e; rw [a2] at h; cases h)]
      exact r.wd.sub b o h
    · obtain ⟨u,h,q⟩:=r.wd.pen
      exact ⟨u,by rw [upd_ne hne]; exact h,q⟩
    · rw [upd_ne (fun e=>by subst e; rw [a3] at h; cases h)]
      exact r.st.hk b o h hb
    · by_cases e:k=i
      · subst e
        rw [List.getElem?_set_self hl] at h
        cases h
        exact ⟨_,hσ,.own upd_same a2 a3 d⟩
      · rw [List.getElem?_set_ne e] at h
        obtain ⟨o,q1,q2⟩:=r.sl i s h
        refine ⟨o,q1,?_⟩
        cases q2 with
        | un=>exact .un
        | d z=>exact .d z
        | pen=>exact .pen
        | own b1 b2 b3 b4 =>
          refine .own ?_ b2 b3 b4
          rw [upd_ne]
          · exact b1
          · intro e2
            subst e2
            exact r.dj k i _ _ e hk h (by rw [hσ,q1])
    · by_cases ei:k=i
      · subst ei
        rw [List.getElem?_set_ne hij] at e2
        exact r.dj k j _ _ hij hk e2
      · rw [List.getElem?_set_ne ei] at e1
        by_cases ej:k=j
        · subst ej
          exact r.dj i k _ _ hij e1 hk
        · rw [List.getElem?_set_ne ej] at e2
          exact r.dj i j _ _ hij e1 e2
noncomputable def fz (k:Nat) (ρ:List Sl):List Sl:=match ρ[k]? with
  | some (.own xs)=>ρ.set k (.d (.list xs))
  | _=>ρ
theorem Rl.freeze (r:Rl PK pa G₀ H₀ m σ ρ G H) (k:Nat):∃ G',Sub G G'∧Rl PK pa G₀ H₀ m σ (fz k ρ) G' H:=by
  unfold fz
  split
  · rename_i xs hk
    obtain ⟨o,h1,h2⟩:=r.sl k _ hk
    cases h2 with
    | @own p vs _ a1 a2 a3 a4 =>
      have hne:pa≠p:=fun e=>by
        obtain ⟨u,hu⟩:=r.p0
        rw [e,a3] at hu; cases hu
      have hl:k < ρ.length:=(List.getElem?_eq_some_iff.mp hk).1
      have sb:Sub G (upd G p (.lst vs)):=Sub.new a2
      refine ⟨upd G p (.lst vs),sb,r.wd.freeze a1 a2 hne,⟨fun b o h=>sb b o (r.st.gs b o h),fun b o h=>?_,r.st.hk⟩,r.p0,fun i s h=>?_,by rw [List.length_set]; exact r.len,fun i j us ws hij e1 e2=>?_⟩
      · by_cases e:b=p
        · subst e; exact .inr a3
        · rw [upd_ne e] at h; exact r.st.gn b o h
      · by_cases e:k=i
        · subst e
          rw [List.getElem?_set_self hl] at h
          cases h
          exact ⟨_,h1,.d (.lst upd_same (DnAll.mono sb a4))⟩
        · rw [List.getElem?_set_ne e] at h
          obtain ⟨o,q1,q2⟩:=r.sl i s h
          refine ⟨o,q1,?_⟩
          cases q2 with
          | un=>exact .un
          | d z=>exact .d (z.mono sb)
          | pen=>exact .pen
          | own b1 b2 b3 b4 =>
            refine .own b1 ?_ b3 (DnAll.mono sb b4)
            rw [upd_ne]
            · exact b2
            · intro e2
              subst e2
              exact r.dj k i _ _ e hk h (by rw [h1,q1])
      · have hi:k≠i:=fun e=>by subst e; rw [List.getElem?_set_self hl] at e1; cases e1
        have hj:k≠j:=fun e=>by subst e; rw [List.getElem?_set_self hl] at e2; cases e2
        rw [List.getElem?_set_ne hi] at e1
        rw [List.getElem?_set_ne hj] at e2
        exact r.dj i j _ _ hij e1 e2
  · exact ⟨G,fun _ _ h=>h,r⟩
end
end L2
set_option Elab.async false
set_option linter.all false
set_option maxRecDepth 100000
namespace L2
open PySem PySem.Spec PyProof.Rows
noncomputable def TAe (PK:Pk) (i:List Sl→Tr PyData):TE:=fun σ H Q=>∃ pa G₀ H₀ m ρ G,Rl PK pa G₀ H₀ m σ ρ G H∧(i ρ).ok m fun m' x=>Kn PK pa m' G H x Q
noncomputable def TAt (PK:Pk) (i:List Sl→Tr Bool):TT:=fun σ H Q=>∃ pa G₀ H₀ m ρ G,Rl PK pa G₀ H₀ m σ ρ G H∧(i ρ).ok m fun m' b=>∀ G' H',Stp pa G H G' H'→Wd PK pa m' G' H'→Q b H'
noncomputable def TAd (PK:Pk) (i:List Sl→Tr (List PyData)):TA:=fun σ H Q=>∃ pa G₀ H₀ m ρ G,Rl PK pa G₀ H₀ m σ ρ G H∧(i ρ).ok m fun m' xs=>∀ vs G' H',Stp pa G H G' H'→Wd PK pa m' G' H'→DnAll G' vs xs→Q vs H'
noncomputable def Ko1 (PK:Pk) (pa:Addr) (m:Nat) (G H:Hp) (xs:List PyData) (Q:VK):Prop:=∀ p vs G' H',Stp pa G H G' H'→Wd PK pa m G' H'→H p=none→G' p=none→H' p=some (.lst vs)→DnAll G' vs xs→Q (.ref p) H'
noncomputable def TAo (PK:Pk) (i:List Sl→Tr (List PyData)):TE:=fun σ H Q=>∃ pa G₀ H₀ m ρ G,Rl PK pa G₀ H₀ m σ ρ G H∧(i ρ).ok m fun m' xs=>Ko1 PK pa m' G H xs Q
inductive ArOk (pa:Addr) (G:Hp):V→Sl→Prop
  | d {v:V} {x:PyData}:Dn G v x→ArOk pa G v (.d x)
  | pen:ArOk pa G (.ref pa) .pen
inductive ArsOk (pa:Addr) (G:Hp):List V→List Sl→Prop
  | nil:ArsOk pa G [] []
  | cons {v:V} {vs:List V} {s:Sl} {ss:List Sl}:ArOk pa G v s→ArsOk pa G vs ss→ArsOk pa G (v::vs) (s::ss)
theorem ArOk.mono {pa:Addr} {G G':Hp} {v:V} {s:Sl} (h:ArOk pa G v s) (e:Sub G G'):ArOk pa G' v s:=by
  cases h with
  | d z=>exact .d (z.mono e)
  | pen=>exact .pen
theorem ArsOk.mono {pa:Addr} {G G':Hp} (e:Sub G G') {vs:List V} {ss:List Sl} (h:ArsOk pa G vs ss):ArsOk pa G' vs ss:=by
  induction h with
  | nil=>exact .nil
  | cons h t ih=>exact .cons (h.mono e) ih
theorem ArsOk.length {pa:Addr} {G:Hp} {vs:List V} {ss:List Sl} (h:ArsOk pa G vs ss):vs.length=ss.length:=by
  induction h with
  | nil=>rfl
  | cons h t ih=>exact congrArg (·+1) ih
noncomputable def TAa (PK:Pk) (i:List Sl→Tr (List Sl)):TA:=fun σ H Q=>∃ pa G₀ H₀ m ρ G,Rl PK pa G₀ H₀ m σ ρ G H∧(i ρ).ok m fun m' as=>∀ vs G' H',Stp pa G H G' H'→Wd PK pa m' G' H'→ArsOk pa G' vs as→Q vs H'

inductive Re where
  | d (x:PyData) | own (xs:List PyData)
noncomputable def Re.val:Re→PyData
  | .d x=>x
  | .own xs=>.list xs
@[simp] theorem Re.val_d (x:PyData):(Re.d x).val=x:=rfl
@[simp] theorem Re.val_own (xs:List PyData):(Re.own xs).val=.list xs:=rfl
inductive Ou where
  | next (ρ:List Sl) | ret (r:Re) | brk (ρ:List Sl) | cont (ρ:List Sl)
noncomputable def ReOk (H₀ G H:Hp) (v:V):Re→Prop
  | .d x=>Dn G v x
  | .own xs=>∃ p vs,v=.ref p∧H p=some (.lst vs)∧G p=none∧H₀ p=none∧DnAll G vs xs
noncomputable def Kr (PK:Pk) (pa:Addr) (m:Nat) (G₀ H₀:Hp) (r:Re) (Q:VK):Prop:=∀ v G H,Stp pa G₀ H₀ G H→Wd PK pa m G H→ReOk H₀ G H v r→Q v H
noncomputable def Ko (PK:Pk) (pa:Addr) (G₀ H₀ Gs:Hp) (D:Ends) (m:Nat):Ou→Prop
  | .next ρ=>∀ σ G H,Sub Gs G→Rl PK pa G₀ H₀ m σ ρ G H→D.nx σ H
  | .ret r=>Kr PK pa m G₀ H₀ r D.rt
  | .brk ρ=>∀ σ G H,Sub Gs G→Rl PK pa G₀ H₀ m σ ρ G H→D.bk σ H
  | .cont ρ=>∀ σ G H,Sub Gs G→Rl PK pa G₀ H₀ m σ ρ G H→D.ct σ H
noncomputable def TAs (PK:Pk) (i:List Sl→Tr Ou):TS:=fun D σ H=>∃ pa G₀ H₀ m ρ G,Rl PK pa G₀ H₀ m σ ρ G H∧(i ρ).ok m (Ko PK pa G₀ H₀ G D)

theorem PE.imp {X:Cx} {e:Expr} {t t':TE} (h:PE X e t) (q:∀ σ H Q,t' σ H Q→t σ H Q):PE X e t':=fun pins s σ H Q I z=>h pins s σ H Q I (q σ H Q z)
theorem PT.imp {X:Cx} {e:Expr} {t t':TT} (h:PT X e t) (q:∀ σ H Q,t' σ H Q→t σ H Q):PT X e t':=fun pins s σ H Q I z=>h pins s σ H Q I (q σ H Q z)
theorem PW.imp {X:Cx} {e:Expr} {t t':TT} (h:PW X e t) (q:∀ σ H Q,t' σ H Q→t σ H Q):PW X e t':=fun wh pins s σ H Q I z=>h wh pins s σ H Q I (q σ H Q z)
theorem PA.imp {X:Cx} {e:List Expr} {t t':TA} (h:PA X e t) (q:∀ σ H Q,t' σ H Q→t σ H Q):PA X e t':=fun pos pins s σ H Q I z=>h pos pins s σ H Q I (q σ H Q z)
theorem PS.imp {X:Cx} {e:Stmt} {t t':TS} (h:PS X e t) (q:∀ D σ H,t' D σ H→t D σ H):PS X e t':=fun pins s σ H D I z=>h pins s σ H D I (q D σ H z)
theorem PSs.imp {X:Cx} {e:List Stmt} {t t':TS} (h:PSs X e t) (q:∀ D σ H,t' D σ H→t D σ H):PSs X e t':=fun pins s σ H D I z=>h pins s σ H D I (q D σ H z)

variable {PK:Pk} {X:Cx} {a b c e:Expr} {es:List Expr} {pos:Pos} {i j l:List Sl→Tr PyData}
theorem TAe.then {σ:St} {H:Hp} {β:Type} {k:PyData→Tr β} {Z:Nat→β→Prop} {Q:VK} {pa:Addr} {G₀ H₀ G:Hp} {m:Nat} {ρ:List Sl} (R:Rl PK pa G₀ H₀ m σ ρ G H) (h:((i ρ).bind k).ok m Z)
    (hq:∀ m1 x v G1 H1,Stp pa G H G1 H1→Wd PK pa m1 G1 H1→Rl PK pa G₀ H₀ m1 σ ρ G1 H1→Dn G1 v x→(k x).ok m1 Z→Q v H1):TAe PK i σ H Q:=by
  refine ⟨pa,G₀,H₀,m,ρ,G,R,Tr.ok_mono (Tr.ok_bind.mp h) fun m1 x hx v G1 H1 s1 w1 d1=>?_⟩
  exact hq m1 x v G1 H1 s1 w1 (R.step s1 w1) d1 hx

noncomputable def aVar (k:Nat):List Sl→Tr PyData:=fun ρ=>match ρ[k]? with
  | some (.d x)=>.ret x
  | _=>.fail
noncomputable def aC (d:PyData):List Sl→Tr PyData:=fun _=>.ret d
theorem ae_var {k:Nat} (h:PE X e (tVar k)):PE X e (TAe PK (aVar k)):=h.imp fun σ H Q hz0=>by
  obtain ⟨pa,G₀,H₀,m,ρ,G,R,q⟩:=hz0
  unfold aVar at q
  split at q
  · rename_i x hx
    obtain ⟨o,h1,h2⟩:=R.sl k _ hx
    cases h2 with
    | d z=>exact ⟨_,h1,Kn.here q R.wd z⟩
  · exact q.elim
theorem ae_c {v:V} {d:PyData} (h:PE X e (tC v)) (hd:∀ G,Dn G v d):PE X e (TAe PK (aC d)):=h.imp fun σ H Q hz0=>by
  obtain ⟨pa,G₀,H₀,m,ρ,G,R,q⟩:=hz0
  exact Kn.here q R.wd (hd G)
theorem ae_int {n:Int} {k pos}:PE X (.Constant (.int n) k pos) (TAe PK (aC (.int n))):=ae_c pe_int fun _=>.int n
theorem ae_bl {n:Bool} {k pos}:PE X (.Constant (.bool n) k pos) (TAe PK (aC (.bool n))):=ae_c pe_bl fun _=>.bl n
theorem ae_str {x:Str} {k pos}:PE X (.Constant (.str x) k pos) (TAe PK (aC (.str x))):=ae_c pe_str fun _=>.str x
theorem ae_gint {x:Str} {n:Int} (hg:Gl X x) (h:∃ t,X.mg x=some (.int n t)) (hd:(x == ("__debug__":Str))=false:=by decide):PE X (.Name x pos) (TAe PK (aC (.int n))):=ae_c (pe_gint hg h hd) fun _=>.int n

noncomputable def VOp2 (r:R2) (f:PyData→PyData→Option PyData):Prop:=∀ (PK:Pk) (pa:Addr) (m:Nat) (G H:Hp) (x y:V) (dx dy dz:PyData) (Q:VK),Wd PK pa m G H→Dn G x dx→Dn G y dy→f dx dy=some dz→Kn PK pa m G H dz Q→r x y H Q
noncomputable def aBin (f:PyData→PyData→Option PyData) (i j:List Sl→Tr PyData):List Sl→Tr PyData:=fun ρ=>(i ρ).bind fun x=>(j ρ).bind fun y=>Tr.of (f x y)
theorem aBin_read {r:R2} {f:PyData→PyData→Option PyData} (hv:VOp2 r f):∀ σ H Q,TAe PK (aBin f i j) σ H Q→tOp r (TAe PK i) (TAe PK j) σ H Q:=by
  rintro σ H Q ⟨pa,G₀,H₀,m,ρ,G,R,q⟩
  refine TAe.then R q fun m1 x v G1 H1 s1 w1 R1 d1 q1=>?_
  refine TAe.then R1 q1 fun m2 y u G2 H2 s2 w2 R2 d2 q2=>?_
  obtain ⟨z,hz,k⟩:=Tr.ok_of q2
  exact hv PK pa m2 G2 H2 v u x y z Q w2 (d1.mono s2.gs) d2 hz (Kn.later k (s1.trans s2 w1.some) w2.some)
theorem ae_op {op:Operator} {r:R2} {f:PyData→PyData→Option PyData} (ho:OpR X (binaryOp op) r) (hv:VOp2 r f) (ha:PE X a (TAe PK i)) (hb:PE X b (TAe PK j)):PE X (.BinOp a op b pos) (TAe PK (aBin f i j)) :=
  (pe_op ho ha hb).imp (aBin_read hv)
theorem ae_cmp {op:CmpOp} {r:R2} {f:PyData→PyData→Option PyData} (ho:OpR X (compareOp op) r) (hv:VOp2 r f) (ha:PE X a (TAe PK i)) (hb:PE X b (TAe PK j)) (hm:behindInMarks op b=false):PE X (.Compare a [op] [b] pos) (TAe PK (aBin f i j)) :=
  (pe_cmpR ho ha hb hm).imp (aBin_read hv)
theorem ae_ix {r:R2} {f:PyData→PyData→Option PyData} (hr:IxR X r) (hv:VOp2 r f) (ha:PE X a (TAe PK i)) (hb:PE X b (TAe PK j)) (hs:PlainIx b):PE X (.Subscript a b pos) (TAe PK (aBin f i j)) :=
  (pe_ix hr ha hb hs).imp (aBin_read hv)
noncomputable def toB:PyData→Option Bool
  | .bool b=>some b
  | _=>none
@[simp] theorem toB_bool (b:Bool):toB (.bool b)=some b:=rfl
noncomputable def aTest (i:List Sl→Tr PyData):List Sl→Tr Bool:=fun ρ=>(i ρ).bind fun x=>Tr.of (toB x)
theorem aTest_read:∀ σ H Q,TAt PK (aTest i) σ H Q→tTest (TAe PK i) σ H Q:=by
  rintro σ H Q ⟨pa,G₀,H₀,m,ρ,G,R,q⟩
  refine TAe.then R q fun m1 x v G1 H1 s1 w1 R1 d1 q1=>?_
  obtain ⟨b,hb,k⟩:=Tr.ok_of q1
  cases d1 <;> simp only [toB] at hb <;> cases hb
  exact ⟨_,rfl,k G1 H1 s1 w1⟩
theorem tTest_mono {t t':TE} (h:∀ σ H Q,t' σ H Q→t σ H Q):∀ σ H Q,tTest t' σ H Q→tTest t σ H Q:=fun σ H Q z=>h σ H _ z
theorem at_cmp {op:CmpOp} {r:R2} {f:PyData→PyData→Option PyData} (ho:OpR X (compareOp op) r) (hv:VOp2 r f) (ha:PE X a (TAe PK i)) (hb:PE X b (TAe PK j)) (hm:behindInMarks op b=false):PT X (.Compare a [op] [b] pos) (TAt PK (aTest (aBin f i j))) :=
  (pt_cmpR ho ha hb hm).imp fun σ H Q z=>tTest_mono (aBin_read hv) σ H Q (aTest_read σ H Q z)
noncomputable def truD:PyData→Option Bool
  | .bool b=>some b
  | .int n=>some (n != 0)
  | .none=>some false
  | .list xs=>some (!xs.isEmpty)
  | .tuple xs=>some (!xs.isEmpty)
  | _=>none
noncomputable def aTru (i:List Sl→Tr PyData):List Sl→Tr Bool:=fun ρ=>(i ρ).bind fun x=>Tr.of (truD x)
theorem DnAll.isEmpty {H:Hp} {vs:List V} {ds:List PyData} (h:DnAll H vs ds):vs.isEmpty=ds.isEmpty:=by
  cases h <;> rfl
theorem at_tru (h:PE X e (TAe PK i)) (he:∀ whole,isTrue e X.env whole=(do let v ← whole; standAt e.pos; holding [v] (truthy v)):=by intro _; rfl):PT X e (TAt PK (aTru i)):=(pt_truth h he).imp fun σ H Q hz0=>by
  obtain ⟨pa,G₀,H₀,m,ρ,G,R,q⟩:=hz0
  refine TAe.then R q fun m1 x v G1 H1 s1 w1 R1 d1 q1=>?_
  obtain ⟨b,hb,k⟩:=Tr.ok_of q1
  have fin:=k G1 H1 s1 w1
  cases d1 with
  | non=>cases hb; exact ⟨_,rfl,fin⟩
  | bl b=>cases hb; exact ⟨_,rfl,fin⟩
  | int n=>cases hb; exact ⟨_,rfl,fin⟩
  | str _=>cases hb
  | tup h1 h2=>cases hb; exact ⟨_,.inr (.inl ⟨_,SqT.of (w1.sub _ _ h1),rfl⟩),by rw [h2.isEmpty]; exact fin⟩
  | lst h1 h2=>cases hb; exact ⟨_,.inl ⟨_,SqL.of (w1.sub _ _ h1),rfl⟩,by rw [h2.isEmpty]; exact fin⟩
  | dct _ _=>cases hb

noncomputable def aAnd (i j:List Sl→Tr Bool):List Sl→Tr Bool:=fun ρ=>(i ρ).bind fun x=>if x=true then j ρ else .ret false
noncomputable def aOr (i j:List Sl→Tr Bool):List Sl→Tr Bool:=fun ρ=>(i ρ).bind fun x=>if x=true then .ret true else j ρ
noncomputable def aNot (i:List Sl→Tr Bool):List Sl→Tr Bool:=fun ρ=>(i ρ).bind fun x=>.ret (!x)
variable {p q:List Sl→Tr Bool} {rest:List Expr}
theorem TAt.then {σ:St} {H:Hp} {β:Type} {k:Bool→Tr β} {Z:Nat→β→Prop} {Q:Bool→Hp→Prop} {pa:Addr} {G₀ H₀ G:Hp} {m:Nat} {ρ:List Sl} (R:Rl PK pa G₀ H₀ m σ ρ G H) (h:((p ρ).bind k).ok m Z)
    (hq:∀ m1 x G1 H1,Stp pa G H G1 H1→Wd PK pa m1 G1 H1→Rl PK pa G₀ H₀ m1 σ ρ G1 H1→(k x).ok m1 Z→Q x H1):TAt PK p σ H Q:=by
  refine ⟨pa,G₀,H₀,m,ρ,G,R,Tr.ok_mono (Tr.ok_bind.mp h) fun m1 x hx G1 H1 s1 w1=>?_⟩
  exact hq m1 x G1 H1 s1 w1 (R.step s1 w1) hx
theorem at_later {G₀ H₀ G H G1 H1:Hp} {m:Nat} {σ:St} {ρ:List Sl} {pa:Addr} {Q:Bool→Hp→Prop} (R1:Rl PK pa G₀ H₀ m σ ρ G1 H1) (s1:Stp pa G H G1 H1) (h:(q ρ).ok m fun m' b=>∀ G' H',Stp pa G H G' H'→Wd PK pa m' G' H'→Q b H'):TAt PK q σ H1 Q :=
  ⟨pa,G₀,H₀,m,ρ,G1,R1,Tr.ok_mono h fun m2 b k G2 H2 s2 w2=>k G2 H2 (s1.trans s2 R1.wd.some) w2⟩
theorem ae_later {G₀ H₀ G H G1 H1:Hp} {m:Nat} {σ:St} {ρ:List Sl} {pa:Addr} {Q:VK} (R1:Rl PK pa G₀ H₀ m σ ρ G1 H1) (s1:Stp pa G H G1 H1) (h:(i ρ).ok m fun m' x=>Kn PK pa m' G H x Q):TAe PK i σ H1 Q :=
  ⟨pa,G₀,H₀,m,ρ,G1,R1,Tr.ok_mono h fun m2 b k=>Kn.later k s1 R1.wd.some⟩
theorem aw_and1 (ha:PT X a (TAt PK p)):PW X (.BoolOp .And [a] pos) (TAt PK p):=pw_and1 ha
theorem aw_or1 (ha:PT X a (TAt PK p)):PW X (.BoolOp .Or [a] pos) (TAt PK p):=pw_or1 ha
theorem aw_and (ha:PT X a (TAt PK p)) (hb:PW X (.BoolOp .And (b::rest) pos) (TAt PK q)):PW X (.BoolOp .And (a::b::rest) pos) (TAt PK (aAnd p q)):=(pw_and ha hb).imp fun σ H Q hz0=>by
  obtain ⟨pa,G₀,H₀,m,ρ,G,R,z⟩:=hz0
  refine TAt.then R z fun m1 x G1 H1 s1 w1 R1 q1=>?_
  cases x with
  | true=>rw [if_pos rfl] at q1 ⊢; exact at_later R1 s1 q1
  | false=>rw [if_neg Bool.false_ne_true] at q1 ⊢; exact q1 G1 H1 s1 w1
theorem aw_or (ha:PT X a (TAt PK p)) (hb:PW X (.BoolOp .Or (b::rest) pos) (TAt PK q)):PW X (.BoolOp .Or (a::b::rest) pos) (TAt PK (aOr p q)):=(pw_or ha hb).imp fun σ H Q hz0=>by
  obtain ⟨pa,G₀,H₀,m,ρ,G,R,z⟩:=hz0
  refine TAt.then R z fun m1 x G1 H1 s1 w1 R1 q1=>?_
  cases x with
  | true=>rw [if_pos rfl] at q1 ⊢; exact q1 G1 H1 s1 w1
  | false=>rw [if_neg Bool.false_ne_true] at q1 ⊢; exact at_later R1 s1 q1
theorem at_w (h:PW X e (TAt PK p)):PT X e (TAt PK p):=h.pt
theorem at_not (ha:PT X a (TAt PK p)):PT X (.UnaryOp .Not a pos) (TAt PK (aNot p)):=(pt_not ha).imp fun σ H Q hz0=>by
  obtain ⟨pa,G₀,H₀,m,ρ,G,R,z⟩:=hz0
  refine TAt.then R z fun m1 x G1 H1 s1 w1 R1 q1=>?_
  exact q1 G1 H1 s1 w1
noncomputable def aAndV (i j:List Sl→Tr PyData):List Sl→Tr PyData:=fun ρ=>(aTest i ρ).bind fun x=>if x=true then j ρ else .ret (.bool false)
noncomputable def aOrV (i j:List Sl→Tr PyData):List Sl→Tr PyData:=fun ρ=>(aTest i ρ).bind fun x=>if x=true then .ret (.bool true) else j ρ
theorem TAe.thenB {σ:St} {H:Hp} {β:Type} {k:Bool→Tr β} {Z:Nat→β→Prop} {Q:VK} {pa:Addr} {G₀ H₀ G:Hp} {m:Nat} {ρ:List Sl} (R:Rl PK pa G₀ H₀ m σ ρ G H) (h:((aTest i ρ).bind k).ok m Z)
    (hq:∀ m1 c G1 H1,Stp pa G H G1 H1→Wd PK pa m1 G1 H1→Rl PK pa G₀ H₀ m1 σ ρ G1 H1→(k c).ok m1 Z→Q (.bl c) H1):TAe PK i σ H Q:=by
  unfold aTest at h
  rw [Tr.bind_assoc] at h
  refine TAe.then R h fun m1 x v G1 H1 s1 w1 R1 d1 q1=>?_
  rw [Tr.ok_bind] at q1
  obtain ⟨c,hb,q1⟩:=Tr.ok_of q1
  cases d1 <;> simp only [toB] at hb <;> cases hb
  exact hq m1 _ G1 H1 s1 w1 R1 q1
theorem ae_one {op} (h:PE X a (TAe PK i)):PE X (.BoolOp op [a] pos) (TAe PK i):=pe_one h
theorem ae_and (ha:PE X a (TAe PK i)) (hb:PE X (.BoolOp .And (b::rest) pos) (TAe PK j)):PE X (.BoolOp .And (a::b::rest) pos) (TAe PK (aAndV i j)):=(pe_and ha hb).imp fun σ H Q hz0=>by
  obtain ⟨pa,G₀,H₀,m,ρ,G,R,z⟩:=hz0
  refine TAe.thenB R z fun m1 x G1 H1 s1 w1 R1 q1=>⟨x,rfl,?_⟩
  cases x with
  | true=>rw [if_pos rfl] at q1 ⊢; exact ae_later R1 s1 q1
  | false=>rw [if_neg Bool.false_ne_true] at q1 ⊢; exact (Kn.later q1 s1 w1.some).here w1 (.bl false)
theorem ae_or (ha:PE X a (TAe PK i)) (hb:PE X (.BoolOp .Or (b::rest) pos) (TAe PK j)):PE X (.BoolOp .Or (a::b::rest) pos) (TAe PK (aOrV i j)):=(pe_or ha hb).imp fun σ H Q hz0=>by
  obtain ⟨pa,G₀,H₀,m,ρ,G,R,z⟩:=hz0
  refine TAe.thenB R z fun m1 x G1 H1 s1 w1 R1 q1=>⟨x,rfl,?_⟩
  cases x with
  | true=>rw [if_pos rfl] at q1 ⊢; exact (Kn.later q1 s1 w1.some).here w1 (.bl true)
  | false=>rw [if_neg Bool.false_ne_true] at q1 ⊢; exact ae_later R1 s1 q1
noncomputable def aIf (p:List Sl→Tr Bool) (i j:List Sl→Tr PyData):List Sl→Tr PyData:=fun ρ=>(p ρ).bind fun x=>if x=true then i ρ else j ρ
theorem ae_if (hc:PT X c (TAt PK p)) (ha:PE X a (TAe PK i)) (hb:PE X b (TAe PK j)):PE X (.IfExp c a b pos) (TAe PK (aIf p i j)):=(pe_ifExp hc ha hb).imp fun σ H Q hz0=>by
  obtain ⟨pa,G₀,H₀,m,ρ,G,R,z⟩:=hz0
  refine TAt.then R z fun m1 x G1 H1 s1 w1 R1 q1=>?_
  cases x with
  | true=>rw [if_pos rfl] at q1 ⊢; exact ae_later R1 s1 q1
  | false=>rw [if_neg Bool.false_ne_true] at q1 ⊢; exact ae_later R1 s1 q1

variable {is:List Sl→Tr (List PyData)}
noncomputable def aNil:List Sl→Tr (List PyData):=fun _=>.ret []
noncomputable def aCons (i:List Sl→Tr PyData) (is:List Sl→Tr (List PyData)):List Sl→Tr (List PyData):=fun ρ=>(i ρ).bind fun x=>(is ρ).bind fun xs=>.ret (x::xs)
theorem ad_nil:PA X [] (TAd PK aNil):=pa_nil.imp fun σ H Q hz0=>by
  obtain ⟨pa,G₀,H₀,m,ρ,G,R,z⟩:=hz0
  exact z [] G H .refl R.wd .nil
theorem TAd.then {σ:St} {H:Hp} {β:Type} {k:List PyData→Tr β} {Z:Nat→β→Prop} {Q:List V→Hp→Prop} {pa:Addr} {G₀ H₀ G:Hp} {m:Nat} {ρ:List Sl} (R:Rl PK pa G₀ H₀ m σ ρ G H) (h:((is ρ).bind k).ok m Z)
    (hq:∀ m1 xs vs G1 H1,Stp pa G H G1 H1→Wd PK pa m1 G1 H1→Rl PK pa G₀ H₀ m1 σ ρ G1 H1→DnAll G1 vs xs→(k xs).ok m1 Z→Q vs H1):TAd PK is σ H Q:=by
  refine ⟨pa,G₀,H₀,m,ρ,G,R,Tr.ok_mono (Tr.ok_bind.mp h) fun m1 x hx v G1 H1 s1 w1 d1=>?_⟩
  exact hq m1 x v G1 H1 s1 w1 (R.step s1 w1) d1 hx
theorem ad_cons (ha:PE X e (TAe PK i)) (hr:PA X es (TAd PK is)) (hs:starEach (e::es) X.env=(false,eval e X.env)::starEach es X.env:=by rfl):PA X (e::es) (TAd PK (aCons i is)):=(pa_cons ha hr hs).imp fun σ H Q hz0=>by
  obtain ⟨pa,G₀,H₀,m,ρ,G,R,z⟩:=hz0
  refine TAe.then R z fun m1 x v G1 H1 s1 w1 R1 d1 q1=>?_
  refine TAd.then R1 q1 fun m2 xs vs G2 H2 s2 w2 R2 d2 q2=>?_
  exact q2 _ _ _ (s1.trans s2 w1.some) w2 (.cons (d1.mono s2.gs) d2)
noncomputable def small (n:Nat):Bool:=decide (n≤sizeLine)
noncomputable def aTup (is:List Sl→Tr (List PyData)):List Sl→Tr PyData:=fun ρ=>(is ρ).bind fun xs=>if small xs.length=true then .ret (.tuple xs) else .fail
noncomputable def aLst (is:List Sl→Tr (List PyData)):List Sl→Tr PyData:=fun ρ=>(is ρ).bind fun xs=>.ret (.list xs)
noncomputable def aLo (is:List Sl→Tr (List PyData)):List Sl→Tr (List PyData):=fun ρ=>(is ρ).bind fun xs=>if small xs.length=true then .ret xs else .fail
theorem ok_if {α:Type} {c:Bool} {t:Tr α} {m:Nat} {Q:Nat→α→Prop} (h:(if c=true then t else .fail).ok m Q):c=true∧t.ok m Q:=by
  cases c with
  | true=>exact ⟨rfl,h⟩
  | false=>exact h.elim
theorem ae_tup {x1} (h:PA X es (TAd PK is)):PE X (.Tuple es x1 pos) (TAe PK (aTup is)):=(pe_tup h).imp fun σ H Q hz0=>by
  obtain ⟨pa,G₀,H₀,m,ρ,G,R,z⟩:=hz0
  refine TAd.then R z fun m1 xs vs G1 H1 s1 w1 R1 d1 q1=>?_
  obtain ⟨hs,k⟩:=ok_if q1
  exact ⟨by rw [d1.length]; exact of_decide_eq_true hs,fun p hp=>(Kn.later k s1 w1.some).tup w1 d1 hp⟩
theorem Ko1.new {pa:Addr} {m:Nat} {G H:Hp} {xs:List PyData} {vs:List V} {Q:VK} {p:Addr} (k:Ko1 PK pa m G H xs Q) (w:Wd PK pa m G H) (d:DnAll G vs xs) (hp:H p=none):Q (.ref p) (upd H p (.lst vs)):=by
  obtain ⟨w1,s1⟩:=w.own (o:=.lst vs) hp
  exact k p vs G _ s1 w1 hp (w.gnone hp) upd_same d
theorem Ko1.later {pa:Addr} {m:Nat} {G H G1 H1:Hp} {xs:List PyData} {Q:VK} (k:Ko1 PK pa m G H xs Q) (s:Stp pa G H G1 H1) (hp:∃ o,H1 pa=some o):Ko1 PK pa m G1 H1 xs Q:=fun p vs G' H' s' w' h1 h2 h3 h4=>by
  refine k p vs G' H' (s.trans s' hp) w' ?_ h2 h3 h4
  cases e:H p with
  | none=>rfl
  | some u =>
    by_cases hc:p=pa
    · subst hc
      obtain ⟨o,z⟩:=hp
      rw [h1] at z; cases z
    · rw [s.hk p u e hc] at h1; cases h1
theorem ao_lst (h:PA X es (TAd PK is)):PE X (.List es pos) (TAo PK (aLo is)):=(pe_lst h).imp fun σ H Q hz0=>by
  obtain ⟨pa,G₀,H₀,m,ρ,G,R,z⟩:=hz0
  refine TAd.then R z fun m1 xs vs G1 H1 s1 w1 R1 d1 q1=>?_
  obtain ⟨hs,k⟩:=ok_if q1
  exact ⟨by rw [d1.length]; exact of_decide_eq_true hs,fun p hp=>(Ko1.later k s1 w1.some).new w1 d1 hp⟩
theorem Ko1.of {pa:Addr} {m:Nat} {G H:Hp} {xs:List PyData} {Q:VK} (k:Kn PK pa m G H (.list xs) Q) (hp:∃ o,H pa=some o):Ko1 PK pa m G H xs Q:=fun p vs G' H' s w h1 h2 h3 h4=>by
  have hne:pa≠p:=fun e=>by
    obtain ⟨o,z⟩:=hp
    rw [e,h1] at z; cases z
  have sb:Sub G' (upd G' p (.lst vs)):=Sub.new h2
  refine k _ (upd G' p (.lst vs)) H' ⟨fun b o h=>sb b o (s.gs b o h),fun b o h=>?_,s.hk⟩ (w.freeze h3 h2 hne) (.lst upd_same (DnAll.mono sb h4))
  by_cases e:b=p
  · subst e; exact .inr h1
  · rw [upd_ne e] at h; exact s.gn b o h
theorem ae_o (h:PE X e (TAo PK is)):PE X e (TAe PK (aLst is)):=h.imp fun σ H Q hz0=>by
  obtain ⟨pa,G₀,H₀,m,ρ,G,R,z⟩:=hz0
  refine ⟨pa,G₀,H₀,m,ρ,G,R,Tr.ok_mono (Tr.ok_bind.mp z) fun m1 xs k=>Ko1.of k R.wd.some⟩

noncomputable def VCl (r:List V→Hp→VK→Prop) (f:List PyData→Option PyData):Prop:=∀ (PK:Pk) (pa:Addr) (m:Nat) (G H:Hp) (vs:List V) (ds:List PyData) (d:PyData) (Q:VK),Wd PK pa m G H→DnAll G vs ds→f ds=some d→Kn PK pa m G H d Q→r vs H Q
noncomputable def VClo (r:List V→Hp→VK→Prop) (f:List PyData→Option (List PyData)):Prop:=∀ (PK:Pk) (pa:Addr) (m:Nat) (G H:Hp) (vs:List V) (ds:List PyData) (d:List PyData) (Q:VK),Wd PK pa m G H→DnAll G vs ds→f ds=some d→Ko1 PK pa m G H d Q→r vs H Q
noncomputable def aCB (f:List PyData→Option PyData) (is:List Sl→Tr (List PyData)):List Sl→Tr PyData:=fun ρ=>(is ρ).bind fun xs=>Tr.of (f xs)
noncomputable def aCBo (f:List PyData→Option (List PyData)) (is:List Sl→Tr (List PyData)):List Sl→Tr (List PyData):=fun ρ=>(is ρ).bind fun xs=>Tr.of (f xs)
theorem aCB_read {r:List V→Hp→VK→Prop} {f:List PyData→Option PyData} (hv:VCl r f):∀ σ H Q,TAe PK (aCB f is) σ H Q→tCB r (TAd PK is) σ H Q:=by
  rintro σ H Q ⟨pa,G₀,H₀,m,ρ,G,R,z⟩
  refine TAd.then R z fun m1 xs vs G1 H1 s1 w1 R1 d1 q1=>?_
  obtain ⟨d,hd,k⟩:=Tr.ok_of q1
  exact hv PK pa m1 G1 H1 vs xs d Q w1 d1 hd (Kn.later k s1 w1.some)
theorem aCBo_read {r:List V→Hp→VK→Prop} {f:List PyData→Option (List PyData)} (hv:VClo r f):∀ σ H Q,TAo PK (aCBo f is) σ H Q→tCB r (TAd PK is) σ H Q:=by
  rintro σ H Q ⟨pa,G₀,H₀,m,ρ,G,R,z⟩
  refine TAd.then R z fun m1 xs vs G1 H1 s1 w1 R1 d1 q1=>?_
  obtain ⟨d,hd,k⟩:=Tr.ok_of q1
  exact hv PK pa m1 G1 H1 vs xs d Q w1 d1 hd (Ko1.later k s1 w1.some)
theorem ae_cb {t:TA} {r:List V→Hp→VK→Prop} {f:List PyData→Option PyData} (h:PE X e (tCB r (TAd PK is))) (hv:VCl r f):PE X e (TAe PK (aCB f is)):=h.imp (aCB_read hv)
theorem ao_cb {t:TA} {r:List V→Hp→VK→Prop} {f:List PyData→Option (List PyData)} (h:PE X e (tCB r (TAd PK is))) (hv:VClo r f):PE X e (TAo PK (aCBo f is)):=h.imp (aCBo_read hv)

variable {as:List Sl→Tr (List Sl)}
noncomputable def aaNil:List Sl→Tr (List Sl):=fun _=>.ret []
noncomputable def aaCons (i:List Sl→Tr PyData) (as:List Sl→Tr (List Sl)):List Sl→Tr (List Sl):=fun ρ=>(i ρ).bind fun x=>(as ρ).bind fun xs=>.ret (.d x::xs)
noncomputable def aaPen (k:Nat) (as:List Sl→Tr (List Sl)):List Sl→Tr (List Sl):=fun ρ=>match ρ[k]? with
  | some .pen=>(as ρ).bind fun xs=>.ret (.pen::xs)
  | _=>.fail
theorem aa_nil:PA X [] (TAa PK aaNil):=pa_nil.imp fun σ H Q hz0=>by
  obtain ⟨pa,G₀,H₀,m,ρ,G,R,z⟩:=hz0
  exact z [] G H .refl R.wd .nil
theorem TAa.then {σ:St} {H:Hp} {β:Type} {k:List Sl→Tr β} {Z:Nat→β→Prop} {Q:List V→Hp→Prop} {pa:Addr} {G₀ H₀ G:Hp} {m:Nat} {ρ:List Sl} (R:Rl PK pa G₀ H₀ m σ ρ G H) (h:((as ρ).bind k).ok m Z)
    (hq:∀ m1 xs vs G1 H1,Stp pa G H G1 H1→Wd PK pa m1 G1 H1→Rl PK pa G₀ H₀ m1 σ ρ G1 H1→ArsOk pa G1 vs xs→(k xs).ok m1 Z→Q vs H1):TAa PK as σ H Q:=by
  refine ⟨pa,G₀,H₀,m,ρ,G,R,Tr.ok_mono (Tr.ok_bind.mp h) fun m1 x hx v G1 H1 s1 w1 d1=>?_⟩
  exact hq m1 x v G1 H1 s1 w1 (R.step s1 w1) d1 hx
theorem aa_cons (ha:PE X e (TAe PK i)) (hr:PA X es (TAa PK as)) (hs:starEach (e::es) X.env=(false,eval e X.env)::starEach es X.env:=by rfl):PA X (e::es) (TAa PK (aaCons i as)):=(pa_cons ha hr hs).imp fun σ H Q hz0=>by
  obtain ⟨pa,G₀,H₀,m,ρ,G,R,z⟩:=hz0
  refine TAe.then R z fun m1 x v G1 H1 s1 w1 R1 d1 q1=>?_
  refine TAa.then R1 q1 fun m2 xs vs G2 H2 s2 w2 R2 d2 q2=>?_
  exact q2 _ _ _ (s1.trans s2 w1.some) w2 (.cons (.d (d1.mono s2.gs)) d2)
theorem aa_pen {k:Nat} (ha:PE X e (tVar k)) (hr:PA X es (TAa PK as)) (hs:starEach (e::es) X.env=(false,eval e X.env)::starEach es X.env:=by rfl):PA X (e::es) (TAa PK (aaPen k as)):=(pa_cons ha hr hs).imp fun σ H Q hz0=>by
  obtain ⟨pa,G₀,H₀,m,ρ,G,R,z⟩:=hz0
  unfold aaPen at z
  split at z
  · rename_i hk
    obtain ⟨o,h1,h2⟩:=R.sl k _ hk
    cases h2
    refine ⟨_,h1,?_⟩
    refine TAa.then R z fun m2 xs vs G2 H2 s2 w2 R2 d2 q2=>?_
    exact q2 _ _ _ s2 w2 (.cons .pen d2)
  · exact z.elim
noncomputable def aSp (PK:Pk) (n:Nat) (f:List Sl→Tr Re):Sp:=fun vs H Q _=>vs.length=n∧∃ pa m G as,Wd PK pa m G H∧ArsOk pa G vs as∧(f as).ok m fun m' r=>Kr PK pa m' G H r Q
noncomputable def aCall (f:List Sl→Tr Re) (as:List Sl→Tr (List Sl)):List Sl→Tr Re:=fun ρ=>(as ρ).bind f
noncomputable def aRe (f:List Sl→Tr Re):List Sl→Tr PyData:=fun ρ=>(f ρ).bind fun r=>.ret r.val
noncomputable def TAr (PK:Pk) (i:List Sl→Tr Re):TE:=fun σ H Q=>∃ pa G₀ H₀ m ρ G,Rl PK pa G₀ H₀ m σ ρ G H∧(i ρ).ok m fun m' r=>Kr PK pa m' G H r Q
theorem Kr.later {pa:Addr} {m:Nat} {G H G1 H1:Hp} {r:Re} {Q:VK} (k:Kr PK pa m G H r Q) (s:Stp pa G H G1 H1) (hp:∃ o,H1 pa=some o):Kr PK pa m G1 H1 r Q:=fun v G' H' s' w' d=>by
  refine k v G' H' (s.trans s' hp) w' ?_
  cases r with
  | d x=>exact d
  | own xs =>
    obtain ⟨p,vs,e,h1,h2,h3,h4⟩:=d
    refine ⟨p,vs,e,h1,h2,?_,h4⟩
    cases e:H p with
    | none=>rfl
    | some u =>
      by_cases hc:p=pa
      · subst hc
        obtain ⟨o,z⟩:=hp
        rw [h3] at z; cases z
      · rw [s.hk p u e hc] at h3; cases h3
theorem Kr.of {pa:Addr} {m:Nat} {G H:Hp} {r:Re} {Q:VK} (k:Kn PK pa m G H r.val Q) (hp:∃ o,H pa=some o):Kr PK pa m G H r Q:=fun v G' H' s w d=>by
  cases r with
  | d x=>exact k v G' H' s w d
  | own xs =>
    obtain ⟨p,vs,rfl,h1,h2,h3,h4⟩:=d
    exact Ko1.of k hp p vs G' H' s w h3 h2 h1 h4
theorem ae_r {f:List Sl→Tr Re} (h:PE X e (TAr PK f)):PE X e (TAe PK (aRe f)):=h.imp (by
  intro σ H Q z
  obtain ⟨pa,G₀,H₀,m,ρ,G,R,z⟩:=z
  exact ⟨pa,G₀,H₀,m,ρ,G,R,Tr.ok_mono (Tr.ok_bind.mp z) fun m1 r k=>Kr.of k R.wd.some⟩)
structure ACal (PK:Pk) (P:Program) (w:World) (K:PySem.W.Frag) (mg:Str→Option Value) (base:Heap) (x:Str) (k:Nat) (ps:List Str) (f:List Sl→Tr Re):Prop where
  cal:Callee P w K mg base x k ps (aSp PK ps.length f)
  len:∀ as m Z,(f as).ok m Z→as.length=ps.length
theorem ar_call {x:Str} {k:Nat} {ps:List Str} {f:List Sl→Tr Re} {pp:Pos} (C:ACal PK X.prog X.w X.K X.mg X.base x k ps f) (hr:Room k X.A) (hg:Gl X x) (ha:PA X (e::es) (TAa PK as))
    (hdb:(x == ("__debug__":Str))=false:=by decide)
    (he:starEach (e::es) X.env=(false,eval e X.env)::starEach es X.env:=by rfl) (hpl:(backTo pos (starEach es X.env)).any (·.1)=false:=by rfl):PE X (.Call (.Name x pp) (e::es) [] pos) (TAr PK (aCall f as)) :=
  (pe_callC C.cal hr hg ha hdb he hpl).imp fun σ H Q hz0=>by
    obtain ⟨pa,G₀,H₀,m,ρ,G,R,z⟩:=hz0
    refine TAa.then R z fun m1 xs vs G1 H1 s1 w1 R1 d1 q1=>?_
    show aSp PK ps.length f (vs++[]) H1 Q E0
    rw [List.append_nil]
    exact ⟨by rw [d1.length]; exact C.len _ _ _ q1,pa,m1,G1,xs,w1,d1,Tr.ok_mono q1 fun m2 r k=>Kr.later k s1 w1.some⟩
end L2
set_option Elab.async false
set_option linter.all false
set_option maxRecDepth 100000
namespace L2
open PySem PySem.Spec PyProof.Rows
variable {PK:Pk} {X:Cx} {a b c e:Expr} {es:List Expr} {pos:Pos} {i j l:List Sl→Tr PyData} {is:List Sl→Tr (List PyData)} {as:List Sl→Tr (List Sl)} {f:List Sl→Tr Re} {p q:List Sl→Tr Bool} {st:Stmt} {sts:List Stmt} {s t u:List Sl→Tr Ou}
noncomputable def aSeq (s t:List Sl→Tr Ou):List Sl→Tr Ou:=fun ρ=>(s ρ).bind fun o=>match o with
  | .next ρ'=>t ρ'
  | o=>.ret o
noncomputable def aSkip:List Sl→Tr Ou:=fun ρ=>.ret (.next ρ)
theorem Ko.later {pa:Addr} {G₀ H₀ Gs G:Hp} {D:Ends} {m:Nat} {o:Ou} (k:Ko PK pa G₀ H₀ Gs D m o) (sb:Sub Gs G):Ko PK pa G₀ H₀ G D m o:=by
  cases o with
  | next ρ=>exact fun σ G' H s R=>k σ G' H (fun b o h=>s b o (sb b o h)) R
  | ret r=>exact k
  | brk ρ=>exact fun σ G' H s R=>k σ G' H (fun b o h=>s b o (sb b o h)) R
  | cont ρ=>exact fun σ G' H s R=>k σ G' H (fun b o h=>s b o (sb b o h)) R
theorem Sub.refl {G:Hp}:Sub G G:=fun _ _ h=>h
theorem Sub.trans {G G1 G2:Hp} (a:Sub G G1) (b:Sub G1 G2):Sub G G2:=fun c o h=>b c o (a c o h)
theorem ass_nil:PSs X [] (TAs PK aSkip):=pss_nil.imp fun D σ H hz0=>by
  obtain ⟨pa,G₀,H₀,m,ρ,G,R,z⟩:=hz0
  exact z σ G H .refl R
theorem aSeq_read:∀ D σ H,TAs PK (aSeq s t) D σ H→tSeq (TAs PK s) (TAs PK t) D σ H:=by
  rintro D σ H ⟨pa,G₀,H₀,m,ρ,G,R,z⟩
  refine ⟨pa,G₀,H₀,m,ρ,G,R,Tr.ok_mono (Tr.ok_bind.mp z) fun m1 o k=>?_⟩
  cases o with
  | next ρ'=>exact fun σ' G' H' sb R'=>⟨pa,G₀,H₀,m1,ρ',G',R',Tr.ok_mono k fun _ _ k'=>Ko.later k' sb⟩
  | ret r=>exact k
  | brk ρ'=>exact k
  | cont ρ'=>exact k
theorem ass_cons (h1:PS X st (TAs PK s)) (h2:PSs X sts (TAs PK t)):PSs X (st::sts) (TAs PK (aSeq s t)):=(pss_cons h1 h2).imp aSeq_read
theorem ass_one (h1:PS X st (TAs PK s)):PSs X [st] (TAs PK s):=pss_one h1
noncomputable def aRet (i:List Sl→Tr PyData):List Sl→Tr Ou:=fun ρ=>(i ρ).bind fun x=>.ret (.ret (.d x))
theorem as_ret (he:PE X e (TAe PK i)):PS X (.Return (some e) pos) (TAs PK (aRet i)):=(ps_ret he).imp fun D σ H hz0=>by
  obtain ⟨pa,G₀,H₀,m,ρ,G,R,z⟩:=hz0
  refine TAe.then R z fun m1 x v G1 H1 s1 w1 R1 d1 q1=>?_
  exact q1 v G1 H1 R1.st w1 d1
noncomputable def aRetO (is:List Sl→Tr (List PyData)):List Sl→Tr Ou:=fun ρ=>(is ρ).bind fun x=>.ret (.ret (.own x))
theorem as_retO (he:PE X e (TAo PK is)):PS X (.Return (some e) pos) (TAs PK (aRetO is)):=(ps_ret he).imp fun D σ H hz0=>by
  obtain ⟨pa,G₀,H₀,m,ρ,G,R,z⟩:=hz0
  refine ⟨pa,G₀,H₀,m,ρ,G,R,Tr.ok_mono (Tr.ok_bind.mp z) fun m1 xs k p vs G1 H1 s1 w1 h1 h2 h3 h4=>?_⟩
  exact k (.ref p) G1 H1 (R.st.trans s1 R.wd.some) w1 ⟨p,vs,rfl,h3,h2,R.h0 h1,h4⟩
noncomputable def aRetR (f:List Sl→Tr Re):List Sl→Tr Ou:=fun ρ=>(f ρ).bind fun r=>.ret (.ret r)
theorem as_retR (he:PE X e (TAr PK f)):PS X (.Return (some e) pos) (TAs PK (aRetR f)):=(ps_ret he).imp (by
  intro D σ H z
  obtain ⟨pa,G₀,H₀,m,ρ,G,R,z⟩:=z
  exact ⟨pa,G₀,H₀,m,ρ,G,R,Tr.ok_mono (Tr.ok_bind.mp z) fun m1 r k=>Kr.later k R.st R.wd.some⟩)
noncomputable def aRetV (k:Nat):List Sl→Tr Ou:=fun ρ=>match ρ[k]? with
  | some (.d x)=>.ret (.ret (.d x))
  | some (.own xs)=>.ret (.ret (.own xs))
  | _=>.fail
theorem as_retV {k:Nat} (he:PE X e (tVar k)):PS X (.Return (some e) pos) (TAs PK (aRetV k)):=(ps_ret he).imp fun D σ H hz0=>by
  obtain ⟨pa,G₀,H₀,m,ρ,G,R,z⟩:=hz0
  unfold aRetV at z
  split at z
  · rename_i x hx
    obtain ⟨o,h1,h2⟩:=R.sl k _ hx
    cases h2 with
    | d d1=>exact ⟨_,h1,z _ G H R.st R.wd d1⟩
  · rename_i xs hx
    obtain ⟨o,h1,h2⟩:=R.sl k _ hx
    cases h2 with
    | own a1 a2 a3 a4=>exact ⟨_,h1,z _ G H R.st R.wd ⟨_,_,rfl,a1,a2,a3,a4⟩⟩
  · exact z.elim
noncomputable def aIfS (p:List Sl→Tr Bool) (s t:List Sl→Tr Ou):List Sl→Tr Ou:=fun ρ=>(p ρ).bind fun x=>if x=true then s ρ else t ρ
theorem as_if {xs ys:List Stmt} (hc:PT X c (TAt PK p)) (ha:PSs X xs (TAs PK s)) (hb:PSs X ys (TAs PK t)):PS X (.If c xs ys pos) (TAs PK (aIfS p s t)):=(ps_if hc ha hb).imp fun D σ H hz0=>by
  obtain ⟨pa,G₀,H₀,m,ρ,G,R,z⟩:=hz0
  refine TAt.then R z fun m1 x G1 H1 s1 w1 R1 q1=>?_
  cases x with
  | true=>rw [if_pos rfl] at q1 ⊢; exact ⟨pa,G₀,H₀,m1,ρ,G1,R1,Tr.ok_mono q1 fun _ _ k'=>Ko.later k' s1.gs⟩
  | false=>rw [if_neg Bool.false_ne_true] at q1 ⊢; exact ⟨pa,G₀,H₀,m1,ρ,G1,R1,Tr.ok_mono q1 fun _ _ k'=>Ko.later k' s1.gs⟩

noncomputable def aSet (k:Nat) (i:List Sl→Tr PyData):List Sl→Tr Ou:=fun ρ=>(i ρ).bind fun x=>.ret (.next (ρ.set k (.d x)))
theorem as_set {k:Nat} (h:PS X st (tAsg (TAe PK i) (gName k))):PS X st (TAs PK (aSet k i)):=h.imp fun D σ H hz0=>by
  obtain ⟨pa,G₀,H₀,m,ρ,G,R,z⟩:=hz0
  refine TAe.then R z fun m1 x v G1 H1 s1 w1 R1 d1 q1=>?_
  exact q1 _ G1 H1 s1.gs (R1.set d1 k)
noncomputable def aSetO (k:Nat) (is:List Sl→Tr (List PyData)):List Sl→Tr Ou:=fun ρ=>(is ρ).bind fun x=>.ret (.next (ρ.set k (.own x)))
theorem as_setO {k:Nat} (h:PS X st (tAsg (TAo PK is) (gName k))):PS X st (TAs PK (aSetO k is)):=h.imp fun D σ H hz0=>by
  obtain ⟨pa,G₀,H₀,m,ρ,G,R,z⟩:=hz0
  refine ⟨pa,G₀,H₀,m,ρ,G,R,Tr.ok_mono (Tr.ok_bind.mp z) fun m1 xs k' p vs G1 H1 s1 w1 h1 h2 h3 h4=>?_⟩
  exact k' _ G1 H1 s1.gs ((R.step s1 w1).setO h3 h2 (R.h0 h1) h4 (fun n ys e=>R.apart h1 n ys e) k)
noncomputable def slOf:Re→Sl
  | .d x=>.d x
  | .own xs=>.own xs
noncomputable def aSetR (k:Nat) (f:List Sl→Tr Re):List Sl→Tr Ou:=fun ρ=>(f ρ).bind fun r=>.ret (.next (ρ.set k (slOf r)))
theorem as_setR {k:Nat} (h:PS X st (tAsg (TAr PK f) (gName k))):PS X st (TAs PK (aSetR k f)):=h.imp fun D σ H hz0=>by
  obtain ⟨pa,G₀,H₀,m,ρ,G,R,z⟩:=hz0
  refine ⟨pa,G₀,H₀,m,ρ,G,R,Tr.ok_mono (Tr.ok_bind.mp z) fun m1 r k' v G1 H1 s1 w1 d1=>?_⟩
  have R1:=R.step s1 w1
  cases r with
  | d x=>exact k' _ G1 H1 s1.gs (R1.set d1 k)
  | own xs =>
    obtain ⟨p,vs,rfl,h1,h2,h3,h4⟩:=d1
    exact k' _ G1 H1 s1.gs (R1.setO h1 h2 (R.h0 h3) h4 (fun n ys e=>R.apart h3 n ys e) k)
noncomputable def aAug (f:PyData→PyData→Option PyData) (k:Nat) (i:List Sl→Tr PyData):List Sl→Tr Ou:=fun ρ=>(aVar k ρ).bind fun x=>(i ρ).bind fun y=>(Tr.of (f x y)).bind fun z=>.ret (.next (ρ.set k (.d z)))
theorem as_aug {k:Nat} {r:R2} {g:PyData→PyData→Option PyData} (hv:VOp2 r g) (h:PS X st (tAug k (TAe PK i) r)):PS X st (TAs PK (aAug g k i)):=h.imp fun D σ H hz0=>by
  obtain ⟨pa,G₀,H₀,m,ρ,G,R,z⟩:=hz0
  unfold aAug aVar at z
  split at z
  · rename_i x hx
    obtain ⟨o,h1,h2⟩:=R.sl k _ hx
    cases h2 with
    | d d0 =>
      refine ⟨_,h1,?_⟩
      refine TAe.then R z fun m1 y v G1 H1 s1 w1 R1 d1 q1=>?_
      rw [Tr.ok_bind] at q1
      obtain ⟨w,hw,q1⟩:=Tr.ok_of q1
      refine hv PK pa m1 G1 H1 _ v x y w _ w1 (d0.mono s1.gs) d1 hw fun u G2 H2 s2 w2 d2=>?_
      exact q1 _ G2 H2 (s1.gs.trans s2.gs) ((R1.step s2 w2).set d2 k)
  · exact z.elim
noncomputable def aApp (k:Nat) (i:List Sl→Tr PyData):List Sl→Tr Ou:=fun ρ=>match ρ[k]? with
  | some (.own xs)=>(i ρ).bind fun x=>if small (xs.length+1)=true then .ret (.next (ρ.set k (.own (xs++[x])))) else .fail
  | _=>.fail
theorem DnAll.snoc {H:Hp} {vs:List V} {ds:List PyData} {v:V} {d:PyData} (h:DnAll H vs ds) (h1:Dn H v d):DnAll H (vs++[v]) (ds++[d]):=h.append (.cons h1 .nil)
theorem as_app {k:Nat} {K:PySem.W.Frag} {st:Stmt} (h:PS X st (tDrop (tBM K "list" rAppend (tVar k) (tCons (TAe PK i) tNil)))):PS X st (TAs PK (aApp k i)):=h.imp fun D σ H hz0=>by
  obtain ⟨pa,G₀,H₀,m,ρ,G,R,z⟩:=hz0
  unfold aApp at z
  split at z
  · rename_i xs hx
    obtain ⟨o,h1,h2⟩:=R.sl k _ hx
    cases h2 with
    | @own p vs _ a1 a2 a3 a4 =>
      refine ⟨_,h1,.inl ⟨rfl,_,SqL.of a1⟩,?_⟩
      refine TAe.then R z fun m1 x v G1 H1 s1 w1 R1 d1 q1=>?_
      obtain ⟨hs,q1⟩:=ok_if q1
      obtain ⟨o,h1',h2⟩:=R1.sl k _ hx
      rw [h1] at h1'
      cases h1'
      cases h2 with
      | @own _ vs1 _ b1 b2 b3 b4 =>
        have hs':xs.length+1≤sizeLine:=of_decide_eq_true hs
        refine ⟨p,vs1,v,rfl,rfl,b1,by rw [b4.length]; omega,?_⟩
        exact q1 σ G1 _ s1.gs (R1.change hx h1 (b4.snoc d1))
  · exact z.elim
theorem DnAll.set {H:Hp}:∀ {vs:List V} {ds:List PyData} {v:V} {d:PyData} (n:Nat),DnAll H vs ds→Dn H v d→DnAll H (vs.set n v) (ds.set n d)
  | _,_,_,_,_,.nil,_=>.nil
  | _,_,_,_,0,.cons _ t,h=>.cons h t
  | _,_,_,_,n+1,.cons g t,h=>.cons g (DnAll.set n t h)
noncomputable def aSetIx (k:Nat) (n i:List Sl→Tr PyData):List Sl→Tr Ou:=fun ρ=>(i ρ).bind fun x=>match ρ[k]? with
  | some (.own xs)=>(n ρ).bind fun y=>match y with
    | .int y=>(Tr.of (ixN xs.length y)).bind fun t=>.ret (.next (ρ.set k (.own (xs.set t x))))
    | _=>.fail
  | _=>.fail
theorem as_setIx {k:Nat} {n:List Sl→Tr PyData} (h:PS X st (tAsg (TAe PK i) (gSub (tVar k) (TAe PK n) rSetL))):PS X st (TAs PK (aSetIx k n i)):=h.imp fun D σ H hz0=>by
  obtain ⟨pa,G₀,H₀,m,ρ,G,R,z⟩:=hz0
  refine TAe.then R z fun m1 x v G1 H1 s1 w1 R1 d1 q1=>?_
  split at q1
  · rename_i xs hx
    obtain ⟨o,h1,h2⟩:=R1.sl k _ hx
    cases h2 with
    | @own p vs _ a1 a2 a3 a4 =>
      refine ⟨_,h1,?_⟩
      refine TAe.then R1 q1 fun m2 y u G2 H2 s2 w2 R2 d2 q2=>?_
      obtain ⟨o,h1',h2⟩:=R2.sl k _ hx
      rw [h1] at h1'
      cases h1'
      cases h2 with
      | @own _ vs2 _ b1 b2 b3 b4 =>
        cases d2 with
        | int y =>
          rw [Tr.ok_bind] at q2
          obtain ⟨n',hn,q2⟩:=Tr.ok_of q2
          refine ⟨p,vs2,y,n',rfl,rfl,b1,by rw [b4.length]; exact hn,?_⟩
          exact q2 σ G2 _ (s1.gs.trans s2.gs) (R2.change hx h1 (b4.set n' (d1.mono s2.gs)))
        | _=>exact q2.elim
  · exact q1.elim
theorem DnAll.reverse {H:Hp} {vs:List V} {ds:List PyData} (h:DnAll H vs ds):DnAll H vs.reverse ds.reverse:=by
  induction vs generalizing ds with
  | nil=>cases h; exact .nil
  | cons v vs ih=>cases h with | cons r t=>rw [List.reverse_cons,List.reverse_cons]; exact DnAll.append (ih t) (.cons r .nil)
noncomputable def aRev (k:Nat):List Sl→Tr Ou:=fun ρ=>match ρ[k]? with
  | some (.own xs)=>.ret (.next (ρ.set k (.own xs.reverse)))
  | _=>.fail
theorem as_rev {k:Nat} {K:PySem.W.Frag} (h:PS X st (tDrop (tBM0 K "list" rReverse (tVar k)))):PS X st (TAs PK (aRev k)):=h.imp fun D σ H hz0=>by
  obtain ⟨pa,G₀,H₀,m,ρ,G,R,z⟩:=hz0
  unfold aRev at z
  split at z
  · rename_i xs hx
    obtain ⟨o,h1,h2⟩:=R.sl k _ hx
    cases h2 with
    | @own p vs _ a1 a2 a3 a4 =>
      refine ⟨_,h1,.inl ⟨rfl,_,SqL.of a1⟩,p,vs,rfl,rfl,a1,?_⟩
      exact z σ G _ .refl (R.change hx h1 a4.reverse)
  · exact z.elim
noncomputable def aFz (k:Nat) (s:List Sl→Tr Ou):List Sl→Tr Ou:=fun ρ=>s (fz k ρ)
theorem as_fz {k:Nat} (h:PS X st (TAs PK s)):PS X st (TAs PK (aFz k s)):=h.imp fun D σ H hz0=>by
  obtain ⟨pa,G₀,H₀,m,ρ,G,R,z⟩:=hz0
  obtain ⟨G',sb,R'⟩:=R.freeze k
  exact ⟨pa,G₀,H₀,m,_,G',R',Tr.ok_mono z fun _ _ k'=>Ko.later k' sb⟩

noncomputable def TAg (PK:Pk) (g:PyData→List Sl→Option (List Sl)):TG:=fun v σ H Q=>∃ pa G₀ H₀ m ρ G x ρ',Rl PK pa G₀ H₀ m σ ρ G H∧Dn G v x∧g x ρ=some ρ'∧∀ σ',Rl PK pa G₀ H₀ m σ' ρ' G H→Q σ' H
noncomputable def TAgs (PK:Pk) (g:List PyData→List Sl→Option (List Sl)):TGs:=fun vs σ H Q=>∃ pa G₀ H₀ m ρ G xs ρ',Rl PK pa G₀ H₀ m σ ρ G H∧DnAll G vs xs∧g xs ρ=some ρ'∧∀ σ',Rl PK pa G₀ H₀ m σ' ρ' G H→Q σ' H
theorem PG.imp {tg:Expr} {t t':TG} (h:PG X tg t) (q:∀ v σ H Q,t' v σ H Q→t v σ H Q):PG X tg t':=fun pins s σ H v u Q I r z=>h pins s σ H v u Q I r (q v σ H Q z)
theorem PGs.imp {tg:List Expr} {t t':TGs} (h:PGs X tg t) (q:∀ v σ H Q,t' v σ H Q→t v σ H Q):PGs X tg t':=fun pins s σ H v u Q I r z=>h pins s σ H v u Q I r (q v σ H Q z)
noncomputable def gSet (k:Nat):PyData→List Sl→Option (List Sl):=fun x ρ=>some (ρ.set k (.d x))
theorem ag_name {k:Nat} (h:PG X e (gName k)):PG X e (TAg PK (gSet k)):=h.imp fun v σ H Q hz0=>by
  obtain ⟨pa,G₀,H₀,m,ρ,G,x,ρ',R,d,e,q⟩:=hz0
  cases e
  exact q _ (R.set d k)
noncomputable def gsNil:List PyData→List Sl→Option (List Sl):=fun xs ρ=>match xs with
  | []=>some ρ
  | _=>none
noncomputable def gsCons (g:PyData→List Sl→Option (List Sl)) (gs:List PyData→List Sl→Option (List Sl)):List PyData→List Sl→Option (List Sl):=fun xs ρ=>match xs with
  | x::xs=>(g x ρ).bind fun ρ'=>gs xs ρ'
  | []=>none
theorem ags_nil:PGs X [] (TAgs PK gsNil):=pgs_nil.imp fun vs σ H Q hz0=>by
  obtain ⟨pa,G₀,H₀,m,ρ,G,xs,ρ',R,d,e,q⟩:=hz0
  cases d with
  | nil=>cases e; exact ⟨rfl,q _ R⟩
  | cons _ _=>cases e
theorem ags_cons {g:PyData→List Sl→Option (List Sl)} {gs:List PyData→List Sl→Option (List Sl)} (h1:PG X e (TAg PK g)) (h2:PGs X es (TAgs PK gs))
    (hs:(assignEach (e::es) X.env).map (·.2)=assign e X.env::(assignEach es X.env).map (·.2):=by rfl):PGs X (e::es) (TAgs PK (gsCons g gs)):=(pgs_cons h1 h2 hs).imp fun vs σ H Q hz0=>by
  obtain ⟨pa,G₀,H₀,m,ρ,G,xs,ρ',R,d,e,q⟩:=hz0
  cases d with
  | nil=>cases e
  | cons d1 d2 =>
    have e':(g _ ρ).bind (fun ρ'=>gs _ ρ')=some ρ':=e
    cases h:g _ ρ with
    | none=>rw [h] at e'; cases e'
    | some ρ1 =>
      rw [h] at e'
      exact ⟨_,_,rfl,pa,G₀,H₀,m,ρ,G,_,ρ1,R,d1,h,fun σ1 R1=>⟨pa,G₀,H₀,m,ρ1,G,_,ρ',R1,d2,e',q⟩⟩
noncomputable def gTupD (gs:List PyData→List Sl→Option (List Sl)):PyData→List Sl→Option (List Sl):=fun x ρ=>match x with
  | .tuple xs=>gs xs ρ
  | _=>none
noncomputable def gsLen (n:Nat) (gs:List PyData→List Sl→Option (List Sl)):Prop:=∀ xs ρ ρ',gs xs ρ=some ρ'→xs.length=n
theorem gsLen_nil:gsLen 0 gsNil:=fun xs ρ ρ' h=>by cases xs with | nil=>rfl | cons _ _=>cases h
theorem gsLen_cons {n:Nat} {g:PyData→List Sl→Option (List Sl)} {gs:List PyData→List Sl→Option (List Sl)} (h:gsLen n gs):gsLen (n+1) (gsCons g gs):=fun xs ρ ρ' e=>by
  cases xs with
  | nil=>cases e
  | cons x xs =>
    have e':(g x ρ).bind (fun ρ'=>gs xs ρ')=some ρ':=e
    cases h1:g x ρ with
    | none=>rw [h1] at e'; cases e'
    | some ρ1 =>
      rw [h1] at e'
      exact congrArg (·+1) (h xs ρ1 ρ' e')
theorem ag_tup {k:Nat} {gs:List PyData→List Sl→Option (List Sl)} {n:Nat} (hc:X.calm=true) (h:PGs X es (TAgs PK gs)) (hl:gsLen n gs)
    (hn:(assignEach es X.env).length=n:=by rfl) (hst:(assignEach es X.env).findIdx? (·.1)=none:=by rfl):PG X (.Tuple es k pos) (TAg PK (gTupD gs)):=(pg_tup hc h hn hst).imp fun v σ H Q hz0=>by
  obtain ⟨pa,G₀,H₀,m,ρ,G,x,ρ',R,d,e,q⟩:=hz0
  cases d with
  | tup h1 h2=>exact ⟨_,_,rfl,SqT.of (R.wd.sub _ _ h1),by rw [h2.length]; exact hl _ _ _ e,pa,G₀,H₀,m,ρ,G,_,ρ',R,h2,e,q⟩
  | _=>cases e
noncomputable def aAsg (g:PyData→List Sl→Option (List Sl)) (i:List Sl→Tr PyData):List Sl→Tr Ou:=fun ρ=>(i ρ).bind fun x=>(Tr.of (g x ρ)).bind fun ρ'=>.ret (.next ρ')
theorem as_asg {g:PyData→List Sl→Option (List Sl)} (h:PS X st (tAsg (TAe PK i) (TAg PK g))):PS X st (TAs PK (aAsg g i)):=h.imp fun D σ H hz0=>by
  obtain ⟨pa,G₀,H₀,m,ρ,G,R,z⟩:=hz0
  refine TAe.then R z fun m1 x v G1 H1 s1 w1 R1 d1 q1=>?_
  rw [Tr.ok_bind] at q1
  obtain ⟨ρ',hg,q1⟩:=Tr.ok_of q1
  exact ⟨pa,G₀,H₀,m1,ρ,G1,x,ρ',R1,d1,hg,fun σ' R'=>q1 σ' G1 H1 s1.gs R'⟩
noncomputable def JOk (PK:Pk) (pa:Addr) (J:It) (G:Hp) (xs:List PyData):Prop:=∀ m G2 H2,Sub G G2→Wd PK pa m G2 H2 →
  (∀ (n:Nat) (d:PyData),xs[n]?=some d→J.go n H2∧∀ x H3,J.yld n H2 x H3→∃ G3,Stp pa G2 H2 G3 H3∧Wd PK pa m G3 H3∧Dn G3 x d)∧J.stop xs.length H2
noncomputable def TAi (PK:Pk) (is:List Sl→Tr (List PyData)):TI:=fun σ H R=>∃ pa G₀ H₀ m ρ G,Rl PK pa G₀ H₀ m σ ρ G H∧(is ρ).ok m fun m' xs=>∀ J G' H',Stp pa G H G' H'→Wd PK pa m' G' H'→JOk PK pa J G' xs→R J H'
theorem PI.imp {tg iter:Expr} {t t':TI} (h:PI X tg iter t) (q:∀ σ H R,t' σ H R→t σ H R):PI X tg iter t':=fun pins s σ H R I z=>h pins s σ H R I (q σ H R z)
noncomputable def forL (g:PyData→List Sl→Option (List Sl)) (s:List Sl→Tr Ou):List PyData→List Sl→Tr Ou
  | [],ρ=>.ret (.next ρ)
  | x::xs,ρ=>(Tr.of (g x ρ)).bind fun ρ1=>(s ρ1).bind fun o=>match o with
    | .next ρ2=>forL g s xs ρ2
    | .cont ρ2=>forL g s xs ρ2
    | .brk ρ2=>.ret (.next ρ2)
    | .ret r=>.ret (.ret r)
noncomputable def aFor (is:List Sl→Tr (List PyData)) (g:PyData→List Sl→Option (List Sl)) (s:List Sl→Tr Ou):List Sl→Tr Ou:=fun ρ=>(is ρ).bind fun xs=>forL g s xs ρ
theorem as_for {tg iter:Expr} {body:List Stmt} {g:PyData→List Sl→Option (List Sl)} (hp:PassesOwn (model X.prog X.w) X.A X.env X.xe) (hc:X.calm=true) (hi:PI X tg iter (TAi PK is)) (hg:PG X tg (TAg PK g)) (hb:PSs X body (TAs PK s))
    (hs:∀ x,foldedSetIterable iter X.env x=pure x:=by intro _; rfl):PS X (.For tg iter body [] pos) (TAs PK (aFor is g s)):=(ps_for hp hc hi hg hb hs).imp fun D σ H hz0=>by
  obtain ⟨pa,G₀,H₀,m,ρ,G,R,z⟩:=hz0
  refine ⟨pa,G₀,H₀,m,ρ,G,R,Tr.ok_mono (Tr.ok_bind.mp z) fun m1 xs k J G1 H1 s1 w1 jo=>?_⟩
  let W:Nat→Nat→St→Hp→Prop:=fun n mm σ H=>mm=xs.length - n∧n≤xs.length∧∃ m ρ G,Sub G1 G∧Rl PK pa G₀ H₀ m σ ρ G H∧(forL g s (xs.drop n) ρ).ok m (Ko PK pa G₀ H₀ G1 D)
  refine ⟨W,⟨xs.length,rfl,Nat.zero_le _,m1,ρ,G1,fun _ _ h=>h,R.step s1 w1,Tr.ok_mono k fun _ _ k'=>Ko.later k' s1.gs⟩,?_⟩
  rintro n mm σ2 H2 ⟨rfl,hn,m2,ρ2,G2,sb,R2,k2⟩
  obtain ⟨j1,j2⟩:=jo m2 G2 H2 sb R2.wd
  by_cases hlt:n < xs.length
  · have hx:xs[n]?=some xs[n]:=by simp [hlt]
    obtain ⟨jg,jy⟩:=j1 n _ hx
    refine .inr ⟨jg,W (n+1) (xs.length - (n+1)),fun σ' H' h'=>⟨_,by omega,h'⟩,fun x H3 y=>?_⟩
    obtain ⟨G3,s3,w3,d3⟩:=jy x H3 y
    rw [List.drop_eq_getElem_cons hlt] at k2
    unfold forL at k2
    rw [Tr.ok_bind] at k2
    obtain ⟨ρ3,hg3,k3⟩:=Tr.ok_of k2
    refine ⟨pa,G₀,H₀,m2,ρ2,G3,_,ρ3,R2.step s3 w3,d3,hg3,fun σ4 R4=>?_⟩
    refine ⟨pa,G₀,H₀,m2,ρ3,G3,R4,Tr.ok_mono (Tr.ok_bind.mp k3) fun m5 o ko=>?_⟩
    have again:∀ ρ5,(forL g s (xs.drop (n+1)) ρ5).ok m5 (Ko PK pa G₀ H₀ G1 D)→∀ σ5 G5 H5,Sub G3 G5→Rl PK pa G₀ H₀ m5 σ5 ρ5 G5 H5→W (n+1) (xs.length - (n+1)) σ5 H5:=fun ρ5 k5 σ5 G5 H5 sb5 R5 =>
      ⟨rfl,hlt,m5,ρ5,G5,(sb.trans s3.gs).trans sb5,R5,k5⟩
    cases o with
    | next ρ5=>exact again ρ5 ko
    | cont ρ5=>exact again ρ5 ko
    | brk ρ5=>exact fun σ5 G5 H5 sb5 R5=>ko σ5 G5 H5 ((sb.trans s3.gs).trans sb5) R5
    | ret r=>exact ko
  · have e:n=xs.length:=by omega
    subst e
    refine .inl ⟨j2,?_⟩
    rw [List.drop_length] at k2
    exact k2 σ2 G2 H2 sb R2
end L2
set_option Elab.async false
set_option linter.all false
set_option maxRecDepth 100000
namespace L2
open PySem PySem.Spec PyProof.Rows
variable {PK:Pk} {X:Cx} {a b c e:Expr} {es:List Expr} {pos:Pos} {i j l:List Sl→Tr PyData} {is:List Sl→Tr (List PyData)} {as:List Sl→Tr (List Sl)} {f:List Sl→Tr Re} {p q:List Sl→Tr Bool} {st:Stmt} {sts:List Stmt} {s t u:List Sl→Tr Ou}
noncomputable def whL (p:List Sl→Tr Bool) (s:List Sl→Tr Ou):Nat→List Sl→Tr Ou
  | 0,_=>.fail
  | n+1,ρ=>(p ρ).bind fun b=>if b=true then (s ρ).bind fun o=>match o with
      | .next ρ2=>whL p s n ρ2
      | .cont ρ2=>whL p s n ρ2
      | .brk ρ2=>.ret (.next ρ2)
      | .ret r=>.ret (.ret r)
    else .ret (.next ρ)
theorem as_while {body:List Stmt} (n:Nat) (hp:PassesOwn (model X.prog X.w) X.A X.env X.xe) (hc:PT X c (TAt PK p)) (hb:PSs X body (TAs PK s)):PS X (.While c body [] pos) (TAs PK (whL p s n)):=(ps_while hp hc hb).imp fun D σ H hz0=>by
  obtain ⟨pa,G₀,H₀,m,ρ,G,R,z⟩:=hz0
  let W:Nat→St→Hp→Prop:=fun n σ H=>∃ m ρ G1,Sub G G1∧Rl PK pa G₀ H₀ m σ ρ G1 H∧(whL p s n ρ).ok m (Ko PK pa G₀ H₀ G D)
  refine ⟨W,⟨n,m,ρ,G,.refl,R,z⟩,?_⟩
  rintro n σ2 H2 ⟨m2,ρ2,G2,sb,R2,k2⟩
  cases n with
  | zero=>exact k2.elim
  | succ n =>
    unfold whL at k2
    refine TAt.then R2 k2 fun m3 x G3 H3 s3 w3 R3 k3=>?_
    cases x with
    | false =>
      rw [if_neg Bool.false_ne_true] at k3 ⊢
      exact k3 σ2 G3 H3 (sb.trans s3.gs) R3
    | true =>
      rw [if_pos rfl] at k3 ⊢
      refine ⟨W n,fun σ' H' h=>⟨n,by omega,h⟩,pa,G₀,H₀,m3,ρ2,G3,R3,Tr.ok_mono (Tr.ok_bind.mp k3) fun m4 o ko=>?_⟩
      have again:∀ ρ5,(whL p s n ρ5).ok m4 (Ko PK pa G₀ H₀ G D)→∀ σ5 G5 H5,Sub G3 G5→Rl PK pa G₀ H₀ m4 σ5 ρ5 G5 H5→W n σ5 H5:=fun ρ5 k5 σ5 G5 H5 sb5 R5 =>
        ⟨m4,ρ5,G5,(sb.trans s3.gs).trans sb5,R5,k5⟩
      cases o with
      | next ρ5=>exact again ρ5 ko
      | cont ρ5=>exact again ρ5 ko
      | brk ρ5=>exact fun σ5 G5 H5 sb5 R5=>ko σ5 G5 H5 ((sb.trans s3.gs).trans sb5) R5
      | ret r=>exact ko

noncomputable def blS:Sl→Sl
  | .own _=>.un
  | s=>s
noncomputable def blk (n:Nat) (ix:List Nat) (ρ:List Sl):List Sl:=List.replicate n .un++ix.map fun j=>blS ((ρ[j]?).getD .un)
theorem Rl.blk {pa:Addr} {G₀ H₀ G H:Hp} {m:Nat} {σ:St} {ρ:List Sl} (R:Rl PK pa G₀ H₀ m σ ρ G H) (n:Nat) (ix:List Nat):Rl PK pa G₀ H₀ m (bSt n ix σ) (blk n ix ρ) G H:=by
  have key:∀ (k:Nat) (s:Sl),(L2.blk n ix ρ)[k]?=some s→(∃ o,(bSt n ix σ)[k]?=some o∧SlOk pa H₀ G H o s)∧∀ xs,s≠.own xs:=fun k s h=>by
    unfold L2.blk at h
    unfold bSt
    by_cases hk:k < n
    · rw [List.getElem?_append_left (by simpa using hk),List.getElem?_replicate,if_pos hk] at h
      rw [List.getElem?_append_left (by simpa using hk),List.getElem?_replicate,if_pos hk]
      cases h
      exact ⟨⟨_,rfl,.un⟩,fun xs h=>by cases h⟩
    · rw [List.getElem?_append_right (by simpa using Nat.le_of_not_lt hk),List.length_replicate,List.getElem?_map] at h
      rw [List.getElem?_append_right (by simpa using Nat.le_of_not_lt hk),List.length_replicate,List.getElem?_map]
      cases hj:ix[k - n]? with
      | none=>rw [hj] at h; cases h
      | some j =>
        rw [hj] at h
        have h':blS ((ρ[j]?).getD .un)=s:=Option.some.inj h
        subst h'
        show (∃ o,some ((σ[j]?).getD none)=some o∧_)∧_
        cases hr:ρ[j]? with
        | none=>exact ⟨⟨_,rfl,.un⟩,fun xs h=>by cases h⟩
        | some s' =>
          obtain ⟨o,h1,h2⟩:=R.sl j s' hr
          rw [h1]
          cases h2 with
          | un=>exact ⟨⟨_,rfl,.un⟩,fun xs h=>by cases h⟩
          | d z=>exact ⟨⟨_,rfl,.d z⟩,fun xs h=>by cases h⟩
          | own _ _ _ _=>exact ⟨⟨_,rfl,.un⟩,fun xs h=>by cases h⟩
          | pen=>exact ⟨⟨_,rfl,.pen⟩,fun xs h=>by cases h⟩
  refine ⟨R.wd,R.st,R.p0,fun k s h=>(key k s h).1,?_,fun k n' xs ys _ h1 _=>absurd rfl ((key k _ h1).2 xs)⟩
  unfold L2.blk bSt
  simp
noncomputable def PresN (n:Nat) (g:PyData→List Sl→Option (List Sl)):Prop:=∀ x ρ ρ',g x ρ=some ρ'→ρ'.length=ρ.length∧∀ k,n≤k→ρ'[k]?=ρ[k]?
noncomputable def PresNs (n:Nat) (g:List PyData→List Sl→Option (List Sl)):Prop:=∀ x ρ ρ',g x ρ=some ρ'→ρ'.length=ρ.length∧∀ k,n≤k→ρ'[k]?=ρ[k]?
theorem pres_set {n k:Nat} (h:k < n):PresN n (gSet k):=fun x ρ ρ' e=>by
  cases e
  exact ⟨List.length_set,fun j hj=>List.getElem?_set_ne (by omega)⟩
theorem pres_nil {n:Nat}:PresNs n gsNil:=fun x ρ ρ' e=>by
  cases x with
  | nil=>cases e; exact ⟨rfl,fun _ _=>rfl⟩
  | cons _ _=>cases e
theorem pres_cons {n:Nat} {g:PyData→List Sl→Option (List Sl)} {gs:List PyData→List Sl→Option (List Sl)} (h1:PresN n g) (h2:PresNs n gs):PresNs n (gsCons g gs):=fun x ρ ρ' e=>by
  cases x with
  | nil=>cases e
  | cons x xs =>
    have e':(g x ρ).bind (fun ρ'=>gs xs ρ')=some ρ':=e
    cases h:g x ρ with
    | none=>rw [h] at e'; cases e'
    | some ρ1 =>
      rw [h] at e'
      obtain ⟨a1,a2⟩:=h1 x ρ ρ1 h
      obtain ⟨b1,b2⟩:=h2 xs ρ1 ρ' e'
      exact ⟨b1.trans a1,fun k hk=>(b2 k hk).trans (a2 k hk)⟩
theorem pres_tup {n:Nat} {gs:List PyData→List Sl→Option (List Sl)} (h2:PresNs n gs):PresN n (gTupD gs):=fun x ρ ρ' e=>by
  cases x with
  | tuple xs=>exact h2 xs ρ ρ' e
  | _=>cases e
noncomputable def mapT (h:PyData→Tr PyData):List PyData→Tr (List PyData)
  | []=>.ret []
  | x::xs=>(h x).bind fun y=>(mapT h xs).bind fun ys=>.ret (y::ys)
noncomputable def aLc (is:List Sl→Tr (List PyData)) (n:Nat) (ix:List Nat) (g:PyData→List Sl→Option (List Sl)) (el:List Sl→Tr PyData):List Sl→Tr (List PyData):=fun ρ =>
  (is ρ).bind fun xs=>if small xs.length=true then mapT (fun x=>(Tr.of (g x (blk n ix ρ))).bind el) xs else .fail
theorem Rl.weak {pa:Addr} {G₀ H₀ G H:Hp} {m:Nat} {σ:St} {ρ ρ':List Sl} (R:Rl PK pa G₀ H₀ m σ ρ' G H) (hl:ρ'.length=ρ.length) (h:∀ (k:Nat) (s:Sl),ρ[k]?=some s→s=.un∨ρ'[k]?=some s):Rl PK pa G₀ H₀ m σ ρ G H:=by
  refine ⟨R.wd,R.st,R.p0,fun k s hk=>?_,hl.symm.trans R.len,fun k n xs ys hkn h1 h2=>?_⟩
  · rcases h k s hk with e | e
    · subst e
      have hlt:k < σ.length:=by
        rw [← R.len,hl]
        exact (List.getElem?_eq_some_iff.mp hk).1
      exact ⟨σ[k],by simp [hlt],.un⟩
    · exact R.sl k s e
  · rcases h k _ h1 with e | e
    · cases e
    · rcases h n _ h2 with e' | e'
      · cases e'
      · exact R.dj k n xs ys hkn e e'
theorem lc_read {n:Nat} {ix:List Nat} {g:PyData→List Sl→Option (List Sl)} (hn:PresN n g):∀ σ H Q,TAo PK (aLc is n ix g i) σ H Q→tLc (TAi PK is) n ix (fun _=>TAg PK g) (fun _=>TAe PK i) σ H Q:=by
  rintro σ H Q ⟨pa,G₀,H₀,m,ρ,G,R,z⟩
  refine ⟨pa,G₀,H₀,m,ρ,G,R,Tr.ok_mono (Tr.ok_bind.mp z) fun m1 xs k J G1 H1 s1 w1 jo=>fun B=>?_⟩
  obtain ⟨hs,k⟩:=ok_if k
  have hs:xs.length≤sizeLine:=of_decide_eq_true hs
  let el:PyData→Tr PyData:=fun x=>(Tr.of (g x (blk n ix ρ))).bind i
  let W:Nat→Nat→St→List V→Hp→Prop:=fun k mm τ ys H2=>mm=xs.length - k∧k≤xs.length∧ys.length=k∧∃ m G2 ds,Sub G1 G2∧Stp pa G H G2 H2∧Rl PK pa G₀ H₀ m τ (blk n ix ρ) G2 H2 ∧
    DnAll G2 ys ds∧(mapT el (xs.drop k)).ok m fun m' zs=>Ko1 PK pa m' G H (ds++zs) Q
  refine ⟨W,⟨xs.length,rfl,Nat.zero_le _,rfl,m1,G1,[],.refl,s1,(R.step s1 w1).blk n ix,.nil,k⟩,?_⟩
  rintro k mm τ ys H2 ⟨rfl,hk,hy,m2,G2,ds,sb,st2,R2,dn,k2⟩
  obtain ⟨j1,j2⟩:=jo m2 G2 H2 sb R2.wd
  by_cases hlt:k < xs.length
  · have hx:xs[k]?=some xs[k]:=by simp [hlt]
    obtain ⟨jg,jy⟩:=j1 k _ hx
    refine .inr ⟨jg,by omega,fun x H3 y=>?_⟩
    obtain ⟨G3,s3,w3,d3⟩:=jy x H3 y
    rw [List.drop_eq_getElem_cons hlt] at k2
    unfold mapT at k2
    rw [Tr.ok_bind,Tr.ok_bind] at k2
    obtain ⟨ρ3,hg3,k3⟩:=Tr.ok_of k2
    refine ⟨pa,G₀,H₀,m2,_,G3,_,ρ3,R2.step s3 w3,d3,hg3,fun τ4 R4=>?_⟩
    refine ⟨pa,G₀,H₀,m2,ρ3,G3,R4,Tr.ok_mono k3 fun m5 yd k5=>?_⟩
    intro v G5 H5 s5 w5 d5
    have s35:=s3.trans s5 w3.some
    obtain ⟨pl,pk⟩:=hn _ _ _ hg3
    refine ⟨xs.length - (k+1),by omega,rfl,hlt,by rw [List.length_append,hy]; rfl,m5,G5,ds++[yd],sb.trans s35.gs,st2.trans s35 R2.wd.some,?_,(DnAll.mono s35.gs dn).snoc d5,?_⟩
    · refine (R4.step s5 w5).weak pl fun q sl hq=>?_
      by_cases hqn:q < n
      · left
        unfold blk at hq
        rw [List.getElem?_append_left (by simpa using hqn),List.getElem?_replicate,if_pos hqn] at hq
        cases hq
        rfl
      · right
        rw [pk q (Nat.le_of_not_lt hqn)]
        exact hq
    · refine Tr.ok_mono (Tr.ok_bind.mp k5) fun m6 zs k6=>?_
      rw [List.append_assoc]
      exact k6
  · have e:k=xs.length:=by omega
    subst e
    refine .inl ⟨j2,fun p v H' hp ev eH=>?_⟩
    subst ev eH
    rw [List.drop_length] at k2
    have k2':Ko1 PK pa m2 G H (ds++[]) Q:=k2
    rw [List.append_nil] at k2'
    exact (Ko1.later k2' st2 R2.wd.some).new R2.wd dn hp
theorem ao_lc {n:Nat} {ix:List Nat} {g:PyData→List Sl→Option (List Sl)} (h:PE X e (tLc (TAi PK is) n ix (fun _=>TAg PK g) (fun _=>TAe PK i))) (hn:PresN n g):PE X e (TAo PK (aLc is n ix g i)):=h.imp (lc_read hn)
theorem tAsg_mono {te te':TE} {g:TG} (h:∀ σ H Q,te' σ H Q→te σ H Q):∀ D σ H,tAsg te' g D σ H→tAsg te g D σ H:=fun D σ H z=>h σ H _ z
noncomputable def finR:Ou→Tr Re
  | .next _=>.ret (.d .none)
  | .ret r=>.ret r
  | _=>.fail
noncomputable def aDef (n k:Nat) (s:List Sl→Tr Ou):List Sl→Tr Re:=fun as=>if decide (as.length=n)=true then (s (as++List.replicate k .un)).bind finR else .fail
theorem Rl.start {pa:Addr} {G H:Hp} {m:Nat} {N:List Str} {vs:List V} {as:List Sl} {k:Nat} (w:Wd PK pa m G H) (ar:ArsOk pa G vs as) (hk:N.length - vs.length=k):Rl PK pa G H m (L2.start N vs) (as++List.replicate k .un) G H:=by
  have key:∀ {vs:List V} {as:List Sl},ArsOk pa G vs as→∀ (q:Nat) (s:Sl),as[q]?=some s→(∃ o,(vs.map some)[q]?=some o∧SlOk pa H G H o s)∧∀ xs,s≠.own xs:=by
    intro vs as h
    induction h with
    | nil=>intro q s h; simp at h
    | cons h1 h2 ih =>
      intro q s h
      cases q with
      | zero =>
        simp at h
        subst h
        cases h1 with
        | d z=>exact ⟨⟨_,rfl,.d z⟩,fun xs h=>by cases h⟩
        | pen=>exact ⟨⟨_,rfl,.pen⟩,fun xs h=>by cases h⟩
      | succ q =>
        obtain ⟨⟨o,p1,p2⟩,p3⟩:=ih q s (by simpa using h)
        exact ⟨⟨o,by simpa using p1,p2⟩,p3⟩
  have hl:=ar.length
  have key2:∀ (q:Nat) (s:Sl),(as++List.replicate k .un)[q]?=some s→(∃ o,(L2.start N vs)[q]?=some o∧SlOk pa H G H o s)∧∀ xs,s≠.own xs:=fun q s h=>by
    unfold L2.start
    by_cases hq:q < as.length
    · rw [List.getElem?_append_left hq] at h
      rw [List.getElem?_append_left (by rw [List.length_map,hl]; exact hq)]
      exact key ar q s h
    · rw [List.getElem?_append_right (by omega),List.getElem?_replicate] at h
      rw [List.getElem?_append_right (by rw [List.length_map]; omega),List.getElem?_replicate,List.length_map,hl]
      split at h
      · rename_i hq2
        cases h
        rw [if_pos (by omega)]
        exact ⟨⟨_,rfl,.un⟩,fun xs h=>by cases h⟩
      · cases h
  refine ⟨w,.refl,w.some,fun q s h=>(key2 q s h).1,?_,fun q n xs ys _ h1 _=>absurd rfl ((key2 q _ h1).2 xs)⟩
  unfold L2.start
  simp [hl,hk]
  omega
theorem acal_of {P:Program} {w:World} {K:PySem.W.Frag} {mg:Str→Option Value} {base:Heap} {x:Str} {N ps:List Str} {kk k:Nat} (D:Def K mg x st ps) (S:FnScope N ps (defScope st)) (hk:N.length - ps.length=k)
    (hbody:∀ (f:Addr) (cdv:Value) (A:Around) (outer:List Env) (sh:Shared) (H:Hp) (E:XK),Room kk (A.deeper (envOfC x (defScope st) sh.heap.objs.size f cdv)) →
      PSs (cxOf CX0 P w K mg base N x (defScope st) f cdv A outer sh H E).nox (defBody st) (TAs PK s)):ACal PK P w K mg base x (kk+1) ps (aDef ps.length k s):=by
  have len:∀ as m Z,(aDef ps.length k s as).ok m Z→as.length=ps.length:=fun as m Z h=>by
    unfold aDef at h
    exact of_decide_eq_true (ok_if h).1
  refine ⟨D.ok S (fun vs H Q E h=>h.1) fun f cdv A outer sh H vs Q E hr hsp=>?_,len⟩
  obtain ⟨hv,pa,m,G,as,wd,ar,z⟩:=hsp
  refine ⟨_,hbody f cdv A outer sh H E hr,?_⟩
  unfold aDef at z
  obtain ⟨_,z⟩:=ok_if z
  refine ⟨pa,G,H,m,_,G,Rl.start wd ar (by rw [hv]; exact hk),Tr.ok_mono (Tr.ok_bind.mp z) fun m1 o ko=>?_⟩
  cases o with
  | next ρ=>exact fun σ G1 H1 sb R1=>ko .non G1 H1 R1.st R1.wd .non
  | ret r=>exact ko
  | brk ρ=>exact ko.elim
  | cont ρ=>exact ko.elim

theorem pi_seq {tg l:Expr} {tl:TE} (hl:PE X l tl):PI X tg l (fun σ H R=>tl σ H fun x H1=>∃ a,x=.ref a∧((∃ xs,SqL X.K H1 a xs∧R (Itl X.K a) H1)∨(∃ xs,SqT X.K H1 a xs∧R (Itt X.K a) H1))):=by
  intro pins s σ H R I h
  refine thn (hl pins s σ H _ I h) fun v s1 hz0=>?_
  obtain ⟨x,H1,I1,r1,q1⟩:=hz0
  obtain ⟨a,e,q⟩:=q1
  subst e
  cases r1
  rcases q with ⟨xs,hq,q⟩ | ⟨xs,hq,q⟩
  · obtain ⟨its,rv,p,hz⟩:=I1.list hq
    refine wpAny_pyIter_list p.isList ?_
    refine ⟨s1.heap.objs.size,[s1.heap.objs.size],_,_,H1,rfl,I1.kept (t':=s1.toks) fun b o e=>Heap.get?_push_of_some _ e,turn_list a _,⟨_,Heap.get?_push_size _ rfl,rfl,rfl⟩,fun b hb=>?_,q⟩
    have e:b=s1.heap.objs.size:=by simpa using hb
    subst e
    exact I1.fpOk (Nat.le_refl _) (I1.hok.fresh (Nat.le_refl _))
  · obtain ⟨its,rv,p,hz⟩:=I1.tuple hq
    refine wpAny_pyIter_tuple (show s1.heap.IsTuple a its.toArray from p) ?_
    refine ⟨s1.heap.objs.size,[s1.heap.objs.size],_,_,H1,rfl,I1.kept (t':=s1.toks) fun b o e=>Heap.get?_push_of_some _ e,turn_tuple a _,⟨_,Heap.get?_push_size _ rfl,rfl,rfl⟩,fun b hb=>?_,q⟩
    have e:b=s1.heap.objs.size:=by simpa using hb
    subst e
    exact I1.fpOk (Nat.le_refl _) (I1.hok.fresh (Nat.le_refl _))
theorem DnAll.get {H:Hp}:∀ {vs:List V} {ds:List PyData} (n:Nat) {d:PyData},DnAll H vs ds→ds[n]?=some d→∃ v,vs[n]?=some v∧Dn H v d
  | _,_,_,_,.nil,e=>by simp at e
  | _,_,0,_,.cons g t,e=>by simp at e; subst e; exact ⟨_,rfl,g⟩
  | _,_,n+1,_,.cons g t,e=>by
    obtain ⟨v,h1,h2⟩:=DnAll.get n t (by simpa using e)
    exact ⟨v,by simpa using h1,h2⟩
theorem jok_list {K:PySem.W.Frag} {pa a:Addr} {G:Hp} {vs:List V} {xs:List PyData} (h:G a=some (.lst vs)) (d:DnAll G vs xs):JOk PK pa (Itl K a) G xs:=fun m G2 H2 sb w=>by
  have hq:SqL K H2 a vs:=SqL.of (w.sub _ _ (sb _ _ h))
  refine ⟨fun n x hx=>?_,vs,hq,by rw [d.length]; exact Nat.le_refl _⟩
  obtain ⟨v,hv,dv⟩:=d.get n hx
  refine ⟨⟨vs,v,hq,hv⟩,fun y H3 hz0=>?_⟩
  obtain ⟨e,hy⟩:=hz0
  subst e
  have:=hy vs hq
  rw [hv] at this
  cases this
  exact ⟨G2,.refl,w,dv.mono sb⟩
theorem jok_tup {K:PySem.W.Frag} {pa a:Addr} {G:Hp} {vs:List V} {xs:List PyData} (h:G a=some (.tup vs)) (d:DnAll G vs xs):JOk PK pa (Itt K a) G xs:=fun m G2 H2 sb w=>by
  have hq:SqT K H2 a vs:=SqT.of (w.sub _ _ (sb _ _ h))
  refine ⟨fun n x hx=>?_,vs,hq,by rw [d.length]; exact Nat.le_refl _⟩
  obtain ⟨v,hv,dv⟩:=d.get n hx
  refine ⟨⟨vs,v,hq,hv⟩,fun y H3 hz0=>?_⟩
  obtain ⟨e,hy⟩:=hz0
  subst e
  have:=hy vs hq
  rw [hv] at this
  cases this
  exact ⟨G2,.refl,w,dv.mono sb⟩
noncomputable def itD:PyData→Option (List PyData)
  | .list xs=>some xs
  | .tuple xs=>some xs
  | _=>none
@[simp] theorem itD_list (xs:List PyData):itD (.list xs)=some xs:=rfl
@[simp] theorem itD_tuple (xs:List PyData):itD (.tuple xs)=some xs:=rfl
noncomputable def aIt (i:List Sl→Tr PyData):List Sl→Tr (List PyData):=fun ρ=>(i ρ).bind fun x=>Tr.of (itD x)
theorem ai_seq {tg l:Expr} (hl:PE X l (TAe PK i)):PI X tg l (TAi PK (aIt i)):=(pi_seq hl).imp fun σ H R0 hz0=>by
  obtain ⟨pa,G₀,H₀,m,ρ,G,R,z⟩:=hz0
  refine TAe.then R z fun m1 x v G1 H1 s1 w1 R1 d1 q1=>?_
  obtain ⟨xs,hx,q1⟩:=Tr.ok_of q1
  cases d1 with
  | lst h1 h2=>cases hx; exact ⟨_,rfl,.inl ⟨_,SqL.of (w1.sub _ _ h1),q1 _ G1 H1 s1 w1 (jok_list h1 h2)⟩⟩
  | tup h1 h2=>cases hx; exact ⟨_,rfl,.inr ⟨_,SqT.of (w1.sub _ _ h1),q1 _ G1 H1 s1 w1 (jok_tup h1 h2)⟩⟩
  | _=>cases hx
noncomputable def rngL (lo hi:Int):List PyData:=(rangeI lo (hi - lo).toNat).map PyData.int
theorem jok_rng {pa:Addr} {G:Hp} {lo:Int} {n:Nat}:JOk PK pa (Itr lo n) G ((rangeI lo n).map PyData.int):=fun m G2 H2 sb w=>by
  refine ⟨fun k x hx=>?_,by show n≤_; rw [List.length_map,rangeI_length]; exact Nat.le_refl _⟩
  have hk:k < n:=by
    have:=(List.getElem?_eq_some_iff.mp hx).1
    rwa [List.length_map,rangeI_length] at this
  refine ⟨hk,fun y H3 hz0=>?_⟩
  obtain ⟨e1,e2⟩:=hz0
  subst e1 e2
  have:x=.int (lo+k):=by
    unfold rangeI at hx
    simp [hk] at hx
    exact hx.symm
  subst this
  exact ⟨G2,.refl,w,.int _⟩
noncomputable def inR (n:Int):Bool:=decide (-(2 ^ 62)≤n∧n < 2 ^ 62)
noncomputable def rngD1:List PyData→Option (List PyData)
  | [.int n]=>if inR n=true then some (rngL 0 n) else none
  | _=>none
noncomputable def rngD2:List PyData→Option (List PyData)
  | [.int k,.int n]=>if (inR k && inR n)=true then some (rngL k n) else none
  | _=>none
noncomputable def aRng1 (is:List Sl→Tr (List PyData)):List Sl→Tr (List PyData):=fun ρ=>(is ρ).bind fun xs=>Tr.of (rngD1 xs)
noncomputable def aRng2 (is:List Sl→Tr (List PyData)):List Sl→Tr (List PyData):=fun ρ=>(is ρ).bind fun xs=>Tr.of (rngD2 xs)
theorem rngD1_inv {G:Hp} {vs:List V} {xs ys:List PyData} (d:DnAll G vs xs) (h:rngD1 xs=some ys):∃ n:Int,vs=[.int n]∧-(2 ^ 62)≤n∧n < 2 ^ 62∧ys=rngL 0 n:=by
  unfold rngD1 at h
  split at h
  · rename_i n
    split at h
    · rename_i hn
      cases h
      cases d with
      | cons d1 d2 =>
        cases d2
        cases d1
        have:=of_decide_eq_true hn
        exact ⟨n,rfl,this.1,this.2,rfl⟩
    · cases h
  · cases h
theorem rngD2_inv {G:Hp} {vs:List V} {xs ys:List PyData} (d:DnAll G vs xs) (h:rngD2 xs=some ys):∃ k n:Int,vs=[.int k,.int n]∧(-(2 ^ 62)≤k∧k < 2 ^ 62∧-(2 ^ 62)≤n∧n < 2 ^ 62)∧ys=rngL k n:=by
  unfold rngD2 at h
  split at h
  · rename_i k n
    split at h
    · rename_i hn
      cases h
      cases d with
      | cons d1 d2 =>
        cases d2 with
        | cons d2 d3 =>
          cases d3
          cases d1
          cases d2
          rw [Bool.and_eq_true] at hn
          have h1:=of_decide_eq_true hn.1
          have h2:=of_decide_eq_true hn.2
          exact ⟨k,n,rfl,⟨h1.1,h1.2,h2.1,h2.2⟩,rfl⟩
    · cases h
  · cases h
theorem ai_rng1 {tg e:Expr} (h:PI X tg e (iRng1 (TAd PK is))):PI X tg e (TAi PK (aRng1 is)):=h.imp fun σ H R0 hz0=>by
  obtain ⟨pa,G₀,H₀,m,ρ,G,R,z⟩:=hz0
  refine TAd.then R z fun m1 xs vs G1 H1 s1 w1 R1 d1 q1=>?_
  obtain ⟨ys,hy,q1⟩:=Tr.ok_of q1
  obtain ⟨n,e,h1,h2,rfl⟩:=rngD1_inv d1 hy
  refine ⟨n,e,h1,h2,?_⟩
  have q:=q1 (Itr 0 n.toNat) G1 H1 s1 w1
  unfold rngL at q
  rw [Int.sub_zero] at q
  exact q jok_rng
theorem ai_rng2 {tg e:Expr} (h:PI X tg e (iRng2 (TAd PK is))):PI X tg e (TAi PK (aRng2 is)):=h.imp fun σ H R0 hz0=>by
  obtain ⟨pa,G₀,H₀,m,ρ,G,R,z⟩:=hz0
  refine TAd.then R z fun m1 xs vs G1 H1 s1 w1 R1 d1 q1=>?_
  obtain ⟨ys,hy,q1⟩:=Tr.ok_of q1
  obtain ⟨k,n,e,h1,rfl⟩:=rngD2_inv d1 hy
  exact ⟨k,n,e,h1,q1 (Itr k (n - k).toNat) G1 H1 s1 w1 jok_rng⟩
end L2
set_option Elab.async false
set_option linter.all false
set_option maxRecDepth 100000
namespace L2
open PySem PySem.Spec PyProof.Rows
variable {PK:Pk} {X:Cx} {a b c e:Expr} {es:List Expr} {pos:Pos} {i j l:List Sl→Tr PyData} {is:List Sl→Tr (List PyData)}
noncomputable def fit (n:Int):Bool:=decide (n.natAbs < 2 ^ 8000)
noncomputable def addD:PyData→PyData→Option PyData
  | .int m,.int n=>some (.int (m+n))
  | .tuple xs,.tuple ys=>if (!xs.isEmpty && small (xs.length+ys.length))=true then some (.tuple (xs++ys)) else none
  | .list xs,.list ys=>if small (xs.length+ys.length)=true then some (.list (xs++ys)) else none
  | _,_=>none
noncomputable def rAddD (K:PySem.W.Frag):R2:=fun x y H Q=>rI0 (fun i j=>.int (i+j)) x y H Q∨rCatT K x y H Q∨rCat x y H Q
theorem op_addD:OpR X (binaryOp .Add) (rAddD X.K):=op_add.or (op_catT.or op_cat)
theorem vo_add {K:PySem.W.Frag}:VOp2 (rAddD K) addD:=fun PK pa m G H x y dx dy dz Q w hx hy hz k=>by
  unfold addD at hz
  split at hz
  · cases hz; cases hx; cases hy
    exact .inl ⟨_,_,rfl,rfl,k.here w (.int _)⟩
  · rename_i xs ys
    split at hz
    · rename_i hc
      rw [Bool.and_eq_true] at hc
      have h1:xs.isEmpty=false:=by simpa using hc.1
      have h2:xs.length+ys.length≤sizeLine:=of_decide_eq_true hc.2
      cases hz
      cases hx with
      | tup a1 a2 =>
        cases hy with
        | tup b1 b2 =>
          refine .inr (.inl ⟨_,_,_,_,rfl,rfl,SqT.of (w.sub _ _ a1),SqT.of (w.sub _ _ b1),?_,by rw [a2.length,b2.length]; exact h2,fun e=>?_,fun e p hp=>k.tup w (a2.append b2) hp⟩)
          · intro e
            rw [← a2.isEmpty,e] at h1
            cases h1
          · subst e
            cases b2
            refine k.here w ?_
            rw [List.append_nil]
            exact .tup a1 a2
    · cases hz
  · rename_i xs ys
    split at hz
    · rename_i hc
      have h2:xs.length+ys.length≤sizeLine:=of_decide_eq_true hc
      cases hz
      cases hx with
      | lst a1 a2 =>
        cases hy with
        | lst b1 b2=>exact .inr (.inr ⟨_,_,_,_,rfl,rfl,w.sub _ _ a1,w.sub _ _ b1,by rw [a2.length,b2.length]; exact h2,fun p hp=>k.lst w (a2.append b2) hp⟩)
    · cases hz
  · cases hz
noncomputable def subD:PyData→PyData→Option PyData
  | .int m,.int n=>some (.int (m - n))
  | _,_=>none
theorem vo_sub:VOp2 (rI0 fun i j=>.int (i - j)) subD:=fun PK pa m G H x y dx dy dz Q w hx hy hz k=>by
  unfold subD at hz
  split at hz
  · cases hz; cases hx; cases hy
    exact ⟨_,_,rfl,rfl,k.here w (.int _)⟩
  · cases hz
theorem DnAll.rep {H:Hp} {vs:List V} {ds:List PyData} (h:DnAll H vs ds):∀ k:Nat,DnAll H (List.replicate k vs).flatten (List.replicate k ds).flatten
  | 0=>.nil
  | k+1=>by
    rw [List.replicate_succ,List.replicate_succ,List.flatten_cons,List.flatten_cons]
    exact h.append (h.rep k)
noncomputable def rMulD (K:PySem.W.Frag):R2:=fun x y H Q=>rI CMulG (fun i j=>.int (i * j)) x y H Q∨rRepT K x y H Q∨rRep x y H Q
theorem op_mulD:OpR X (binaryOp .Mult) (rMulD X.K):=op_mulG.or (op_repT.or op_rep)
noncomputable def mulD':PyData→PyData→Option PyData
  | .int m,.int n=>if (fit m && fit n)=true then some (.int (m * n)) else none
  | .tuple xs,.int n=>if (decide (1 < n) && decide (n≤1000) && !xs.isEmpty && decide (xs.length≤1000))=true then some (.tuple (List.replicate n.toNat xs).flatten) else none
  | .list xs,.int n=>if (decide (-(2 ^ 63)≤n) && decide (n < 2 ^ 63) && small (xs.length * n.toNat))=true then some (.list (List.replicate n.toNat xs).flatten) else none
  | _,_=>none
theorem vo_mul {K:PySem.W.Frag}:VOp2 (rMulD K) mulD':=fun PK pa m G H x y dx dy dz Q w hx hy hz k=>by
  unfold mulD' at hz
  split at hz
  · split at hz
    · rename_i hc
      rw [Bool.and_eq_true] at hc
      cases hz; cases hx; cases hy
      exact .inl ⟨_,_,rfl,rfl,⟨of_decide_eq_true hc.1,of_decide_eq_true hc.2⟩,k.here w (.int _)⟩
    · cases hz
  · split at hz
    · rename_i hc
      simp only [Bool.and_eq_true,decide_eq_true_eq,Bool.not_eq_true'] at hc
      cases hz; cases hy
      cases hx with
      | tup a1 a2 =>
        refine .inr (.inl ⟨_,_,_,rfl,rfl,SqT.of (w.sub _ _ a1),hc.1.1.1,hc.1.1.2,?_,by rw [a2.length]; exact hc.2,fun p hp=>k.tup w (a2.rep _) hp⟩)
        intro e
        have:=hc.1.2
        rw [← a2.isEmpty,e] at this
        cases this
    · cases hz
  · split at hz
    · rename_i hc
      simp only [Bool.and_eq_true,decide_eq_true_eq] at hc
      cases hz; cases hy
      cases hx with
      | lst a1 a2=>exact .inr (.inr ⟨_,_,_,rfl,rfl,w.sub _ _ a1,hc.1.1,hc.1.2,by rw [a2.length]; exact of_decide_eq_true hc.2,fun p hp=>k.lst w (a2.rep _) hp⟩)
    · cases hz
  · cases hz
noncomputable def fdivD:PyData→PyData→Option PyData
  | .int m,.int n=>if (decide (n≠0) && fit n)=true then some (.int (m.fdiv n)) else none
  | _,_=>none
theorem vo_fdiv:VOp2 (rI CDivG fun i j=>.int (i.fdiv j)) fdivD:=fun PK pa m G H x y dx dy dz Q w hx hy hz k=>by
  unfold fdivD at hz
  split at hz
  · split at hz
    · rename_i hc
      rw [Bool.and_eq_true] at hc
      cases hz; cases hx; cases hy
      exact ⟨_,_,rfl,rfl,⟨of_decide_eq_true hc.1,of_decide_eq_true hc.2⟩,k.here w (.int _)⟩
    · cases hz
  · cases hz
noncomputable def aNeg (i:List Sl→Tr PyData):List Sl→Tr PyData:=fun ρ=>(i ρ).bind fun x=>match x with
  | .int n=>.ret (.int (-n))
  | _=>.fail
theorem ae_neg (ha:PE X a (TAe PK i)):PE X (.UnaryOp .USub a pos) (TAe PK (aNeg i)):=(pe_un un_neg ha).imp fun σ H Q hz0=>by
  obtain ⟨pa,G₀,H₀,m,ρ,G,R,z⟩:=hz0
  refine TAe.then R z fun m1 x v G1 H1 s1 w1 R1 d1 q1=>?_
  cases d1 with
  | int n=>exact ⟨n,rfl,(Kn.later q1 s1 w1.some).here w1 (.int _)⟩
  | _=>exact q1.elim
noncomputable def cmpD (f:Int→Int→Bool):PyData→PyData→Option PyData
  | .int m,.int n=>some (.bool (f m n))
  | _,_=>none
theorem vo_cmp {f:Int→Int→Bool}:VOp2 (rI0 fun i j=>.bl (f i j)) (cmpD f):=fun PK pa m G H x y dx dy dz Q w hx hy hz k=>by
  unfold cmpD at hz
  split at hz
  · cases hz; cases hx; cases hy
    exact ⟨_,_,rfl,rfl,k.here w (.bl _)⟩
  · cases hz
noncomputable def eqD:PyData→PyData→Option PyData
  | .str m,.str n=>some (.bool (m == n))
  | x,y=>if (SeqAt.shaped x && SeqAt.shaped y)=true then some (.bool (PyData.eqv x y)) else none
noncomputable def rEqD:R2:=fun x y H Q=>rEq x y H Q∨∃ d e,Dn H x d∧Dn H y e∧SeqAt.shaped d=true∧SeqAt.shaped e=true∧Q (.bl (PyData.eqv d e)) H
theorem op_eqA {k:Nat} (hr:Room k X.A):OpR X (compareOp .Eq) rEqD:=op_eq.or (op_eqD hr)
theorem vo_eq:VOp2 rEqD eqD:=fun PK pa m G H x y dx dy dz Q w hx hy hz k=>by
  unfold eqD at hz
  split at hz
  · cases hz; cases hx; cases hy
    exact .inl ⟨rfl,by rw [dec_str]; exact k.here w (.bl _)⟩
  · split at hz
    · rename_i hc
      rw [Bool.and_eq_true] at hc
      cases hz
      exact .inr ⟨_,_,hx.mono w.sub,hy.mono w.sub,hc.1,hc.2,k.here w (.bl _)⟩
    · cases hz
noncomputable def ixD:PyData→PyData→Option PyData
  | .list xs,.int n=>atI xs n
  | .tuple xs,.int n=>atI xs n
  | _,_=>none
theorem DnAll.at {H:Hp} {vs:List V} {ds:List PyData} {n:Int} {d:PyData} (h:DnAll H vs ds) (e:atI ds n=some d):∃ v,atI vs n=some v∧Dn H v d:=by
  unfold atI at e ⊢
  rw [← h.length] at e
  cases hn:ixN vs.length n with
  | none=>rw [hn] at e; cases e
  | some j =>
    rw [hn] at e
    exact h.get j e
theorem vo_ix {K:PySem.W.Frag}:VOp2 (rIx K) ixD:=fun PK pa m G H x y dx dy dz Q w hx hy hz k=>by
  unfold ixD at hz
  split at hz
  · cases hy
    cases hx with
    | lst a1 a2 =>
      obtain ⟨v,h1,h2⟩:=a2.at hz
      exact .inl ⟨_,_,_,v,rfl,rfl,SqL.of (w.sub _ _ a1),h1,k.here w h2⟩
  · cases hy
    cases hx with
    | tup a1 a2 =>
      obtain ⟨v,h1,h2⟩:=a2.at hz
      exact .inr (.inl ⟨_,_,_,v,rfl,rfl,SqT.of (w.sub _ _ a1),h1,k.here w h2⟩)
  · cases hz

noncomputable def lenD:List PyData→Option PyData
  | [.list xs]=>some (.int xs.length)
  | [.tuple xs]=>some (.int xs.length)
  | _=>none
theorem vc_len {K:PySem.W.Frag}:VCl (fun xs H Q=>∃ p ys,xs=[.ref p]∧(SqL K H p ys∨SqT K H p ys)∧Q (.int ys.length) H) lenD:=fun PK pa m G H vs ds d Q w hv hd k=>by
  unfold lenD at hd
  split at hd
  · cases hd
    cases hv with
    | cons h1 h2 =>
      cases h2
      cases h1 with
      | lst a1 a2=>exact ⟨_,_,rfl,.inl (SqL.of (w.sub _ _ a1)),by rw [a2.length]; exact k.here w (.int _)⟩
  · cases hd
    cases hv with
    | cons h1 h2 =>
      cases h2
      cases h1 with
      | tup a1 a2=>exact ⟨_,_,rfl,.inr (SqT.of (w.sub _ _ a1)),by rw [a2.length]; exact k.here w (.int _)⟩
  · cases hd
noncomputable def maxI (m n:Int):Int:=if n > m then n else m
noncomputable def minI (m n:Int):Int:=if n < m then n else m
noncomputable def max2D:List PyData→Option PyData
  | [.int m,.int n]=>some (.int (maxI m n))
  | _=>none
noncomputable def min2D:List PyData→Option PyData
  | [.int m,.int n]=>some (.int (minI m n))
  | _=>none
theorem vc_max2:VCl (fun xs H Q=>∃ i j,xs=[.int i,.int j]∧Q (.int (if j > i then j else i)) H) max2D:=fun PK pa m G H vs ds d Q w hv hd k=>by
  unfold max2D at hd
  split at hd
  · cases hd
    cases hv with
    | cons h1 h2=>cases h2 with | cons h2 h3=>cases h3; cases h1; cases h2; exact ⟨_,_,rfl,k.here w (.int _)⟩
  · cases hd
theorem vc_min2:VCl (fun xs H Q=>∃ i j,xs=[.int i,.int j]∧Q (.int (if j < i then j else i)) H) min2D:=fun PK pa m G H vs ds d Q w hv hd k=>by
  unfold min2D at hd
  split at hd
  · cases hd
    cases hv with
    | cons h1 h2=>cases h2 with | cons h2 h3=>cases h3; cases h1; cases h2; exact ⟨_,_,rfl,k.here w (.int _)⟩
  · cases hd
noncomputable def intD:List PyData→Option PyData
  | [.int n]=>some (.int n)
  | [.bool n]=>some (.int (if n then 1 else 0))
  | _=>none
theorem vc_int:VCl (fun xs H Q=>(∃ i,xs=[.int i]∧Q (.int i) H)∨∃ k,xs=[.bl k]∧Q (.int (if k then 1 else 0)) H) intD:=fun PK pa m G H vs ds d Q w hv hd k=>by
  unfold intD at hd
  split at hd
  · cases hd
    cases hv with
    | cons h1 h2=>cases h2; cases h1; exact .inl ⟨_,rfl,k.here w (.int _)⟩
  · cases hd
    cases hv with
    | cons h1 h2=>cases h2; cases h1; exact .inr ⟨_,rfl,k.here w (.int _)⟩
  · cases hd
noncomputable def tupD:List PyData→Option PyData
  | [.list xs]=>some (.tuple xs)
  | [.tuple xs]=>some (.tuple xs)
  | _=>none
theorem vc_tup {K:PySem.W.Frag}:VCl (fun xs H Q=>∃ p ys,xs=[.ref p]∧((SqL K H p ys∧∀ l,H l=none→Q (.ref l) (upd H l (.tup ys)))∨(SqT K H p ys∧Q (.ref p) H))) tupD:=fun PK pa m G H vs ds d Q w hv hd k=>by
  unfold tupD at hd
  split at hd
  · cases hd
    cases hv with
    | cons h1 h2 =>
      cases h2
      cases h1 with
      | lst a1 a2=>exact ⟨_,_,rfl,.inl ⟨SqL.of (w.sub _ _ a1),fun p hp=>k.tup w a2 hp⟩⟩
  · cases hd
    cases hv with
    | cons h1 h2 =>
      cases h2
      cases h1 with
      | tup a1 a2=>exact ⟨_,_,rfl,.inr ⟨SqT.of (w.sub _ _ a1),k.here w (.tup a1 a2)⟩⟩
  · cases hd
noncomputable def cutD (xs:List PyData) (lo hi:Option Int):List PyData:=(xs.drop (HT.sIx xs.length 0 lo)).take (HT.sIx xs.length xs.length hi - HT.sIx xs.length 0 lo)
theorem DnAll.take {H:Hp}:∀ {vs:List V} {ds:List PyData} (n:Nat),DnAll H vs ds→DnAll H (vs.take n) (ds.take n)
  | _,_,0,_=>.nil
  | _,_,_+1,.nil=>.nil
  | _,_,n+1,.cons r t=>.cons r (DnAll.take n t)
theorem DnAll.drop {H:Hp}:∀ {vs:List V} {ds:List PyData} (n:Nat),DnAll H vs ds→DnAll H (vs.drop n) (ds.drop n)
  | _,_,0,r=>r
  | _,_,_+1,.nil=>.nil
  | _,_,n+1,.cons r t=>DnAll.drop n t
theorem DnAll.cut {H:Hp} {vs:List V} {ds:List PyData} (h:DnAll H vs ds) (lo hi:Option Int):DnAll H (cutV vs lo hi) (cutD ds lo hi):=by
  unfold cutV cutD
  rw [h.length]
  exact (h.drop _).take _
noncomputable abbrev aPart:=List Sl→Tr (Option Int)
noncomputable def aP0:aPart:=fun _=>.ret none
noncomputable def aP1 (i:List Sl→Tr PyData):aPart:=fun ρ=>(i ρ).bind fun x=>match x with
  | .int n=>.ret (some n)
  | _=>.fail
noncomputable def TAp (PK:Pk) (i:aPart):TO:=fun σ H Q=>∃ pa G₀ H₀ m ρ G,Rl PK pa G₀ H₀ m σ ρ G H∧(i ρ).ok m fun m' x=>∀ G' H',Stp pa G H G' H'→Wd PK pa m' G' H'→Q x H'
theorem PO.imp {e:Option Expr} {t t':TO} (h:PO X e t) (q:∀ σ H Q,t' σ H Q→t σ H Q):PO X e t':=fun pins s σ H Q I z=>h pins s σ H Q I (q σ H Q z)
theorem ap_none:PO X none (TAp PK aP0):=po_none.imp fun σ H Q hz0=>by
  obtain ⟨pa,G₀,H₀,m,ρ,G,R,z⟩:=hz0
  exact z G H .refl R.wd
theorem ap_some (h:PE X e (TAe PK i)):PO X (some e) (TAp PK (aP1 i)):=(po_some h).imp fun σ H Q hz0=>by
  obtain ⟨pa,G₀,H₀,m,ρ,G,R,z⟩:=hz0
  refine TAe.then R z fun m1 x v G1 H1 s1 w1 R1 d1 q1=>?_
  cases d1 with
  | int n=>exact ⟨n,rfl,q1 G1 H1 s1 w1⟩
  | _=>exact q1.elim
theorem getItem_tuple_whole {prog:Program} {w:World} {A:Around} {E:Value→Shared→Prop} {s:Shared} {t sl:Addr} {items:Array Value} {vl vu:Value} {lo hi:Option Int} {Q:Value→Shared→Prop} (ht:IsTup s.heap t items) (hs:s.heap.IsSliceOf sl vl vu .none) (pl:IsPart vl lo) (pu:IsPart vu hi)
    (hw:HT.sIx items.size 0 lo=0∧HT.sIx items.size items.size hi=items.size) (h:Q (.ref t) s):wpAny (model prog w) A (getItem (.ref t) (.ref sl)) Q E s:=by
  obtain ⟨os,hos,hcs,hds⟩:=id hs
  have hTs:s.TypeIs (.ref sl) "slice":=⟨os,hos,hcs⟩
  unfold getItem
  try with_reducible refine wpAny_holding ?_
  first | refine wpAny_bind (wpAny_pure ?_) | skip
  refine wpAny_bind (wpAny_sequenceKey ht.typeIs (by decide) ?_)
  refine wpAny_bind (wpAny_callSpecial?_slot (name:=Str.ofString "__getitem__") ht.typeIs PyProof.Rows.slot_tuple_getitem
    (wpAny_call_entry PyProof.Rows.slot_tuple_getitem ht.typeIs entry_tuple_getitem ?_ (args_tuple_getitem _ _)))
  show wpAny _ _ (Builtin.Tuple.tupleItemsOf (.ref t) >>= _) _ _ s
  refine wpAny_bind (tupleItemsOf_ ht ?_)
  refine wpAny_bind (wpAny_typeOf hTs ?_)
  rw [if_pos (by decide)]
  refine wpAny_bind (HT.sliceApplied_gen hs pl pu ?_)
  have hyes:(((HT.sIx items.size 0 lo:Nat):Int) == 0 && (1:Int) == 1 && (HT.sIx items.size items.size hi - HT.sIx items.size 0 lo) == items.size)=true:=by
    rw [hw.1,hw.2]
    simp
  show wpAny _ _ (if (((HT.sIx items.size 0 lo:Nat):Int) == 0 && (1:Int) == 1 && (HT.sIx items.size items.size hi - HT.sIx items.size 0 lo) == items.size)=true then _ else _) _ _ s
  rw [if_pos hyes]
  refine wpAny_bind (m:=Builtin.Tuple.tupleIsExact (.ref t)) ?_
  unfold Builtin.Tuple.tupleIsExact
  refine wpAny_bind (wpAny_typeOf ht.typeIs ?_)
  refine wpAny_pure ?_
  rw [if_pos (by decide)]
  refine wpAny_bind (wpAny_rule ?_)
  exact wpAny_pure ⟨_,rfl,wpAny_pure h⟩
noncomputable def rSlTw (K:PySem.W.Frag):V→Option Int→Option Int→Hp→VK→Prop:=fun x lo hi H Q=>∃ a xs,x=.ref a∧SqT K H a xs∧(HT.sIx xs.length 0 lo=0∧HT.sIx xs.length xs.length hi=xs.length)∧Q (.ref a) H
theorem sl_tupW:SlR X (rSlTw X.K):=by
  intro pins s σ H x v vl vu lo hi sl Q I rx hs pl pu h
  obtain ⟨a,xs,rfl,hx,hw,q⟩:=h
  cases rx
  obtain ⟨its,r,ht,hz⟩:=I.tuple hx
  have hlen:its.toArray.size=xs.length:=by rw [List.size_toArray]; exact r.length.symm
  refine ⟨"tuple",_,PyProof.Rows.slot_tuple_getitem.lookup,ht.typeIs,?_⟩
  exact getItem_tuple_whole ht hs pl pu (by rw [hlen]; exact hw) ⟨.ref a,H,I,rfl,q⟩
noncomputable def rSlD (K:PySem.W.Frag):V→Option Int→Option Int→Hp→VK→Prop:=fun x lo hi H Q=>rSlL K x lo hi H Q∨rSlT K x lo hi H Q∨rSlTw K x lo hi H Q
theorem sl_all:SlR X (rSlD X.K):=sl_list.or (sl_tup.or sl_tupW)
noncomputable def sliceD (x:PyData) (lo hi:Option Int):Option PyData:=match x with
  | .list xs=>some (.list (cutD xs lo hi))
  | .tuple xs=>some (.tuple (cutD xs lo hi))
  | _=>none
noncomputable def aSl (i:List Sl→Tr PyData) (p q:aPart):List Sl→Tr PyData:=fun ρ=>(i ρ).bind fun x=>(p ρ).bind fun lo=>(q ρ).bind fun hi=>Tr.of (sliceD x lo hi)
theorem TAp.then {p:aPart} {σ:St} {H:Hp} {β:Type} {k:Option Int→Tr β} {Z:Nat→β→Prop} {Q:Option Int→Hp→Prop} {pa:Addr} {G₀ H₀ G:Hp} {m:Nat} {ρ:List Sl} (R:Rl PK pa G₀ H₀ m σ ρ G H) (h:((p ρ).bind k).ok m Z)
    (hq:∀ m1 x G1 H1,Stp pa G H G1 H1→Wd PK pa m1 G1 H1→Rl PK pa G₀ H₀ m1 σ ρ G1 H1→(k x).ok m1 Z→Q x H1):TAp PK p σ H Q:=by
  refine ⟨pa,G₀,H₀,m,ρ,G,R,Tr.ok_mono (Tr.ok_bind.mp h) fun m1 x hx G1 H1 s1 w1=>?_⟩
  exact hq m1 x G1 H1 s1 w1 (R.step s1 w1) hx
theorem ae_sl {p q:aPart} {lo hi:Option Expr} {p2:Pos} (he:PE X e (TAe PK i)) (hl:PO X lo (TAp PK p)) (hu:PO X hi (TAp PK q)):PE X (.Subscript e (.Slice lo hi none p2) pos) (TAe PK (aSl i p q)):=(pe_slice sl_all he hl hu).imp fun σ H Q hz0=>by
  obtain ⟨pa,G₀,H₀,m,ρ,G,R,z⟩:=hz0
  refine TAe.then R z fun m1 x v G1 H1 s1 w1 R1 d1 q1=>?_
  refine TAp.then R1 q1 fun m2 lo G2 H2 s2 w2 R2 q2=>?_
  refine TAp.then R2 q2 fun m3 hi G3 H3 s3 w3 R3 q3=>?_
  obtain ⟨d,hd,k⟩:=Tr.ok_of q3
  have s13:=(s1.trans s2 w1.some).trans s3 w2.some
  have k':=Kn.later k s13 w3.some
  have d3:=d1.mono (s2.gs.trans s3.gs)
  cases d3 with
  | lst a1 a2=>cases hd; exact .inl ⟨_,_,rfl,SqL.of (w3.sub _ _ a1),fun p hp=>k'.lst w3 (a2.cut lo hi) hp⟩
  | @tup a xs ds a1 a2 =>
    cases hd
    by_cases hw:HT.sIx xs.length 0 lo=0∧HT.sIx xs.length xs.length hi=xs.length
    · refine .inr (.inr ⟨_,_,rfl,SqT.of (w3.sub _ _ a1),hw,k'.here w3 ?_⟩)
      have e:cutD ds lo hi=ds:=by
        unfold cutD
        rw [← a2.length,hw.1,hw.2]
        simp
        rw [a2.length]
        exact List.take_length
      rw [e]
      exact .tup a1 a2
    · exact .inr (.inl ⟨_,_,rfl,SqT.of (w3.sub _ _ a1),hw,fun p hp=>k'.tup w3 (a2.cut lo hi) hp⟩)
  | _=>cases hd
theorem DnAll.range {H:Hp} (lo:Int) (n:Nat):DnAll H (rangeV lo n) ((rangeI lo n).map PyData.int):=by
  rw [rangeV_eq]
  exact DnAll.ints _
noncomputable def rngOk (lo hi:Int):Bool:=inR lo && inR hi && decide ((hi - lo).toNat≤1000)
noncomputable def rngV2:List PyData→Option (List PyData)
  | [.int lo,.int hi]=>if rngOk lo hi=true then some (rngL lo hi) else none
  | _=>none
theorem rngV2_inv {G:Hp} {vs:List V} {xs ys:List PyData} (d:DnAll G vs xs) (h:rngV2 xs=some ys):∃ k n:Int,vs=[.int k,.int n]∧(-(2 ^ 62)≤k∧k < 2 ^ 62∧-(2 ^ 62)≤n∧n < 2 ^ 62∧(n - k).toNat≤1000)∧ys=rngL k n:=by
  unfold rngV2 at h
  split at h
  · split at h
    · rename_i hn
      cases h
      cases d with
      | cons d1 d2 =>
        cases d2 with
        | cons d2 d3 =>
          cases d3
          cases d1
          cases d2
          unfold rngOk at hn
          rw [Bool.and_eq_true,Bool.and_eq_true] at hn
          have h1:=of_decide_eq_true hn.1.1
          have h2:=of_decide_eq_true hn.1.2
          exact ⟨_,_,rfl,⟨h1.1,h1.2,h2.1,h2.2,of_decide_eq_true hn.2⟩,rfl⟩
    · cases h
  · cases h
noncomputable def tRngT (t:TA):TE:=tCB (fun xs H Q=>∃ a lo hi,xs=[.ref a]∧H a=some (.rng lo hi)∧-(2 ^ 62)≤lo∧lo < 2 ^ 62∧-(2 ^ 62)≤hi∧hi < 2 ^ 62∧(hi - lo).toNat≤1000∧∀ p,H p=none→Q (.ref p) (upd H p (.tup (rangeV lo (hi - lo).toNat))))
  (tCons (tCB (fun xs H Q=>∃ i j:Int,xs=[.int i,.int j]∧∀ p,H p=none→Q (.ref p) (upd H p (.rng i j))) t) tNil)
noncomputable def aTupR (is:List Sl→Tr (List PyData)):List Sl→Tr PyData:=fun ρ=>(is ρ).bind fun xs=>(Tr.of (rngV2 xs)).bind fun ys=>.ret (.tuple ys)
theorem ae_tupR (h:PE X e (tRngT (TAd PK is))):PE X e (TAe PK (aTupR is)):=h.imp fun σ H Q hz0=>by
  obtain ⟨pa,G₀,H₀,m,ρ,G,R,z⟩:=hz0
  refine TAd.then R z fun m1 xs vs G1 H1 s1 w1 R1 d1 q1=>?_
  rw [Tr.ok_bind] at q1
  obtain ⟨ys,hy,k⟩:=Tr.ok_of q1
  obtain ⟨lo,hi,rfl,⟨b1,b2,b3,b4,b5⟩,rfl⟩:=rngV2_inv d1 hy
  refine ⟨lo,hi,rfl,fun p hp=>?_⟩
  obtain ⟨w2,s2⟩:=w1.own (o:=.rng lo hi) hp
  refine ⟨p,lo,hi,rfl,upd_same,b1,b2,b3,b4,b5,fun q hq=>?_⟩
  exact (Kn.later k (s1.trans s2 w1.some) w2.some).tup w2 (DnAll.range _ _) hq
noncomputable def ints?:List PyData→Option (List Int)
  | []=>some []
  | .int n::xs=>(ints? xs).bind fun ns=>some (n::ns)
  | _=>none
@[simp] theorem ints?_map:∀ ns:List Int,ints? (ns.map PyData.int)=some ns
  | []=>rfl
  | n::ns=>by rw [List.map_cons,ints?,ints?_map ns]; rfl
theorem DnAll.ints_inv {H:Hp} {vs:List V} {ds:List PyData} {ns:List Int} (a:DnAll H vs ds) (h:ints? ds=some ns):vs=ns.map V.int∧ds=ns.map PyData.int:=by
  induction vs generalizing ds ns with
  | nil=>cases a; cases h; exact ⟨rfl,rfl⟩
  | cons v vs ih =>
    cases a with
    | cons g t =>
      cases g with
      | int n =>
        unfold ints? at h
        rename_i ds
        cases e:ints? ds with
        | none=>rw [e] at h; cases h
        | some ms =>
          rw [e] at h
          cases h
          obtain ⟨h1,h2⟩:=ih t e
          exact ⟨by rw [h1]; rfl,by rw [h2]; rfl⟩
      | _=>unfold ints? at h; cases h
noncomputable def sortI (ns:List Int):List Int:=ns.mergeSort fun a b=>decide (a≤b)
theorem sortI_perm (ns:List Int):(sortI ns).Perm ns:=List.mergeSort_perm ..
theorem sortI_le (ns:List Int):(sortI ns).Pairwise (·≤·):=by
  have:=List.pairwise_mergeSort (le:=fun (a b:Int)=>decide (a≤b)) (fun a b c h1 h2=>by simp at *; omega) (fun a b=>by simp; omega) ns
  exact this.imp fun h=>by simpa using h
theorem sort_one {a b:List Int} (hp:a.Perm b) (ha:a.Pairwise (·≤·)) (hb:b.Pairwise (·≤·)):a=b:=by
  first
    | exact hp.eq_of_pairwise (fun x y _ _ h1 h2=>Int.le_antisymm h1 h2) ha hb
    | exact List.Perm.eq_of_pairwise (fun x y _ _ h1 h2=>Int.le_antisymm h1 h2) ha hb hp
noncomputable def sortD:List PyData→Option (List PyData)
  | [.list xs]=>(ints? xs).bind fun ns=>if decide (ns.length < 64)=true then some ((sortI ns).map PyData.int) else none
  | _=>none
theorem vc_sort:VClo (fun xs H Q=>∃ l ns,xs=[.ref l]∧H l=some (.lst (ns.map V.int))∧ns.length < 64 ∧
    ∀ (ns':List Int) q,ns'.Perm ns→ns'.Pairwise (·≤·)→H q=none→Q (.ref q) (upd H q (.lst (ns'.map V.int)))) sortD:=fun PK pa m G H vs ds d Q w hv hd k=>by
  unfold sortD at hd
  split at hd
  · rename_i xs
    cases e:ints? xs with
    | none=>rw [e] at hd; cases hd
    | some ns =>
      rw [e] at hd
      have hd':(if decide (ns.length < 64)=true then some ((sortI ns).map PyData.int) else none)=some d:=hd
      split at hd'
      · rename_i hc
        cases hd'
        cases hv with
        | cons h1 h2 =>
          cases h2
          cases h1 with
          | lst a1 a2 =>
            obtain ⟨rfl,rfl⟩:=a2.ints_inv e
            refine ⟨_,ns,rfl,w.sub _ _ a1,of_decide_eq_true hc,fun ns' q hp hs hq=>?_⟩
            have:ns'=sortI ns:=sort_one (hp.trans (sortI_perm ns).symm) hs (sortI_le ns)
            subst this
            exact k.new w (DnAll.ints _) hq
      · cases hd'
  · cases hd
end L2
set_option Elab.async false
set_option linter.all false
set_option maxRecDepth 100000
namespace L2
open PySem PySem.Spec PyProof.Rows
section
variable {prog:Program} {w:World} {A:Around} {E:Value→Shared→Prop} {s:Shared}
noncomputable def ItAt (b:Bool) (h:Heap) (it a:Addr) (k:Nat):Prop:=match b with
  | true=>h.IsListIter it a k
  | false=>h.IsTupleIter it a k
noncomputable def SqAt (b:Bool) (h:Heap) (a:Addr) (items:Array Value):Prop:=match b with
  | true=>h.IsList a items
  | false=>h.IsTuple a items
theorem ItAt.at {b:Bool} {h h':Heap} {it a:Addr} {k:Nat} (x:ItAt b h it a k) (e:∀ o,h.get? it=some o→h'.get? it=some o):ItAt b h' it a k:=by
  cases b with
  | true=>exact Heap.IsListIter.at x e
  | false=>obtain ⟨o,ho,r⟩:=(show h.IsTupleIter it a k from x); exact ⟨o,e o ho,r⟩
theorem SqAt.at {b:Bool} {h h':Heap} {a:Addr} {items:Array Value} (x:SqAt b h a items) (e:∀ o,h.get? a=some o→h'.get? a=some o):SqAt b h' a items:=by
  cases b with
  | true=>exact Heap.IsList.at x e
  | false=>exact Heap.IsTuple.at x e
theorem ItAt.there {b:Bool} {h:Heap} {it a:Addr} {k:Nat} (x:ItAt b h it a k):∃ o,h.get? it=some o∧∀ v,o.data≠.cell v:=by
  cases b with
  | true=>obtain ⟨o,ho,_,hd⟩:=(show h.IsListIter it a k from x); exact ⟨o,ho,fun v z=>by rw [hd] at z; cases z⟩
  | false=>obtain ⟨o,ho,_,hd⟩:=(show h.IsTupleIter it a k from x); exact ⟨o,ho,fun v z=>by rw [hd] at z; cases z⟩

theorem nextOf_tup_item {it l:Addr} {i:Nat} {items:Array Value} {x:Value} {Q:Value→Shared→Prop} (hit:s.heap.IsTupleIter it l i) (hl:s.heap.IsTuple l items) (hx:items[i]?=some x)
    (hQ:∀ h',h'.IsTupleIter it l (i+1)→Heap.SameBut it s.heap h'→Q x { s with heap:=h' }):wpAny (model prog w) A (Builtin.SmallTypes.nextOf (.ref it)) Q E s:=by
  obtain ⟨o,ho,hc,hd⟩:=id hit; obtain ⟨ol,hol,_,nl,hdl⟩:=hl
  unfold Builtin.SmallTypes.nextOf
  refine wpAny_bind (wpAny_callSpecial?_slot (name:=Str.ofString "__next__") hit.typeIs F.slot_tuple_iterator_next (wpAny_call_entry F.slot_tuple_iterator_next hit.typeIs F.entry_tuple_iterator_next ?_ (F.args_tuple_iterator_next_1 _)))
  show wpAny _ _ (field (.ref it) 0 >>= _) _ _ s; refine wpAny_bind (wpAny_field ho hd (x:=.ref l) rfl ?_)
  show wpAny _ _ (if (Value.ref l == Value.none)=true then _ else _) _ _ s; rw [if_neg (show ¬ ((Value.ref l == Value.none)=true) from Bool.false_ne_true)]
  show wpAny _ _ (field (.ref it) 1 >>= _) _ _ s; refine wpAny_bind (wpAny_field ho hd (x:=.int i 0) rfl ?_)
  show wpAny _ _ (seqItems? (.ref l) >>= _) _ _ s; refine wpAny_bind (wpAny_seqItems hol hdl ?_); simp only [Int.toNat_natCast,hx]
  refine wpAny_bind (wpAny_setField ho hd (by simp) (wpAny_pure ⟨x,rfl,wpAny_pure (hQ _ ⟨_,Heap.get?_update_self _ ho (Obj.isFreed_of_fields (Obj.data_mapFields hd _)),(Obj.cls_mapFields ..).trans hc,?_⟩ (Heap.SameBut.update ..))⟩))
  rw [Obj.data_mapFields hd]; simp [rawInt]
theorem nextOf_tup_end {it l:Addr} {i:Nat} {items:Array Value} {Q:Value→Shared→Prop} (hh:A.handled=none) (hit:s.heap.IsTupleIter it l i) (hl:s.heap.IsTuple l items) (hx:items[i]?=none)
    (hE:∀ h' e,Heap.ExtBut it s.heap h'→(∃ o,h'.get? e=some o∧o.cls=.type "StopIteration")→E (.ref e) { s with heap:=h' }):wpAny (model prog w) A (Builtin.SmallTypes.nextOf (.ref it)) Q E s:=by
  obtain ⟨o,ho,hc,hd⟩:=id hit; obtain ⟨ol,hol,_,nl,hdl⟩:=hl
  unfold Builtin.SmallTypes.nextOf
  refine wpAny_bind (wpAny_callSpecial?_slot (name:=Str.ofString "__next__") hit.typeIs F.slot_tuple_iterator_next (wpAny_call_entry F.slot_tuple_iterator_next hit.typeIs F.entry_tuple_iterator_next ?_ (F.args_tuple_iterator_next_1 _)))
  show wpAny _ _ (field (.ref it) 0 >>= _) _ _ s; refine wpAny_bind (wpAny_field ho hd (x:=.ref l) rfl ?_)
  show wpAny _ _ (if (Value.ref l == Value.none)=true then _ else _) _ _ s; rw [if_neg (show ¬ ((Value.ref l == Value.none)=true) from Bool.false_ne_true)]
  show wpAny _ _ (field (.ref it) 1 >>= _) _ _ s; refine wpAny_bind (wpAny_field ho hd (x:=.int i 0) rfl ?_)
  show wpAny _ _ (seqItems? (.ref l) >>= _) _ _ s; refine wpAny_bind (wpAny_seqItems hol hdl ?_); simp only [Int.toNat_natCast,hx]
  refine wpAny_bind (wpAny_rule (wpAny_bind (wpAny_setField ho hd (by simp) ?_))); show wpAny _ _ (newExc (.type "StopIteration") [] >>= _) _ _ _
  refine wpAny_bind ?_; simp only [newExc,newTuple]; refine wpAny_bind (wpAny_newObj_type ?_ (by size_fits))
  refine wpAny_bind (m:=firstArgMember _ _) (wpAny_of_eq (a:=Value.none) (by first | rfl | (simp only [firstArgMember]; rfl)) ?_); refine wpAny_newObj_type ?_ (by size_fits); simp only [raiseNew]
  refine wpAny_bind (wpAny_handled ?_); first | rw [show A.in1.handled=none from hh] | rw [hh]
  refine wpAny_bind (wpAny_pure (wpAny_throw (hE _ _ (((Heap.SameBut.update ..).extBut.push _).push _) ⟨_,Heap.get?_push_size _ rfl,rfl⟩)))
theorem nextOf_item {b:Bool} {it l:Addr} {i:Nat} {items:Array Value} {x:Value} {Q:Value→Shared→Prop} (hit:ItAt b s.heap it l i) (hl:SqAt b s.heap l items) (hx:items[i]?=some x)
    (hQ:∀ h',ItAt b h' it l (i+1)→Heap.SameBut it s.heap h'→Q x { s with heap:=h' }):wpAny (model prog w) A (Builtin.SmallTypes.nextOf (.ref it)) Q E s:=by
  cases b with
  | true=>exact wpAny_nextOf_list_item hit hl hx hQ
  | false=>exact nextOf_tup_item hit hl hx hQ
theorem nextOf_end {b:Bool} {it l:Addr} {i:Nat} {items:Array Value} {Q:Value→Shared→Prop} (hh:A.handled=none) (hit:ItAt b s.heap it l i) (hl:SqAt b s.heap l items) (hx:items[i]?=none)
    (hE:∀ h' e,Heap.ExtBut it s.heap h'→(∃ o,h'.get? e=some o∧o.cls=.type "StopIteration")→E (.ref e) { s with heap:=h' }):wpAny (model prog w) A (Builtin.SmallTypes.nextOf (.ref it)) Q E s:=by
  cases b with
  | true=>exact wpAny_nextOf_list_end hh hit hl hx hE
  | false=>exact nextOf_tup_end hh hit hl hx hE

theorem SqAt.bt {b:Bool} {h h':Heap} {a c:Addr} {items:Array Value} (x:SqAt b h a items) (e:Heap.ExtBut c h h') (n:a≠c):SqAt b h' a items:=x.at fun o q=>e a o n q
noncomputable def itObj (b:Bool) (l:Addr):Obj:=match b with
  | true=>{ cls:=.type "list_iterator",data:=.fields #[.ref l,.int 0 0] }
  | false=>{ cls:=.type "tuple_iterator",data:=.fields #[.ref l,.int 0 0] }
theorem pyIter_sq {b:Bool} {l:Addr} {items:Array Value} {Q:Value→Shared→Prop} (hl:SqAt b s.heap l items) (hQ:Q (.ref s.heap.objs.size) { s with heap:=s.heap.push (itObj b l) }):wpAny (model prog w) A (pyIter (.ref l)) Q E s:=by
  cases b with
  | true=>exact wpAny_pyIter_list hl hQ
  | false=>exact wpAny_pyIter_tuple hl hQ
theorem SqAt.push {b:Bool} {h:Heap} {l:Addr} {items:Array Value} (x:SqAt b h l items) (o:Obj):SqAt b (h.push o) l items:=x.at fun _ q=>Heap.get?_push_of_some _ q
theorem itObj_at {b:Bool} {h:Heap} {it l:Addr} (e:h.get? it=some (itObj b l)):ItAt b h it l 0:=by
  cases b with
  | true=>exact ⟨_,e,rfl,rfl⟩
  | false=>exact ⟨_,e,rfl,rfl⟩
end
section
variable {X:Cx} {pins:List (Addr×Obj)} {σ:St} {H:Hp} {s:Shared} {h':Heap}
theorem Inv.turns {t':Nat} {ch:List Addr} (I:Inv X pins σ H s) (k:∀ b o,b ∉ ch→s.heap.get? b=some o→h'.get? b=some o) (hf:∀ b∈ch,FpOk X pins H b):Inv X pins σ H { s with heap:=h',toks:=t' }:=by
  have nit:∀ b u,H b=some u→b ∉ ch:=fun b u e z=>by rw [(hf b z).1] at e; cases e
  refine I.step (g':=s.gens) (d':=s.drawn) (ch:=ch) (fun b hb=>?_) (fun b o _ _ hc e _=>k b o hc e) (fun b o _ _ hc e _=>⟨o.slots,k b o hc e⟩) (fun _ _ _ _ n=>n)
    (fun b o hc e=>⟨o,k b o hc e⟩) (fun _ _ e=>e) (fun _ _ _ e=>e) (fun b ps e=>⟨#[],by rw [e]; simp⟩) (fun m hm=>?_) (fun b u e=>?_) I.bare
  · obtain ⟨_,f1,_,f3,f4,f5⟩:=hf b hb
    exact ⟨f3,f1,f4,f5⟩
  · obtain ⟨o,es,ep,ho,r⟩:=hm
    exact ⟨o,es,ep,k _ o (fun z=>(hf _ z).2.1 rfl) ho,r⟩
  · refine (I.hok b u e).stay (fun c v hc q=>k c v ?_ q) (fun _ q=>q) fun _ _ q=>q
    rcases hc with z | z
    · rw [z]; exact nit b u e
    · exact nit c _ z
theorem Inv.pair {T:Addr} {x y:V} {u v:Value} (I:Inv X pins σ H s) (hT:H T=none) (ho:IsPair s.heap T u v) (r1:RelV x u) (r2:RelV y v)
    (hL:T≠X.env.locals) (hs0:X.s₀.heap.objs.size≤T) (hc:∀ x c,X.env.cells.lookup x=some c→c≠T) (hp:∀ p∈X.pn++pins,p.1≠T):Inv X pins σ (upd H T (.tup [x,y])) s:=by
  have ne:∀ {b:Addr} {o:HO},H b=some o→b≠T:=fun e=>ne_of_none e hT
  refine I.step (g':=s.gens) (d':=s.drawn) (t':=s.toks) (h':=s.heap) (ch:=[T]) (fun b hb=>?_) (fun b o _ _ _ e _=>e) (fun b o _ _ _ e _=>⟨o.slots,e⟩) (fun b o hb e n=>?_) (fun b o _ e=>⟨o,e⟩)
    (fun b xs e=>by rw [upd_ne (ne e)]; exact e) (fun b o u e=>by rw [upd_ne (ne e)]; exact e) (fun b ps e=>⟨#[],by rw [upd_ne (ne e),e]; simp⟩) (fun m hm=>hm) (fun b u e=>?_) I.bare
  · have e:b=T:=by simpa using hb
    subst e
    exact ⟨.inr hs0,hL,hc,hp⟩
  · have hb':b≠T:=by simpa using hb
    rw [upd_ne hb']
    exact n
  · by_cases hb:b=T
    · subst hb
      rw [upd_same] at e
      cases e
      exact ⟨by show 2≤sizeLine; decide,[_,_],.cons r1 (.cons r2 .nil),⟨_,ho,rfl,_,rfl⟩⟩
    · rw [upd_ne hb] at e
      exact (I.hok b u e).stay (fun c v _ q=>q) (fun c q=>by rw [upd_ne (ne q)]; exact q) fun c xs q=>by rw [upd_ne (ne q)]; exact q
end
noncomputable def hoB (b:Bool) (xs:List V):HO:=match b with
  | true=>.lst xs
  | false=>.tup xs
theorem sqAt_of {P:Program} {w:World} {H:Hp} {h:Heap} (ok:HOk P w H h) {b:Bool} {a:Addr} {xs:List V} (e:H a=some (hoB b xs)):∃ its:List Value,Vals xs its∧SqAt b h a its.toArray:=by
  cases b with
  | true=>obtain ⟨_,its,n,r,q⟩:=ok a _ e; exact ⟨its,r,⟨_,q,rfl,n,rfl⟩⟩
  | false=>obtain ⟨_,its,r,q⟩:=ok a _ e; exact ⟨its,r,q⟩
end L2
set_option Elab.async false
set_option linter.all false
set_option maxRecDepth 100000
namespace L2
open PySem PySem.Spec PyProof.Rows
open AutoSeq1 (wpAny_loadPart')
section
variable {X:Cx} {tg:Expr} {PK:Pk} {a b:Expr} {i j:List Sl→Tr PyData} {p pos:Pos}
theorem hoB_of {G:Hp} {v:V} {x:PyData} {xs:List PyData} (d:Dn G v x) (h:itD x=some xs):∃ b a vs,v=.ref a∧G a=some (hoB b vs)∧DnAll G vs xs:=by
  cases d with
  | lst h1 h2=>cases h; exact ⟨true,_,_,rfl,h1,h2⟩
  | tup h1 h2=>cases h; exact ⟨false,_,_,rfl,h1,h2⟩
  | _=>cases h
theorem hoB_inj {b:Bool} {xs ys:List V} (h:some (hoB b xs)=some (hoB b ys)):xs=ys:=by
  cases b <;> (cases h; rfl)
end
theorem drawsAt {prog:Program} {w:World} {A:Around} (hh:A.handled=none) (b:Bool) (it l:Addr) (hne:l≠it) (items:Array Value):Draws prog w A it [it,l] items.size (fun i v=>items[i]?=some v) (fun i h=>ItAt b h it l i∧SqAt b h l items) where
  live:=fun _ _ st=>let ⟨o,ho,_⟩:=st.1.there; ⟨o,ho⟩
  frame:=fun _ _ _ st hk=>⟨st.1.at fun o e=>hk it (by simp) o e,st.2.at fun o e=>hk l (by simp) o e⟩
  item:=fun i s Q E hi st hQ=>nextOf_item st.1 st.2 (x:=items[i]) (by simp [hi]) fun h' hit' hs'=>hQ _ h' s.toks (by simp [hi]) ⟨hit',st.2.bt hs'.extBut hne⟩ hs'
  done:=fun s Q E st hE=>nextOf_end hh st.1 st.2 (by simp) hE
theorem meets_enum (b:Bool) (l:Addr) (items:Array Value) :
    Meets (Builtin.«enumerate.__new__» ⟨[.type "enumerate",.ref l],[]⟩) (fun _ R s=>SqAt b s.heap l items ∧
      R (.ok (.ret (.ref (s.heap.push (itObj b l)).objs.size))) { s with heap:=(s.heap.push (itObj b l)).push { cls:=.type "enumerate",data:=.fields #[.none,.bool false,.ref s.heap.objs.size,rawInt 0,.none,.none] } }) :=
  .of_wp fun prog w A R s h=>by
    obtain ⟨hp,g,d,tk,os⟩:=s
    obtain ⟨hl,h⟩:=h
    have hsub:=sub_enumerate
    have q:SqAt b (Shared.heap ⟨hp,g,d,tk,os⟩) l items:=hl
    have ho:∃ ob,hp.get? l=some ob:=by
      cases b with
      | true=>obtain ⟨ob,e,_⟩:=hl; exact ⟨ob,e⟩
      | false=>obtain ⟨ob,e,_⟩:=hl; exact ⟨ob,e⟩
    obtain ⟨ob,ho⟩:=ho
    wp_walk using wpAny_loadPart' ho
    refine wpAny_stack_any fun st=>wpAny_pure ?_
    split
    · rename_i c _ _ _ _ _
      cases (c == Value.type "enumerate")
      · wp_walk using wpAny_loadPart' ho,pyIter_sq q
        exact ⟨_,rfl,h⟩
      · wp_walk using wpAny_loadPart' ho,pyIter_sq q
        exact ⟨_,rfl,h⟩
    · wp_walk using wpAny_loadPart' ho,pyIter_sq q
      exact ⟨_,rfl,h⟩
section
variable {prog:Program} {w:World} {A:Around} {E:Value→Shared→Prop} {s:Shared}
theorem call_enum {b:Bool} {l:Addr} {items:Array Value} {Q:Value→Shared→Prop} (hl:SqAt b s.heap l items)
    (h:∀ h',IsEnum h' (s.heap.objs.size+1) s.heap.objs.size 0 .none→ItAt b h' s.heap.objs.size l 0→(∀ c o,s.heap.get? c=some o→h'.get? c=some o)→Q (.ref (s.heap.objs.size+1)) { s with heap:=h' }) :
    wpAny (model prog w) A (call (.type "enumerate") [.ref l]) Q E s:=by
  refine callType_new F.called_enumerate (by decide) (F.typeCall_enumerate_1 _) (F.newCall_enumerate_1 _) (fun obj=>F.args_object_init_2 obj _) F.entry_enumerate_new (meets_enum b l items) ⟨hl,?_⟩
  have n1:(s.heap.push (itObj b l)).objs.size=s.heap.objs.size+1:=Heap.size_push ..
  have a2:IsEnum ((s.heap.push (itObj b l)).push { cls:=.type "enumerate",data:=.fields #[.none,.bool false,.ref s.heap.objs.size,rawInt 0,.none,.none] }) (s.heap.push (itObj b l)).objs.size s.heap.objs.size 0 .none:=Heap.get?_push_size _ rfl
  have a1:((s.heap.push (itObj b l)).push { cls:=.type "enumerate",data:=.fields #[.none,.bool false,.ref s.heap.objs.size,rawInt 0,.none,.none] }).get? s.heap.objs.size=some (itObj b l):=Heap.get?_push_of_some _ (Heap.get?_push_size _ (by cases b <;> rfl))
  rw [n1] at a2
  show _∧_
  rw [n1]
  exact ⟨⟨_,a2,rfl⟩,h _ a2 (itObj_at a1) fun c o x=>Heap.get?_push_of_some _ (Heap.get?_push_of_some _ x)⟩
end
noncomputable def Ite (b:Bool) (l:Addr):It :=
  ⟨fun i H=>∃ xs x,H l=some (hoB b xs)∧xs[i]?=some x,
   fun i H v H'=>∃ xs x p,H l=some (hoB b xs)∧xs[i]?=some x∧H p=none∧v=.ref p∧H'=upd H p (.tup [.int i,x]),
   fun i H=>∃ xs,H l=some (hoB b xs)∧xs.length=i⟩
theorem turn_enum {P:Program} {w:World} {K:PySem.W.Frag} {elts:List Expr} {x1:Nat} {pos:Pos} {b:Bool} {l:Addr} (e it:Addr) (hne:e≠it) :
    Turn P w K (.Tuple elts x1 pos) (Ite b l) [e,it] e (fun i h=>(∃ old,IsEnum h e it i old)∧ItAt b h it l i) where
  mem:=by simp
  obj:=fun i h st c hb=>by
    obtain ⟨⟨old,he⟩,h1⟩:=st
    simp at hb
    rcases hb with rfl | rfl
    · exact ⟨_,he,fun v q=>by cases q⟩
    · exact h1.there
  keep:=fun i h h' st k=>by
    obtain ⟨⟨old,he⟩,h1⟩:=st
    exact ⟨⟨old,k _ (by simp) _ he⟩,h1.at fun o q=>k _ (by simp) o q⟩
  item:=by
    intro X hP hw hK hc i pins s σ H E I hf st hg
    subst hP hw hK
    obtain ⟨xs,x,e1,hx⟩:=hg
    obtain ⟨⟨old,he⟩,h1⟩:=st
    obtain ⟨us,r1,q1⟩:=sqAt_of I.hok e1
    obtain ⟨u,hu,ru⟩:=r1.get hx
    have nl:∀ c∈[e,it],l≠c:=fun c hc=>ne_of_none e1 (hf c hc).1
    have hlt:i < us.toArray.size:=by
      have:=(List.getElem?_eq_some_iff.mp hu).1
      simpa using this
    refine wpAny_pyNext_enum_itemD (drawsAt (A:=X.A.in1) (show X.A.in1.handled=none from I.ok.hd hc) b it l (nl it (by simp)) us.toArray) he ⟨h1,q1⟩ hlt hne (by simp only [List.mem_cons,List.not_mem_nil,or_false,not_or]; exact ⟨hne,(nl e (by simp)).symm⟩) fun x' h' tk hP' ho st' hT hsz kk=>?_
    have hxu:x'=u:=by
      have q:us[i]?=some x':=by simpa using hP'
      rw [hu] at q
      cases q
      rfl
    subst hxu
    refine ⟨_,rfl,wpAny_letOwnedTupleGo_enum ho fun h2' z2 sb=>?_⟩
    have lt:∀ {c:Addr} {o:Obj},s.heap.get? c=some o→s.heap.objs.size≠c:=fun q=>Nat.ne_of_gt (Heap.lt_size q)
    have I1:Inv X pins σ H { s with heap:=h2',toks:=tk+1 }:=I.turns (ch:=[e,it]) (fun c o hb q=>by
      simp at hb
      exact sb.extBut _ _ hb.1 (kk c o hb.1 hb.2 q)) hf
    have hTn:H s.heap.objs.size=none:=I.hok.fresh (Nat.le_refl _)
    have I2:=I1.pair (T:=s.heap.objs.size) (x:=.int i) (y:=x) hTn (sb.extBut _ _ (lt he) hT) ⟨tk,rfl⟩ ru (Nat.ne_of_gt I.lt) I.sz
      (fun q cc ee hq=>by obtain ⟨vv,zz⟩:=I.cell q cc ee; exact absurd zz.lt (by rw [hq]; exact Nat.lt_irrefl _)) (fun p hp hq=>absurd (Heap.lt_size (I.pin p hp).1) (by rw [hq]; exact Nat.lt_irrefl _))
    refine ⟨.ref s.heap.objs.size,_,I2,rfl,⟨xs,x,_,e1,hx,hTn,rfl,rfl⟩,⟨⟨_,z2⟩,st'.1.at fun o q=>sb.extBut _ _ (Ne.symm hne) q⟩,fun c hb=>?_⟩
    have hbn:c≠s.heap.objs.size:=by
      simp at hb
      obtain ⟨o1,g1,_⟩:=h1.there
      rcases hb with rfl | rfl
      · exact (lt he).symm
      · exact (lt g1).symm
    rw [upd_ne hbn]
    exact (hf c hb).1
  done:=by
    intro X hP hw hK hc i pins s σ H E I hf st hg
    subst hP hw hK
    obtain ⟨xs,e1,hend⟩:=hg
    obtain ⟨⟨old,he⟩,h1⟩:=st
    obtain ⟨us,r1,q1⟩:=sqAt_of I.hok e1
    have nl:∀ c∈[e,it],l≠c:=fun c hc=>ne_of_none e1 (hf c hc).1
    have hsz:us.toArray.size=i:=by rw [List.size_toArray,← r1.length]; exact hend
    subst hsz
    refine wpAny_pyNext_enum_endD (drawsAt (A:=X.A.in1) (show X.A.in1.handled=none from I.ok.hd hc) b it l (nl it (by simp)) us.toArray) he ⟨h1,q1⟩ fun h' eb=>⟨rfl,?_⟩
    exact I.turns (ch:=[e,it]) (t':=s.toks) (fun c o hb q=>by
      simp at hb
      exact eb c o hb.2 q) hf
  self:=fun _ _ _ _ _ st h=>by
    obtain ⟨⟨old,he⟩,_⟩:=st
    exact wpAny_pyIter_enum he h
section
variable {X:Cx} {tg:Expr} {PK:Pk} {a b:Expr} {i j:List Sl→Tr PyData} {p pos:Pos}
noncomputable def iEnum (ta:TE):TI:=fun σ H R=>ta σ H fun x H1=>∃ b l xs,x=.ref l∧H1 l=some (hoB b xs)∧R (Ite b l) H1
theorem pi_enum {elts:List Expr} {x1:Nat} {tpos:Pos} {ta:TE} (hc:X.calm=true) (hg:Gl X "enumerate") (hm:X.mg "enumerate"=none) (ha:PE X a ta)
    (hs:starEach [a] X.env=[(false,eval a X.env)]:=by rfl):PI X (.Tuple elts x1 tpos) (.Call (.Name "enumerate" p) [a] [] pos) (iEnum ta):=by
  intro pins s σ H R I h
  have hab:PA X [a] (tCons ta tNil):=pa_cons ha pa_nil (by rw [hs]; rfl)
  have h':tCons ta tNil σ H fun vs H1=>∃ x,vs=[x]∧∃ b l xs,x=.ref l∧H1 l=some (hoB b xs)∧R (Ite b l) H1:=by
    have e:(fun (x:V) (H1:Hp)=>∃ b l xs,x=.ref l∧H1 l=some (hoB b xs)∧R (Ite b l) H1)=fun x H1=>tNil σ H1 fun xs H2=>∃ y,x::xs=[y]∧∃ b l xs,y=.ref l∧H2 l=some (hoB b xs)∧R (Ite b l) H2:=by
      funext x H1
      apply propext
      constructor
      · exact fun q=>⟨x,rfl,q⟩
      · rintro ⟨y,e,q⟩
        have e':x=y:=by simpa using e
        subst e'
        exact q
    have h0:ta σ H fun x H1=>∃ b l xs,x=.ref l∧H1 l=some (hoB b xs)∧R (Ite b l) H1:=h
    rw [e] at h0
    exact h0
  refine Call_ (ld_blt I hg hm boot_enumerate (PyProof.Rows.callWith_type1 (thn (hab pos pins s σ H _ I h') fun us s1 hz0=>?_) (by rw [hs]; rfl) rfl))
  obtain ⟨vs,H1,I1,r1,q1⟩:=hz0
  obtain ⟨x,rfl,b,l,xs,rfl,e1,q⟩:=q1
  obtain ⟨u,rfl,ru⟩:=vals1 r1
  cases ru
  obtain ⟨us,ru,q1⟩:=sqAt_of I1.hok e1
  refine call_enum q1 fun h' z t1 kk=>?_
  have I2:Inv X pins σ H1 { s1 with heap:=h' }:=I1.kept (t':=s1.toks) kk
  refine wpAny_pyIter_enum z ⟨s1.heap.objs.size+1,[s1.heap.objs.size+1,s1.heap.objs.size],_,_,H1,rfl,I2,turn_enum _ _ (fun q=>absurd (show (s1.heap.objs.size+1:Nat)=s1.heap.objs.size from q) (by omega)),⟨⟨_,z⟩,t1⟩,fun c hb=>?_,q⟩
  have hle:s1.heap.objs.size≤c:=by
    simp at hb
    rcases hb with rfl | rfl <;> first | exact Nat.le_add_right _ _ | exact Nat.le_refl _
  exact I1.fpOk hle (I1.hok.fresh hle)
noncomputable def enumD (xs:List PyData):List PyData:=(List.range xs.length).zipWith (fun (n:Nat) x=>.tuple [.int n,x]) xs
theorem jok_enum {pa:Addr} {G:Hp} {b:Bool} {l:Addr} {us:List V} {xs:List PyData} (h1:G l=some (hoB b us)) (d1:DnAll G us xs):JOk PK pa (Ite b l) G (enumD xs):=fun m G2 H2 sb w=>by
  have e1:H2 l=some (hoB b us):=w.sub _ _ (sb _ _ h1)
  have hlen:(enumD xs).length=xs.length:=by unfold enumD; simp
  refine ⟨fun n d hd=>?_,us,e1,by rw [hlen,d1.length]⟩
  have hn:n < xs.length:=by rw [← hlen]; exact (List.getElem?_eq_some_iff.mp hd).1
  have hd':d=.tuple [.int n,xs[n]]:=by
    unfold enumD at hd
    rw [List.getElem?_zipWith] at hd
    simp [hn] at hd
    exact hd.symm
  subst hd'
  obtain ⟨u,hu,du⟩:=d1.get n (show xs[n]?=some xs[n] by simp [hn])
  refine ⟨⟨us,u,e1,hu⟩,fun x H3 hz0=>?_⟩
  obtain ⟨us',u',p,f1,hu',hp,ex,eH⟩:=hz0
  rw [e1] at f1
  have:=hoB_inj f1
  subst us'
  rw [hu] at hu'
  cases hu'
  subst ex eH
  obtain ⟨w3,s3⟩:=w.new (o:=.tup [.int n,u]) hp
  exact ⟨_,s3,w3,.tup upd_same (.cons (.int n) (.cons ((du.mono sb).mono s3.gs) .nil))⟩
noncomputable def aEnum (i:List Sl→Tr PyData):List Sl→Tr (List PyData):=fun ρ=>(i ρ).bind fun x=>(Tr.of (itD x)).bind fun xs=>.ret (enumD xs)
theorem ai_enum {iter:Expr} (h:PI X tg iter (iEnum (TAe PK i))):PI X tg iter (TAi PK (aEnum i)):=h.imp fun σ H R0 hz0=>by
  obtain ⟨pa,G₀,H₀,m,ρ,G,R,z⟩:=hz0
  refine TAe.then R z fun m1 x v G1 H1 s1 w1 R1 d1 q1=>?_
  rw [Tr.ok_bind] at q1
  obtain ⟨xs,hx,q1⟩:=Tr.ok_of q1
  obtain ⟨b1,l1,us,rfl,e1,f1⟩:=hoB_of d1 hx
  exact ⟨b1,l1,us,rfl,w1.sub _ _ e1,q1 _ G1 H1 s1 w1 (jok_enum e1 f1)⟩
end
end L2
set_option Elab.async false
set_option linter.all false
set_option maxRecDepth 100000
namespace L2
open PySem PySem.Spec PyProof.Rows
section
variable {prog:Program} {w:World} {A:Around}
theorem walksAt (hh:A.handled=none) (b:Bool) (I ax:Addr) (hne:ax≠I) (items:Array Value):Walks prog w A I [I,ax] [I] items.size (fun i v=>items[i]?=some v) (fun i h=>ItAt b h I ax i∧SqAt b h ax items):=by
  cases b with
  | true=>exact Walks.list hh I ax hne items
  | false=>exact Walks.tuple hh I ax hne items
end
theorem ints_get {ns:List Int} {us:List Value} (r:Vals (ns.map V.int) us) {i:Nat} {v:Value} (h:us[i]?=some v):∃ t,v=.int ((ns[i]?).getD 0) t:=by
  have hi:i < us.length:=(List.getElem?_eq_some_iff.mp h).1
  have hl:us.length=ns.length:=by rw [← r.length,List.length_map]
  obtain ⟨u,e1,e2⟩:=r.get (i:=i) (x:=V.int ns[i]) (by simp [show i < ns.length by omega])
  rw [h] at e1
  cases e1
  obtain ⟨t,e2⟩:=e2
  exact ⟨t,by simp [show i < ns.length by omega,e2]⟩
theorem preSum_list (ns:List Int):preSum (fun i=>(ns[i]?).getD 0) ns.length=ns.sum:=by
  have key:∀ k,k≤ns.length→preSum (fun i=>(ns[i]?).getD 0) k=(ns.take k).sum:=by
    intro k
    induction k with
    | zero=>intro _; simp [preSum]
    | succ k ih =>
      intro hk
      rw [preSum,ih (by omega),List.take_add_one,List.sum_append]
      simp [show k < ns.length by omega]
  rw [key _ (Nat.le_refl _),List.take_length]
section
variable {X:Cx} {PK:Pk}
theorem call_sumD (hc:X.calm=true):CallR X (.builtin "sum") (fun xs H Q=>∃ (b:Bool) (l:Addr) (ns:List Int),xs=[.ref l]∧H l=some (hoB b (ns.map V.int))∧Q (.int ns.sum) H):=by
  intro pins s σ H xs us Q I r h
  obtain ⟨b,l,ns,rfl,e1,q⟩:=h
  obtain ⟨u,rfl,ru⟩:=vals1 r
  cases ru
  obtain ⟨vs,rv,sq⟩:=sqAt_of I.hok e1
  have hlt:l < s.heap.objs.size:=I.hok.lt e1
  refine call_sum_walkG (pyIter_sq sq ?_)
  refine ⟨s.heap.objs.size,[s.heap.objs.size,l],[s.heap.objs.size],vs.toArray.size,_,_,fun i=>(ns[i]?).getD 0,rfl,walksAt (A:=X.A.in1) (I.ok.hd hc) b _ l (Nat.ne_of_lt hlt) vs.toArray,
    ⟨itObj_at (Heap.get?_push_size _ (by cases b <;> rfl)),sq.push _⟩,fun c hc=>?_,fun i v hv=>ints_get rv (by simpa using hv),fun h' tk t' hk=>?_⟩
  · rw [Heap.size_push]
    simp at hc
    rcases hc with rfl | rfl
    · exact Nat.lt_succ_self _
    · exact Nat.lt_succ_of_lt hlt
  · refine ⟨.int ns.sum,H,I.kept (t':=tk) fun c o e=>hk c o (fun z=>?_) (Heap.get?_push_of_some _ e),⟨t',?_⟩,q⟩
    · have:c=s.heap.objs.size:=by simpa using z
      subst this
      exact Nat.lt_irrefl _ (Heap.lt_size e)
    · have e:vs.toArray.size=ns.length:=by rw [List.size_toArray,← rv.length,List.length_map]
      rw [e,preSum_list]
noncomputable def maxL:List Int→Int
  | []=>0
  | [n]=>n
  | n::m::r=>maxI (maxL (m::r)) n
noncomputable def minL:List Int→Int
  | []=>0
  | [n]=>n
  | n::m::r=>minI (minL (m::r)) n
theorem maxL_spec:∀ {ns:List Int},ns≠[]→maxL ns∈ns∧∀ m∈ns,m≤maxL ns
  | [],h=>absurd rfl h
  | [n],_=>⟨by simp [maxL],by simp [maxL]⟩
  | n::m::r,_=>by
    obtain ⟨h1,h2⟩:=maxL_spec (ns:=m::r) (by simp)
    unfold maxL maxI
    split
    · refine ⟨by simp,fun k hk=>?_⟩
      rcases List.mem_cons.mp hk with rfl | hk
      · exact Int.le_refl _
      · have:=h2 k hk; omega
    · refine ⟨List.mem_cons_of_mem _ h1,fun k hk=>?_⟩
      rcases List.mem_cons.mp hk with rfl | hk
      · omega
      · exact h2 k hk
theorem minL_spec:∀ {ns:List Int},ns≠[]→minL ns∈ns∧∀ m∈ns,minL ns≤m
  | [],h=>absurd rfl h
  | [n],_=>⟨by simp [minL],by simp [minL]⟩
  | n::m::r,_=>by
    obtain ⟨h1,h2⟩:=minL_spec (ns:=m::r) (by simp)
    unfold minL minI
    split
    · refine ⟨by simp,fun k hk=>?_⟩
      rcases List.mem_cons.mp hk with rfl | hk
      · exact Int.le_refl _
      · have:=h2 k hk; omega
    · refine ⟨List.mem_cons_of_mem _ h1,fun k hk=>?_⟩
      rcases List.mem_cons.mp hk with rfl | hk
      · omega
      · exact h2 k hk
theorem best_gt (f:Nat→Int):∀ k,argBest (fun i j=>decide (f i > f j)) k≤k∧∀ j,j≤k→f j≤f (argBest (fun i j=>decide (f i > f j)) k)
  | 0=>⟨Nat.le_refl _,fun j hj=>by
    have:j=0:=by omega
    subst this
    exact Int.le_refl _⟩
  | k+1=>by
    obtain ⟨h1,h2⟩:=best_gt f k
    unfold argBest
    by_cases hc:f (k+1) > f (argBest (fun i j=>decide (f i > f j)) k)
    · rw [if_pos (by simpa using hc)]
      refine ⟨Nat.le_refl _,fun j hj=>?_⟩
      rcases Nat.lt_or_eq_of_le hj with h | h
      · have:=h2 j (by omega); omega
      · subst h; exact Int.le_refl _
    · rw [if_neg (by simpa using hc)]
      refine ⟨by omega,fun j hj=>?_⟩
      rcases Nat.lt_or_eq_of_le hj with h | h
      · exact h2 j (by omega)
      · subst h; omega
theorem best_lt (f:Nat→Int):∀ k,argBest (fun i j=>decide (f i < f j)) k≤k∧∀ j,j≤k→f (argBest (fun i j=>decide (f i < f j)) k)≤f j
  | 0=>⟨Nat.le_refl _,fun j hj=>by
    have:j=0:=by omega
    subst this
    exact Int.le_refl _⟩
  | k+1=>by
    obtain ⟨h1,h2⟩:=best_lt f k
    unfold argBest
    by_cases hc:f (k+1) < f (argBest (fun i j=>decide (f i < f j)) k)
    · rw [if_pos (by simpa using hc)]
      refine ⟨Nat.le_refl _,fun j hj=>?_⟩
      rcases Nat.lt_or_eq_of_le hj with h | h
      · have:=h2 j (by omega); omega
      · subst h; exact Int.le_refl _
    · rw [if_neg (by simpa using hc)]
      refine ⟨by omega,fun j hj=>?_⟩
      rcases Nat.lt_or_eq_of_le hj with h | h
      · exact h2 j (by omega)
      · subst h; omega
theorem call_maxD (hc:X.calm=true):CallR X (.builtin "max") (fun xs H Q=>∃ (b:Bool) (l:Addr) (ns:List Int),xs=[.ref l]∧H l=some (hoB b (ns.map V.int))∧ns≠[]∧Q (.int (maxL ns)) H):=by
  intro pins s σ H xs us Q I r h
  obtain ⟨b,l,ns,rfl,e1,hne,q⟩:=h
  obtain ⟨u,rfl,ru⟩:=vals1 r
  cases ru
  obtain ⟨vs,rv,sq⟩:=sqAt_of I.hok e1
  have hlt:l < s.heap.objs.size:=I.hok.lt e1
  have hsz:vs.toArray.size=ns.length:=by rw [List.size_toArray,← rv.length,List.length_map]
  have hpos:0 < ns.length:=List.length_pos_iff.mpr hne
  refine call_max_walk (pyIter_sq sq ?_)
  refine ⟨s.heap.objs.size,[s.heap.objs.size,l],[s.heap.objs.size],vs.toArray.size,_,_,fun i j=>decide ((ns[i]?).getD 0 > (ns[j]?).getD 0),rfl,walksAt (A:=X.A.in1) (I.ok.hd hc) b _ l (Nat.ne_of_lt hlt) vs.toArray,
    ⟨itObj_at (Heap.get?_push_size _ (by cases b <;> rfl)),sq.push _⟩,fun c hc=>?_,by omega,CmpOf.ints_gt (fun i=>(ns[i]?).getD 0) (fun i v hv=>ints_get rv (by simpa using hv)),fun v h' tk hv hk=>?_⟩
  · rw [Heap.size_push]
    simp at hc
    rcases hc with rfl | rfl
    · exact Nat.lt_succ_self _
    · exact Nat.lt_succ_of_lt hlt
  · obtain ⟨t,rfl⟩:=ints_get rv (by rw [← List.getElem?_toArray]; exact hv)
    obtain ⟨b1,b2⟩:=best_gt (fun i=>(ns[i]?).getD 0) (vs.toArray.size - 1)
    obtain ⟨m1,m2⟩:=maxL_spec hne
    refine ⟨.int (maxL ns),H,I.kept (t':=tk) fun c o e=>hk c o (fun z=>?_) (Heap.get?_push_of_some _ e),⟨t,?_⟩,q⟩
    · have:c=s.heap.objs.size:=by simpa using z
      subst this
      exact Nat.lt_irrefl _ (Heap.lt_size e)
    · congr 1
      obtain ⟨i,hi,ei⟩:=List.getElem_of_mem m1
      have h1:=b2 i (by omega)
      simp only [hi,List.getElem?_eq_getElem,Option.getD_some,ei] at h1
      have hb:argBest (fun i j=>decide ((ns[i]?).getD 0 > (ns[j]?).getD 0)) (vs.toArray.size - 1) < ns.length:=by omega
      have h2:=m2 _ (List.getElem_mem hb)
      simp only [hb,List.getElem?_eq_getElem,Option.getD_some] at h1 ⊢
      omega
theorem call_minD (hc:X.calm=true):CallR X (.builtin "min") (fun xs H Q=>∃ (b:Bool) (l:Addr) (ns:List Int),xs=[.ref l]∧H l=some (hoB b (ns.map V.int))∧ns≠[]∧Q (.int (minL ns)) H):=by
  intro pins s σ H xs us Q I r h
  obtain ⟨b,l,ns,rfl,e1,hne,q⟩:=h
  obtain ⟨u,rfl,ru⟩:=vals1 r
  cases ru
  obtain ⟨vs,rv,sq⟩:=sqAt_of I.hok e1
  have hlt:l < s.heap.objs.size:=I.hok.lt e1
  have hsz:vs.toArray.size=ns.length:=by rw [List.size_toArray,← rv.length,List.length_map]
  have hpos:0 < ns.length:=List.length_pos_iff.mpr hne
  refine call_min_walk (pyIter_sq sq ?_)
  refine ⟨s.heap.objs.size,[s.heap.objs.size,l],[s.heap.objs.size],vs.toArray.size,_,_,fun i j=>decide ((ns[i]?).getD 0 < (ns[j]?).getD 0),rfl,walksAt (A:=X.A.in1) (I.ok.hd hc) b _ l (Nat.ne_of_lt hlt) vs.toArray,
    ⟨itObj_at (Heap.get?_push_size _ (by cases b <;> rfl)),sq.push _⟩,fun c hc=>?_,by omega,CmpOf.ints_lt (fun i=>(ns[i]?).getD 0) (fun i v hv=>ints_get rv (by simpa using hv)),fun v h' tk hv hk=>?_⟩
  · rw [Heap.size_push]
    simp at hc
    rcases hc with rfl | rfl
    · exact Nat.lt_succ_self _
    · exact Nat.lt_succ_of_lt hlt
  · obtain ⟨t,rfl⟩:=ints_get rv (by rw [← List.getElem?_toArray]; exact hv)
    obtain ⟨b1,b2⟩:=best_lt (fun i=>(ns[i]?).getD 0) (vs.toArray.size - 1)
    obtain ⟨m1,m2⟩:=minL_spec hne
    refine ⟨.int (minL ns),H,I.kept (t':=tk) fun c o e=>hk c o (fun z=>?_) (Heap.get?_push_of_some _ e),⟨t,?_⟩,q⟩
    · have:c=s.heap.objs.size:=by simpa using z
      subst this
      exact Nat.lt_irrefl _ (Heap.lt_size e)
    · congr 1
      obtain ⟨i,hi,ei⟩:=List.getElem_of_mem m1
      have h1:=b2 i (by omega)
      simp only [hi,List.getElem?_eq_getElem,Option.getD_some,ei] at h1
      have hb:argBest (fun i j=>decide ((ns[i]?).getD 0 < (ns[j]?).getD 0)) (vs.toArray.size - 1) < ns.length:=by omega
      have h2:=m2 _ (List.getElem_mem hb)
      simp only [hb,List.getElem?_eq_getElem,Option.getD_some] at h1 ⊢
      omega

noncomputable def bools?:List PyData→Option (List Bool)
  | []=>some []
  | .bool n::xs=>(bools? xs).bind fun ns=>some (n::ns)
  | _=>none
@[simp] theorem bools?_map:∀ ns:List Bool,bools? (ns.map PyData.bool)=some ns
  | []=>rfl
  | n::ns=>by rw [List.map_cons,bools?,bools?_map ns]; rfl
noncomputable def onL {α:Type} (p:List PyData→Option α) (f:α→Option PyData):List PyData→Option PyData
  | [x]=>(itD x).bind fun xs=>(p xs).bind f
  | _=>none
noncomputable def sumD:List PyData→Option PyData:=onL ints? fun ns=>some (.int ns.sum)
noncomputable def max1D:List PyData→Option PyData:=onL ints? fun ns=>if (!ns.isEmpty)=true then some (.int (maxL ns)) else none
noncomputable def min1D:List PyData→Option PyData:=onL ints? fun ns=>if (!ns.isEmpty)=true then some (.int (minL ns)) else none
theorem onL_inv {α:Type} {p:List PyData→Option α} {f:α→Option PyData} {G:Hp} {vs:List V} {ds:List PyData} {d:PyData} (hv:DnAll G vs ds) (h:onL p f ds=some d):∃ b l us xs y,vs=[.ref l]∧G l=some (hoB b us)∧DnAll G us xs∧p xs=some y∧f y=some d:=by
  unfold onL at h
  split at h
  · rename_i x
    cases hx:itD x with
    | none=>rw [hx] at h; cases h
    | some xs =>
      rw [hx] at h
      have h':(p xs).bind f=some d:=h
      cases hp:p xs with
      | none=>rw [hp] at h'; cases h'
      | some y =>
        rw [hp] at h'
        cases hv with
        | cons h1 h2 =>
          cases h2
          obtain ⟨b,l,us,rfl,e1,e2⟩:=hoB_of h1 hx
          exact ⟨b,l,us,xs,y,rfl,e1,e2,hp,h'⟩
  · cases h
theorem vc_sum:VCl (fun xs H Q=>∃ (b:Bool) (l:Addr) (ns:List Int),xs=[.ref l]∧H l=some (hoB b (ns.map V.int))∧Q (.int ns.sum) H) sumD:=fun PK pa m G H vs ds d Q w hv hd k=>by
  obtain ⟨b,l,us,xs,ns,rfl,e1,e2,hp,hf⟩:=onL_inv hv hd
  obtain ⟨rfl,rfl⟩:=e2.ints_inv hp
  cases hf
  exact ⟨b,l,ns,rfl,w.sub _ _ e1,k.here w (.int _)⟩
theorem vc_max1:VCl (fun xs H Q=>∃ (b:Bool) (l:Addr) (ns:List Int),xs=[.ref l]∧H l=some (hoB b (ns.map V.int))∧ns≠[]∧Q (.int (maxL ns)) H) max1D:=fun PK pa m G H vs ds d Q w hv hd k=>by
  obtain ⟨b,l,us,xs,ns,rfl,e1,e2,hp,hf⟩:=onL_inv hv hd
  obtain ⟨rfl,rfl⟩:=e2.ints_inv hp
  split at hf
  · rename_i hc
    cases hf
    exact ⟨b,l,ns,rfl,w.sub _ _ e1,(fun z=>by subst z; cases hc),k.here w (.int _)⟩
  · cases hf
theorem vc_min1:VCl (fun xs H Q=>∃ (b:Bool) (l:Addr) (ns:List Int),xs=[.ref l]∧H l=some (hoB b (ns.map V.int))∧ns≠[]∧Q (.int (minL ns)) H) min1D:=fun PK pa m G H vs ds d Q w hv hd k=>by
  obtain ⟨b,l,us,xs,ns,rfl,e1,e2,hp,hf⟩:=onL_inv hv hd
  obtain ⟨rfl,rfl⟩:=e2.ints_inv hp
  split at hf
  · rename_i hc
    cases hf
    exact ⟨b,l,ns,rfl,w.sub _ _ e1,(fun z=>by subst z; cases hc),k.here w (.int _)⟩
  · cases hf
variable {a b c e:Expr} {pos:Pos} {i j l:List Sl→Tr PyData}
noncomputable def aChain (f g:PyData→PyData→Option PyData) (i j l:List Sl→Tr PyData):List Sl→Tr PyData:=fun ρ=>(i ρ).bind fun x=>(j ρ).bind fun y=>(Tr.of (f x y)).bind fun z=>(Tr.of (toB z)).bind fun k =>
  if k=true then (l ρ).bind fun u=>Tr.of (g y u) else .ret (.bool false)
theorem chain_read {r r':R2} {f g:PyData→PyData→Option PyData} (hv:VOp2 r f) (hv':VOp2 r' g):∀ σ H Q,TAe PK (aChain f g i j l) σ H Q→tChain r r' (TAe PK i) (TAe PK j) (TAe PK l) σ H Q:=by
  rintro σ H Q ⟨pa,G₀,H₀,m,ρ,G,R,q⟩
  refine TAe.then R q fun m1 x v G1 H1 s1 w1 R1 d1 q1=>?_
  refine TAe.then R1 q1 fun m2 y u G2 H2 s2 w2 R2 d2 q2=>?_
  rw [Tr.ok_bind] at q2
  obtain ⟨z,hz,q3⟩:=Tr.ok_of q2
  rw [Tr.ok_bind] at q3
  obtain ⟨k,hk,q5⟩:=Tr.ok_of q3
  have s12:=s1.trans s2 w1.some
  refine hv PK pa m2 G2 H2 v u x y z _ w2 (d1.mono s2.gs) d2 hz fun zz G3 H3 s3 w3 d3=>?_
  cases d3 <;> simp only [toB] at hk <;> cases hk
  refine ⟨_,rfl,?_⟩
  have s13:=s12.trans s3 w2.some
  cases k with
  | true =>
    rw [if_pos rfl] at q5 ⊢
    refine TAe.then (R2.step s3 w3) q5 fun m4 t vt G4 H4 s4 w4 R4 d4 q4=>?_
    obtain ⟨zz,hzz,q4⟩:=Tr.ok_of q4
    exact hv' PK pa m4 G4 H4 u vt y t zz Q w4 (d2.mono (s3.gs.trans s4.gs)) d4 hzz (Kn.later q4 (s13.trans s4 w3.some) w4.some)
  | false =>
    rw [if_neg Bool.false_ne_true] at q5 ⊢
    exact (Kn.later q5 s13 w3.some).here w3 (.bl false)
theorem at_chain {op op':CmpOp} {r r':R2} {f g:PyData→PyData→Option PyData} (ho:OpR X (compareOp op) r) (hv:VOp2 r f) (ho':OpR X (compareOp op') r') (hv':VOp2 r' g) (ha:PE X a (TAe PK i)) (hb:PE X b (TAe PK j)) (hc:PE X c (TAe PK l))
    (hm:lastMarks [op,op'] [b,c]=false:=by with_unfolding_all rfl):PT X (.Compare a [op,op'] [b,c] pos) (TAt PK (aTest (aChain f g i j l))) :=
  (pt_chain ho ho' ha hb hc hm).imp fun σ H Q z=>tTest_mono (chain_read hv hv') σ H Q (aTest_read σ H Q z)
theorem iop_mulG:OpR X (inplaceOp .Mult) (rI CMulG fun i j=>.int (i * j)):=opI fun _ _ _ _ _ _ _ hc q=>imul_int q hc.ok
theorem pip {op:Operator} {r:R2} (h:OpR X (inplaceOp op) r):PIp X op r:=h
noncomputable def iaddD:PyData→PyData→Option PyData
  | .int m,.int n=>some (.int (m+n))
  | _,_=>none
theorem vo_iadd:VOp2 (rI0 fun i j=>.int (i+j)) iaddD:=fun PK pa m G H x y dx dy dz Q w hx hy hz k=>by
  unfold iaddD at hz
  split at hz
  · cases hz; cases hx; cases hy
    exact ⟨_,_,rfl,rfl,k.here w (.int _)⟩
  · cases hz
noncomputable def imulD:PyData→PyData→Option PyData
  | .int m,.int n=>if (fit m && fit n)=true then some (.int (m * n)) else none
  | _,_=>none
theorem vo_imul:VOp2 (rI CMulG fun i j=>.int (i * j)) imulD:=fun PK pa m G H x y dx dy dz Q w hx hy hz k=>by
  unfold imulD at hz
  split at hz
  · split at hz
    · rename_i hc
      rw [Bool.and_eq_true] at hc
      cases hz; cases hx; cases hy
      exact ⟨_,_,rfl,rfl,⟨of_decide_eq_true hc.1,of_decide_eq_true hc.2⟩,k.here w (.int _)⟩
    · cases hz
  · cases hz
end
theorem o_read {PK:Pk} {is:List Sl→Tr (List PyData)}:∀ σ H Q,TAe PK (aLst is) σ H Q→TAo PK is σ H Q:=by
  intro σ H Q z
  obtain ⟨pa,G₀,H₀,m,ρ,G,R,z⟩:=z
  exact ⟨pa,G₀,H₀,m,ρ,G,R,Tr.ok_mono (Tr.ok_bind.mp z) fun m1 xs k=>Ko1.of k R.wd.some⟩
theorem as_setLcD {PK:Pk} {X:Cx} {st:Stmt} {is:List Sl→Tr (List PyData)} {i:List Sl→Tr PyData} {n k:Nat} {ix:List Nat} {g:PyData→List Sl→Option (List Sl)} (h:PS X st (tAsg (tLc (TAi PK is) n ix (fun _=>TAg PK g) (fun _=>TAe PK i)) (gName k))) (hn:PresN n g):PS X st (TAs PK (aSet k (aLst (aLc is n ix g i)))) :=
  as_set (h.imp (tAsg_mono fun σ H Q z=>lc_read hn σ H Q (o_read σ H Q z)))
end L2
set_option Elab.async false
set_option linter.all false
set_option maxRecDepth 100000
namespace L2
open PySem PySem.Spec PyProof.Rows
variable {ρ:List Sl} {s t:List Sl→Tr Ou} {i j l:List Sl→Tr PyData} {is:List Sl→Tr (List PyData)} {as:List Sl→Tr (List Sl)} {f:List Sl→Tr Re} {p q:List Sl→Tr Bool} {k n:Nat} {x y d:PyData} {xs ys:List PyData} {sl:Sl}
theorem ev_var0:aVar 0 (.d x::ρ)=.ret x:=rfl
theorem ev_varS:aVar (k+1) (sl::ρ)=aVar k ρ:=rfl
theorem ev_C:aC d ρ=.ret d:=rfl
noncomputable def bin2 (g:PyData→PyData→Option PyData) (x y:PyData):Tr PyData:=Tr.of (g x y)
noncomputable def bin1 (g:PyData→PyData→Option PyData) (j:List Sl→Tr PyData) (ρ:List Sl) (x:PyData):Tr PyData:=(j ρ).bind (bin2 g x)
theorem ev_bin {g:PyData→PyData→Option PyData}:aBin g i j ρ=(i ρ).bind (bin1 g j ρ):=rfl
theorem ev_bin1 {g:PyData→PyData→Option PyData}:bin1 g j ρ x=(j ρ).bind (bin2 g x):=rfl
theorem ev_add (m n:Int):bin2 addD (.int m) (.int n)=.ret (.int (m+n)):=rfl
theorem ev_addT (h1:xs.isEmpty=false) (h2:small (xs.length+ys.length)=true):bin2 addD (.tuple xs) (.tuple ys)=.ret (.tuple (xs++ys)):=by
  simp [bin2,addD,h1,h2]
theorem ev_addL (h2:small (xs.length+ys.length)=true):bin2 addD (.list xs) (.list ys)=.ret (.list (xs++ys)):=by
  simp [bin2,addD,h2]
theorem ev_sub (m n:Int):bin2 subD (.int m) (.int n)=.ret (.int (m - n)):=rfl
theorem ev_mul {m n:Int} (h1:fit m=true) (h2:fit n=true):bin2 mulD' (.int m) (.int n)=.ret (.int (m * n)):=by
  simp [bin2,mulD',h1,h2]
theorem ev_fdiv {m n:Int} (h1:n≠0) (h2:fit n=true):bin2 fdivD (.int m) (.int n)=.ret (.int (m.fdiv n)):=by
  simp [bin2,fdivD,h1,h2]
theorem ev_cmp {g:Int→Int→Bool} (m n:Int):bin2 (cmpD g) (.int m) (.int n)=.ret (.bool (g m n)):=rfl
theorem ev_eqI (m n:Int):bin2 eqD (.int m) (.int n)=.ret (.bool (m == n)):=rfl
theorem ev_eqB (m n:Bool):bin2 eqD (.bool m) (.bool n)=.ret (.bool (m == n)):=rfl
theorem ev_eqS (m n:Str):bin2 eqD (.str m) (.str n)=.ret (.bool (m == n)):=rfl
theorem eqD_of (h1:SeqAt.shaped x=true) (h2:SeqAt.shaped y=true) (h3:∀ a b,¬ (x=.str a∧y=.str b)):bin2 eqD x y=.ret (.bool (PyData.eqv x y)):=by
  unfold bin2 eqD
  split
  · exact absurd ⟨rfl,rfl⟩ (h3 _ _)
  · rw [h1,h2]; rfl
theorem ev_eqL (h1:SeqAt.shaped (.list xs)=true) (h2:SeqAt.shaped (.list ys)=true):bin2 eqD (.list xs) (.list ys)=.ret (.bool (PyData.eqvAll xs ys)):=by
  rw [eqD_of h1 h2 (fun a b z=>by cases z.1)]
  simp only [PyData.eqv]
theorem ev_ixL (n:Int):bin2 ixD (.list xs) (.int n)=Tr.of (atI xs n):=rfl
theorem ev_ixT (n:Int):bin2 ixD (.tuple xs) (.int n)=Tr.of (atI xs n):=rfl
theorem atI_ge {α:Type} {xs:List α} {n:Int} {v:α} (h0:0≤n) (h:xs[n.toNat]?=some v):atI xs n=some v:=by
  have e:(n.toNat:Int)=n:=Int.toNat_of_nonneg h0
  rw [← e]
  exact atI_nat h
section
variable {α:Type} {a0 a1 a2 a3 a4 a5 a6 a7 a8:α} {r:List α}
theorem at_0:atI (a0::r) 0=some a0:=atI_nat (j:=0) rfl
theorem at_1:atI (a0::a1::r) 1=some a1:=atI_nat (j:=1) rfl
theorem at_2:atI (a0::a1::a2::r) 2=some a2:=atI_nat (j:=2) rfl
theorem at_3:atI (a0::a1::a2::a3::r) 3=some a3:=atI_nat (j:=3) rfl
theorem at_4:atI (a0::a1::a2::a3::a4::r) 4=some a4:=atI_nat (j:=4) rfl
theorem at_5:atI (a0::a1::a2::a3::a4::a5::r) 5=some a5:=atI_nat (j:=5) rfl
theorem at_6:atI (a0::a1::a2::a3::a4::a5::a6::r) 6=some a6:=atI_nat (j:=6) rfl
theorem at_7:atI (a0::a1::a2::a3::a4::a5::a6::a7::r) 7=some a7:=atI_nat (j:=7) rfl
theorem at_8:atI (a0::a1::a2::a3::a4::a5::a6::a7::a8::r) 8=some a8:=atI_nat (j:=8) rfl
end
noncomputable def neg1:PyData→Tr PyData
  | .int n=>.ret (.int (-n))
  | _=>.fail
theorem ev_neg:aNeg i ρ=(i ρ).bind neg1:=by
  unfold aNeg
  refine congrArg (Tr.bind (i ρ)) (funext fun x=>?_)
  cases x <;> rfl
theorem ev_neg1 (n:Int):neg1 (.int n)=.ret (.int (-n)):=rfl
noncomputable def tst1 (x:PyData):Tr Bool:=Tr.of (toB x)
theorem ev_test:aTest i ρ=(i ρ).bind tst1:=rfl
theorem ev_tst1 (b:Bool):tst1 (.bool b)=.ret b:=rfl
noncomputable def tru1 (x:PyData):Tr Bool:=Tr.of (truD x)
theorem ev_tru:aTru i ρ=(i ρ).bind tru1:=rfl
theorem ev_truB (b:Bool):tru1 (.bool b)=.ret b:=rfl
theorem ev_truI (n:Int):tru1 (.int n)=.ret (n != 0):=rfl
theorem ev_truL:tru1 (.list xs)=.ret (!xs.isEmpty):=rfl
theorem ev_truT:tru1 (.tuple xs)=.ret (!xs.isEmpty):=rfl
theorem ev_truN:tru1 .none=.ret false:=rfl
noncomputable def and1 (q:List Sl→Tr Bool) (ρ:List Sl) (b:Bool):Tr Bool:=if b=true then q ρ else .ret false
noncomputable def or1 (q:List Sl→Tr Bool) (ρ:List Sl) (b:Bool):Tr Bool:=if b=true then .ret true else q ρ
noncomputable def not1 (b:Bool):Tr Bool:=.ret (!b)
theorem ev_and:aAnd p q ρ=(p ρ).bind (and1 q ρ):=rfl
theorem ev_or:aOr p q ρ=(p ρ).bind (or1 q ρ):=rfl
theorem ev_not:aNot p ρ=(p ρ).bind not1:=rfl
theorem ev_and1t:and1 q ρ true=q ρ:=rfl
theorem ev_and1f:and1 q ρ false=.ret false:=rfl
theorem ev_or1t:or1 q ρ true=.ret true:=rfl
theorem ev_or1f:or1 q ρ false=q ρ:=rfl
theorem ev_not1 (b:Bool):not1 b=.ret (!b):=rfl
noncomputable def andV1 (j:List Sl→Tr PyData) (ρ:List Sl) (b:Bool):Tr PyData:=if b=true then j ρ else .ret (.bool false)
noncomputable def orV1 (j:List Sl→Tr PyData) (ρ:List Sl) (b:Bool):Tr PyData:=if b=true then .ret (.bool true) else j ρ
theorem ev_andV:aAndV i j ρ=(aTest i ρ).bind (andV1 j ρ):=rfl
theorem ev_orV:aOrV i j ρ=(aTest i ρ).bind (orV1 j ρ):=rfl
theorem ev_andV1t:andV1 j ρ true=j ρ:=rfl
theorem ev_andV1f:andV1 j ρ false=.ret (.bool false):=rfl
theorem ev_orV1t:orV1 j ρ true=.ret (.bool true):=rfl
theorem ev_orV1f:orV1 j ρ false=j ρ:=rfl
noncomputable def if1 (i j:List Sl→Tr PyData) (ρ:List Sl) (b:Bool):Tr PyData:=if b=true then i ρ else j ρ
theorem ev_if:aIf p i j ρ=(p ρ).bind (if1 i j ρ):=rfl
theorem ev_if1t:if1 i j ρ true=i ρ:=rfl
theorem ev_if1f:if1 i j ρ false=j ρ:=rfl
noncomputable def ch4 (g:PyData→PyData→Option PyData) (l:List Sl→Tr PyData) (ρ:List Sl) (y:PyData) (k:Bool):Tr PyData:=if k=true then (l ρ).bind (bin2 g y) else .ret (.bool false)
noncomputable def ch3 (g:PyData→PyData→Option PyData) (l:List Sl→Tr PyData) (ρ:List Sl) (y z:PyData):Tr PyData:=(tst1 z).bind (ch4 g l ρ y)
noncomputable def ch2 (f g:PyData→PyData→Option PyData) (l:List Sl→Tr PyData) (ρ:List Sl) (x y:PyData):Tr PyData:=(bin2 f x y).bind (ch3 g l ρ y)
noncomputable def ch1 (f g:PyData→PyData→Option PyData) (j l:List Sl→Tr PyData) (ρ:List Sl) (x:PyData):Tr PyData:=(j ρ).bind (ch2 f g l ρ x)
theorem ev_chain {f g:PyData→PyData→Option PyData}:aChain f g i j l ρ=(i ρ).bind (ch1 f g j l ρ):=rfl
theorem ev_ch1 {f g:PyData→PyData→Option PyData}:ch1 f g j l ρ x=(j ρ).bind (ch2 f g l ρ x):=rfl
theorem ev_ch2 {f g:PyData→PyData→Option PyData}:ch2 f g l ρ x y=(bin2 f x y).bind (ch3 g l ρ y):=rfl
theorem ev_ch3 {g:PyData→PyData→Option PyData} (b:Bool):ch3 g l ρ y (.bool b)=ch4 g l ρ y b:=rfl
theorem ev_ch4t {g:PyData→PyData→Option PyData}:ch4 g l ρ y true=(l ρ).bind (bin2 g y):=rfl
theorem ev_ch4f {g:PyData→PyData→Option PyData}:ch4 g l ρ y false=.ret (.bool false):=rfl
noncomputable def cons2 (x:PyData) (xs:List PyData):Tr (List PyData):=.ret (x::xs)
noncomputable def cons1 (is:List Sl→Tr (List PyData)) (ρ:List Sl) (x:PyData):Tr (List PyData):=(is ρ).bind (cons2 x)
theorem ev_nil:aNil ρ=.ret []:=rfl
theorem ev_cons:aCons i is ρ=(i ρ).bind (cons1 is ρ):=rfl
theorem ev_cons1:cons1 is ρ x=(is ρ).bind (cons2 x):=rfl
theorem ev_cons2:cons2 x xs=.ret (x::xs):=rfl
noncomputable def tup1 (xs:List PyData):Tr PyData:=if small xs.length=true then .ret (.tuple xs) else .fail
theorem ev_tup:aTup is ρ=(is ρ).bind tup1:=rfl
theorem ev_tup1 (h:small xs.length=true):tup1 xs=.ret (.tuple xs):=by unfold tup1; rw [if_pos h]
noncomputable def lst1 (xs:List PyData):Tr PyData:=.ret (.list xs)
theorem ev_lst:aLst is ρ=(is ρ).bind lst1:=rfl
theorem ev_lst1:lst1 xs=.ret (.list xs):=rfl
noncomputable def lo1 (xs:List PyData):Tr (List PyData):=if small xs.length=true then .ret xs else .fail
theorem ev_lo:aLo is ρ=(is ρ).bind lo1:=rfl
theorem ev_lo1 (h:small xs.length=true):lo1 xs=.ret xs:=by unfold lo1; rw [if_pos h]
theorem small_le {n:Nat} (h:n≤10000):small n=true:=decide_eq_true (Nat.le_trans h (by decide))
noncomputable def cb1 (g:List PyData→Option PyData) (xs:List PyData):Tr PyData:=Tr.of (g xs)
noncomputable def cbo1 (g:List PyData→Option (List PyData)) (xs:List PyData):Tr (List PyData):=Tr.of (g xs)
theorem ev_cb {g:List PyData→Option PyData}:aCB g is ρ=(is ρ).bind (cb1 g):=rfl
theorem ev_cbo {g:List PyData→Option (List PyData)}:aCBo g is ρ=(is ρ).bind (cbo1 g):=rfl
theorem ev_lenL:cb1 lenD [.list xs]=.ret (.int xs.length):=rfl
theorem ev_lenT:cb1 lenD [.tuple xs]=.ret (.int xs.length):=rfl
theorem ev_max2 (m n:Int):cb1 max2D [.int m,.int n]=.ret (.int (maxI m n)):=rfl
theorem ev_min2 (m n:Int):cb1 min2D [.int m,.int n]=.ret (.int (minI m n)):=rfl
theorem ev_intI (n:Int):cb1 intD [.int n]=.ret (.int n):=rfl
theorem ev_intB (b:Bool):cb1 intD [.bool b]=.ret (.int (if b then 1 else 0)):=rfl
theorem ev_tupL:cb1 tupD [.list xs]=.ret (.tuple xs):=rfl
theorem ev_tupT:cb1 tupD [.tuple xs]=.ret (.tuple xs):=rfl
theorem ev_sumL (ns:List Int):cb1 sumD [.list (ns.map .int)]=.ret (.int ns.sum):=by
  unfold cb1 sumD onL
  simp
theorem ev_sumT (ns:List Int):cb1 sumD [.tuple (ns.map .int)]=.ret (.int ns.sum):=by
  unfold cb1 sumD onL
  simp
theorem ev_maxL (ns:List Int) (h:ns.isEmpty=false):cb1 max1D [.list (ns.map .int)]=.ret (.int (maxL ns)):=by
  have h':ns≠[]:=fun z=>by subst z; cases h
  unfold cb1 max1D onL
  simp [h']
theorem ev_sort (ns:List Int) (h:ns.length < 64):cbo1 sortD [.list (ns.map .int)]=.ret ((sortI ns).map .int):=by
  unfold cbo1 sortD
  simp [h]
noncomputable def sl3 (x:PyData) (lo:Option Int) (hi:Option Int):Tr PyData:=Tr.of (sliceD x lo hi)
noncomputable def sl2 (q:aPart) (ρ:List Sl) (x:PyData) (lo:Option Int):Tr PyData:=(q ρ).bind (sl3 x lo)
noncomputable def sl1 (p q:aPart) (ρ:List Sl) (x:PyData):Tr PyData:=(p ρ).bind (sl2 q ρ x)
theorem ev_sl {p q:aPart}:aSl i p q ρ=(i ρ).bind (sl1 p q ρ):=rfl
theorem ev_sl1 {p q:aPart}:sl1 p q ρ x=(p ρ).bind (sl2 q ρ x):=rfl
theorem ev_sl2 {q:aPart} {lo:Option Int}:sl2 q ρ x lo=(q ρ).bind (sl3 x lo):=rfl
theorem ev_sl3L {lo hi:Option Int}:sl3 (.list xs) lo hi=.ret (.list (cutD xs lo hi)):=rfl
theorem ev_sl3T {lo hi:Option Int}:sl3 (.tuple xs) lo hi=.ret (.tuple (cutD xs lo hi)):=rfl
theorem ev_p0:aP0 ρ=.ret none:=rfl
noncomputable def pa1:PyData→Tr (Option Int)
  | .int n=>.ret (some n)
  | _=>.fail
theorem ev_p1:aP1 i ρ=(i ρ).bind pa1:=by
  unfold aP1
  refine congrArg (Tr.bind (i ρ)) (funext fun x=>?_)
  cases x <;> rfl
theorem ev_pa1 (n:Int):pa1 (.int n)=.ret (some n):=rfl
noncomputable def tupR1 (xs:List PyData):Tr PyData:=(Tr.of (rngV2 xs)).bind fun ys=>.ret (.tuple ys)
theorem ev_tupR:aTupR is ρ=(is ρ).bind tupR1:=rfl
theorem ev_tupR1 {lo hi:Int} (h:rngOk lo hi=true):tupR1 [.int lo,.int hi]=.ret (.tuple (rngL lo hi)):=by
  simp [tupR1,rngV2,h]
theorem ev_aaNil:aaNil ρ=.ret []:=rfl
noncomputable def aa2 (x:Sl) (xs:List Sl):Tr (List Sl):=.ret (x::xs)
noncomputable def aa1 (as:List Sl→Tr (List Sl)) (ρ:List Sl) (x:PyData):Tr (List Sl):=(as ρ).bind (aa2 (.d x))
theorem ev_aaCons:aaCons i as ρ=(i ρ).bind (aa1 as ρ):=rfl
theorem ev_aa1:aa1 as ρ x=(as ρ).bind (aa2 (.d x)):=rfl
theorem ev_aa2 {xs:List Sl}:aa2 sl xs=.ret (sl::xs):=rfl
noncomputable def penAt:Nat→List Sl→Tr Unit
  | 0,.pen::_=>.ret ()
  | k+1,_::ρ=>penAt k ρ
  | _,_=>.fail
theorem ev_pen0:penAt 0 (.pen::ρ)=.ret ():=rfl
theorem ev_penS:penAt (k+1) (sl::ρ)=penAt k ρ:=rfl
noncomputable def aap (as:List Sl→Tr (List Sl)) (ρ:List Sl) (_:Unit):Tr (List Sl):=(as ρ).bind (aa2 .pen)
theorem ev_aaPen:aaPen k as ρ=(penAt k ρ).bind (aap as ρ):=by
  have key:∀ (k:Nat) (σ:List Sl) (as:List Sl→Tr (List Sl)) (ρ:List Sl),(match σ[k]? with | some Sl.pen=>(as ρ).bind fun xs=>Tr.ret (Sl.pen::xs) | _=>Tr.fail)=(penAt k σ).bind (aap as ρ):=by
    intro k
    induction k with
    | zero =>
      intro σ as ρ
      cases σ with
      | nil=>rfl
      | cons s r=>cases s <;> rfl
    | succ k ih =>
      intro σ as ρ
      cases σ with
      | nil=>rfl
      | cons s r=>exact ih r as ρ
  exact key k ρ as ρ
theorem ev_aap (u:Unit):aap as ρ u=(as ρ).bind (aa2 .pen):=rfl
theorem ev_call:aCall f as ρ=(as ρ).bind f:=rfl
noncomputable def re1 (r:Re):Tr PyData:=.ret r.val
theorem ev_re:aRe f ρ=(f ρ).bind re1:=rfl
theorem ev_re1 (r:Re):re1 r=.ret r.val:=rfl
theorem ev_def {as:List Sl} (h:as.length=n):aDef n k s as=(s (as++List.replicate k .un)).bind finR:=by
  unfold aDef
  rw [if_pos (decide_eq_true h)]
theorem ev_finN:finR (.next ρ)=.ret (.d .none):=rfl
theorem ev_finR (r:Re):finR (.ret r)=.ret r:=rfl
noncomputable def seq1 (t:List Sl→Tr Ou):Ou→Tr Ou
  | .next ρ=>t ρ
  | o=>.ret o
theorem ev_seq:aSeq s t ρ=(s ρ).bind (seq1 t):=by
  unfold aSeq
  refine congrArg (Tr.bind (s ρ)) (funext fun o=>?_)
  cases o <;> rfl
theorem ev_seqN:seq1 t (.next ρ)=t ρ:=rfl
theorem ev_seqR (r:Re):seq1 t (.ret r)=.ret (.ret r):=rfl
theorem ev_seqB:seq1 t (.brk ρ)=.ret (.brk ρ):=rfl
theorem ev_seqC:seq1 t (.cont ρ)=.ret (.cont ρ):=rfl
theorem ev_skip:aSkip ρ=.ret (.next ρ):=rfl
noncomputable def ifs1 (s t:List Sl→Tr Ou) (ρ:List Sl) (b:Bool):Tr Ou:=if b=true then s ρ else t ρ
theorem ev_ifs:aIfS p s t ρ=(p ρ).bind (ifs1 s t ρ):=rfl
theorem ev_ifst:ifs1 s t ρ true=s ρ:=rfl
theorem ev_ifsf:ifs1 s t ρ false=t ρ:=rfl
noncomputable def ret1 (x:PyData):Tr Ou:=.ret (.ret (.d x))
theorem ev_ret:aRet i ρ=(i ρ).bind ret1:=rfl
theorem ev_ret1:ret1 x=.ret (.ret (.d x)):=rfl
noncomputable def retO1 (xs:List PyData):Tr Ou:=.ret (.ret (.own xs))
theorem ev_retO:aRetO is ρ=(is ρ).bind retO1:=rfl
theorem ev_retO1:retO1 xs=.ret (.ret (.own xs)):=rfl
noncomputable def retR1 (r:Re):Tr Ou:=.ret (.ret r)
theorem ev_retR:aRetR f ρ=(f ρ).bind retR1:=rfl
theorem ev_retR1 (r:Re):retR1 r=.ret (.ret r):=rfl
theorem ev_retVd:aRetV 0 (.d x::ρ)=.ret (.ret (.d x)):=rfl
theorem ev_retVo:aRetV 0 (.own xs::ρ)=.ret (.ret (.own xs)):=rfl
theorem ev_retVs:aRetV (k+1) (sl::ρ)=aRetV k ρ:=rfl
noncomputable def set1 (k:Nat) (ρ:List Sl) (x:PyData):Tr Ou:=.ret (.next (ρ.set k (.d x)))
theorem ev_set:aSet k i ρ=(i ρ).bind (set1 k ρ):=rfl
theorem ev_set1:set1 k ρ x=.ret (.next (ρ.set k (.d x))):=rfl
noncomputable def setO1 (k:Nat) (ρ:List Sl) (x:List PyData):Tr Ou:=.ret (.next (ρ.set k (.own x)))
theorem ev_setO:aSetO k is ρ=(is ρ).bind (setO1 k ρ):=rfl
theorem ev_setO1:setO1 k ρ xs=.ret (.next (ρ.set k (.own xs))):=rfl
noncomputable def setR1 (k:Nat) (ρ:List Sl) (r:Re):Tr Ou:=.ret (.next (ρ.set k (slOf r)))
theorem ev_setR:aSetR k f ρ=(f ρ).bind (setR1 k ρ):=rfl
theorem ev_setR1d:setR1 k ρ (.d x)=.ret (.next (ρ.set k (.d x))):=rfl
theorem ev_setR1o:setR1 k ρ (.own xs)=.ret (.next (ρ.set k (.own xs))):=rfl
theorem ls_0 {α:Type} {a b:α} {r:List α}:(a::r).set 0 b=b::r:=rfl
theorem ls_S {α:Type} {a b:α} {r:List α}:(a::r).set (k+1) b=a::r.set k b:=rfl
noncomputable def aug2 (g:PyData→PyData→Option PyData) (k:Nat) (ρ:List Sl) (x y:PyData):Tr Ou:=(bin2 g x y).bind (set1 k ρ)
noncomputable def aug1 (g:PyData→PyData→Option PyData) (k:Nat) (i:List Sl→Tr PyData) (ρ:List Sl) (x:PyData):Tr Ou:=(i ρ).bind (aug2 g k ρ x)
theorem ev_aug {g:PyData→PyData→Option PyData}:aAug g k i ρ=(aVar k ρ).bind (aug1 g k i ρ):=rfl
theorem ev_aug1 {g:PyData→PyData→Option PyData}:aug1 g k i ρ x=(i ρ).bind (aug2 g k ρ x):=rfl
theorem ev_aug2 {g:PyData→PyData→Option PyData}:aug2 g k ρ x y=(bin2 g x y).bind (set1 k ρ):=rfl
theorem ev_iadd (m n:Int):bin2 iaddD (.int m) (.int n)=.ret (.int (m+n)):=rfl
theorem ev_imul {m n:Int} (h1:fit m=true) (h2:fit n=true):bin2 imulD (.int m) (.int n)=.ret (.int (m * n)):=by
  simp [bin2,imulD,h1,h2]
noncomputable def ownAt:Nat→List Sl→Tr (List PyData)
  | 0,.own xs::_=>.ret xs
  | k+1,_::ρ=>ownAt k ρ
  | _,_=>.fail
theorem ev_own0:ownAt 0 (.own xs::ρ)=.ret xs:=rfl
theorem ev_ownS:ownAt (k+1) (sl::ρ)=ownAt k ρ:=rfl
theorem own_eq {β:Type} {g:List PyData→Tr β}:∀ (k:Nat) (σ:List Sl),(match σ[k]? with | some (Sl.own xs)=>g xs | _=>Tr.fail)=(ownAt k σ).bind g
  | 0,[]=>rfl
  | 0,s::r=>by cases s <;> rfl
  | k+1,[]=>rfl
  | k+1,s::r=>own_eq k r
noncomputable def app2 (k:Nat) (ρ:List Sl) (xs:List PyData) (x:PyData):Tr Ou:=if small (xs.length+1)=true then .ret (.next (ρ.set k (.own (xs++[x])))) else .fail
noncomputable def app1 (k:Nat) (i:List Sl→Tr PyData) (ρ:List Sl) (xs:List PyData):Tr Ou:=(i ρ).bind (app2 k ρ xs)
theorem ev_app:aApp k i ρ=(ownAt k ρ).bind (app1 k i ρ):=own_eq k ρ
theorem ev_app1:app1 k i ρ xs=(i ρ).bind (app2 k ρ xs):=rfl
theorem ev_app2 (h:small (xs.length+1)=true):app2 k ρ xs x=.ret (.next (ρ.set k (.own (xs++[x])))):=by unfold app2; rw [if_pos h]
noncomputable def rev1 (k:Nat) (ρ:List Sl) (xs:List PyData):Tr Ou:=.ret (.next (ρ.set k (.own xs.reverse)))
theorem ev_rev:aRev k ρ=(ownAt k ρ).bind (rev1 k ρ):=own_eq k ρ
theorem ev_rev1:rev1 k ρ xs=.ret (.next (ρ.set k (.own xs.reverse))):=rfl
theorem ev_fz:aFz k s ρ=s (fz k ρ):=rfl
theorem fz_o:fz 0 (.own xs::ρ)=.d (.list xs)::ρ:=rfl
theorem fz_d:fz 0 (.d x::ρ)=.d x::ρ:=rfl
theorem fz_p:fz 0 (.pen::ρ)=.pen::ρ:=rfl
theorem fz_u:fz 0 (.un::ρ)=.un::ρ:=rfl
theorem fz_S:fz (k+1) (sl::ρ)=sl::fz k ρ:=by
  unfold fz
  rw [List.getElem?_cons_succ]
  cases h:ρ[k]? with
  | none=>rfl
  | some s=>cases s <;> rfl
noncomputable def nx1 (ρ:List Sl):Tr Ou:=.ret (.next ρ)
noncomputable def asg1 (g:PyData→List Sl→Option (List Sl)) (ρ:List Sl) (x:PyData):Tr Ou:=(Tr.of (g x ρ)).bind nx1
theorem ev_asg {g:PyData→List Sl→Option (List Sl)}:aAsg g i ρ=(i ρ).bind (asg1 g ρ):=rfl
theorem ev_asg1 {g:PyData→List Sl→Option (List Sl)}:asg1 g ρ x=(Tr.of (g x ρ)).bind nx1:=rfl
theorem ev_nx1:nx1 ρ=.ret (.next ρ):=rfl
theorem g_set:gSet k x ρ=some (ρ.set k (.d x)):=rfl
theorem g_tup {gs:List PyData→List Sl→Option (List Sl)}:gTupD gs (.tuple xs) ρ=gs xs ρ:=rfl
theorem g_nil:gsNil [] ρ=some ρ:=rfl
theorem g_cons {g:PyData→List Sl→Option (List Sl)} {gs:List PyData→List Sl→Option (List Sl)}:gsCons g gs (x::xs) ρ=(g x ρ).bind (gs xs):=rfl
theorem g_some {α β:Type} {a:α} {g:α→Option β}:(some a).bind g=g a:=rfl
noncomputable def it1 (x:PyData):Tr (List PyData):=Tr.of (itD x)
theorem ev_it:aIt i ρ=(i ρ).bind it1:=rfl
theorem ev_it1L:it1 (.list xs)=.ret xs:=rfl
theorem ev_it1T:it1 (.tuple xs)=.ret xs:=rfl
noncomputable def rng1 (xs:List PyData):Tr (List PyData):=Tr.of (rngD1 xs)
noncomputable def rng2 (xs:List PyData):Tr (List PyData):=Tr.of (rngD2 xs)
theorem ev_rng1:aRng1 is ρ=(is ρ).bind rng1:=rfl
theorem ev_rng2:aRng2 is ρ=(is ρ).bind rng2:=rfl
theorem inR_of {n:Int} (h1:-1000000000000≤n) (h2:n≤1000000000000):inR n=true:=decide_eq_true (by omega)
theorem ev_rg1 {n:Int} (h:inR n=true):rng1 [.int n]=.ret (rngL 0 n):=by
  simp [rng1,rngD1,h]
theorem ev_rg2 {m n:Int} (h1:inR m=true) (h2:inR n=true):rng2 [.int m,.int n]=.ret (rngL m n):=by
  simp [rng2,rngD2,h1,h2]
noncomputable def enu2 (xs:List PyData):Tr (List PyData):=.ret (enumD xs)
noncomputable def enu1 (x:PyData):Tr (List PyData):=(it1 x).bind enu2
theorem ev_enum:aEnum i ρ=(i ρ).bind enu1:=rfl
theorem ev_enu1:enu1 x=(it1 x).bind enu2:=rfl
theorem ev_enu2:enu2 xs=.ret (enumD xs):=rfl
noncomputable def for1 (g:PyData→List Sl→Option (List Sl)) (s:List Sl→Tr Ou) (ρ:List Sl) (xs:List PyData):Tr Ou:=forL g s xs ρ
theorem ev_for {g:PyData→List Sl→Option (List Sl)}:aFor is g s ρ=(is ρ).bind (for1 g s ρ):=rfl
theorem ev_for1 {g:PyData→List Sl→Option (List Sl)}:for1 g s ρ xs=forL g s xs ρ:=rfl
noncomputable def for3 (g:PyData→List Sl→Option (List Sl)) (s:List Sl→Tr Ou) (xs:List PyData):Ou→Tr Ou
  | .next ρ=>forL g s xs ρ
  | .cont ρ=>forL g s xs ρ
  | .brk ρ=>.ret (.next ρ)
  | .ret r=>.ret (.ret r)
noncomputable def for2 (g:PyData→List Sl→Option (List Sl)) (s:List Sl→Tr Ou) (xs:List PyData) (ρ:List Sl):Tr Ou:=(s ρ).bind (for3 g s xs)
theorem for_nil {g:PyData→List Sl→Option (List Sl)}:forL g s [] ρ=.ret (.next ρ):=rfl
theorem for_cons {g:PyData→List Sl→Option (List Sl)}:forL g s (x::xs) ρ=(Tr.of (g x ρ)).bind (for2 g s xs):=by
  rw [forL]
  refine congrArg (Tr.bind (Tr.of (g x ρ))) (funext fun ρ1=>?_)
  unfold for2
  refine congrArg (Tr.bind (s ρ1)) (funext fun o=>?_)
  cases o <;> rfl
theorem ev_for3n {g:PyData→List Sl→Option (List Sl)}:for3 g s xs (.next ρ)=forL g s xs ρ:=rfl
noncomputable def lc2 (g:PyData→List Sl→Option (List Sl)) (el:List Sl→Tr PyData) (τ:List Sl) (x:PyData):Tr PyData:=(Tr.of (g x τ)).bind el
noncomputable def lc1 (n:Nat) (ix:List Nat) (g:PyData→List Sl→Option (List Sl)) (el:List Sl→Tr PyData) (ρ:List Sl) (xs:List PyData):Tr (List PyData):=if small xs.length=true then mapT (lc2 g el (blk n ix ρ)) xs else .fail
theorem ev_lc {ix:List Nat} {g:PyData→List Sl→Option (List Sl)}:aLc is n ix g i ρ=(is ρ).bind (lc1 n ix g i ρ):=rfl
theorem ev_lc1 {ix:List Nat} {g:PyData→List Sl→Option (List Sl)} (h:small xs.length=true):lc1 n ix g i ρ xs=mapT (lc2 g i (blk n ix ρ)) xs:=by unfold lc1; rw [if_pos h]
theorem ev_lc2 {τ:List Sl} {g:PyData→List Sl→Option (List Sl)}:lc2 g i τ x=(Tr.of (g x τ)).bind i:=rfl
theorem draw_all {α:Type} {w:Int} {k:Int→Tr α} {n:Nat} {P:α→Prop} (h1:0 < w) (h2:w < 1073741824) (h:∀ r,0≤r→r < w→(k r).all n P):(Tr.draw w k).all (n+1) P:=⟨h1,h2,h⟩
end L2
namespace L2
open PySem PySem.Spec PyProof.Rows
noncomputable def mt2 (y:PyData) (ys:List PyData):Tr (List PyData):=.ret (y::ys)
noncomputable def mt1 (h:PyData→Tr PyData) (xs:List PyData) (y:PyData):Tr (List PyData):=(mapT h xs).bind (mt2 y)
theorem mt_nil {h:PyData→Tr PyData}:mapT h []=.ret []:=rfl
theorem mt_cons {h:PyData→Tr PyData} {x:PyData} {xs:List PyData}:mapT h (x::xs)=(h x).bind (mt1 h xs):=rfl
theorem mt_1 {h:PyData→Tr PyData} {y:PyData} {xs:List PyData}:mt1 h xs y=(mapT h xs).bind (mt2 y):=rfl
theorem mt_2 {y:PyData} {ys:List PyData}:mt2 y ys=.ret (y::ys):=rfl
theorem pick {α:Type} {xs:List α} {r:Int} (h0:0≤r) (h1:r < xs.length):∃ v,atI xs r=some v∧v∈xs:=by
  have h:r.toNat < xs.length:=by omega
  exact ⟨xs[r.toNat],atI_ge h0 (by simp [h]),List.getElem_mem h⟩
theorem list7 {α:Type} {xs:List α} (h:xs.length=7):∃ a b c d e f g,xs=[a,b,c,d,e,f,g]:=by
  rcases xs with _ | ⟨a,_ | ⟨b,_ | ⟨c,_ | ⟨d,_ | ⟨e,_ | ⟨f,_ | ⟨g,_ | ⟨k,xs⟩⟩⟩⟩⟩⟩⟩⟩
  · cases h
  · cases h
  · cases h
  · cases h
  · cases h
  · cases h
  · cases h
  · exact ⟨a,b,c,d,e,f,g,rfl⟩
  · exact absurd h (by simp)
end L2
namespace L2
open PySem
@[irreducible] noncomputable def Al {α:Type} (t:Tr α) (n:Nat) (P:α→Prop):Prop:=t.all n P
section
variable {α β:Type} {t:Tr α} {n n' N:Nat} {P:α→Prop} {P':β→Prop}
theorem Al.of (h:t.all n P):Al t n P:=by unfold Al; exact h
theorem Al.out (h:Al t n P):t.all n P:=by unfold Al at h; exact h
theorem al_ret {a:α} (h:P a):Al (.ret a) n P:=.of h
theorem al_drw {w:Int} {k:Int→Tr α} (h1:0 < w) (h2:w < 1073741824) (hN:n+1≤N) (h:∀ r,0≤r→r < w→Al (k r) n P):Al (.draw w k) N P:=.of (Tr.all_mono (draw_all h1 h2 fun r a b=>(h r a b).out) hN fun _ h=>h)
theorem al_bind {f:α→Tr β} (h:Al t n P) (hN:n+n'≤N) (hf:∀ a,P a→Al (f a) n' P'):Al (t.bind f) N P':=.of (Tr.all_mono (Tr.all_bind h.out fun a ha=>(hf a ha).out) hN fun _ h=>h)
theorem al_mono {Q:α→Prop} (h:Al t n P) (hN:n≤N) (hq:∀ a,P a→Q a):Al t N Q:=.of (Tr.all_mono h.out hN hq)
end
noncomputable def intIn (lo hi:Int) (x:PyData):Prop:=∃ z:Int,x=.int z∧lo≤z∧z≤hi
theorem rngL_len {lo hi:Int}:(rngL lo hi).length=(hi - lo).toNat:=by unfold rngL; rw [List.length_map,rangeI_length]
theorem pickI {xs:List PyData} {lo hi r:Int} (h:∀ x∈xs,intIn lo hi x) (h0:0≤r) (h1:r < xs.length):∃ z:Int,atI xs r=some (.int z)∧lo≤z∧z≤hi:=by
  obtain ⟨v,e,m⟩:=pick h0 h1
  obtain ⟨z,rfl,a,b⟩:=h v m
  exact ⟨z,e,a,b⟩
end L2
set_option Elab.async false
set_option linter.all false
set_option maxRecDepth 100000
namespace L2
open PySem PySem.Spec PyProof.Rows
variable {PK:Pk} {X:Cx} {a b c e:Expr} {es:List Expr} {pos:Pos} {i j l:List Sl→Tr PyData} {is:List Sl→Tr (List PyData)} {p q:List Sl→Tr Bool} {st:Stmt}
noncomputable def flatD:PyData→Bool
  | .none=>true
  | .bool _=>true
  | .int _=>true
  | .str _=>true
  | _=>false
end L2
set_option Elab.async false
set_option linter.all false
set_option maxRecDepth 100000
namespace L2
open PySem PySem.Spec PyProof.Rows
variable {PK:Pk} {X:Cx} {a b c e:Expr} {es:List Expr} {pos:Pos} {i j l:List Sl→Tr PyData} {as:List Sl→Tr (List Sl)}
structure PkLow (PK:Pk):Prop where
  low:∀ {o o':HO} {G G':Hp} {m m':Nat},PK.is o G m→Sub G G'→PK.is o' G' m'→PK.is o' G m'
inductive ArB (pa:Addr) (G H:Hp):V→Sl→Prop
  | ok {v:V} {s:Sl}:ArOk pa G v s→ArB pa G H v s
  | own {p:Addr} {vs:List V} {xs:List PyData}:H p=some (.lst vs)→G p=none→pa≠p→DnAll G vs xs→ArB pa G H (.ref p) (.d (.list xs))
inductive ArsB (pa:Addr) (G H:Hp):List V→List Sl→Prop
  | nil:ArsB pa G H [] []
  | cons {v:V} {vs:List V} {s:Sl} {ss:List Sl}:ArB pa G H v s→ArsB pa G H vs ss→ArsB pa G H (v::vs) (s::ss)
theorem ArB.step {pa:Addr} {G H G' H':Hp} {v:V} {s:Sl} (h:ArB pa G H v s) (st:Stp pa G H G' H'):ArB pa G' H' v s:=by
  cases h with
  | ok h=>exact .ok (h.mono st.gs)
  | @own p vs xs h1 h2 h3 h4 =>
    refine .own (st.hk _ _ h1 (Ne.symm h3)) ?_ h3 (DnAll.mono st.gs h4)
    cases e:G' p with
    | none=>rfl
    | some u =>
      rcases st.gn p u e with z | z
      · rw [h2] at z; cases z
      · rw [h1] at z; cases z
theorem ArsB.ok {pa:Addr} {m:Nat} {G H:Hp}:∀ {vs:List V} {ss:List Sl} {G1:Hp},Sub G G1→Wd PK pa m G1 H→ArsB pa G H vs ss→∃ G2,Sub G1 G2∧Wd PK pa m G2 H∧ArsOk pa G2 vs ss
  | _,_,G1,_,w,.nil=>⟨G1,fun _ _ h=>h,w,.nil⟩
  | _,_,G1,sb,w,.cons h t=>by
    obtain ⟨G2,s2,w2,t2⟩:=ArsB.ok sb w t
    cases h with
    | ok h=>exact ⟨G2,s2,w2,.cons (h.mono (sb.trans s2)) t2⟩
    | @own p vs xs h1 h2 h3 h4 =>
      cases e:G2 p with
      | none =>
        have s3:Sub G2 (upd G2 p (.lst vs)):=Sub.new e
        exact ⟨upd G2 p (.lst vs),s2.trans s3,w2.freeze h1 e h3,.cons (.d (.lst upd_same (DnAll.mono ((sb.trans s2).trans s3) h4))) (ArsOk.mono s3 t2)⟩
      | some u =>
        have:=w2.sub p u e
        rw [h1] at this
        cases this
        exact ⟨G2,s2,w2,.cons (.d (.lst e (DnAll.mono (sb.trans s2) h4))) t2⟩
noncomputable def TAb (PK:Pk) (i:List Sl→Tr (List Sl)):TA:=fun σ H Q=>∃ pa G₀ H₀ m ρ G,Rl PK pa G₀ H₀ m σ ρ G H∧(i ρ).ok m fun m' as=>∀ vs G' H',Stp pa G H G' H'→Wd PK pa m' G' H'→ArsB pa G' H' vs as→Q vs H'
theorem TAb.then {σ:St} {H:Hp} {β:Type} {k:List Sl→Tr β} {Z:Nat→β→Prop} {Q:List V→Hp→Prop} {pa:Addr} {G₀ H₀ G:Hp} {m:Nat} {ρ:List Sl} (R:Rl PK pa G₀ H₀ m σ ρ G H) (h:((as ρ).bind k).ok m Z)
    (hq:∀ m1 xs vs G1 H1,Stp pa G H G1 H1→Wd PK pa m1 G1 H1→Rl PK pa G₀ H₀ m1 σ ρ G1 H1→ArsB pa G1 H1 vs xs→(k xs).ok m1 Z→Q vs H1):TAb PK as σ H Q:=by
  refine ⟨pa,G₀,H₀,m,ρ,G,R,Tr.ok_mono (Tr.ok_bind.mp h) fun m1 x hx v G1 H1 s1 w1 d1=>?_⟩
  exact hq m1 x v G1 H1 s1 w1 (R.step s1 w1) d1 hx
theorem ab_nil:PA X [] (TAb PK aaNil):=pa_nil.imp fun σ H Q hz0=>by
  obtain ⟨pa,G₀,H₀,m,ρ,G,R,z⟩:=hz0
  exact z [] G H .refl R.wd .nil
noncomputable def aaLend (k:Nat) (as:List Sl→Tr (List Sl)):List Sl→Tr (List Sl):=fun ρ=>match ρ[k]? with
  | some (.own xs)=>(as ρ).bind fun ys=>.ret (.d (.list xs)::ys)
  | some (.d x)=>(as ρ).bind fun ys=>.ret (.d x::ys)
  | _=>.fail
theorem ab_lend {k:Nat} (ha:PE X e (tVar k)) (hr:PA X es (TAb PK as)) (hs:starEach (e::es) X.env=(false,eval e X.env)::starEach es X.env:=by rfl):PA X (e::es) (TAb PK (aaLend k as)):=(pa_cons ha hr hs).imp fun σ H Q hz0=>by
  obtain ⟨pa,G₀,H₀,m,ρ,G,R,z⟩:=hz0
  unfold aaLend at z
  split at z
  · rename_i xs hk
    obtain ⟨o,h1,h2⟩:=R.sl k _ hk
    cases h2 with
    | @own p vs _ a1 a2 a3 a4 =>
      have hne:pa≠p:=fun e=>by
        obtain ⟨u,hu⟩:=R.p0
        rw [e,a3] at hu; cases hu
      refine ⟨_,h1,?_⟩
      refine TAb.then R z fun m2 ys ws G2 H2 s2 w2 R2 d2 q2=>?_
      exact q2 _ _ _ s2 w2 (.cons ((ArB.own a1 a2 hne a4).step s2) d2)
  · rename_i x hk
    obtain ⟨o,h1,h2⟩:=R.sl k _ hk
    cases h2 with
    | d d1 =>
      refine ⟨_,h1,?_⟩
      refine TAb.then R z fun m2 ys ws G2 H2 s2 w2 R2 d2 q2=>?_
      exact q2 _ _ _ s2 w2 (.cons (.ok (.d (d1.mono s2.gs))) d2)
  · exact z.elim
theorem Dn.flat_any {G G':Hp} {v:V} {x:PyData} (h:Dn G v x) (f:flatD x=true):Dn G' v x:=by
  cases h with
  | non=>exact .non
  | bl b=>exact .bl b
  | int i=>exact .int i
  | str s=>exact .str s
  | _=>cases f
variable {ρ:List Sl} {k:Nat} {xs:List PyData} {x:PyData} {sl:Sl} {f:List Sl→Tr Re}
noncomputable def lendAt:Nat→List Sl→Tr PyData
  | 0,.own xs::_=>.ret (.list xs)
  | 0,.d x::_=>.ret x
  | k+1,_::ρ=>lendAt k ρ
  | _,_=>.fail
theorem ev_len0o:lendAt 0 (.own xs::ρ)=.ret (.list xs):=rfl
theorem ev_len0d:lendAt 0 (.d x::ρ)=.ret x:=rfl
theorem ev_lenS:lendAt (k+1) (sl::ρ)=lendAt k ρ:=rfl
theorem ev_lend:aaLend k as ρ=(lendAt k ρ).bind (aa1 as ρ):=by
  have key:∀ (k:Nat) (σ:List Sl) (as:List Sl→Tr (List Sl)) (ρ:List Sl),(match σ[k]? with | some (.own xs)=>(as ρ).bind fun ys=>Tr.ret (Sl.d (.list xs)::ys) | some (.d x)=>(as ρ).bind fun ys=>Tr.ret (Sl.d x::ys) | _=>Tr.fail)=(lendAt k σ).bind (aa1 as ρ):=by
    intro k
    induction k with
    | zero =>
      intro σ as ρ
      cases σ with
      | nil=>rfl
      | cons s r=>cases s <;> rfl
    | succ k ih =>
      intro σ as ρ
      cases σ with
      | nil=>rfl
      | cons s r=>exact ih r as ρ
  exact key k ρ as ρ
end L2
set_option Elab.async false
set_option linter.all false
set_option maxRecDepth 100000
namespace L2
open PySem PySem.Spec PyProof.Rows
theorem compLoop_runIf {prog:Program} {w:World} {A:Around} {R:Result→Shared→Prop} {s:Shared} {elt target iter cnd:Expr} {scope:Scope} {pos:Pos} {it acc:Value} {env:Env} (J:Nat→Shared→Prop)
    (step:∀ k s0,J k s0→wpAny (model prog w) A (pyNext it) (fun got s1=>match got with
      | none=>R (.ok .next) s1
      | some v=>wpAny (model prog w) A (letOwnedTupleGo target it v) (fun _ s2=>wpAny (model prog w) A (assign target env v) (fun _ s3=>wpAny (model prog w) A (isTrue cnd env (eval cnd env)) (fun ok s3'=>if ok=true then wpAny (model prog w) A (eval elt env) (fun y s4 =>
          wpAny (model prog w) A (call (.builtin "list.append") [acc,y]) (fun _ s5=>∃ j,j < k∧J j s5) (fun _ _=>False) s4) (fun _ _=>False) s3' else ∃ j,j < k∧J j s3') (fun _ _=>False) s3) (fun _ _=>False) s2) (fun _ _=>False) s1) (fun _ _=>False) s0)
    (k:Nat) (h:J k s):codeAny (model prog w) A (.compLoop (.ListComp elt [⟨target,iter,[cnd],0⟩] scope pos) 0 it acc env) R s:=by
  refine codeAny_loop rfl J (fun k0 s0 hJ=>?_) k h
  show wpAny _ _ ((compTurn (.ListComp elt [⟨target,iter,[cnd],0⟩] scope pos) 0 it acc env).onRaise (fun x=>do noteFrame x env; theTreesLotGoes x)) _ _ s0
  apply wpAny_noted
  rw [compTurn_list]
  refine wpAny_bind (wpAny_standAt (wpAny_bind (wpAny_mono (step k0 s0 hJ) (fun got s1 h1=>?_) fun _ _ z=>z.elim)))
  cases got with
  | none=>exact wpAny_pure h1
  | some v =>
    refine wpAny_bind (wpAny_mono h1 (fun _ s2 h2=>?_) fun _ _ z=>z.elim)
    refine wpAny_bind (wpAny_mono h2 (fun _ s3 h3=>?_) fun _ _ z=>z.elim)
    refine wpAny_bind (wpAny_mono (wpAny_tests_one h3) (fun ok s3' h3'=>?_) fun _ _ z=>z.elim)
    cases ok with
    | false=>exact wpAny_pure ⟨rfl,h3'⟩
    | true =>
      refine wpAny_bind (wpAny_bind (wpAny_mono h3' (fun y s4 h4=>?_) fun _ _ z=>z.elim))
      exact wpAny_bind (wpAny_mono h4 (fun _ s5 h5=>wpAny_pure (wpAny_pure ⟨rfl,h5⟩)) fun _ _ z=>z.elim)

noncomputable def tLcif (wi:TI) (n:Nat) (ix:List Nat) (g:Blk→TG) (tc:Blk→TT) (te:Blk→TE):TE:=fun σ H Q=>wi σ H fun J H1=>∀ b:Blk,∃ W:Nat→Nat→St→List V→Hp→Prop,(∃ m,W 0 m (bSt n ix σ) [] H1)∧∀ i m τ ys H2,W i m τ ys H2 →
  (J.stop i H2∧∀ p v H',H2 p=none→v=V.ref p→H'=upd H2 p (.lst ys)→Q v H') ∨
  (J.go i H2∧ys.length < sizeLine∧∀ x H3,J.yld i H2 x H3→g b x τ H3 fun τ2 H4=>tc b τ2 H4 fun ok H4'=>if ok=true then te b τ2 H4' fun y H5=>∃ m',m' < m∧W (i+1) m' τ2 (ys++[y]) H5 else ∃ m',m' < m∧W (i+1) m' τ2 ys H4')

section
variable {X:Cx} {pins:List (Addr×Obj)} {σ:St} {H:Hp} {s:Shared}
theorem lcif_block {elt target iter cnd:Expr} {scope:Scope} {pos:Pos} {Nx ts:List Str} {ix:List Nat} {g:Blk→TG} {tc:Blk→TT} {te:Blk→TE} {cl:List (Str×Addr)} {s2:Shared} {itv:Value} {R:Value→Addr→Result→Shared→Prop}
    {E:Value→Shared→Prop} {Q:VK}
    (hc:X.calm=true) (hg:∀ b,PG (cxC X (bN Nx ts ix) scope b) target (g b)) (hcn:∀ b,PT (cxC X (bN Nx ts ix) scope b) cnd (tc b)) (he:∀ b,PE (cxC X (bN Nx ts ix) scope b) elt (te b))
    (hNx:X.N=Nx) (ok:BlkOk Nx X.env.scope scope ix) (cl1:∀ x c,cl.lookup x=some c→X.env.cells.lookup x=some c) (cl2:∀ y∈scope.names,y.2=.free→∃ c,cl.lookup y.1=some c)
    (h2:PIE X pins σ target (fun J H1=>∀ b:Blk,∃ W:Nat→Nat→St→List V→Hp→Prop,(∃ m,W 0 m (bSt ts.length ix σ) [] H1)∧∀ i m τ ys H2,W i m τ ys H2 →
      (J.stop i H2∧∀ p v H',H2 p=none→v=V.ref p→H'=upd H2 p (.lst ys)→Q v H') ∨
      (J.go i H2∧ys.length < sizeLine∧∀ x H3,J.yld i H2 x H3→g b x τ H3 fun τ2 H4=>tc b τ2 H4 fun ok H4'=>if ok=true then te b τ2 H4' fun y H5=>∃ m',m' < m∧W (i+1) m' τ2 (ys++[y]) H5 else ∃ m',m' < m∧W (i+1) m' τ2 ys H4')) itv s2)
    (hR:∀ (D C:Addr) (H':Hp) (s':Shared) (v:V),Inv X pins σ H' s'→v=.ref D→Q v H'→(∃ m,s'.heap.Ns C m)→H' C=none→C≠X.env.locals→X.s₀.heap.objs.size≤C→(∀ x c,X.env.cells.lookup x=some c→c≠C)→(∀ p∈X.pn++pins,p.1≠C) →
      R (.ref D) C (.ok .next) s') :
    wpAny (model X.prog X.w) X.A (newList []) (fun acc s₃=>wpAny (model X.prog X.w) X.A (newFunctionEnv scope X.env.globals cl [] X.env.qual none .none (some X.env)) (fun cenv s₄ =>
      codeAny (model X.prog X.w) X.A (.compStart (.ListComp elt [⟨target,iter,[cnd],0⟩] scope pos) 0 itv acc { cenv with scope:=relabel scope X.env }) (R acc cenv.locals) s₄) E s₃) E s2:=by
  obtain ⟨it,fp,tn,J,H1,e,I2,T,st2,f2,q2⟩:=h2
  subst e
  refine wpAny_newObj_type (wpAny_newFunctionEnv ok.nocell (by intro y hy; simp at hy) (fun h3 hns3 hsb3=>?_) ok.kind)
  dsimp only at hns3 hsb3 ⊢
  generalize hG:s2.heap.push { cls:=.type "list",dict:=none,data:=.seq ([]:List Value).toArray }=G at hns3 hsb3 ⊢
  have hGs:G.objs.size=s2.heap.objs.size+1:=by rw [← hG,Heap.size_push]
  have hfs:∀ b∈fp,b < s2.heap.objs.size:=fun b hb=>let ⟨o,e,_⟩:=T.obj _ _ st2 b hb; Heap.lt_size e
  have kpG:∀ b o,G.get? b=some o→h3.get? b=some o:=fun b o e=>hsb3.extBut b o (Nat.ne_of_lt (Heap.lt_size e)) (Heap.get?_push_of_some _ e)
  have kp:∀ b o,s2.heap.get? b=some o→h3.get? b=some o:=fun b o e=>kpG b o (by rw [← hG]; exact Heap.get?_push_of_some _ e)
  have hD3:h3.get? s2.heap.objs.size=some { cls:=.type "list",data:=.seq ([]:List Value).toArray }:=kpG _ _ (by rw [← hG]; exact Heap.get?_push_size _ rfl)
  generalize hCe:G.objs.size=C at hns3 hsb3 ⊢
  have hC:s2.heap.objs.size≤C:=by omega
  have hDC:s2.heap.objs.size≠C:=by omega
  let B:Blk:=⟨cl,C,s2,H1,fp,X.pn++pins⟩
  have I3:Inv (cxC X (bN Nx ts ix) scope B) [] (bSt ts.length ix σ) H1 { s2 with heap:=h3,toks:=s2.toks+([]:List (Str×Value)).length }:=inv_block I2 hNx ok cl1 cl2 f2 hfs hC kp hns3
  have fC:H1 s2.heap.objs.size=none:=I2.hok.fresh (Nat.le_refl _)
  have cellIn:∀ x c,cl.lookup x=some c→c≠s2.heap.objs.size:=fun x c e=>by
    obtain ⟨v,q⟩:=I2.cell x c (cl1 x c e)
    exact Nat.ne_of_lt q.lt
  have pinIn:∀ p∈X.pn++pins,p.1 < s2.heap.objs.size:=fun p hp=>Heap.lt_size (I2.pin p hp).1
  have nofrs:s2.heap.objs.size ∉ frs X.stack:=fun hb=>by
    rcases List.mem_cons.mp (I2.stkSub _ hb) with z | z
    · exact absurd I2.lt (by rw [← z]; exact Nat.lt_irrefl _)
    · exact I2.nofs (Nat.le_refl _) z
  -- a state with the list at its place,pinned
  have pinD:∀ {τ:St} {H':Hp} {s':Shared} {ob:Obj},Inv (cxC X (bN Nx ts ix) scope B) [] τ H' s'→s'.heap.get? s2.heap.objs.size=some ob→H' s2.heap.objs.size=none→(∀ v,ob.data≠.cell v)→Inv (cxC X (bN Nx ts ix) scope B) [(s2.heap.objs.size,ob)] τ H' s' :=
    fun {τ H' s' ob} I' ho hn hd=>I'.pins_of fun p hp=>by
      have e:p=(s2.heap.objs.size,ob):=by simpa using hp
      subst e
      exact ⟨ho,hn,hDC,nofrs,hd⟩
  obtain ⟨W,⟨m0,w0⟩,turn⟩:=q2 B
  have stat:∀ {H':Hp} {ob:Obj},(∀ b∈fp,H' b=none)→∀ b∈fp,FpOk (cxC X (bN Nx ts ix) scope B) [(s2.heap.objs.size,ob)] H' b:=fun {H' ob} hn b hb=>by
    refine ⟨hn b hb,Nat.ne_of_lt (Nat.lt_of_lt_of_le (hfs b hb) hC),fun z=>?_,.inl hb,fun x c e=>(f2 b hb).2.2.2.2.1 x c (cl1 x c e),fun p hp=>?_⟩
    · rcases List.mem_cons.mp (I2.stkSub _ z) with q | q
      · exact (f2 b hb).2.1 q
      · exact (f2 b hb).2.2.1 q
    · rcases List.mem_append.mp hp with z | z
      · exact (f2 b hb).2.2.2.2.2 p z
      · have e:p=(s2.heap.objs.size,ob):=by simpa using z
        subst e
        exact Nat.ne_of_gt (hfs b hb)
  have loop:∀ s4:Shared,s4={ s2 with heap:=h3,toks:=s2.toks+([]:List (Str×Value)).length } →
      codeAny (model X.prog X.w) X.A (.compLoop (.ListComp elt [⟨target,iter,[cnd],0⟩] scope pos) 0 (.ref it) (.ref s2.heap.objs.size) (compEnvC scope cl C X.env)) (R (.ref s2.heap.objs.size) C) s4:=by
    rintro s4 rfl
    refine compLoop_runIf (fun k s'=>∃ i τ ys its n H',Inv (cxC X (bN Nx ts ix) scope B) [(s2.heap.objs.size,({ cls:=.type "list",data:=.seq (List.toArray its) n }:Obj))] τ H' s'∧tn i s'.heap∧(∀ b∈fp,H' b=none)∧Vals ys its∧ys.length≤sizeLine∧W i k τ ys H') ?_ m0
      ⟨0,_,[],[],_,H1,pinD I3 hD3 fC (fun v z=>by cases z),T.keep _ _ _ st2 fun b hb o e=>kp b o e,fun b hb=>(f2 b hb).1,.nil,Nat.zero_le _,w0⟩
    rintro k s5 ⟨i,τ,ys,its,n,H5,I5,st5,fr5,rv,hz,w5⟩
    rcases turn i k τ ys H5 w5 with ⟨stop,qn⟩ | ⟨go,hlt,step⟩
    · refine thn (T.done (cxC X (bN Nx ts ix) scope B) rfl rfl rfl hc i _ s5 τ H5 _ I5 (stat fr5) st5 stop) fun got s6 hz0=>?_
      obtain ⟨hr,I6⟩:=hz0
      subst hr
      obtain ⟨ho,hn,_,_,_⟩:=I6.pin (s2.heap.objs.size,({ cls:=.type "list",data:=.seq (List.toArray its) n }:Obj)) (List.mem_append_right _ (by simp))
      have I7:Inv X pins σ H5 s6:=I2.call' (ch:=fp) (H':=H5) (by exact I6.os) I6.base I6.hok I6.bare fun b hb=>⟨(f2 b hb).2.2.2.1,(f2 b hb).2.1,(f2 b hb).2.2.2.2.1,(f2 b hb).2.2.2.2.2⟩
      have hs0:X.s₀.heap.objs.size≤s2.heap.objs.size:=I2.sz
      have I8:=I7.track hn ho rv hz (Nat.ne_of_gt I2.lt) hs0 (fun x c e z=>by
        obtain ⟨v,q⟩:=I2.cell x c e
        exact absurd q.lt (by rw [z]; exact Nat.lt_irrefl _)) (fun p hp=>Nat.ne_of_lt (pinIn p hp))
      obtain ⟨m6,hm6,_⟩:=I6.loc
      refine hR _ C _ s6 _ I8 rfl (qn _ _ _ hn rfl rfl) ⟨m6,hm6⟩ ?_ (fun z=>?_) (Nat.le_trans hs0 hC) (fun x c e z=>?_) fun p hp=>Nat.ne_of_lt (Nat.lt_of_lt_of_le (pinIn p hp) hC)
      · rw [upd_ne (Ne.symm hDC)]
        exact I6.free
      · exact absurd (Nat.lt_of_lt_of_le I2.lt hC) (by rw [z]; exact Nat.lt_irrefl _)
      · obtain ⟨v,q⟩:=I2.cell x c e
        exact absurd (Nat.lt_of_lt_of_le q.lt hC) (by rw [z]; exact Nat.lt_irrefl _)
    · refine thn (T.item (cxC X (bN Nx ts ix) scope B) rfl rfl rfl hc i _ s5 τ H5 _ I5 (stat fr5) st5 go) fun got s6 hz0=>?_
      obtain ⟨u,hr,h6⟩:=hz0
      subst hr
      refine thn h6 fun _ s7 hz0=>?_
      obtain ⟨x,H7,I7,r7,y7,st7,fr7⟩:=hz0
      have I7':=I7.pinned (stat fr7) (T.obj _ _ st7)
      refine thn (hg B _ s7 τ H7 x u _ I7' r7 (step x H7 y7)) fun _ s8 hz0=>?_
      obtain ⟨τ8,H8,I8,q8⟩:=hz0
      refine thn (hcn B _ s8 τ8 H8 _ I8 q8) fun okk s8' hz0=>?_
      obtain ⟨H8',I8',q8'⟩:=hz0
      cases okk with
      | false =>
        obtain ⟨m',hm',w9⟩:=q8'
        obtain ⟨ho,hn,_,_,_⟩:=I8'.pin (s2.heap.objs.size,({ cls:=.type "list",data:=.seq (List.toArray its) n }:Obj)) (List.mem_append_right _ (List.mem_append_left _ (by simp)))
        have I9':Inv (cxC X (bN Nx ts ix) scope B) [] τ8 H8' s8':=I8'.pins_of fun p hp=>absurd hp (by simp)
        refine ⟨m',hm',i+1,τ8,ys,its,n,H8',pinD I9' ho hn (fun v z=>by cases z),?_,fun b hb=>?_,rv,hz,w9⟩
        · refine T.keep _ _ _ st7 fun b hb o e=>?_
          exact (I8'.pin (b,o) (List.mem_append_right _ (List.mem_append_right _ (mem_pinsAt hb e)))).1
        · obtain ⟨o,e,d⟩:=T.obj _ _ st7 b hb
          exact (I8'.pin (b,o) (List.mem_append_right _ (List.mem_append_right _ (mem_pinsAt hb e)))).2.1
      | true =>
      refine thn (he B _ s8' τ8 H8' _ I8' q8') fun y s9 hz0=>?_
      obtain ⟨vy,H9,I9,r9,m',hm',w9⟩:=hz0
      obtain ⟨ho,hn,_,_,_⟩:=I9.pin (s2.heap.objs.size,({ cls:=.type "list",data:=.seq (List.toArray its) n }:Obj)) (List.mem_append_right _ (List.mem_append_left _ (by simp)))
      have lenv:=rv.length
      refine wpAny_list_append_plain (l:=s2.heap.objs.size) ⟨n,ho⟩ (fun h' hpl hsb=>?_) (by rw [List.size_toArray]; omega)
      obtain ⟨n',ho'⟩:=hpl
      have eobj:(its.toArray.push y)=List.toArray (its++[y]):=by simp
      rw [eobj] at ho'
      have I9':Inv (cxC X (bN Nx ts ix) scope B) [] τ8 H9 s9:=I9.pins_of fun p hp=>absurd hp (by simp)
      have I10:Inv (cxC X (bN Nx ts ix) scope B) [] τ8 H9 { s9 with heap:=h' }:=I9'.turned (it:=s2.heap.objs.size) (t':=s9.toks) (fun b o hb e=>(hsb.2 b hb).trans e) hn hDC (.inr (Nat.le_refl _)) cellIn (fun p hp=>by
        have hp':p∈(X.pn++pins)++[]:=hp
        rw [List.append_nil] at hp'
        exact Nat.ne_of_lt (pinIn p hp'))
      refine ⟨m',hm',i+1,τ8,ys++[vy],its++[y],n',H9,pinD I10 ho' hn (fun v z=>by cases z),?_,fun b hb=>?_,rv.append (.cons r9 .nil),by rw [List.length_append]; show ys.length+1≤_; omega,w9⟩
      · refine T.keep _ _ _ st7 fun b hb o e=>?_
        have q:=(I9.pin (b,o) (List.mem_append_right _ (List.mem_append_right _ (mem_pinsAt hb e)))).1
        exact (hsb.2 b (Nat.ne_of_lt (hfs b hb))).trans q
      · obtain ⟨o,e,d⟩:=T.obj _ _ st7 b hb
        exact (I9.pin (b,o) (List.mem_append_right _ (List.mem_append_right _ (mem_pinsAt hb e)))).2.1
  exact codeAny_compStart_list (loop _ rfl) (T.self X.A 0 _ _ _ (T.keep _ _ _ st2 fun b hb o e=>kp b o e) (loop _ rfl))

theorem pe_lcif {elt target iter cnd:Expr} {scope:Scope} {pos:Pos} {wi:TI} {g:Blk→TG} {tc:Blk→TT} {te:Blk→TE} (Nx:List Str) (ts:List Str) (ix:List Nat)
    (hc:X.calm=true) (hi:PI X target iter wi) (hg:∀ b,PG (cxC X (bN Nx ts ix) scope b) target (g b)) (hcn:∀ b,PT (cxC X (bN Nx ts ix) scope b) cnd (tc b)) (he:∀ b,PE (cxC X (bN Nx ts ix) scope b) elt (te b))
    (hNx:X.N=Nx) (ok:BlkOk Nx X.env.scope scope ix) (hs:∀ x,foldedSetIterable iter X.env x=pure x:=by intro _; rfl) :
    PE X (.ListComp elt [⟨target,iter,[cnd],0⟩] scope pos) (tLcif wi ts.length ix g tc te):=by
  intro pins s σ H Q I h
  obtain ⟨cl,hcl,cl1,cl2⟩:=closure_of (scope:=scope) (env:=X.env) fun y hy hf=>I.ok.has y.1 (ok.frees y hy hf)
  rw [eval_ListComp]
  refine wpAny_comprehension_free (use:=none) rfl hs hcl ok.kind ok.locs (thn (hi pins s σ H _ I h) fun v s1 h1=>thn h1 fun itv s2 h2=>?_)
  refine lcif_block (R:=fun acc C=>compPost (model X.prog X.w) X.A X.xe none (EP X pins σ Q) acc C) hc hg hcn he hNx ok cl1 cl2 h2 ?_
  rintro D C H' s' v I' rfl q ⟨m,hm⟩ hn hL h0 hcl' hp
  exact ⟨m,hm,fun h' hsb=>⟨.ref D,H',I'.turned (it:=C) (t':=s'.toks) (fun b o hb e=>(hsb.2 b hb).trans e) hn hL (.inr h0) hcl' hp,rfl,q⟩⟩

theorem ps_setLcifif {elt target iter cnd:Expr} {scope:Scope} {pos pos' spos:Pos} {wi:TI} {g:Blk→TG} {tc:Blk→TT} {te:Blk→TE} {i:Nat} {x:Str} (Nx:List Str) (ts:List Str) (ix:List Nat)
    (hc:X.calm=true) (hN:X.N.Nodup) (hix:X.N[i]?=some x) (hx:X.env.scope.names.lookup x=some .local) (hi:PI X target iter wi) (hg:∀ b,PG (cxC X (bN Nx ts ix) scope b) target (g b)) (hcn:∀ b,PT (cxC X (bN Nx ts ix) scope b) cnd (tc b)) (he:∀ b,PE (cxC X (bN Nx ts ix) scope b) elt (te b))
    (hNx:X.N=Nx) (ok:BlkOk Nx X.env.scope scope ix) (hsw:swapsWith (.ListComp elt [⟨target,iter,[cnd],0⟩] scope pos) (some (.Name x pos')) spos.line X.env=pure true) (hs:∀ x,foldedSetIterable iter X.env x=pure x:=by intro _; rfl) :
    PS X (.Assign [.Name x pos'] (.ListComp elt [⟨target,iter,[cnd],0⟩] scope pos) spos) (tAsg (tLcif wi ts.length ix g tc te) (gName i)):=by
  intro pins s σ H D0 I h
  obtain ⟨cl,hcl,cl1,cl2⟩:=closure_of (scope:=scope) (env:=X.env) fun y hy hf=>I.ok.has y.1 (ok.frees y hy hf)
  rw [exec_Assign_Name_used _ _ _ _ hsw]
  refine wpAny_bind (wpAny_standAt (wpAny_bind ?_))
  show wpAny _ X.A (do let _ ← comprehension (.ListComp elt [⟨target,iter,[cnd],0⟩] scope pos) scope X.env _ (newList []) false (eval iter X.env) (some (assign (.Name x pos') X.env))) _ _ s
  refine wpAny_bind (thn (wpAny_comprehension_free (use:=some (assign (.Name x pos') X.env)) (Q:=fun _ s'=>SP X pins D0 .next s') rfl hs hcl ok.kind ok.locs (thn (hi pins s σ H _ I h) fun v s1 h1=>thn h1 fun itv s2 h2=>?_)) fun _ s' hq=>wpAny_pure (wpAny_pure hq))
  refine lcif_block (R:=fun acc C=>compPost (model X.prog X.w) X.A X.xe (some (assign (.Name x pos') X.env)) (fun _ s'=>SP X pins D0 .next s') acc C) (Q:=fun x H1=>gName i x σ H1 D0.nx) hc hg hcn he hNx ok cl1 cl2 h2 ?_
  rintro D C H' s' v I' rfl q ⟨m,hm⟩ hn hL h0 hcl' hp
  show wpAny _ X.A (assign (.Name x pos') X.env (.ref D)) _ _ _
  refine wpAny_assign_Name (store_ok2 I' hN hix (.inl hx) (show RelV (.ref D) (.ref D) from rfl) (fun s'' I'' hch=>?_) (.inr hx))
  obtain ⟨a,hsb,ha⟩:=hch
  have haC:C≠a:=by
    rcases ha with z | z
    · rw [z]; exact hL
    · exact fun e=>hcl' _ _ z e.symm
  exact ⟨m,hm.sameBut hsb haC,fun h'' hs''=>⟨_,H',I''.turned (it:=C) (t':=s''.toks) (fun b o hb e=>(hs''.2 b hb).trans e) hn hL (.inr h0) hcl' hp,q⟩⟩
end
section
variable {PK:Pk} {X:Cx} {e:Expr} {st:Stmt} {i:List Sl→Tr PyData} {is:List Sl→Tr (List PyData)} {p:List Sl→Tr Bool}
noncomputable def mapC (y:Option PyData) (ys:List PyData):Tr (List PyData):=.ret (match y with
  | some y=>y::ys
  | none=>ys)
noncomputable def mapO (h:PyData→Tr (Option PyData)):List PyData→Tr (List PyData)
  | []=>.ret []
  | x::xs=>(h x).bind fun y=>(mapO h xs).bind (mapC y)
noncomputable def ifE (p:List Sl→Tr Bool) (i:List Sl→Tr PyData) (τ:List Sl):Tr (Option PyData):=(p τ).bind fun ok=>if ok=true then (i τ).bind fun y=>.ret (some y) else .ret none
noncomputable def aLcif (is:List Sl→Tr (List PyData)) (n:Nat) (ix:List Nat) (g:PyData→List Sl→Option (List Sl)) (p:List Sl→Tr Bool) (el:List Sl→Tr PyData):List Sl→Tr (List PyData):=fun ρ =>
  (is ρ).bind fun xs=>if small xs.length=true then mapO (fun x=>(Tr.of (g x (blk n ix ρ))).bind (ifE p el)) xs else .fail
theorem lcif_read {n:Nat} {ix:List Nat} {g:PyData→List Sl→Option (List Sl)} (hn:PresN n g):∀ σ H Q,TAo PK (aLcif is n ix g p i) σ H Q→tLcif (TAi PK is) n ix (fun _=>TAg PK g) (fun _=>TAt PK p) (fun _=>TAe PK i) σ H Q:=by
  rintro σ H Q ⟨pa,G₀,H₀,m,ρ,G,R,z⟩
  refine ⟨pa,G₀,H₀,m,ρ,G,R,Tr.ok_mono (Tr.ok_bind.mp z) fun m1 xs k J G1 H1 s1 w1 jo=>fun B=>?_⟩
  obtain ⟨hs,k⟩:=ok_if k
  have hs:xs.length≤sizeLine:=of_decide_eq_true hs
  let el:PyData→Tr (Option PyData):=fun x=>(Tr.of (g x (blk n ix ρ))).bind (ifE p i)
  let W:Nat→Nat→St→List V→Hp→Prop:=fun k mm τ ys H2=>mm=xs.length - k∧k≤xs.length∧ys.length≤k∧∃ m G2 ds,Sub G1 G2∧Stp pa G H G2 H2∧Rl PK pa G₀ H₀ m τ (blk n ix ρ) G2 H2 ∧
    DnAll G2 ys ds∧(mapO el (xs.drop k)).ok m fun m' zs=>Ko1 PK pa m' G H (ds++zs) Q
  refine ⟨W,⟨xs.length,rfl,Nat.zero_le _,Nat.le_refl _,m1,G1,[],.refl,s1,(R.step s1 w1).blk n ix,.nil,k⟩,?_⟩
  rintro k mm τ ys H2 ⟨rfl,hk,hy,m2,G2,ds,sb,st2,R2,dn,k2⟩
  obtain ⟨j1,j2⟩:=jo m2 G2 H2 sb R2.wd
  by_cases hlt:k < xs.length
  · have hx:xs[k]?=some xs[k]:=by simp [hlt]
    obtain ⟨jg,jy⟩:=j1 k _ hx
    refine .inr ⟨jg,by omega,fun x H3 y=>?_⟩
    obtain ⟨G3,s3,w3,d3⟩:=jy x H3 y
    rw [List.drop_eq_getElem_cons hlt] at k2
    unfold mapO at k2
    rw [Tr.ok_bind,Tr.ok_bind] at k2
    obtain ⟨ρ3,hg3,k3⟩:=Tr.ok_of k2
    refine ⟨pa,G₀,H₀,m2,_,G3,_,ρ3,R2.step s3 w3,d3,hg3,fun τ4 R4=>?_⟩
    obtain ⟨pl,pk⟩:=hn _ _ _ hg3
    have hback:∀ (q:Nat) (sl:Sl),(blk n ix ρ)[q]?=some sl→sl=.un∨ρ3[q]?=some sl:=fun q sl hq=>by
      by_cases hqn:q < n
      · left
        unfold blk at hq
        rw [List.getElem?_append_left (by simpa using hqn),List.getElem?_replicate,if_pos hqn] at hq
        cases hq
        rfl
      · right
        rw [pk q (Nat.le_of_not_lt hqn)]
        exact hq
    unfold ifE at k3
    rw [Tr.ok_bind] at k3
    refine ⟨pa,G₀,H₀,m2,ρ3,G3,R4,Tr.ok_mono k3 fun m4 ok k4 G4 H4 s4 w4=>?_⟩
    have R4':=R4.step s4 w4
    have s34:=s3.trans s4 w3.some
    cases ok with
    | false =>
      have k4':((mapO el (xs.drop (k+1))).bind (mapC none)).ok m4 fun m' zs=>Ko1 PK pa m' G H (ds++zs) Q:=k4
      refine ⟨xs.length - (k+1),by omega,rfl,hlt,by omega,m4,G4,ds,sb.trans s34.gs,st2.trans s34 R2.wd.some,R4'.weak pl hback,DnAll.mono s34.gs dn,?_⟩
      exact Tr.ok_mono (Tr.ok_bind.mp k4') fun m6 zs k6=>k6
    | true =>
      have k4':((i ρ3).bind fun y=>.ret (some y)).ok m4 fun m' y=>((mapO el (xs.drop (k+1))).bind (mapC y)).ok m' fun m' zs=>Ko1 PK pa m' G H (ds++zs) Q:=k4
      rw [Tr.ok_bind] at k4'
      refine ⟨pa,G₀,H₀,m4,ρ3,G4,R4',Tr.ok_mono k4' fun m5 yd k5=>?_⟩
      intro v G5 H5 s5 w5 d5
      have s35:=s34.trans s5 w4.some
      refine ⟨xs.length - (k+1),by omega,rfl,hlt,by rw [List.length_append]; show ys.length+1≤_; omega,m5,G5,ds++[yd],sb.trans s35.gs,st2.trans s35 R2.wd.some,(R4'.step s5 w5).weak pl hback,(DnAll.mono s35.gs dn).snoc d5,?_⟩
      have k5':((mapO el (xs.drop (k+1))).bind (mapC (some yd))).ok m5 fun m' zs=>Ko1 PK pa m' G H (ds++zs) Q:=k5
      refine Tr.ok_mono (Tr.ok_bind.mp k5') fun m6 zs k6=>?_
      rw [List.append_assoc]
      exact k6
  · have e:k=xs.length:=by omega
    subst e
    refine .inl ⟨j2,fun p v H' hp ev eH=>?_⟩
    subst ev eH
    rw [List.drop_length] at k2
    have k2':Ko1 PK pa m2 G H (ds++[]) Q:=k2
    rw [List.append_nil] at k2'
    exact (Ko1.later k2' st2 R2.wd.some).new R2.wd dn hp
theorem ao_lcif {n:Nat} {ix:List Nat} {g:PyData→List Sl→Option (List Sl)} (h:PE X e (tLcif (TAi PK is) n ix (fun _=>TAg PK g) (fun _=>TAt PK p) (fun _=>TAe PK i))) (hn:PresN n g):PE X e (TAo PK (aLcif is n ix g p i)):=h.imp (lcif_read hn)
end
theorem BlkOk.leaf {Nx:List Str} {sc scope:Scope} (h1:scope.kind=.function) (h2:∀ y∈scope.names,y.2≠.cell∧y.2≠.free) (h3:∀ y∈scope.names,y.2=.local→scope.names.lookup y.1=some .local):BlkOk Nx sc scope [] :=
  ⟨h1,fun y hy=>(h2 y hy).1,h3,fun y hy z=>absurd z (h2 y hy).2,fun j hj=>by cases hj⟩
end L2
set_option Elab.async false
set_option linter.all false
set_option maxRecDepth 100000
namespace L2
open PySem PySem.Spec PyProof.Rows
section
variable {X:Cx}
theorem mul_tup0 (x:Int) (t:Tok) (l:Addr) (items:Array Value) (n:Nat) (dd:Option Addr) (sl:Array (Option Value)) (h1:x≤0) (h2:-1000≤x) (h3:items.isEmpty=false) :
    Meets (Builtin.«tuple.__mul__» ⟨[.ref l,.int x t],[]⟩) (fun _ R s=>s.heap.get? l=some { cls:=.type "tuple",dict:=dd,data:=.seq items n,slots:=sl } ∧
      R (.ok (.ret (.ref s.heap.objs.size))) { s with heap:=s.heap.push { cls:=.type "tuple",data:=.seq #[] } }):=by
  refine .of_wp fun prog w A R s h=>?_
  obtain ⟨hp,g,d,tk,os⟩:=s
  obtain ⟨hl,h⟩:=h
  wp_walk
  refine wpAny_ite_split (fun z=>absurd z (by simp; omega)) (fun _=>?_)
  refine wpAny_bind ?_
  unfold Builtin.Tuple.tupleItemsOf
  refine wpAny_bind (wpAny_seqItems hl rfl (wpAny_pure ?_))
  refine wpAny_ite_split (fun z=>absurd z (by rw [h3]; simp; omega)) (fun _=>?_)
  refine wpAny_ite_split (fun _=>?_) (fun z=>absurd (by simp; exact .inl h1) z)
  unfold Builtin.Tuple.tupleExact
  exact wpAny_bind (wpAny_newObj_type (wpAny_pure ⟨_,rfl,h⟩) (by size_fits))
theorem mul_tup1 (t:Tok) (l:Addr) (items:Array Value) (n:Nat) (dd:Option Addr) (sl:Array (Option Value)) :
    Meets (Builtin.«tuple.__mul__» ⟨[.ref l,.int 1 t],[]⟩) (fun _ R s=>s.heap.get? l=some { cls:=.type "tuple",dict:=dd,data:=.seq items n,slots:=sl }∧R (.ok (.ret (.ref l))) s):=by
  refine .of_wp fun prog w A R s h=>?_
  obtain ⟨hp,g,d,tk,os⟩:=s
  obtain ⟨hl,h⟩:=h
  wp_walk
  exact ⟨_,rfl,h⟩
noncomputable def rRep0 (K:PySem.W.Frag):R2:=fun x y H Q=>∃ a k xs,x=.ref a∧y=.int k∧SqT K H a xs∧k≤0∧-1000≤k∧xs≠[]∧∀ p,H p=none→Q (.ref p) (upd H p (.tup []))
noncomputable def rRep1 (K:PySem.W.Frag):R2:=fun x y H Q=>∃ a xs,x=.ref a∧y=.int 1∧SqT K H a xs∧Q (.ref a) H
theorem op_rep0:OpR X (binaryOp .Mult) (rRep0 X.K):=by
  intro pins s σ H x y v u Q I rx ry h
  obtain ⟨a,k,xs,rfl,rfl,hq,h1,h2,hne,q⟩:=h
  cases rx
  obtain ⟨t,rfl⟩:=ry
  obtain ⟨its,rv,p,hz⟩:=I.tuple hq
  obtain ⟨o,ho,hc,n,hd⟩:=p
  obtain ⟨oc,od,odd,osl⟩:=o
  have hc':oc=.type "tuple":=hc
  have hd':odd=.seq its.toArray n:=hd
  subst hc' hd'
  have hemp:its.toArray.isEmpty=false:=by
    cases its with
    | nil=>cases rv; exact absurd rfl hne
    | cons i r=>rfl
  refine wpAny_binaryOp_repeat_ref (T:="tuple") (U:="int") (by decide) ⟨_,ho,rfl⟩ (fun s'=>typeIs_int s' k t) noFill_tup PySem.F.fills_int_mul PySem.F.slot_int_rmul repeat_tup PySem.F.slot_int_index.lookup ?_
  refine call_meets PySem.F.slot_int_rmul (typeIs_int s k t) PySem.F.entry_int_rmul (PySem.F.args_int_rmul_2 _ _) (rmul_tup k t a its.toArray n od osl) ⟨ho,rfl,⟨_,ho,rfl⟩,?_⟩
  refine call_meets PySem.F.slot_tuple_mul ⟨_,ho,rfl⟩ PySem.F.entry_tuple_mul (PySem.F.args_tuple_mul_2 _ _) (mul_tup0 k t a its.toArray n od osl h1 h2 hemp) ⟨ho,?_⟩
  exact ⟨.ref s.heap.objs.size,_,I.laid (t':=s.toks) (fun b o e=>Heap.get?_push_of_some _ e) (Nat.le_refl _) (show ObjOk X.prog X.w _ _ _ (.tup []) from ⟨Nat.zero_le _,[],.nil,IsTup.new _ _⟩),rfl,q _ (I.hok.fresh (Nat.le_refl _))⟩
theorem op_rep1:OpR X (binaryOp .Mult) (rRep1 X.K):=by
  intro pins s σ H x y v u Q I rx ry h
  obtain ⟨a,xs,rfl,rfl,hq,q⟩:=h
  cases rx
  obtain ⟨t,rfl⟩:=ry
  obtain ⟨its,rv,p,hz⟩:=I.tuple hq
  obtain ⟨o,ho,hc,n,hd⟩:=p
  obtain ⟨oc,od,odd,osl⟩:=o
  have hc':oc=.type "tuple":=hc
  have hd':odd=.seq its.toArray n:=hd
  subst hc' hd'
  refine wpAny_binaryOp_repeat_ref (T:="tuple") (U:="int") (by decide) ⟨_,ho,rfl⟩ (fun s'=>typeIs_int s' 1 t) noFill_tup PySem.F.fills_int_mul PySem.F.slot_int_rmul repeat_tup PySem.F.slot_int_index.lookup ?_
  refine call_meets PySem.F.slot_int_rmul (typeIs_int s 1 t) PySem.F.entry_int_rmul (PySem.F.args_int_rmul_2 _ _) (rmul_tup 1 t a its.toArray n od osl) ⟨ho,rfl,⟨_,ho,rfl⟩,?_⟩
  refine call_meets PySem.F.slot_tuple_mul ⟨_,ho,rfl⟩ PySem.F.entry_tuple_mul (PySem.F.args_tuple_mul_2 _ _) (mul_tup1 t a its.toArray n od osl) ⟨ho,?_⟩
  exact ⟨.ref a,H,I,rfl,q⟩
noncomputable def rRepE (K:PySem.W.Frag):R2:=fun x y H Q=>rRepT K x y H Q∨rRep0 K x y H Q∨rRep1 K x y H Q
theorem op_repE:OpR X (binaryOp .Mult) (rRepE X.K):=op_repT.or (op_rep0.or op_rep1)
noncomputable def repD:PyData→PyData→Option PyData
  | .tuple xs,.int n=>if (decide (-1000≤n) && decide (n≤1000) && !xs.isEmpty && decide (xs.length≤1000))=true then some (.tuple (List.replicate n.toNat xs).flatten) else none
  | _,_=>none
theorem vo_rep {K:PySem.W.Frag}:VOp2 (rRepE K) repD:=fun PK pa m G H x y dx dy dz Q w hx hy hz k=>by
  unfold repD at hz
  split at hz
  · rename_i xs n
    split at hz
    · rename_i hc
      simp only [Bool.and_eq_true,decide_eq_true_eq,Bool.not_eq_true'] at hc
      cases hz; cases hy
      cases hx with
      | tup a1 a2 =>
        have hne:∀ vs:List V,DnAll G vs xs→vs≠[]:=fun vs a2 e=>by
          have:=hc.1.2
          rw [← a2.isEmpty,e] at this
          cases this
        by_cases h1:1 < n
        · exact .inl ⟨_,_,_,rfl,rfl,SqT.of (w.sub _ _ a1),h1,hc.1.1.2,hne _ a2,by rw [a2.length]; exact hc.2,fun p hp=>k.tup w (a2.rep _) hp⟩
        · by_cases h0:n≤0
          · refine .inr (.inl ⟨_,_,_,rfl,rfl,SqT.of (w.sub _ _ a1),h0,hc.1.1.1,hne _ a2,fun p hp=>?_⟩)
            have e:(List.replicate n.toNat xs).flatten=[]:=by rw [show n.toNat=0 by omega]; rfl
            rw [e] at k
            exact k.tup w .nil hp
          · have e1:n=1:=by omega
            subst e1
            refine .inr (.inr ⟨_,_,rfl,rfl,SqT.of (w.sub _ _ a1),?_⟩)
            have e:(List.replicate (1:Int).toNat xs).flatten=xs:=by simp
            rw [e] at k
            exact k.here w (.tup a1 a2)
    · cases hz
  · cases hz
theorem draw_list {prog:Program} {w:World} {A:Around} {E:Value→Shared→Prop} {it t:Addr} {items:Array Value} (hne:t≠it):∀ (n i:Nat) (s:Shared) (Q:List Value→Shared→Prop),s.heap.IsListIter it t i→s.heap.IsList t items→i+n≤items.size →
    (∀ h',h'.IsListIter it t (i+n)→Heap.SameBut it s.heap h'→Q ((items.toList.drop i).take n) { s with heap:=h' })→wpAny (model prog w) A (draw (.ref it) n) Q E s
  | 0,i,s,Q,hit,_,_,hQ=>by
    show wpAny _ _ (pure []) Q E s
    exact wpAny_pure (by simpa using hQ s.heap hit (Heap.SameBut.refl ..))
  | n+1,i,s,Q,hit,ht,hle,hQ=>by
    have hlt:i < items.size:=by omega
    show wpAny _ _ (pyNext (.ref it) >>= _) Q E s
    refine wpAny_bind (wpAny_pyNext_list_item hit ht (x:=items[i]) (by simp [hlt]) fun h₁ hit₁ hs₁=>?_)
    refine wpAny_bind (wpAny_holding (draw_list hne n (i+1) _ _ hit₁ (ht.extBut hs₁.extBut hne) (by omega) fun h₂ hit₂ hs₂=>wpAny_pure ?_))
    have hd:items.toList.drop i=items[i]::items.toList.drop (i+1):=by simp [List.drop_eq_getElem_cons,hlt]
    have:=hQ h₂ (by rw [show i+(n+1)=i+1+n by omega]; exact hit₂) (hs₁.trans hs₂)
    rw [hd,List.take_succ_cons] at this
    exact this
theorem unpackItems_list {prog:Program} {w:World} {A:Around} {E:Value→Shared→Prop} {s:Shared} {t:Addr} {items:Array Value} {Q:List Value→Shared→Prop} (hh:A.handled=none) (ht:s.heap.IsList t items)
    (hQ:∀ h',Heap.ExtBut s.heap.objs.size s.heap h'→Q items.toList { s with heap:=h' }):wpAny (model prog w) A (unpackItems (.ref t) items.size none) Q E s:=by
  have hlt:t≠s.heap.objs.size:=by obtain ⟨o,ho,_⟩:=ht; exact Nat.ne_of_lt (Heap.lt_size ho)
  have push:∀ ob,(s.heap.push ob).IsList t items:=fun ob=>ht.at fun o e=>Heap.get?_push_of_some _ e
  unfold unpackItems
  refine wpAny_bind ?_
  · unfold notIterableAtAll
    refine wpAny_bind (wpAny_specialOf ht.typeIs PySem.F.slot_list_iter.lookup ?_)
    refine wpAny_pure ?_
    simp only [Bool.false_eq_true,if_false]
    refine wpAny_bind (wpAny_holding (wpAny_pyIter_list ht ?_))
    refine wpAny_bind (wpAny_holding (draw_list hlt items.size 0 _ _ ⟨_,Heap.get?_push_size _ rfl,rfl,rfl⟩ (push _) (by omega) fun h₁ hit₁ hs₁=>?_))
    have hall:List.take items.size (List.drop 0 items.toList)=items.toList:=by
      rw [List.drop_zero]; exact List.take_of_length_le (by simp)
    rw [hall]
    rw [if_neg (by simp)]
    have ht₁:h₁.IsList t items:=(push _).extBut hs₁.extBut hlt
    refine wpAny_bind (wpAny_holding (wpAny_pyNext_list_end hh hit₁ ht₁ (by simp) fun h₂ he₂=>?_))
    simp only [Option.isSome_none,Bool.false_eq_true,if_false]
    refine wpAny_pure (hQ h₂ fun b o hb e=>he₂ b o hb (hs₁.extBut b o hb (Heap.get?_push_of_some _ e)))
theorem assign_Tuple_list {prog:Program} {w:World} {A:Around} {E:Value→Shared→Prop} {s:Shared} {env:Env} {elts:List Expr} {x1} {pos:Pos} {t:Addr} {items:Array Value} {Q:Unit→Shared→Prop} (hh:A.handled=none) (ht:s.heap.IsList t items)
    (hn:(assignEach elts env).length=items.size) (hstar:(assignEach elts env).findIdx? (·.1)=none)
    (h:∀ h',Heap.ExtBut s.heap.objs.size s.heap h'→wpAny (model prog w) A (assignInOrder ((assignEach elts env).map (·.2)) items.toList) Q E { s with heap:=h' }) :
    wpAny (model prog w) A (assign (.Tuple elts x1 pos) env (.ref t)) Q E s:=by
  rw [arm_assign_Tuple]
  refine wpAny_bind (wpAny_standAt ?_)
  unfold unpack
  rw [hn,hstar]
  exact wpAny_bind (wpAny_holding (unpackItems_list hh ht h))
noncomputable def gLst (n:Nat) (t:TGs):TG:=fun v σ H Q=>∃ a xs,v=.ref a∧H a=some (.lst xs)∧xs.length=n∧t xs σ H Q
theorem pg_lst {es:List Expr} {k:Nat} {t:TGs} {n:Nat} {pos:Pos} (hc:X.calm=true) (h:PGs X es t)
    (hn:(assignEach es X.env).length=n:=by rfl) (hst:(assignEach es X.env).findIdx? (·.1)=none:=by rfl):PG X (.Tuple es k pos) (gLst n t):=by
  intro pins s σ H v u Q I r hw
  obtain ⟨a,xs,e1,hq,hl,hw⟩:=hw
  subst e1
  cases r
  obtain ⟨its,rv,ht⟩:=sqAt_of I.hok (b:=true) hq
  have ht':s.heap.IsList a its.toArray:=ht
  refine assign_Tuple_list (I.ok.hd hc) ht' (by simp [hn,← hl,rv.length]) hst fun h' hx=>?_
  have I1:Inv X pins σ H { s with heap:=h' }:=I.kept (t':=s.toks) fun b o e=>hx b o (Nat.ne_of_lt (Heap.lt_size e)) e
  exact h pins _ σ H xs _ Q I1 (by simpa using rv) hw
noncomputable def gLstD (gs:List PyData→List Sl→Option (List Sl)) (x:PyData) (ρ:List Sl):Option (List Sl):=match x with
  | .list xs=>gs xs ρ
  | _=>none
theorem ag_lst {PK:Pk} {es:List Expr} {pos:Pos} {k:Nat} {gs:List PyData→List Sl→Option (List Sl)} {n:Nat} (hc:X.calm=true) (h:PGs X es (TAgs PK gs)) (hl:gsLen n gs)
    (hn:(assignEach es X.env).length=n:=by rfl) (hst:(assignEach es X.env).findIdx? (·.1)=none:=by rfl):PG X (.Tuple es k pos) (TAg PK (gLstD gs)):=(pg_lst hc h hn hst).imp fun v σ H Q hz0=>by
  obtain ⟨pa,G₀,H₀,m,ρ,G,x,ρ',R,d,e,q⟩:=hz0
  cases d with
  | lst h1 h2=>exact ⟨_,_,rfl,R.wd.sub _ _ h1,by rw [h2.length]; exact hl _ _ _ e,pa,G₀,H₀,m,ρ,G,_,ρ',R,h2,e,q⟩
  | _=>cases e
theorem as_setLcifD {PK:Pk} {st:Stmt} {is:List Sl→Tr (List PyData)} {p:List Sl→Tr Bool} {i:List Sl→Tr PyData} {n k:Nat} {ix:List Nat} {g:PyData→List Sl→Option (List Sl)} (h:PS X st (tAsg (tLcif (TAi PK is) n ix (fun _=>TAg PK g) (fun _=>TAt PK p) (fun _=>TAe PK i)) (gName k))) (hn:PresN n g):PS X st (TAs PK (aSet k (aLst (aLcif is n ix g p i)))) :=
  as_set (h.imp (tAsg_mono fun σ H Q z=>lcif_read hn σ H Q (o_read σ H Q z)))
section
variable {ρ:List Sl} {is:List Sl→Tr (List PyData)} {n:Nat} {i:List Sl→Tr PyData} {p:List Sl→Tr Bool} {xs:List PyData} {x:PyData}
theorem ev_rep {m:Int} (h:(decide (-1000≤m) && decide (m≤1000) && !xs.isEmpty && decide (xs.length≤1000))=true):bin2 repD (.tuple xs) (.int m)=.ret (.tuple (List.replicate m.toNat xs).flatten):=by
  simp only [bin2,repD,h,if_true]
  rfl
noncomputable def lci2 (g:PyData→List Sl→Option (List Sl)) (p:List Sl→Tr Bool) (el:List Sl→Tr PyData) (τ:List Sl) (x:PyData):Tr (Option PyData):=(Tr.of (g x τ)).bind (ifE p el)
noncomputable def lci1 (n:Nat) (ix:List Nat) (g:PyData→List Sl→Option (List Sl)) (p:List Sl→Tr Bool) (el:List Sl→Tr PyData) (ρ:List Sl) (xs:List PyData):Tr (List PyData):=if small xs.length=true then mapO (lci2 g p el (blk n ix ρ)) xs else .fail
theorem ev_lcif {ix:List Nat} {g:PyData→List Sl→Option (List Sl)}:aLcif is n ix g p i ρ=(is ρ).bind (lci1 n ix g p i ρ):=rfl
theorem ev_lci1 {ix:List Nat} {g:PyData→List Sl→Option (List Sl)} (h:small xs.length=true):lci1 n ix g p i ρ xs=mapO (lci2 g p i (blk n ix ρ)) xs:=by unfold lci1; rw [if_pos h]
theorem ev_lci2 {τ:List Sl} {g:PyData→List Sl→Option (List Sl)}:lci2 g p i τ x=(Tr.of (g x τ)).bind (ifE p i):=rfl
noncomputable def if3 (y:PyData):Tr (Option PyData):=.ret (some y)
noncomputable def if2 (i:List Sl→Tr PyData) (τ:List Sl) (b:Bool):Tr (Option PyData):=if b=true then (i τ).bind if3 else .ret none
theorem ev_ifE {τ:List Sl}:ifE p i τ=(p τ).bind (if2 i τ):=rfl
theorem ev_if2t {τ:List Sl}:if2 i τ true=(i τ).bind if3:=rfl
theorem ev_if2f {τ:List Sl}:if2 i τ false=.ret none:=rfl
theorem ev_if3:if3 x=.ret (some x):=rfl
end
end
end L2
set_option Elab.async false
set_option linter.all false
set_option maxRecDepth 100000
namespace L2
open PySem PySem.Spec PyProof.Rows
section
variable {PK:Pk} {X:Cx} {e:Expr} {as:List Sl→Tr (List Sl)}
noncomputable def slD:List Sl→Option (List PyData)
  | []=>some []
  | .d x::r=>(slD r).bind fun xs=>some (x::xs)
  | _=>none
theorem ArsOk.slD {pa:Addr} {G:Hp} {vs:List V} {ss:List Sl} {ds:List PyData} (a:ArsOk pa G vs ss) (h:L2.slD ss=some ds):DnAll G vs ds:=by
  induction a generalizing ds with
  | nil=>cases h; exact .nil
  | cons h0 t ih =>
    cases h0 with
    | d h1 =>
      unfold L2.slD at h
      cases e:L2.slD _ with
      | none=>rw [e] at h; cases h
      | some xs =>
        rw [e] at h
        cases h
        exact .cons h1 (ih e)
    | pen=>cases h
noncomputable def fl1 (d:PyData):Tr PyData:=if flatD d=true then .ret d else .fail
noncomputable def aCBF (f:List PyData→Option PyData) (as:List Sl→Tr (List Sl)):List Sl→Tr PyData:=fun ρ=>(as ρ).bind fun ss=>(Tr.of ((slD ss).bind f)).bind fl1
theorem ae_cbF {r:List V→Hp→VK→Prop} {f:List PyData→Option PyData} (L:PkLow PK) (h:PE X e (tCB r (TAb PK as))) (hv:VCl r f):PE X e (TAe PK (aCBF f as)):=h.imp fun σ H Q hz0=>by
  obtain ⟨pa,G₀,H₀,m,ρ,G,R,z⟩:=hz0
  refine TAb.then R z fun m1 ss vs G1 H1 s1 w1 R1 d1 q1=>?_
  obtain ⟨d,hd,q1⟩:=Tr.ok_of (Tr.ok_bind.mp q1)
  obtain ⟨G2,s2,w2,d2⟩:=ArsB.ok (fun _ _ h=>h) w1 d1
  cases e:slD ss with
  | none=>rw [e] at hd; cases hd
  | some ds =>
    rw [e] at hd
    unfold fl1 at q1
    obtain ⟨hf,k⟩:=ok_if (c:=flatD d) q1
    refine hv PK pa m1 G2 H1 vs ds d Q w2 (ArsOk.slD d2 e) hd ?_
    intro v G3 H3 s3 w3 d3
    have s13:Stp pa G1 H1 G1 H3:=⟨fun _ _ h=>h,fun _ _ h=>.inl h,s3.hk⟩
    obtain ⟨o1,e1,p1⟩:=w1.pen
    obtain ⟨o3,e3,p3⟩:=w3.pen
    have w13:Wd PK pa m1 G1 H3:=⟨fun b o h=>s3.hk b o (w1.sub b o h) (fun z=>by subst z; rw [w1.gpa] at h; cases h),w1.gpa,o3,e3,L.low p1 (s2.trans s3.gs) p3⟩
    exact k v G1 H3 (s1.trans s13 w1.some) w13 (Dn.flat_any d3 hf)
end
section
variable {ρ:List Sl} {as:List Sl→Tr (List Sl)} {f:List PyData→Option PyData} {x:PyData} {xs:List PyData} {i j:List Sl→Tr PyData} {k:Nat} {p:List Sl→Tr Bool} {s:List Sl→Tr Ou}
noncomputable def cbf2 (f:List PyData→Option PyData) (ss:List Sl):Tr PyData:=(Tr.of ((slD ss).bind f)).bind fl1
theorem ev_cbF:aCBF f as ρ=(as ρ).bind (cbf2 f):=rfl
theorem ev_cbf1:cbf2 f [.d x]=(cb1 f [x]).bind fl1:=rfl
theorem ev_fl1I (n:Int):fl1 (.int n)=.ret (.int n):=rfl
noncomputable def six3 (k:Nat) (ρ:List Sl) (x:PyData) (xs:List PyData):PyData→Tr Ou
  | .int y=>(Tr.of (ixN xs.length y)).bind fun t=>.ret (.next (ρ.set k (.own (xs.set t x))))
  | _=>.fail
noncomputable def six2 (k:Nat) (n:List Sl→Tr PyData) (ρ:List Sl) (x:PyData) (xs:List PyData):Tr Ou:=(n ρ).bind (six3 k ρ x xs)
noncomputable def six1 (k:Nat) (n:List Sl→Tr PyData) (ρ:List Sl) (x:PyData):Tr Ou:=(ownAt k ρ).bind (six2 k n ρ x)
theorem ev_six:aSetIx k j i ρ=(i ρ).bind (six1 k j ρ):=by
  unfold aSetIx
  refine congrArg (Tr.bind (i ρ)) (funext fun x=>?_)
  rw [six1,← own_eq k ρ]
  cases ρ[k]? with
  | none=>rfl
  | some sl =>
    cases sl with
    | own xs =>
      show ((j ρ).bind _:Tr Ou)=(j ρ).bind (six3 k ρ x xs)
      refine congrArg (Tr.bind (j ρ)) (funext fun y=>?_)
      cases y <;> rfl
    | _=>rfl
theorem ev_six1 {n:List Sl→Tr PyData}:six1 k n ρ x=(ownAt k ρ).bind (six2 k n ρ x):=rfl
theorem ev_six2 {n:List Sl→Tr PyData}:six2 k n ρ x xs=(n ρ).bind (six3 k ρ x xs):=rfl
theorem ev_six3 {y:Int} {t:Nat} (h:ixN xs.length y=some t):six3 k ρ x xs (.int y)=.ret (.next (ρ.set k (.own (xs.set t x)))):=by
  simp only [six3,h]
  rfl
end
end L2
set_option Elab.async false
set_option linter.all false
set_option maxRecDepth 100000
namespace L2
open PySem PySem.Spec PyProof.Rows
open AutoSeq1 (wpAny_loadPart')
noncomputable def Itd (hi:Int) (n:Nat):It:=⟨fun i _=>i < n,fun i H x H'=>H'=H∧x=.int (hi - i),fun i _=>n≤i⟩
theorem turn_ranged {P:Program} {w:World} {K:PySem.W.Frag} {tg:Expr} (it:Addr) (hi:Int) (n:Nat):Turn P w K tg (Itd hi n) [it] it (fun i h=>IsRangeIter h it (hi+(i:Nat) * (-1)) ((n:Int) - (i:Nat)) (-1)) where
  mem:=by simp
  obj:=fun i h st b hb=>by
    have e:b=it:=by simpa using hb
    subst e
    exact ⟨_,st,fun v z=>by
      have z':Data.fields _=Data.cell v:=z
      cases z'⟩
  keep:=fun i h h' st k=>k it (by simp) _ st
  item:=by
    intro X hP hw hK hc i pins s σ H E I hf st hg
    subst hP hw hK
    obtain ⟨f0,f1,f2,f3,f4,f5⟩:=hf it (by simp)
    have W:=Walks.range (prog:=X.prog) (w:=X.w) (I.ok.hd hc) it hi (-1) n
    refine W.item i s _ _ hg st fun v h' tk hv st' kk=>?_
    obtain ⟨t,rfl⟩:=hv
    have I1:Inv X pins σ H { s with heap:=h',toks:=tk }:=I.turned (fun b o hb e=>kk b o (by simpa using hb) e) f0 f1 f3 f4 f5
    refine ⟨_,rfl,go_of (s:={ s with heap:=h',toks:=tk }) (n:="range_iterator") st' rfl rfl (by decide) ⟨.int (hi - i),H,I1,⟨t,?_⟩,⟨rfl,rfl⟩,st',fun b hb=>(hf b hb).1⟩⟩
    have e:hi+(i:Int) * -1=hi - i:=by omega
    rw [e]
  done:=by
    intro X hP hw hK hc i pins s σ H E I hf st hg
    subst hP hw hK
    obtain ⟨f0,f1,f2,f3,f4,f5⟩:=hf it (by simp)
    exact wpAny_pyNext_range_end (I.ok.hd hc) st (by have:n≤i:=hg; omega) fun h' eb=>⟨rfl,I.turned (t':=s.toks) (fun b o hb e=>eb b o hb e) f0 f1 f3 f4 f5⟩
  self:=fun _ _ _ _ _ st h=>wpAny_pyIter_rangeiter st h

theorem meets_rrev (r:Addr) (a b c:Int) (t u v:Tok) (hs:¬ (!(Builtin.Range.rangeFitsLong a && Builtin.Range.rangeFitsLong b && Builtin.Range.rangeFitsLong c && Builtin.Range.rangeFitsLong (-c) && Builtin.Range.rangeFitsLong (a - c) && Builtin.Range.rangeFitsLong (Builtin.Range.rangeSize a b c)))=true) :
    Meets (Builtin.«range.__reversed__» ⟨[.ref r],[]⟩) (fun _ R s=>s.heap.get? r=some { cls:=.type "range",dict:=none,data:=.fields #[.int a t,.int b u,.int c v],slots:=#[] } ∧
      R (.ok (.ret (.ref s.heap.objs.size))) { s with heap:=s.heap.push { cls:=.type "range_iterator",data:=.fields #[rawInt (a+(Builtin.Range.rangeSize a b c - 1) * c),rawInt (Builtin.Range.rangeSize a b c),rawInt (-c)] },toks:=s.toks }) :=
  .of_wp fun prog w A R s h=>by
    obtain ⟨hp,g,d,tk,os⟩:=s
    obtain ⟨hl,h⟩:=h
    have hs':=hs
    rw [Bool.not_eq_true',Bool.not_eq_false] at hs'
    wp_walk
    rw [if_pos hs']
    exact ⟨_,rfl,h⟩
theorem fitsLong_of {n:Int} (h1:-(2 ^ 63)≤n) (h2:n < 2 ^ 63):Builtin.Range.rangeFitsLong n=true:=by
  unfold Builtin.Range.rangeFitsLong
  simp
  omega
section
variable {prog:Program} {w:World} {A:Around} {E:Value→Shared→Prop} {s:Shared}
theorem code_rrev {r:Addr} {a b:Int} {t u v:Tok} {Q₁:Value→Shared→Prop} (hr:IsRange s.heap r a b 1 t u v) (ha:-(2 ^ 62)≤a) (ha':a < 2 ^ 62) (hb:-(2 ^ 62)≤b) (hb':b < 2 ^ 62)
    (h:Q₁ (.ref s.heap.objs.size) { s with heap:=s.heap.push { cls:=.type "range_iterator",data:=.fields #[rawInt (a+(Builtin.Range.rangeSize a b 1 - 1) * 1),rawInt (Builtin.Range.rangeSize a b 1),rawInt (-1)] } }) :
    codeAny (model prog w) A (.call (.builtin "reversed.__new__") ⟨[.type "reversed",.ref r],[]⟩) (wants Q₁ E) s:=by
  have hT:s.TypeIs (.ref r) "range":=⟨_,hr,rfl⟩
  refine codeAny_of_tree ?_
  show wpAny _ A.in1 (do checkBuiltinCall "reversed.__new__" ⟨[.type "reversed",.ref r],[]⟩; again (.builtin "reversed.__new__" ⟨[.type "reversed",.ref r],[]⟩)) _ _ s
  refine wpAny_bind (wpAny_of_eq (F.newCall_reversed_1 _) (wpAny_pure ⟨plainId_quiet F.plain_reversed_new _,codeAny_builtin F.entry_reversed_new ?_⟩))
  rw [Around.under_plainId F.plain_reversed_new _]
  unfold Builtin.«reversed.__new__»
  refine wpAny_bind (wpAny_of_eq (newClass_reversed _) ?_)
  try dsimp only
  refine wpAny_bind (wpAny_of_eq (a:=()) (by first | rfl | kernel_rfl) ?_)
  refine wpAny_bind (wpAny_of_eq (a:=()) (by first | rfl | kernel_rfl) ?_)
  try dsimp only
  refine wpAny_bind (wpAny_specialOf hT F.slot_range_reversed.lookup ?_)
  try dsimp only
  refine wpAny_bind (wpAny_of_eq (F.slot_range_reversed.bind _) ?_)
  try dsimp only
  first
  | rw [if_neg (show ¬ ((Value.builtin "range.__reversed__" == Value.none)=true) from Bool.false_ne_true)]
  | (show wpAny _ _ (if (Value.builtin "range.__reversed__" == Value.none)=true then _ else _) _ _ _; rw [if_neg (show ¬ ((Value.builtin "range.__reversed__" == Value.none)=true) from Bool.false_ne_true)])
  refine wpAny_bind (wpAny_rule ?_)
  have hsz:Builtin.Range.rangeSize a b 1=if a < b then b - a else 0:=rangeSize_one a b
  refine wpAny_bind (m:=runValue (.call (.builtin "range.__reversed__") ⟨[.ref r],[]⟩)) (show wpAny _ _ (call (.builtin "range.__reversed__") [.ref r]) _ _ _ from
    call_meets F.slot_range_reversed hT F.entry_range_reversed (F.args_range_reversed_1 _) (meets_rrev r a b 1 t u v ?_) ⟨hr,?_⟩)
  · rw [Bool.not_eq_true',Bool.not_eq_false,fitsLong_of (by omega) (by omega),fitsLong_of (by omega) (by omega),fitsLong_of (by decide) (by decide),fitsLong_of (by decide) (by decide),fitsLong_of (n:=a - 1) (by omega) (by omega),fitsLong_of (n:=Builtin.Range.rangeSize a b 1) (by rw [hsz]; split <;> omega) (by rw [hsz]; split <;> omega)]
    rfl
  · first
    | exact wpAny_pure h
    | exact wpAny_bind (wpAny_pure (wpAny_pure h))
theorem sub_ri_reversed:isSubtype (.type "range_iterator") (.type "reversed")=pure false:=by rw [isSubtype_type]; kernel_rfl
theorem call_rrev {r:Addr} {a b:Int} {t u v:Tok} {Q:Value→Shared→Prop} (hr:IsRange s.heap r a b 1 t u v) (ha:-(2 ^ 62)≤a) (ha':a < 2 ^ 62) (hb:-(2 ^ 62)≤b) (hb':b < 2 ^ 62)
    (h:Q (.ref s.heap.objs.size) { s with heap:=s.heap.push { cls:=.type "range_iterator",data:=.fields #[rawInt (a+(Builtin.Range.rangeSize a b 1 - 1) * 1),rawInt (Builtin.Range.rangeSize a b 1),rawInt (-1)] } }):wpAny (model prog w) A (call (.type "reversed") [.ref r]) Q E s:=by
  refine callType_other (U:="range_iterator") (Q₁:=fun obj s₁=>obj=.ref s.heap.objs.size∧s₁={ s with heap:=s.heap.push { cls:=.type "range_iterator",data:=.fields #[rawInt (a+(Builtin.Range.rangeSize a b 1 - 1) * 1),rawInt (Builtin.Range.rangeSize a b 1),rawInt (-1)] } }) (by decide +kernel) F.create_reversed ⟨_,_,F.mro_reversed⟩ F.made_reversed sub_ri_reversed (F.typeCall_reversed_1 _) (code_rrev hr ha ha' hb hb' ⟨rfl,rfl⟩) ?_
  rintro obj s₁ ⟨rfl,rfl⟩
  exact ⟨⟨_,Heap.get?_push_size _ rfl,rfl⟩,h⟩
end
theorem owner_rev:Manifest.owners.lookup (String.ofList ['d','e','s','r','e','v','e','r'].reverse)=some Manifest.sig_reversed:=by kernel_rfl
theorem slot_rev_init:Slot "reversed" "__init__" "object.__init__" :=
  .of (owner:="object") (n:="__init__") (by rw [typeLookup_type,builtinLookup_eq_fast]; kernel_rfl) (by decide +kernel) (by decide +kernel) (by decide +kernel)
    (by first | exact .inl (by decide +kernel) | exact .inr (by decide +kernel)) (by rw [isSubtype_type]; kernel_rfl)
theorem slot_rev_next:Slot "reversed" "__next__" "reversed.__next__" :=
  .of (owner:="reversed") (n:="__next__") (by rw [typeLookup_type,builtinLookup_eq_fast]; kernel_rfl) (by decide +kernel) (by decide +kernel) (by decide +kernel)
    (by first | exact .inl (by decide +kernel) | exact .inr (by decide +kernel)) (by rw [isSubtype_type]; kernel_rfl)
theorem entry_rev_next:entryFor table "reversed.__next__"=some Builtin.«reversed.__next__»:=entryFor_of_tree (by kernel_rfl)
theorem args_rev_next_1 (a:Value):argsOk "reversed.__next__" ⟨[a],[]⟩:=by
  unfold argsOk; rw [signature?_of (id:="reversed.__next__") (n:=['_','_','t','x','e','n','_','_']) (o:=['d','e','s','r','e','v','e','r']) (by kernel_rfl) owner_rev]; kernel_rfl
theorem slot_rev_iter:Slot "reversed" "__iter__" "reversed.__iter__" :=
  .of (owner:="reversed") (n:="__iter__") (by rw [typeLookup_type,builtinLookup_eq_fast]; kernel_rfl) (by decide +kernel) (by decide +kernel) (by decide +kernel)
    (by first | exact .inl (by decide +kernel) | exact .inr (by decide +kernel)) (by rw [isSubtype_type]; kernel_rfl)
theorem args_rev_iter_1 (a:Value):argsOk "reversed.__iter__" ⟨[a],[]⟩:=by
  unfold argsOk; rw [signature?_of (id:="reversed.__iter__") (n:=['_','_','r','e','t','i','_','_']) (o:=['d','e','s','r','e','v','e','r']) (by kernel_rfl) owner_rev]; kernel_rfl
theorem entry_rev_iter:entryFor table "reversed.__iter__"=some Builtin.«dict_keyiterator.__iter__» :=
  entryFor_alias (id':="dict_keyiterator.__iter__") (by kernel_rfl) (by first | rfl | decide +kernel | (unfold String.splitOn; simp +decide [String.splitOnAux])) (by decide +kernel) (by kernel_rfl)
theorem called_rev:TypeCalled "reversed" "reversed.__new__" "object.__init__" :=
  ⟨by decide +kernel,by decide +kernel,⟨_,_,F.mro_reversed⟩,F.made_reversed,by decide +kernel,by rw [isSubtype_type]; kernel_rfl,slot_rev_init⟩
theorem notup_reversed:typeLookup (.type "tuple") "__reversed__"=pure none:=by rw [typeLookup_type,builtinLookup_eq_fast]; kernel_rfl
theorem meets_trev (l:Addr) (items:Array Value) (hfit:(items.size:Int) < 2 ^ 63) :
    Meets (Builtin.«reversed.__new__» ⟨[.type "reversed",.ref l],[]⟩) (fun _ R s=>IsTup s.heap l items ∧
      R (.ok (.ret (.ref s.heap.objs.size))) { s with heap:=s.heap.push { cls:=.type "reversed",data:=.fields #[.ref l,rawInt ((items.size:Int) - 1)] },toks:=s.toks+1+1 }) :=
  .of_wp fun prog w A R s h=>by
    obtain ⟨hp,g,d,tk,os⟩:=s
    obtain ⟨hl,h⟩:=h
    have hl':(Shared.mk hp g d tk os).heap.IsTuple l items:=hl
    unfold Builtin.«reversed.__new__»
    refine wpAny_bind (wpAny_of_eq (newClass_reversed _) ?_)
    try dsimp only
    refine wpAny_bind (wpAny_of_eq (a:=()) (by first | rfl | kernel_rfl) ?_)
    refine wpAny_bind (wpAny_of_eq (a:=()) (by first | rfl | kernel_rfl) ?_)
    try dsimp only
    refine wpAny_bind (wpAny_specialOf hl'.typeIs notup_reversed ?_)
    try dsimp only
    refine wpAny_bind ?_
    show wpAny _ _ (isInstance (Value.ref l) (.type "dict") >>= _) _ _ _
    refine wpAny_bind (wpAny_isInstance (T:="tuple") (b:=false) hl'.typeIs (by rw [isSubtype_type]; kernel_rfl) ?_)
    show wpAny _ _ (specialOf (Value.ref l) "__getitem__" >>= _) _ _ _
    refine wpAny_bind (wpAny_specialOf hl'.typeIs F.slot_tuple_getitem.lookup ?_)
    refine wpAny_pure ?_
    show wpAny _ _ (call (Value.builtin "len") [Value.ref l] >>= _) _ _ _
    refine wpAny_bind (len_tuple hl hfit ?_)
    refine wpAny_bind (wpAny_of_eq (a:=some (items.size:Int)) rfl ?_)
    show wpAny _ _ (newObj (.type "reversed") (.fields #[.ref l,rawInt ((items.size:Int) - 1)]) >>= _) _ _ _
    refine wpAny_bind (wpAny_newObj_type ?_)
    exact wpAny_pure ⟨_,rfl,h⟩
noncomputable def IsTRev (h:Heap) (a l:Addr) (i:Int):Prop:=∃ o,h.get? a=some o∧o.cls=.type "reversed"∧o.data=.fields #[.ref l,rawInt i]
theorem IsTRev.at {h h':Heap} {a l:Addr} {i:Int} (x:IsTRev h a l i) (e:∀ o,h.get? a=some o→h'.get? a=some o):IsTRev h' a l i:=let ⟨o,ho,r⟩:=x; ⟨o,e _ ho,r⟩
section
variable {prog:Program} {w:World} {A:Around} {E:Value→Shared→Prop} {s:Shared}
theorem call_trev {l:Addr} {items:Array Value} {Q:Value→Shared→Prop} (hl:IsTup s.heap l items) (hfit:(items.size:Int) < 2 ^ 63)
    (h:Q (.ref s.heap.objs.size) { s with heap:=s.heap.push { cls:=.type "reversed",data:=.fields #[.ref l,rawInt ((items.size:Int) - 1)] },toks:=s.toks+1+1 }) :
    wpAny (model prog w) A (call (.type "reversed") [.ref l]) Q E s :=
  callType_new called_rev (by decide) (F.typeCall_reversed_1 _) (F.newCall_reversed_1 _) (fun obj=>F.args_object_init_2 obj _) F.entry_reversed_new (meets_trev l items hfit) ⟨hl,⟨_,Heap.get?_push_size _ rfl,rfl⟩,h⟩
theorem pyNext_trev_item {it l:Addr} {i:Nat} {items:Array Value} {x:Value} {Q:Option Value→Shared→Prop} (hit:IsTRev s.heap it l (i:Int)) (hl:IsTup s.heap l items) (hne:l≠it) (hx:items[i]?=some x) (hfit:(items.size:Int) < 2 ^ 63)
    (hQ:∀ h',IsTRev h' it l ((i:Int) - 1)→Heap.SameBut it s.heap h'→Q (some x) { s with heap:=h',toks:=s.toks+1 }):wpAny (model prog w) A (pyNext (.ref it)) Q E s:=by
  obtain ⟨o,ho,hc,hd⟩:=id hit
  have hT:s.TypeIs (.ref it) "reversed":=⟨o,ho,hc⟩
  have hl':s.heap.IsTuple l items:=hl
  have hlt:i < items.size:=(Array.getElem?_eq_some_iff.mp hx).1
  unfold pyNext
  refine wpAny_bind (wpAny_attempt (wpAny_callSpecial?_slot (name:=Str.ofString "__next__") hT slot_rev_next
    (wpAny_call_entry slot_rev_next hT entry_rev_next ?_ (args_rev_next_1 _))))
  unfold Builtin.«reversed.__next__»
  refine wpAny_bind (wpAny_of_eq (a:=(Value.ref it,[])) rfl ?_)
  try dsimp only
  refine wpAny_bind (wpAny_field ho hd (x:=.ref l) rfl ?_)
  refine wpAny_bind (wpAny_field ho hd (x:=rawInt (i:Int)) rfl ?_)
  show wpAny _ _ (if (i:Int) < 0 then _ else _) _ _ s
  rw [if_neg (by omega)]
  refine wpAny_bind (wpAny_specialOf hl'.typeIs F.slot_tuple_getitem.lookup ?_)
  show wpAny _ _ (mkInt (i:Int) >>= _) _ _ s
  refine wpAny_bind (wpAny_mkInt ?_)
  refine wpAny_bind (wpAny_attempt (getItem_tuple (j:=i) (x:=x) hl (by omega) (by omega) ?_ hx ?_))
  · unfold seqIndex?
    simp
    omega
  · dsimp only
    refine wpAny_bind (wpAny_field ho hd (x:=rawInt (i:Int)) rfl ?_)
    show wpAny _ _ (setField (.ref it) 1 (rawInt ((i:Int) - 1)) >>= _) _ _ _
    refine wpAny_bind (wpAny_setField ho hd (by simp) ?_)
    refine wpAny_pure ⟨x,rfl,wpAny_pure (hQ _ ?_ (Heap.SameBut.update ..))⟩
    exact ⟨_,Heap.get?_update_self _ ho (Obj.isFreed_of_fields (Obj.data_mapFields hd _)),(Obj.cls_mapFields ..).trans hc,by
      rw [Obj.data_mapFields hd]; simp⟩
theorem pyNext_trev_end {it l:Addr} {Q:Option Value→Shared→Prop} (hh:A.handled=none) (hit:IsTRev s.heap it l (-1))
    (hQ:∀ h',Heap.ExtBut it s.heap h'→Q none { s with heap:=h' }):wpAny (model prog w) A (pyNext (.ref it)) Q E s:=by
  obtain ⟨o,ho,hc,hd⟩:=id hit
  have hT:s.TypeIs (.ref it) "reversed":=⟨o,ho,hc⟩
  unfold pyNext
  refine wpAny_bind (wpAny_attempt (wpAny_callSpecial?_slot (name:=Str.ofString "__next__") hT slot_rev_next
    (wpAny_call_entry slot_rev_next hT entry_rev_next ?_ (args_rev_next_1 _))))
  unfold Builtin.«reversed.__next__»
  refine wpAny_bind (wpAny_of_eq (a:=(Value.ref it,[])) rfl ?_)
  try dsimp only
  refine wpAny_bind (wpAny_field ho hd (x:=.ref l) rfl ?_)
  refine wpAny_bind (wpAny_field ho hd (x:=rawInt (-1)) rfl ?_)
  show wpAny _ _ (if (-1:Int) < 0 then _ else _) _ _ s
  rw [if_pos (by decide)]
  refine wpAny_bind (wpAny_rule ?_)
  refine wpAny_bind ?_
  show wpAny _ _ (setField (.ref it) 1 (rawInt (-1)) >>= _) _ _ _
  refine wpAny_bind (wpAny_setField ho hd (by simp) ?_)
  have ho2:=Heap.get?_update_self (Obj.mapFields fun x_1=>x_1.setIfInBounds 1 (rawInt (-1))) ho (Obj.isFreed_of_fields (Obj.data_mapFields hd _))
  refine wpAny_setField ho2 (Obj.data_mapFields hd _) (by simp) ?_
  have eb:Heap.ExtBut it s.heap ((s.heap.update it (Obj.mapFields fun x_1=>x_1.setIfInBounds 1 (rawInt (-1)))).update it (Obj.mapFields fun x_1=>x_1.setIfInBounds 0 Value.none)):=fun b o' hb e=>(Heap.SameBut.update _ _ _).extBut b o' hb ((Heap.SameBut.update _ _ _).extBut b o' hb e)
  show wpAny _ _ (newExc (.type "StopIteration") [] >>= _ >>= _) _ _ _
  refine wpAny_bind ?_
  refine wpAny_bind ?_
  simp only [newExc,newTuple]
  refine wpAny_bind (wpAny_newObj_type ?_ (by size_fits))
  refine wpAny_bind (m:=firstArgMember _ _) (wpAny_of_eq (a:=Value.none) (by first | rfl | (simp only [firstArgMember]; rfl)) ?_)
  refine wpAny_newObj_type ?_ (by size_fits)
  simp only [raiseNew]
  refine wpAny_bind (wpAny_handled ?_)
  first | rw [show A.in1.handled=none from hh] | rw [hh]
  refine wpAny_bind (wpAny_pure (wpAny_throw ?_))
  refine wpAny_bind (wpAny_isInstance (T:="StopIteration") (b:=true) ⟨_,Heap.get?_push_size _ rfl,rfl⟩ isSubtype_stop ?_)
  exact wpAny_pure (hQ _ ((eb.push _).push _))
theorem pyIter_trev {it l:Addr} {i:Int} {Q:Value→Shared→Prop} (hit:IsTRev s.heap it l i) (h:Q (.ref it) s):wpAny (model prog w) A (pyIter (.ref it)) Q E s:=by
  obtain ⟨o,ho,hc,hd⟩:=id hit
  have hT:s.TypeIs (.ref it) "reversed":=⟨o,ho,hc⟩
  refine wpAny_pyIter_slot hT slot_rev_iter (wpAny_call_entry slot_rev_iter hT entry_rev_iter ?_ (args_rev_iter_1 _))
  show wpAny _ _ (ret (.ref it)) _ _ s
  exact wpAny_pure ⟨_,rfl,"reversed",_,hT,slot_rev_next.lookup,h⟩
end
noncomputable def Itv (b:Bool) (l:Addr) (n:Nat):It :=
  ⟨fun i H=>i < n∧∃ xs,H l=some (hoB b xs)∧xs.length=n,fun i H x H'=>H'=H∧∃ xs,H l=some (hoB b xs)∧xs[n - 1 - i]?=some x,fun i _=>i=n⟩
noncomputable def RvAt (b:Bool) (h:Heap) (it l:Addr) (i:Int):Prop:=match b with
  | true=>h.IsRevIter it l i
  | false=>IsTRev h it l i
theorem RvAt.there {b:Bool} {h:Heap} {it l:Addr} {i:Int} (x:RvAt b h it l i):∃ o n vs,h.get? it=some o∧o.cls=.type n∧o.data=.fields vs∧["enumerate","zip","dict_itemiterator","dict_reverseitemiterator","odict_iterator","itertools.zip_longest","itertools.pairwise"].contains n=false:=by
  cases b with
  | true=>obtain ⟨o,h1,h2,h3⟩:=x; exact ⟨o,_,_,h1,h2,h3,by decide⟩
  | false=>obtain ⟨o,h1,h2,h3⟩:=x; exact ⟨o,_,_,h1,h2,h3,by decide⟩
theorem RvAt.at {b:Bool} {h h':Heap} {it l:Addr} {i:Int} (x:RvAt b h it l i) (e:∀ o,h.get? it=some o→h'.get? it=some o):RvAt b h' it l i:=by
  cases b with
  | true=>exact Heap.IsRevIter.at x e
  | false=>exact IsTRev.at x e
theorem turn_rev {P:Program} {w:World} {K:PySem.W.Frag} {tg:Expr} {b:Bool} {l:Addr} {n:Nat} (it:Addr) (hn:(n:Int) < 2 ^ 63):Turn P w K tg (Itv b l n) [it] it (fun i h=>RvAt b h it l ((n:Int) - 1 - (i:Nat))) where
  mem:=by simp
  obj:=fun i h st c hb=>by
    have e:c=it:=by simpa using hb
    subst e
    obtain ⟨o,_,_,h1,_,h3,_⟩:=st.there
    exact ⟨o,h1,fun v z=>by rw [h3] at z; cases z⟩
  keep:=fun i h h' st k=>st.at fun o e=>k it (by simp) o e
  item:=by
    intro X hP hw hK hc i pins s σ H E I hf st hg
    subst hP hw hK
    obtain ⟨hi,xs,e1,hlen⟩:=hg
    obtain ⟨us,r1,q1⟩:=sqAt_of I.hok e1
    obtain ⟨f0,f1,f2,f3,f4,f5⟩:=hf it (by simp)
    have hxl:n - 1 - i < xs.length:=by omega
    have hx:xs[n - 1 - i]?=some xs[n - 1 - i]:=List.getElem?_eq_getElem hxl
    obtain ⟨u,hu,ru⟩:=r1.get hx
    have ne:l≠it:=ne_of_none e1 f0
    have ei:(n:Int) - 1 - (i:Nat)=((n - 1 - i:Nat):Int):=by omega
    have ei2:((n - 1 - i:Nat):Int) - 1=(n:Int) - 1 - ((i+1:Nat):Int):=by omega
    rw [ei] at st
    have usz:us.toArray.size=n:=by rw [List.size_toArray,← r1.length]; exact hlen
    have fin:∀ (h':Heap) (tk:Nat),RvAt b h' it l ((n:Int) - 1 - ((i+1:Nat):Int))→Heap.SameBut it s.heap h'→∃ u',some u=some u'∧wpAny (model X.prog X.w) X.A (letOwnedTupleGo tg (.ref it) u') (fun _ s2=>∃ x H',Inv X pins σ H' s2∧RelV x u'∧(Itv b l n).yld i H x H'∧RvAt b s2.heap it l ((n:Int) - 1 - ((i+1:Nat):Int))∧∀ b∈[it],H' b=none) E { s with heap:=h',toks:=tk }:=fun h' tk st' sb=>by
      have I1:Inv X pins σ H { s with heap:=h',toks:=tk }:=I.turned (fun b o hb e=>(sb.2 b hb).trans e) f0 f1 f3 f4 f5
      obtain ⟨o,nm,vs,g1,g2,g3,g4⟩:=st'.there
      exact ⟨u,rfl,go_of (s:={ s with heap:=h',toks:=tk }) g1 g2 g3 g4 ⟨_,H,I1,ru,⟨rfl,xs,e1,hx⟩,st',fun b hb=>(hf b hb).1⟩⟩
    cases b with
    | true =>
      refine wpAny_pyNext_rev_item (i:=n - 1 - i) st q1 (x:=u) (by simpa using hu) fun h' st' sb=>?_
      rw [ei2] at st'
      exact fin h' s.toks st' sb
    | false =>
      refine pyNext_trev_item (i:=n - 1 - i) st q1 ne (x:=u) (by simpa using hu) (by rw [usz]; exact hn) fun h' st' sb=>?_
      rw [ei2] at st'
      exact fin h' (s.toks+1) st' sb
  done:=by
    intro X hP hw hK hc i pins s σ H E I hf st hg
    subst hP hw hK
    obtain ⟨f0,f1,f2,f3,f4,f5⟩:=hf it (by simp)
    have hi:i=n:=hg
    subst hi
    have e:(i:Int) - 1 - (i:Nat)=-1:=by omega
    rw [e] at st
    cases b with
    | true=>exact wpAny_pyNext_rev_end (I.ok.hd hc) st fun h' eb=>⟨rfl,I.turned (t':=s.toks) (fun b o hb e=>eb b o hb e) f0 f1 f3 f4 f5⟩
    | false=>exact pyNext_trev_end (I.ok.hd hc) st fun h' eb=>⟨rfl,I.turned (t':=s.toks) (fun b o hb e=>eb b o hb e) f0 f1 f3 f4 f5⟩
  self:=fun _ _ _ _ _ st h=>by
    cases b with
    | true=>exact wpAny_pyIter_revIter st h
    | false=>exact pyIter_trev st h
section
variable {X:Cx} {tg:Expr} {PK:Pk} {a b:Expr} {i j:List Sl→Tr PyData} {p pos:Pos}
noncomputable def iRev (ta:TE):TI:=fun σ H R=>ta σ H fun x H1=>(∃ b l xs,x=.ref l∧H1 l=some (hoB b xs)∧R (Itv b l xs.length) H1) ∨
  (∃ l lo hi,x=.ref l∧H1 l=some (.rng lo hi)∧-(2 ^ 62)≤lo∧lo < 2 ^ 62∧-(2 ^ 62)≤hi∧hi < 2 ^ 62∧R (Itd (lo+(hi - lo).toNat - 1) (hi - lo).toNat) H1)
theorem pi_rev {ta:TE} (hg:Gl X "reversed") (hm:X.mg "reversed"=none) (ha:PE X a ta)
    (hs:starEach [a] X.env=[(false,eval a X.env)]:=by rfl):PI X tg (.Call (.Name "reversed" p) [a] [] pos) (iRev ta):=by
  intro pins s σ H R I h
  have hab:PA X [a] (tCons ta tNil):=pa_cons ha pa_nil (by rw [hs]; rfl)
  have h':tCons ta tNil σ H fun vs H1=>∃ x,vs=[x]∧((∃ b l xs,x=.ref l∧H1 l=some (hoB b xs)∧R (Itv b l xs.length) H1) ∨
      (∃ l lo hi,x=.ref l∧H1 l=some (.rng lo hi)∧-(2 ^ 62)≤lo∧lo < 2 ^ 62∧-(2 ^ 62)≤hi∧hi < 2 ^ 62∧R (Itd (lo+(hi - lo).toNat - 1) (hi - lo).toNat) H1)):=by
    have h0:ta σ H fun x H1=>(∃ b l xs,x=.ref l∧H1 l=some (hoB b xs)∧R (Itv b l xs.length) H1) ∨
      (∃ l lo hi,x=.ref l∧H1 l=some (.rng lo hi)∧-(2 ^ 62)≤lo∧lo < 2 ^ 62∧-(2 ^ 62)≤hi∧hi < 2 ^ 62∧R (Itd (lo+(hi - lo).toNat - 1) (hi - lo).toNat) H1):=h
    refine cast (congrArg (ta σ H) ?_) h0
    funext x H1
    apply propext
    constructor
    · exact fun q=>⟨x,rfl,q⟩
    · rintro ⟨y,e,q⟩
      have e':x=y:=by simpa using e
      subst e'
      exact q
  refine Call_ (ld_blt I hg hm boot_reversed (PyProof.Rows.callWith_type1 (thn (hab pos pins s σ H _ I h') fun us s1 hz0=>?_) (by rw [hs]; rfl) rfl))
  obtain ⟨vs,H1,I1,r1,q1⟩:=hz0
  obtain ⟨x,rfl,q1⟩:=q1
  obtain ⟨u,rfl,ru⟩:=vals1 r1
  have fp:∀ c∈[s1.heap.objs.size],FpOk X pins H1 c:=fun c hb=>by
    have e:c=s1.heap.objs.size:=by simpa using hb
    subst e
    exact I1.fpOk (Nat.le_refl _) (I1.hok.fresh (Nat.le_refl _))
  have hn:=line63
  rcases q1 with ⟨b,l,xs,rfl,e1,q⟩ | ⟨l,lo,hi,rfl,e1,b1,b2,b3,b4,q⟩
  · cases ru
    obtain ⟨us,r2,q2⟩:=sqAt_of I1.hok e1
    have usz:us.toArray.size=xs.length:=by rw [List.size_toArray,← r2.length]
    have hz:xs.length≤sizeLine:=by
      cases b with
      | true=>exact (I1.hok _ _ e1).1
      | false=>exact (I1.hok _ _ e1).1
    cases b with
    | true =>
      refine call_reversed_list q2 (wpAny_pyIter_revIter ⟨_,Heap.get?_push_size _ rfl,rfl,rfl⟩ ?_)
      refine ⟨_,_,_,_,H1,rfl,I1.kept (t':=s1.toks) fun b o e=>Heap.get?_push_of_some _ e,turn_rev (b:=true) (l:=l) (n:=xs.length) s1.heap.objs.size (by omega),?_,fp,q⟩
      refine ⟨_,Heap.get?_push_size _ rfl,rfl,?_⟩
      rw [usz]
      show Data.fields #[_,rawInt ((xs.length:Int) - 1)]=Data.fields #[_,rawInt ((xs.length:Int) - 1 - ((0:Nat):Int))]
      simp
    | false =>
      refine call_trev q2 (by rw [usz]; omega) (pyIter_trev ⟨_,Heap.get?_push_size _ rfl,rfl,rfl⟩ ?_)
      refine ⟨_,_,_,_,H1,rfl,I1.kept (t':=s1.toks+1+1) fun b o e=>Heap.get?_push_of_some _ e,turn_rev (b:=false) (l:=l) (n:=xs.length) s1.heap.objs.size (by omega),?_,fp,q⟩
      refine ⟨_,Heap.get?_push_size _ rfl,rfl,?_⟩
      rw [usz]
      show Data.fields #[_,rawInt ((xs.length:Int) - 1)]=Data.fields #[_,rawInt ((xs.length:Int) - 1 - ((0:Nat):Int))]
      simp
  · cases ru
    obtain ⟨t,u,v,e⟩:=I1.hok _ _ e1
    have hsz:Builtin.Range.rangeSize lo hi 1=((hi - lo).toNat:Int):=by rw [rangeSize_one]; split <;> omega
    refine call_rrev e b1 b2 b3 b4 (wpAny_pyIter_rangeiter (Heap.get?_push_size _ rfl) ?_)
    refine ⟨_,_,_,_,H1,rfl,I1.kept (t':=s1.toks) fun b o e=>Heap.get?_push_of_some _ e,turn_ranged s1.heap.objs.size (lo+(hi - lo).toNat - 1) (hi - lo).toNat,?_,fp,q⟩
    rw [hsz]
    have e1:lo+(((hi - lo).toNat:Int) - 1) * 1=lo+(hi - lo).toNat - 1+((0:Nat):Int) * (-1):=by simp; omega
    have e2:((hi - lo).toNat:Int)=((hi - lo).toNat:Int) - ((0:Nat):Int):=by simp
    rw [e1]
    show IsRangeIter _ _ _ (((hi - lo).toNat:Int) - ((0:Nat):Int)) (-1)
    rw [← e2]
    exact Heap.get?_push_size _ rfl
end
end L2
set_option Elab.async false
set_option linter.all false
set_option maxRecDepth 100000
namespace L2
open PySem PySem.Spec PyProof.Rows
section
variable {X:Cx} {tg:Expr} {PK:Pk} {e:Expr} {i j:List Sl→Tr PyData} {is:List Sl→Tr (List PyData)} {p pos:Pos}
theorem jok_rev {pa:Addr} {G:Hp} {b:Bool} {l:Addr} {us:List V} {xs:List PyData} (h1:G l=some (hoB b us)) (d1:DnAll G us xs):JOk PK pa (Itv b l us.length) G xs.reverse:=fun m G2 H2 sb w=>by
  have e1:H2 l=some (hoB b us):=w.sub _ _ (sb _ _ h1)
  have hlen:us.length=xs.length:=d1.length
  refine ⟨fun n d hd=>?_,by show xs.reverse.length=us.length; rw [List.length_reverse,hlen]⟩
  have hn:n < xs.length:=by
    have:=(List.getElem?_eq_some_iff.mp hd).1
    rwa [List.length_reverse] at this
  have hd':xs[xs.length - 1 - n]?=some d:=by
    rw [List.getElem?_reverse hn] at hd
    exact hd
  refine ⟨⟨by omega,us,e1,rfl⟩,fun y H3 hz0=>?_⟩
  obtain ⟨eH,vs,f1,hy⟩:=hz0
  subst eH
  rw [e1] at f1
  have:=hoB_inj f1
  subst this
  rw [hlen] at hy
  obtain ⟨v,hv,dv⟩:=d1.get _ hd'
  rw [hv] at hy
  cases hy
  exact ⟨G2,.refl,w,dv.mono sb⟩
noncomputable def aRevI (i:List Sl→Tr PyData):List Sl→Tr (List PyData):=fun ρ=>(i ρ).bind fun x=>(Tr.of (itD x)).bind fun xs=>.ret xs.reverse
theorem ai_rev {iter:Expr} (h:PI X tg iter (iRev (TAe PK i))):PI X tg iter (TAi PK (aRevI i)):=h.imp fun σ H R0 hz0=>by
  obtain ⟨pa,G₀,H₀,m,ρ,G,R,z⟩:=hz0
  refine TAe.then R z fun m1 x v G1 H1 s1 w1 R1 d1 q1=>?_
  rw [Tr.ok_bind] at q1
  obtain ⟨xs,hx,q1⟩:=Tr.ok_of q1
  obtain ⟨b1,l1,us,rfl,e1,f1⟩:=hoB_of d1 hx
  exact .inl ⟨b1,l1,us,rfl,w1.sub _ _ e1,q1 _ G1 H1 s1 w1 (jok_rev e1 f1)⟩

theorem jok_rngd {pa:Addr} {G:Hp} {lo:Int} {n:Nat}:JOk PK pa (Itd (lo+n - 1) n) G ((rangeI lo n).map PyData.int).reverse:=fun m G2 H2 sb w=>by
  have hl:((rangeI lo n).map PyData.int).length=n:=by rw [List.length_map,rangeI_length]
  refine ⟨fun k x hx=>?_,by show n≤_; rw [List.length_reverse,hl]; exact Nat.le_refl _⟩
  have hk:k < n:=by
    have:=(List.getElem?_eq_some_iff.mp hx).1
    rwa [List.length_reverse,hl] at this
  refine ⟨hk,fun y H3 hz0=>?_⟩
  obtain ⟨e1,e2⟩:=hz0
  subst e1 e2
  have:x=.int (lo+n - 1 - k):=by
    rw [List.getElem?_reverse (by rw [hl]; exact hk),hl] at hx
    unfold rangeI at hx
    rw [List.map_map,List.getElem?_map,List.getElem?_range (by omega)] at hx
    cases hx
    show PyData.int (lo+((n - 1 - k:Nat):Int))=_
    congr 1
    omega
  subst this
  exact ⟨G2,.refl,w,.int _⟩
noncomputable def aRevR2 (is:List Sl→Tr (List PyData)):List Sl→Tr (List PyData):=fun ρ=>(is ρ).bind fun xs=>(Tr.of (rngD2 xs)).bind fun ys=>.ret ys.reverse
noncomputable def tRg2 (t:TA):TE:=tCB (fun xs H Q=>∃ i j:Int,xs=[.int i,.int j]∧∀ p,H p=none→Q (.ref p) (upd H p (.rng i j))) t
theorem ai_revr2 {iter:Expr} (h:PI X tg iter (iRev (tRg2 (TAd PK is)))):PI X tg iter (TAi PK (aRevR2 is)):=h.imp fun σ H R0 hz0=>by
  obtain ⟨pa,G₀,H₀,m,ρ,G,R,z⟩:=hz0
  refine TAd.then R z fun m1 xs vs G1 H1 s1 w1 R1 d1 q1=>?_
  rw [Tr.ok_bind] at q1
  obtain ⟨ys,hy,q1⟩:=Tr.ok_of q1
  obtain ⟨k,n,e,⟨h1,h2,h3,h4⟩,rfl⟩:=rngD2_inv d1 hy
  refine ⟨k,n,e,fun p hp=>?_⟩
  obtain ⟨w2,s2⟩:=w1.own (o:=.rng k n) hp
  refine .inr ⟨p,k,n,rfl,upd_same,h1,h2,h3,h4,?_⟩
  exact q1 (Itd (k+(n - k).toNat - 1) (n - k).toNat) G1 _ (s1.trans s2 w1.some) w2 jok_rngd
end
section
variable {X:Cx} {PK:Pk} {i n:List Sl→Tr PyData}
noncomputable def aExt (k:Nat) (i:List Sl→Tr PyData):List Sl→Tr Ou:=fun ρ=>match ρ[k]? with
  | some (.own xs)=>(i ρ).bind fun x=>match x with
    | .list ys=>if small (xs.length+ys.length)=true then .ret (.next (ρ.set k (.own (xs++ys)))) else .fail
    | _=>.fail
  | _=>.fail
theorem as_ext {k:Nat} {K:PySem.W.Frag} {st:Stmt} (h:PS X st (tDrop (tBM K "list" rExtend (tVar k) (tCons (TAe PK i) tNil)))):PS X st (TAs PK (aExt k i)):=h.imp fun D σ H hz0=>by
  obtain ⟨pa,G₀,H₀,m,ρ,G,R,z⟩:=hz0
  unfold aExt at z
  split at z
  · rename_i xs hx
    obtain ⟨o,h1,h2⟩:=R.sl k _ hx
    cases h2 with
    | @own p vs _ a1 a2 a3 a4 =>
      refine ⟨_,h1,.inl ⟨rfl,_,SqL.of a1⟩,?_⟩
      refine TAe.then R z fun m1 x v G1 H1 s1 w1 R1 d1 q1=>?_
      cases d1 with
      | @lst l us ds b1 b2 =>
        obtain ⟨hs,q1⟩:=ok_if q1
        obtain ⟨o,h1',h2⟩:=R1.sl k _ hx
        rw [h1] at h1'
        cases h1'
        cases h2 with
        | @own _ vs1 _ c1 c2 c3 c4 =>
          have hs':xs.length+ds.length≤sizeLine:=of_decide_eq_true hs
          refine ⟨p,l,vs1,us,rfl,rfl,c1,w1.sub _ _ b1,by rw [c4.length,b2.length]; exact hs',?_⟩
          exact q1 σ G1 _ s1.gs (R1.change hx h1 (c4.append b2))
      | _=>exact q1.elim
  · exact z.elim
noncomputable def aIns (k:Nat) (n i:List Sl→Tr PyData):List Sl→Tr Ou:=fun ρ=>match ρ[k]? with
  | some (.own xs)=>(n ρ).bind fun y=>(i ρ).bind fun x=>match y with
    | .int t=>if (decide (0≤t) && decide (t≤1000) && decide (xs.length≤1000))=true then .ret (.next (ρ.set k (.own (xs.take t.toNat++x::xs.drop t.toNat)))) else .fail
    | _=>.fail
  | _=>.fail
theorem as_ins {k:Nat} {K:PySem.W.Frag} {st:Stmt} (h:PS X st (tDrop (tBM K "list" rInsert (tVar k) (tCons (TAe PK n) (tCons (TAe PK i) tNil))))):PS X st (TAs PK (aIns k n i)):=h.imp fun D σ H hz0=>by
  obtain ⟨pa,G₀,H₀,m,ρ,G,R,z⟩:=hz0
  unfold aIns at z
  split at z
  · rename_i xs hx
    obtain ⟨o,h1,h2⟩:=R.sl k _ hx
    cases h2 with
    | @own p vs _ a1 a2 a3 a4 =>
      refine ⟨_,h1,.inl ⟨rfl,_,SqL.of a1⟩,?_⟩
      refine TAe.then R z fun m1 y u G1 H1 s1 w1 R1 d1 q1=>?_
      refine TAe.then R1 q1 fun m2 x v G2 H2 s2 w2 R2 d2 q2=>?_
      have d1':=d1.mono s2.gs
      cases d1' with
      | int t =>
        obtain ⟨hs,q2⟩:=ok_if q2
        simp only [Bool.and_eq_true,decide_eq_true_eq] at hs
        obtain ⟨⟨t0,t1⟩,hs⟩:=hs
        obtain ⟨o,h1',h2⟩:=R2.sl k _ hx
        rw [h1] at h1'
        cases h1'
        cases h2 with
        | @own _ vs1 _ c1 c2 c3 c4 =>
          refine ⟨p,vs1,t,v,rfl,rfl,c1,t0,t1,by rw [c4.length]; exact hs,?_⟩
          exact q2 σ G2 _ (s1.trans s2 w1.some).gs (R2.change hx h1 ((c4.take _).append (.cons d2 (c4.drop _))))
      | _=>exact q2.elim
  · exact z.elim
end
section
variable {prog:Program} {w:World} {A:Around} {E:Value→Shared→Prop} {s:Shared}
theorem sliceApplied_rev {sl:Addr} {vk:Value} {n:Nat} {Q:Int×Int×Nat→Shared→Prop} (hs:s.heap.IsSliceOf sl .none .none vk) (pk:IsPart vk (some (-1)))
    (h:Q ((n:Int) - 1,-1,n) s):wpAny (model prog w) A (Builtin.Slice.sliceApplied (.ref sl) (pure (n:Int))) Q E s:=by
  obtain ⟨os,hos,hcs,hds⟩:=id hs
  unfold Builtin.Slice.sliceApplied Builtin.Slice.sliceFields
  refine wpAny_bind (wpAny_bind (wpAny_field hos hds (x:=.none) rfl (wpAny_bind (wpAny_field hos hds (x:=.none) rfl (wpAny_bind (wpAny_field hos hds (x:=vk) rfl (wpAny_pure ?_)))))))
  refine wpAny_bind (HT.slicePart_ pk ?_)
  show wpAny _ _ (if ((-1:Int) == 0)=true then _ else _) _ _ s
  rw [if_neg (by decide)]
  refine wpAny_bind (HT.slicePart_ .none (wpAny_bind (HT.slicePart_ .none (wpAny_bind (wpAny_pure ?_)))))
  show wpAny _ _ (match Builtin.Slice.sliceAdjust none none (-1) (n:Int) with | (lo,hi)=>pure (lo,(-1:Int),Builtin.Slice.slicePlaces lo hi (-1))) _ _ s
  have ea:Builtin.Slice.sliceAdjust none none (-1) (n:Int)=((n:Int) - 1,-1):=by
    unfold Builtin.Slice.sliceAdjust
    simp
  rw [ea]
  show wpAny _ _ (pure ((n:Int) - 1,(-1:Int),Builtin.Slice.slicePlaces ((n:Int) - 1) (-1) (-1))) _ _ s
  have ep:Builtin.Slice.slicePlaces ((n:Int) - 1) (-1) (-1)=n:=by
    unfold Builtin.Slice.slicePlaces
    rw [if_neg (by decide)]
    split
    · have e:(-(-1:Int))=1:=by decide
      rw [e,Int.ediv_one]
      omega
    · omega
  rw [ep]
  exact wpAny_pure h
theorem pick_rev (xs:Array Value):((List.range xs.size).filterMap fun (m:Nat)=>xs[((xs.size:Int) - 1+(m:Int) * (-1)).toNat]?).toArray=xs.toList.reverse.toArray:=by
  have h1:=PySem.W.krv_pick xs
  unfold slicePick at h1
  rw [PySem.W.krv_bounds] at h1
  have h2:((sliceRange ((xs.size:Int) - 1) (-1) (-1)).filterMap (xs[·]?)).toArray=xs.toList.reverse.toArray:=h1
  rw [PySem.W.krv_sliceRange,List.filterMap_map] at h2
  rw [← h2]
  congr 2
  funext m
  show xs[((xs.size:Int) - 1+(m:Int) * (-1)).toNat]?=xs[xs.size - 1 - m]?
  congr 1
  omega
theorem getItem_tuple_rev {t sl:Addr} {items:Array Value} {vk:Value} {Q:Value→Shared→Prop} (ht:IsTup s.heap t items) (hs:s.heap.IsSliceOf sl .none .none vk) (pk:IsPart vk (some (-1)))
    (h:Q (.ref s.heap.objs.size) { s with heap:=s.heap.push { cls:=.type "tuple",data:=.seq items.toList.reverse.toArray } })
    (hsz:items.size≤sizeLine):wpAny (model prog w) A (getItem (.ref t) (.ref sl)) Q E s:=by
  have htake:sizeOk (.seq items.toList.reverse.toArray):=by
    show items.toList.reverse.toArray.size≤sizeLine
    rw [List.size_toArray,List.length_reverse,Array.length_toList]
    exact hsz
  obtain ⟨os,hos,hcs,hds⟩:=id hs
  have hTs:s.TypeIs (.ref sl) "slice":=⟨os,hos,hcs⟩
  unfold getItem
  try with_reducible refine wpAny_holding ?_
  first | refine wpAny_bind (wpAny_pure ?_) | skip
  refine wpAny_bind (wpAny_sequenceKey ht.typeIs (by decide) ?_)
  refine wpAny_bind (wpAny_callSpecial?_slot (name:=Str.ofString "__getitem__") ht.typeIs PyProof.Rows.slot_tuple_getitem
    (wpAny_call_entry PyProof.Rows.slot_tuple_getitem ht.typeIs entry_tuple_getitem ?_ (args_tuple_getitem _ _)))
  show wpAny _ _ (Builtin.Tuple.tupleItemsOf (.ref t) >>= _) _ _ s
  refine wpAny_bind (tupleItemsOf_ ht ?_)
  refine wpAny_bind (wpAny_typeOf hTs ?_)
  rw [if_pos (by decide)]
  refine wpAny_bind (sliceApplied_rev hs pk ?_)
  show wpAny _ _ (if (((items.size:Int) - 1) == 0 && (-1:Int) == 1 && items.size == items.size)=true then _ else _) _ _ s
  rw [if_neg (by simp),pick_rev]
  first
    | exact wpAny_bind (m:=Builtin.Tuple.tupleExact _) (wpAny_newObj_type (wpAny_pure ⟨_,rfl,wpAny_pure h⟩) htake)
    | exact wpAny_bind (m:=Builtin.Tuple.tupleExact _) (wpAny_newObj_type (wpAny_bind (wpAny_pure (wpAny_pure ⟨_,rfl,wpAny_pure h⟩))) htake)
    | exact wpAny_bind (wpAny_bind (m:=Builtin.Tuple.tupleExact _) (wpAny_newObj_type (wpAny_pure (wpAny_pure ⟨_,rfl,wpAny_pure h⟩)) htake))
    | exact wpAny_bind (wpAny_bind (m:=Builtin.Tuple.tupleExact _) (wpAny_newObj_type (wpAny_pure ⟨_,rfl,wpAny_pure h⟩) htake))
end
section
variable {X:Cx} {PK:Pk} {e st:Expr} {te ts:TE} {i j:List Sl→Tr PyData} {p2 pos:Pos}
noncomputable def tSlv (te ts:TE):TE:=fun σ H Q=>te σ H fun x H1=>ts σ H1 fun k H2=>k=.int (-1)∧∃ b a xs,x=.ref a∧H2 a=some (hoB b xs)∧∀ p,H2 p=none→Q (.ref p) (upd H2 p (hoB b xs.reverse))
theorem vals_rev {xs:List V} {us:List Value} (h:Vals xs us):Vals xs.reverse us.reverse:=by
  induction h with
  | nil=>exact .nil
  | cons a b ih =>
    rw [List.reverse_cons,List.reverse_cons]
    exact ih.append (.cons a .nil)
theorem pe_slv (he:PE X e te) (hk:PE X st ts):PE X (.Subscript e (.Slice none none (some st) p2) pos) (tSlv te ts):=by
  intro pins s σ H Q I h
  refine Subscript_ (thn (he pins s σ H _ I h) fun v s1 hz0=>?_)
  obtain ⟨x,H1,I1,r1,q1⟩:=hz0
  refine wpAny_Slice ?_
  rw [evalPart_none]
  refine wpAny_pure (wpAny_pure ?_)
  rw [evalPart_some]
  refine thn (hk pins s1 σ H1 _ I1 q1) fun vk s3 hz0=>?_
  obtain ⟨y,H3,I3,r3,q3⟩:=hz0
  obtain ⟨rfl,b,a,xs,rfl,e1,q⟩:=q3
  obtain ⟨t,rfl⟩:=r3
  cases r1
  have I4:Inv X pins σ H3 { s3 with heap:=s3.heap.push { cls:=.type "slice",data:=.fields #[.none,.none,.int (-1) t] } }:=I3.kept (t':=s3.toks) fun b ob q=>Heap.get?_push_of_some _ q
  have hsl:({ s3 with heap:=s3.heap.push { cls:=.type "slice",data:=.fields #[.none,.none,.int (-1) t] } }:Shared).heap.IsSliceOf s3.heap.objs.size .none .none (.int (-1) t):=Heap.IsSliceOf.new ..
  show wpAny (model X.prog X.w) X.A (subscriptTail e (.Slice none none (some st) p2) (.ref a) (.ref s3.heap.objs.size)) (EP X pins σ Q) X.xe { s3 with heap:=s3.heap.push { cls:=.type "slice",data:=.fields #[.none,.none,.int (-1) t] } }
  generalize hs4:({ s3 with heap:=s3.heap.push { cls:=.type "slice",data:=.fields #[.none,.none,.int (-1) t] } }:Shared)=s4 at I4 hsl ⊢
  obtain ⟨us,r2,q2⟩:=sqAt_of I4.hok e1
  have hlen:=r2.length
  cases b with
  | true =>
    have hz:xs.length≤sizeLine:=(I4.hok _ _ e1).1
    have q2':s4.heap.IsList a us.toArray:=q2
    refine tail_any (ops:=[.ref a,.ref s3.heap.objs.size]) q2'.typeIs slot_list_getitem.lookup ?_ (by with_unfolding_all rfl)
    refine wpAny_getItem_list_slice q2' hsl .none .none (.int (-1) t) (by decide) ?_ (by rw [List.size_toArray]; omega)
    rw [PySem.W.krv_pick]
    refine ⟨.ref s4.heap.objs.size,_,I4.laid (t':=s4.toks) (o:=.lst xs.reverse) (fun b ob q=>Heap.get?_push_of_some _ q) (Nat.le_refl _) ?_,rfl,q _ (I4.hok.fresh (Nat.le_refl _))⟩
    exact ⟨by rw [List.length_reverse]; exact hz,_,0,vals_rev r2,Heap.get?_push_size _ rfl⟩
  | false =>
    have hz:xs.length≤sizeLine:=(I4.hok _ _ e1).1
    have q2':IsTup s4.heap a us.toArray:=q2
    refine tail_any (ops:=[.ref a,.ref s3.heap.objs.size]) q2'.typeIs PyProof.Rows.slot_tuple_getitem.lookup ?_ (by with_unfolding_all rfl)
    refine getItem_tuple_rev q2' hsl (.int (-1) t) ?_ (by rw [List.size_toArray]; omega)
    refine ⟨.ref s4.heap.objs.size,_,I4.laid (t':=s4.toks) (o:=.tup xs.reverse) (fun b ob q=>Heap.get?_push_of_some _ q) (Nat.le_refl _) ?_,rfl,q _ (I4.hok.fresh (Nat.le_refl _))⟩
    exact ⟨by rw [List.length_reverse]; exact hz,_,vals_rev r2,IsTup.new _ _⟩
noncomputable def revD:PyData→PyData→Option PyData
  | .list xs,.int (-1)=>some (.list xs.reverse)
  | .tuple xs,.int (-1)=>some (.tuple xs.reverse)
  | _,_=>none
theorem ae_slv (he:PE X e (TAe PK i)) (hk:PE X st (TAe PK j)):PE X (.Subscript e (.Slice none none (some st) p2) pos) (TAe PK (aBin revD i j)):=(pe_slv he hk).imp fun σ H Q hz0=>by
  obtain ⟨pa,G₀,H₀,m,ρ,G,R,z⟩:=hz0
  refine TAe.then R z fun m1 x v G1 H1 s1 w1 R1 d1 q1=>?_
  refine TAe.then R1 q1 fun m2 y u G2 H2 s2 w2 R2 d2 q2=>?_
  obtain ⟨d,hd,k⟩:=Tr.ok_of q2
  have k':=Kn.later k (s1.trans s2 w1.some) w2.some
  have d1':=d1.mono s2.gs
  unfold revD at hd
  split at hd
  · cases hd
    cases d2
    cases d1' with
    | lst a1 a2=>exact ⟨rfl,true,_,_,rfl,w2.sub _ _ a1,fun p hp=>k'.lst w2 a2.reverse hp⟩
  · cases hd
    cases d2
    cases d1' with
    | tup a1 a2=>exact ⟨rfl,false,_,_,rfl,w2.sub _ _ a1,fun p hp=>k'.tup w2 a2.reverse hp⟩
  · cases hd
end
end L2
set_option Elab.async false
set_option linter.all false
set_option maxRecDepth 100000
namespace L2
open PySem PySem.Spec PyProof.Rows
noncomputable abbrev Keeps (h0 h:Heap):Prop:=∀ c o,h0.get? c=some o→h.get? c=some o
noncomputable def CmpH (prog:Program) (w:World) (A:Around) (h0:Heap) (P:Nat→Value→Prop) (bt:Nat→Nat→Bool):Prop :=
  ∀ i j vi vj (s:Shared) (Q:Value→Shared→Prop) (E:Value→Shared→Prop),j < i→Keeps h0 s.heap→P i vi→P j vj→Q (.bool (bt i j)) s→wpAny (model prog w) A (richCompare .Lt vi vj) Q E s
theorem argBest_le (bt:Nat→Nat→Bool):∀ j,argBest bt j≤j
  | 0=>Nat.le_refl _
  | j+1=>by
    have:=argBest_le bt j
    unfold argBest
    split <;> omega
section
variable {prog:Program} {w:World} {A:Around} {R:Result→Shared→Prop} {I S:Addr} {fp wr:List Addr} {n:Nat} {P:Nat→Value→Prop} {St:Nat→Heap→Prop} {h0:Heap}
theorem minL_name:(toString "min"++toString ".loop":String)="min.loop":=by decide
theorem minL_turns (W:Walks prog w A.in1 I fp wr n P St) (bt:Nat→Nat→Bool) (hcmp:CmpH prog w A.in1 h0 P bt) (hSf:S ∉ fp) (h0w:∀ c o,h0.get? c=some o→c ∉ wr∧c≠S) :
    ∀ (k j:Nat) (s:Shared) (vb:Value) (c:Nat),n - (j+1)=k→j+1≤n→Keeps h0 s.heap→St (j+1) s.heap→P (argBest bt j) vb →
    s.heap.get? S=some { cls:=.type "list",data:=.seq #[vb,vb] c } →
    (∀ v h' tk,P (argBest bt (n - 1)) v→(∀ b o,b ∉ wr→b≠S→s.heap.get? b=some o→h'.get? b=some o)→R (.ok (.ret v)) { s with heap:=h',toks:=tk }) →
    codeAny (model prog w) A (.builtin "min.loop" ⟨[.ref I,.none,.ref S],[]⟩) R s:=by
  have hSw:S ∉ wr:=fun h=>hSf (W.sub _ h)
  intro k
  induction k with
  | zero =>
    intro j s vb c hk hj kp hst hPb hS hR
    have hin:j+1=n:=by omega
    refine codeAny_builtin F.entry_min_loop (by
      rw [Around.under_plainId F.plain_min_loop _]
      show wpAny _ A.in1 (seqItems? (.ref S) >>= _) _ _ s
      refine wpAny_bind (wpAny_seqItems hS rfl ?_)
      show wpAny _ A.in1 (tryCatch (pyNext (.ref I)) _ >>= _) _ _ s
      refine wpAny_bind (wpAny_tryCatch (W.done s _ _ (hin ▸ hst) fun h' tk hk'=>?_))
      have hS':=hk' S _ hSw hS
      show wpAny _ A.in1 (updateSeq S (fun _=>#[]) >>= _) _ _ _
      refine wpAny_bind (wpAny_updateSeq hS' rfl (wpAny_bind (wpAny_letGo (wpAny_pure ?_))))
      exact hR vb _ tk (by rw [← hin]; exact hPb) fun b o hbw hbS e=>(Heap.get?_update_other _ _ (Ne.symm hbS)).trans (hk' b o hbw e))
  | succ k ih =>
    intro j s vb c hk hj kp hst hPb hS hR
    have hlt:j+1 < n:=by omega
    refine codeAny_builtin F.entry_min_loop (by
      rw [Around.under_plainId F.plain_min_loop _]
      show wpAny _ A.in1 (seqItems? (.ref S) >>= _) _ _ s
      refine wpAny_bind (wpAny_seqItems hS rfl ?_)
      show wpAny _ A.in1 (tryCatch (pyNext (.ref I)) _ >>= _) _ _ s
      refine wpAny_bind (wpAny_tryCatch (W.item (j+1) s _ _ hlt hst fun v h' tk hP hst' hk'=>?_))
      have hS':=hk' S _ hSw hS
      have kp':Keeps h0 h':=fun c o e=>hk' c o (h0w c o e).1 (kp c o e)
      show wpAny _ A.in1 (tryCatch (holding [v,v] (richCompare .Lt v vb >>= _)) _ >>= _) _ _ _
      refine wpAny_bind (wpAny_tryCatch (wpAny_holding (wpAny_bind (hcmp (j+1) (argBest bt j) v vb _ _ _ (Nat.lt_succ_of_le (argBest_le bt j)) kp' hP hPb (wpAny_bind (wpAny_holding (wpAny_truthy_bool (wpAny_bind (wpAny_letGo (wpAny_pure ?_))))))))))
      cases hb:bt (j+1) (argBest bt j) with
      | true =>
        simp only [if_true]
        refine wpAny_bind (wpAny_updateSeq hS' rfl (wpAny_bind (wpAny_letGo ?_)))
        rw [minL_name]
        refine wpAny_pure ⟨plainId_quiet F.plain_min_loop _,ih (j+1) _ v _ (by omega) hlt (fun c o e=>(Heap.get?_update_other _ _ (Ne.symm (h0w c o e).2)).trans (kp' c o e)) (W.frame _ _ _ hst' fun b hbf o e=>?_) (by simp only [argBest,hb,if_true]; exact hP) (Heap.get?_update_self _ hS' rfl)
          fun v' h'' tk'' hP' hk''=>hR v' h'' tk'' hP' fun b o hbw hbS e=>hk'' b o hbw hbS ((Heap.get?_update_other _ _ (Ne.symm hbS)).trans (hk' b o hbw e))⟩
        exact (Heap.get?_update_other _ _ (fun h:S=b=>hSf (by rw [h]; exact hbf))).trans e
      | false =>
        simp only [Bool.false_eq_true,if_false]
        refine wpAny_bind (wpAny_letGo ?_)
        rw [minL_name]
        exact wpAny_pure ⟨plainId_quiet F.plain_min_loop _,ih (j+1) _ vb c (by omega) hlt kp' hst' (by simp only [argBest,hb,Bool.false_eq_true,if_false]; exact hPb) hS' fun v' h'' tk'' hP' hk'' =>
          hR v' h'' tk'' hP' fun b o hbw hbS e=>hk'' b o hbw hbS (hk' b o hbw e)⟩)
theorem minL_first (W:Walks prog w A.in1 I fp wr n P St) (bt:Nat→Nat→Bool) (hcmp:CmpH prog w A.in1 h0 P bt) (hSf:S ∉ fp) (h0w:∀ c o,h0.get? c=some o→c ∉ wr∧c≠S) (hn:0 < n) {s:Shared} {c:Nat} (kp:Keeps h0 s.heap) (hst:St 0 s.heap)
    (hS:s.heap.get? S=some { cls:=.type "list",data:=.seq #[] c })
    (hR:∀ v h' tk,P (argBest bt (n - 1)) v→(∀ b o,b ∉ wr→b≠S→s.heap.get? b=some o→h'.get? b=some o)→R (.ok (.ret v)) { s with heap:=h',toks:=tk }) :
    codeAny (model prog w) A (.builtin "min.loop" ⟨[.ref I,.none,.ref S],[]⟩) R s:=by
  have hSw:S ∉ wr:=fun h=>hSf (W.sub _ h)
  refine codeAny_builtin F.entry_min_loop (by
    rw [Around.under_plainId F.plain_min_loop _]
    show wpAny _ A.in1 (seqItems? (.ref S) >>= _) _ _ s
    refine wpAny_bind (wpAny_seqItems hS rfl ?_)
    show wpAny _ A.in1 (tryCatch (pyNext (.ref I)) _ >>= _) _ _ s
    refine wpAny_bind (wpAny_tryCatch (W.item 0 s _ _ hn hst fun v h' tk hP hst' hk'=>?_))
    have hS':=hk' S _ hSw hS
    have kp':Keeps h0 h':=fun c o e=>hk' c o (h0w c o e).1 (kp c o e)
    show wpAny _ A.in1 (updateSeq S (fun _=>#[v,v]) >>= _) _ _ _
    refine wpAny_bind (wpAny_updateSeq hS' rfl ?_)
    rw [minL_name]
    refine wpAny_pure ⟨plainId_quiet F.plain_min_loop _,minL_turns W bt hcmp hSf h0w _ 0 _ v _ rfl hn (fun c o e=>(Heap.get?_update_other _ _ (Ne.symm (h0w c o e).2)).trans (kp' c o e)) (W.frame _ _ _ hst' fun b hbf o e=>?_) hP (Heap.get?_update_self _ hS' rfl)
      fun v' h'' tk'' hP' hk''=>hR v' h'' tk'' hP' fun b o hbw hbS e=>hk'' b o hbw hbS ((Heap.get?_update_other _ _ (Ne.symm hbS)).trans (hk' b o hbw e))⟩
    exact (Heap.get?_update_other _ _ (fun h:S=b=>hSf (by rw [h]; exact hbf))).trans e)
end
section
variable {prog:Program} {w:World} {A:Around} {E:Value→Shared→Prop} {s:Shared}
theorem min_two_h {a b:Value} {Q:Value→Shared→Prop} {c:Bool} (hh:A.handled=none) (hcmp:∀ (s':Shared) (Q:Value→Shared→Prop) (E:Value→Shared→Prop),Keeps s.heap s'.heap→Q (.bool c) s'→wpAny (model prog w) A.in1 (richCompare .Lt b a) Q E s')
    (h:∀ h' tk,Keeps s.heap h'→Q (if c=true then b else a) { s with heap:=h',toks:=tk }):wpAny (model prog w) A (call (.builtin "min") [a,b]) Q E s:=by
  refine call_function_tree F.kind_min F.plain_min F.entry_min (F.args_min2 _ _) (by
    show wpAny _ A.in1 (Builtin.Builtins.bindParams "min" ["key","default"] 0 ⟨[],[]⟩ >>= _) _ _ s
    refine wpAny_bind (wpAny_of_eq (a:=[none,none]) rfl ?_)
    show wpAny _ A.in1 (newTuple [a,b] >>= _) _ _ s
    refine wpAny_bind (wpAny_newObj_type ?_)
    have hT:(s.heap.push { cls:=.type "tuple",data:=.seq #[a,b] }).IsTuple s.heap.objs.size #[a,b]:=⟨_,Heap.get?_push_size _ rfl,rfl,0,rfl⟩
    have hsz:(s.heap.push { cls:=.type "tuple",data:=.seq #[a,b] }).objs.size=s.heap.objs.size+1:=Heap.size_push ..
    have hgk:Keeps s.heap (s.heap.push { cls:=.type "tuple",data:=.seq #[a,b] }):=fun c o e=>Heap.get?_push_of_some _ e
    generalize (s.heap.push { cls:=.type "tuple",data:=.seq #[a,b] })=g at hT hsz hgk ⊢
    refine wpAny_bind (wpAny_pyIter_tuple hT (wpAny_bind (wpAny_newObj_type ?_)))
    rw [minL_name]
    have hlt:∀ {c:Nat} {o:Obj},s.heap.get? c=some o→c < s.heap.objs.size:=fun e=>Heap.lt_size e
    have hsz2:∀ ob:Obj,(g.push ob).objs.size=s.heap.objs.size+2:=fun ob=>by rw [Heap.size_push,hsz]
    have W:=Walks.tuple (prog:=prog) (w:=w) (A:=A.in1) hh g.objs.size s.heap.objs.size (by rw [hsz]; exact Nat.ne_of_lt (Nat.lt_succ_self _)) #[a,b]
    refine wpAny_pure ⟨plainId_quiet F.plain_min_loop _,minL_first (A:=A) (h0:=s.heap) W (fun i j=>if i=1∧j=0 then c else false) ?_ ?_ ?_ (show 0 < 2 by decide) ?_ ⟨?_,?_⟩ (Heap.get?_push_size _ rfl) ?_⟩
    · intro i j vi vj s' Q' E' hji kp hi hj hq
      have hi2:i < 2:=by
        have:=(Array.getElem?_eq_some_iff.mp hi).1
        simpa using this
      have e1:i=1:=by omega
      have e2:j=0:=by omega
      subst e1 e2
      have e3:b=vi:=by simpa using hi
      have e4:a=vj:=by simpa using hj
      subst e3 e4
      exact hcmp s' Q' E' kp (by simpa using hq)
    · intro hm
      have hm':(g.push { cls:=.type "tuple_iterator",data:=.fields #[.ref s.heap.objs.size,.int 0 0] }).objs.size∈[g.objs.size,s.heap.objs.size]:=hm
      rw [hsz2,hsz] at hm'
      simp at hm'
    · intro (c:Nat) o e
      have hc:=hlt e
      refine ⟨fun hm=>?_,?_⟩
      · have hm':c=g.objs.size:=by simpa using hm
        rw [hm',hsz] at hc
        omega
      · show c≠(g.push { cls:=.type "tuple_iterator",data:=.fields #[.ref s.heap.objs.size,.int 0 0] }).objs.size
        rw [hsz2]
        omega
    · exact fun c o e=>Heap.get?_push_of_some _ (Heap.get?_push_of_some _ (hgk c o e))
    · exact ⟨_,Heap.get?_push_of_some _ (Heap.get?_push_size _ rfl),rfl,rfl⟩
    · exact hT.at fun o e=>Heap.get?_push_of_some _ (Heap.get?_push_of_some _ e)
    · intro v h' tk hP hk
      have hv:v=if c=true then b else a:=by
        cases c with
        | true =>
          have e:argBest (fun i j=>if i=1∧j=0 then true else false) ((#[a,b]:Array Value).size - 1)=1:=rfl
          rw [e] at hP
          simpa using hP.symm
        | false =>
          have e:argBest (fun i j=>if i=1∧j=0 then false else false) ((#[a,b]:Array Value).size - 1)=0:=rfl
          rw [e] at hP
          simpa using hP.symm
      rw [hv]
      refine h h' tk fun (c:Nat) o e=>hk c o (fun hm=>?_) ?_ (Heap.get?_push_of_some _ (Heap.get?_push_of_some _ (hgk c o e)))
      · have hc:=hlt e
        have hm':c=g.objs.size:=by simpa using hm
        rw [hm',hsz] at hc
        omega
      · have hc:=hlt e
        show c≠(g.push { cls:=.type "tuple_iterator",data:=.fields #[.ref s.heap.objs.size,.int 0 0] }).objs.size
        rw [hsz2]
        omega)
end
end L2
namespace L2
open PySem PySem.Spec PyProof.Rows
section
variable {X:Cx}
noncomputable def rMin2T:List V→Hp→VK→Prop:=fun xs H Q=>∃ a b ns ms,xs=[.ref a,.ref b]∧H a=some (.tup (ns.map V.int))∧H b=some (.tup (ms.map V.int))∧Q (if HT.lexLt ms ns=true then .ref b else .ref a) H
theorem call_min2T {k:Nat} (hr:Room k X.A) (hc:X.calm=true):CallR X (.builtin "min") rMin2T:=by
  intro pins s σ H xs us Q I r h
  obtain ⟨a,b,ns,ms,rfl,ha,hb,q⟩:=h
  obtain ⟨u,w',rfl,ru,rw'⟩:=vals2 r
  cases ru
  cases rw'
  obtain ⟨u1,r1,p1⟩:=sqAt_of (b:=false) I.hok ha
  obtain ⟨u2,r2,p2⟩:=sqAt_of (b:=false) I.hok hb
  have i1:IntsAre u1.toArray.toList ns:=intsAre_of r1
  have i2:IntsAre u2.toArray.toList ms:=intsAre_of r2
  refine min_two_h (c:=HT.lexLt ms ns) (I.ok.hd hc) (fun s' Q' E' kp hq=>?_) fun h' tk kp=>⟨_,H,I.kept kp,?_,q⟩
  · have q1:IsTup s'.heap a u1.toArray:=SqAt.at (b:=false) p1 fun o e=>kp a o e
    have q2:IsTup s'.heap b u2.toArray:=SqAt.at (b:=false) p2 fun o e=>kp b o e
    exact HT.lt_tupInts q2 q1 i2 i1 (show X.A.units+1 < cLine from by have:=hr.units; omega) hq
  · cases HT.lexLt ms ns
    · exact rfl
    · exact rfl
noncomputable def min2T:List PyData→Option PyData
  | [.tuple xs,.tuple ys]=>(ints? xs).bind fun ns=>(ints? ys).bind fun ms=>some (if HT.lexLt ms ns=true then .tuple (ms.map PyData.int) else .tuple (ns.map PyData.int))
  | _=>none
theorem vc_min2T:VCl rMin2T min2T:=fun PK pa m G H vs ds d Q w hv hd k=>by
  unfold min2T at hd
  split at hd
  · rename_i xs ys
    cases e1:ints? xs with
    | none=>rw [e1] at hd; cases hd
    | some ns =>
      cases e2:ints? ys with
      | none=>rw [e1,e2] at hd; cases hd
      | some ms =>
        rw [e1,e2] at hd
        have hd':(if HT.lexLt ms ns=true then PyData.tuple (ms.map PyData.int) else .tuple (ns.map PyData.int))=d:=Option.some.inj hd
        cases hv with
        | cons h1 h2 =>
          cases h2 with
          | cons h2 h3 =>
            cases h3
            cases h1 with
            | @tup a us _ a1 a2 =>
              cases h2 with
              | @tup b ws _ b1 b2 =>
                obtain ⟨rfl,rfl⟩:=a2.ints_inv e1
                obtain ⟨rfl,rfl⟩:=b2.ints_inv e2
                refine ⟨a,b,ns,ms,rfl,w.sub _ _ a1,w.sub _ _ b1,?_⟩
                subst hd'
                cases hl:HT.lexLt ms ns
                · rw [hl] at k
                  exact k.here w (.tup a1 (DnAll.ints _))
                · rw [hl] at k
                  exact k.here w (.tup b1 (DnAll.ints _))
  · cases hd
end
end L2
namespace L2
open PySem PySem.Spec PyProof.Rows
section
variable {X:Cx} {PK:Pk} {e:Expr} {is:List Sl→Tr (List PyData)}
end
end L2
set_option Elab.async false
set_option linter.all false
set_option maxRecDepth 100000
namespace L2
open PySem PySem.Spec PyProof.Rows
section
variable {prog:Program} {w:World} {A:Around} {E:Value→Shared→Prop} {s:Shared}
end
section
variable {X:Cx}
end
end L2
namespace L2
open PySem PySem.Spec PyProof.Rows
section
variable {X:Cx} {PK:Pk} {a b:Expr} {pos:Pos} {j:List Sl→Tr PyData}
end
end L2
set_option Elab.async false
set_option linter.all false
set_option maxRecDepth 100000
namespace L2
open PySem PySem.Spec PyProof.Rows
section
variable {prog:Program} {w:World} {A:Around} {E:Value→Shared→Prop} {s:Shared}
theorem cat_nil {t b:Addr} {ws:List Value} {Q:Value→Shared→Prop} (ht:IsTup s.heap t ([]:List Value).toArray) (hb:IsTup s.heap b ws.toArray) (h1:Q (.ref b) s):wpAny (model prog w) A (binaryOp .Add (.ref t) (.ref b)) Q E s:=by
  obtain ⟨⟨cls,dd,data,sl⟩,ho,hc,n,hd⟩:=id ht
  obtain ⟨⟨cls2,dd2,data2,sl2⟩,ho2,hc2,n2,hd2⟩:=id hb
  simp only at hc hd hc2 hd2
  subst hc hd hc2 hd2
  exact concat_meets ⟨_,ho,rfl⟩ ⟨_,ho2,rfl⟩ noFill_tuple_add seq_tuple_add PySem.F.slot_tuple_add PySem.F.entry_tuple_add (PySem.F.args_tuple_add_2 _ _) (tuple_addW0 t b _ ws.toArray n n2 dd dd2 sl sl2 rfl) ⟨ho,ho2,h1⟩
end
section
variable {X:Cx}
noncomputable def rCat0 (K:PySem.W.Frag):R2:=fun x y H Q=>∃ a b ys,x=.ref a∧y=.ref b∧SqT K H a []∧SqT K H b ys∧Q (.ref b) H
theorem op_cat0:OpR X (binaryOp .Add) (rCat0 X.K):=by
  intro pins s σ H x y v u Q I rx ry h
  obtain ⟨a,b,ys,rfl,rfl,ha,hb,q⟩:=h
  cases rx
  cases ry
  obtain ⟨its,r1,p1,_⟩:=I.tuple ha
  obtain ⟨its2,r2,p2,_⟩:=I.tuple hb
  cases r1
  exact cat_nil p1 p2 ⟨.ref b,H,I,rfl,q⟩
noncomputable def addE:PyData→PyData→Option PyData
  | .tuple [],.tuple ys=>some (.tuple ys)
  | x,y=>addD x y
noncomputable def rAddE (K:PySem.W.Frag):R2:=fun x y H Q=>rAddD K x y H Q∨rCat0 K x y H Q
theorem op_addE:OpR X (binaryOp .Add) (rAddE X.K):=op_addD.or op_cat0
theorem vo_addE {K:PySem.W.Frag}:VOp2 (rAddE K) addE:=fun PK pa m G H x y dx dy dz Q w hx hy hz k=>by
  unfold addE at hz
  split at hz
  · cases hz
    cases hx with
    | tup a1 a2 =>
      cases a2
      cases hy with
      | tup b1 b2=>exact .inr ⟨_,_,_,rfl,rfl,SqT.of (w.sub _ _ a1),SqT.of (w.sub _ _ b1),k.here w (.tup b1 b2)⟩
  · exact .inl (vo_add PK pa m G H x y _ _ dz Q w hx hy hz k)
theorem ev_addE0 {ys:List PyData}:bin2 addE (.tuple []) (.tuple ys)=.ret (.tuple ys):=rfl
theorem ev_addE1 {x:PyData} {xs ys:List PyData} (h:small ((x::xs).length+ys.length)=true):bin2 addE (.tuple (x::xs)) (.tuple ys)=.ret (.tuple (x::xs++ys)):=by
  show Tr.of (addD (.tuple (x::xs)) (.tuple ys))=_
  unfold addD
  simp only [List.isEmpty_cons,Bool.not_false,Bool.true_and,h,if_true]
  rfl
end
end L2
set_option Elab.async false
set_option linter.all false
set_option maxRecDepth 100000
namespace L2
open PySem PySem.Spec PyProof.Rows
section
variable {PK:Pk} {X:Cx} {a b:Expr} {pos:Pos} {i j:List Sl→Tr PyData}
end
theorem len_succ {α:Type} {n:Nat}:∀ {us:List α},us.length=n+1→∃ (a:α) (t:List α),us=a::t∧t.length=n
  | a::t,h=>⟨a,t,rfl,Nat.succ.inj h⟩
theorem len_zero {α:Type} {us:List α} (h:us.length=0):us=[]:=List.eq_nil_of_length_eq_zero h
theorem len1 {α:Type} {us:List α} (h:us.length=1):∃ a,us=[a]:=by
  obtain ⟨a,t,rfl,h2⟩:=len_succ h
  exact ⟨a,by rw [len_zero h2]⟩
theorem len2 {α:Type} {us:List α} (h:us.length=2):∃ a0 a1,us=[a0,a1]:=by
  obtain ⟨a0,t,rfl,h2⟩:=len_succ h
  obtain ⟨a1,rfl⟩:=len1 h2
  exact ⟨a0,a1,rfl⟩
theorem len3 {α:Type} {us:List α} (h:us.length=3):∃ a0 a1 a2,us=[a0,a1,a2]:=by
  obtain ⟨a0,t,rfl,h2⟩:=len_succ h
  obtain ⟨a1,a2,rfl⟩:=len2 h2
  exact ⟨a0,a1,a2,rfl⟩
theorem len4 {α:Type} {us:List α} (h:us.length=4):∃ a0 a1 a2 a3,us=[a0,a1,a2,a3]:=by
  obtain ⟨a0,t,rfl,h2⟩:=len_succ h
  obtain ⟨a1,a2,a3,rfl⟩:=len3 h2
  exact ⟨a0,a1,a2,a3,rfl⟩
theorem len5 {α:Type} {us:List α} (h:us.length=5):∃ a0 a1 a2 a3 a4,us=[a0,a1,a2,a3,a4]:=by
  obtain ⟨a0,t,rfl,h2⟩:=len_succ h
  obtain ⟨a1,a2,a3,a4,rfl⟩:=len4 h2
  exact ⟨a0,a1,a2,a3,a4,rfl⟩
end L2
set_option Elab.async false
set_option linter.all false
set_option maxRecDepth 100000
namespace L2
open PySem PySem.Spec PyProof.Rows
section
variable {PK:Pk} {X:Cx} {pos:Pos} {n:Nat} {is:List Sl→Tr (List PyData)} {s t:List Sl→Tr Ou}
end
end L2
set_option Elab.async false
set_option linter.all false
set_option maxRecDepth 100000
namespace L2
open PySem PySem.Spec PyProof.Rows
section
variable {PK:Pk} {X:Cx} {a b c d e:Expr} {pos:Pos} {i j l n:List Sl→Tr PyData}
open Classical in
noncomputable def eqU' (h:Heap) (dx:PyData) (u:Value):Bool:=decide (∃ y as,Reads h u y as∧y.canLay0=true∧PyData.eqv y dx=true)
open Classical in
theorem eqU'_is {h:Heap} {dx y:PyData} {u:Value} {as:List Addr} (r:Reads h u y as) (hy:y.canLay0=true):eqU' h dx u=PyData.eqv y dx:=by
  unfold eqU'
  cases he:PyData.eqv y dx with
  | true=>exact decide_eq_true ⟨y,as,r,hy,he⟩
  | false =>
    refine decide_eq_false fun z=>?_
    obtain ⟨y',as',r',hy',e'⟩:=z
    have:=SeqAt.Reads.unique y y' u as as' hy r r'
    subst this
    rw [he] at e'; cases e'
theorem any_data {P:Program} {w:World} {H:Hp} {h:Heap} (ok:HOk P w H h) {dx:PyData}:∀ {vs:List V} {ds:List PyData} {us:List Value},DnAll H vs ds→ds.all SeqAt.shaped=true→Vals vs us→us.any (eqU' h dx)=ds.any fun y=>PyData.eqv y dx
  | _,_,_,.nil,_,.nil=>rfl
  | _,_,_,.cons a t,f,.cons r rs=>by
    rw [List.all_cons,Bool.and_eq_true] at f
    obtain ⟨as,r1⟩:=Dn.reads ok a (PyData.hasDict_of_canLay _ (SeqAt.canLay_of_shaped f.1)) r
    rw [List.any_cons,List.any_cons,eqU'_is r1 (SeqAt.canLay_of_shaped f.1),any_data ok t f.2 rs]
theorem mem_data {P:Program} {w:World} {H:Hp} {s:Shared} (ok:HOk P w H s.heap) {A:Around} (hu:A.units+64 < cLine) {dx:PyData} {v:Value} {bs:List Addr} (rv:Reads s.heap v dx bs) (hx:SeqAt.shaped dx=true):∀ {vs:List V} {ds:List PyData} {us:List Value},DnAll H vs ds→ds.all SeqAt.shaped=true→Vals vs us→∀ u∈us,SeqAt.EqAt A s u v (eqU' s.heap dx u)
  | _,_,_,.nil,_,.nil=>fun u hu=>by cases hu
  | _,_,_,.cons a t,f,.cons r rs=>fun u hm=>by
    rw [List.all_cons,Bool.and_eq_true] at f
    rcases List.mem_cons.mp hm with rfl | hm
    · obtain ⟨as,r1⟩:=Dn.reads ok a (PyData.hasDict_of_canLay _ (SeqAt.canLay_of_shaped f.1)) r
      rw [eqU'_is r1 (SeqAt.canLay_of_shaped f.1)]
      exact SeqAt.eqAt_reads _ _ A s _ _ _ _ r1 rv (SeqAt.canLay_of_shaped f.1) (SeqAt.canLay_of_shaped hx) (SeqAt.room_of_shaped f.1 hu)
    · exact mem_data ok hu rv hx t f.2 rs u hm
noncomputable def rInL (neg:Bool):R2:=fun x y H Q=>∃ dx ds,Dn H x dx∧Dn H y (.list ds)∧SeqAt.shaped dx=true∧ds.all SeqAt.shaped=true∧Q (.bl (if neg then !(ds.any fun z=>PyData.eqv z dx) else ds.any fun z=>PyData.eqv z dx)) H
theorem op_inL {k:Nat} (hr:Room k X.A):OpR X (compareOp .In) (rInL false):=by
  intro pins s σ H x y v u Q I rx ry h
  obtain ⟨dx,ds,hx,hy,sx,sd,q⟩:=h
  cases hy with
  | lst e1 e2 =>
    cases ry
    obtain ⟨its,r,pl,hz⟩:=I.list (SqL.of e1)
    obtain ⟨as,rv⟩:=Dn.reads I.hok hx (PyData.hasDict_of_canLay _ (SeqAt.canLay_of_shaped sx)) rx
    have hu:X.A.in1.units+64 < cLine:=by have:=hr.un; show X.A.units+_+64 < _; omega
    refine SeqAt.in_listAt (eqU' s.heap dx) pl.isList (fun w hw=>mem_data I.hok hu rv sx e2 sd r w (by simpa using hw)) ⟨.bl _,H,I,rfl,?_⟩
    rw [show its.toArray.any (eqU' s.heap dx)=its.any (eqU' s.heap dx) by simp,any_data I.hok e2 sd r]
    exact q
noncomputable def inL (neg:Bool):PyData→PyData→Option PyData
  | x,.list ds=>if (SeqAt.shaped x && ds.all SeqAt.shaped)=true then some (.bool (if neg then !(ds.any fun z=>PyData.eqv z x) else ds.any fun z=>PyData.eqv z x)) else none
  | _,_=>none
theorem vo_inL {neg:Bool}:VOp2 (rInL neg) (inL neg):=fun PK pa m G H x y dx dy dz Q w hx hy hz k=>by
  unfold inL at hz
  split at hz
  · split at hz
    · rename_i hc
      rw [Bool.and_eq_true] at hc
      cases hz
      exact ⟨_,_,hx.mono w.sub,hy.mono w.sub,hc.1,hc.2,k.here w (.bl _)⟩
    · cases hz
  · cases hz
noncomputable def tTest3 (r1 r2 r3:R2) (ta tb tc td:TE):TT:=fun σ H Q=>ta σ H fun x H1=>tb σ H1 fun y H2=>r1 x y H2 fun z H3=>∃ k,z=.bl k ∧
  (if k=true then tc σ H3 fun u H4=>r2 y u H4 fun z2 H5=>∃ k2,z2=.bl k2∧(if k2=true then td σ H5 fun v H6=>r3 u v H6 fun z3 H7=>∃ k3,z3=.bl k3∧Q k3 H7 else Q false H5) else Q false H3)
theorem pt_chain3 {ta tb tc td:TE} {o1 o2 o3:CmpOp} {r1 r2 r3:R2} (h1:OpR X (compareOp o1) r1) (h2:OpR X (compareOp o2) r2) (h3:OpR X (compareOp o3) r3) (ha:PE X a ta) (hb:PE X b tb) (hc:PE X c tc) (hd:PE X d td)
    (hm:lastMarks [o1,o2,o3] [b,c,d]=false:=by with_unfolding_all rfl):PT X (.Compare a [o1,o2,o3] [b,c,d] pos) (tTest3 r1 r2 r3 ta tb tc td):=by
  intro pins s σ H Q I h
  refine isTrue_chain (thn (ha pins s σ H _ I h) fun v s1 h'=>?_) hm
  obtain ⟨x,H1,I1,e1,q1⟩:=h'
  refine test_link (thn (hb pins s1 σ H1 _ I1 q1) fun u s2 h'=>?_)
  obtain ⟨y,H2,I2,e2,q2⟩:=h'
  refine thn (h1 pins s2 σ H2 x y v u _ I2 e1 e2 q2) fun d1 s3 h'=>?_
  obtain ⟨z,H3,I3,e3,k,ek,q3⟩:=h'
  subst ek
  cases e3
  refine wpAny_truthy_bool ?_
  cases k with
  | false=>exact ite_ff ⟨H3,I3,q3⟩
  | true =>
    refine ite_tt (test_link (thn (hc pins s3 σ H3 _ I3 q3) fun u' s4 h'=>?_))
    obtain ⟨y',H4,I4,e4,q4⟩:=h'
    refine thn (h2 pins s4 σ H4 y y' u u' _ I4 e2 e4 q4) fun d2 s5 h'=>?_
    obtain ⟨z',H5,I5,e5,k2,ek2,q5⟩:=h'
    subst ek2
    cases e5
    refine wpAny_truthy_bool ?_
    cases k2 with
    | false=>exact ite_ff ⟨H5,I5,q5⟩
    | true =>
      refine ite_tt (test_last (thn (hd pins s5 σ H5 _ I5 q5) fun u'' s6 h'=>?_))
      obtain ⟨y'',H6,I6,e6,q6⟩:=h'
      refine thn (h3 pins s6 σ H6 y' y'' u' u'' _ I6 e4 e6 q6) fun d3 s7 h'=>?_
      obtain ⟨z'',H7,I7,e7,k3,ek3,q7⟩:=h'
      subst ek3
      cases e7
      exact wpAny_truthy_bool ⟨H7,I7,q7⟩
noncomputable def aChain3 (f g h:PyData→PyData→Option PyData) (i j l n:List Sl→Tr PyData):List Sl→Tr Bool:=fun ρ=>(i ρ).bind fun x=>(j ρ).bind fun y=>(Tr.of (f x y)).bind fun z=>(Tr.of (toB z)).bind fun k =>
  if k=true then (l ρ).bind fun u=>(Tr.of (g y u)).bind fun z2=>(Tr.of (toB z2)).bind fun k2=>if k2=true then (n ρ).bind fun v=>(Tr.of (h u v)).bind fun z3=>Tr.of (toB z3) else .ret false else .ret false
theorem chain3_read {r1 r2 r3:R2} {f g h:PyData→PyData→Option PyData} (v1:VOp2 r1 f) (v2:VOp2 r2 g) (v3:VOp2 r3 h):∀ σ H Q,TAt PK (aChain3 f g h i j l n) σ H Q→tTest3 r1 r2 r3 (TAe PK i) (TAe PK j) (TAe PK l) (TAe PK n) σ H Q:=by
  rintro σ H Q ⟨pa,G₀,H₀,m,ρ,G,R,q⟩
  refine TAe.then R q fun m1 x v G1 H1 s1 w1 R1 d1 q1=>?_
  refine TAe.then R1 q1 fun m2 y u G2 H2 s2 w2 R2 d2 q2=>?_
  rw [Tr.ok_bind] at q2
  obtain ⟨z,hz,q3⟩:=Tr.ok_of q2
  rw [Tr.ok_bind] at q3
  obtain ⟨k,hk,q5⟩:=Tr.ok_of q3
  have s12:=s1.trans s2 w1.some
  refine v1 PK pa m2 G2 H2 v u x y z _ w2 (d1.mono s2.gs) d2 hz fun zz G3 H3 s3 w3 d3=>?_
  have s13:=s12.trans s3 w2.some
  cases d3 <;> simp only [toB] at hk <;> cases hk
  refine ⟨_,rfl,?_⟩
  split
  · rename_i hk1
    rw [if_pos hk1] at q5
    refine TAe.then (R2.step s3 w3) q5 fun m4 u' vu G4 H4 s4 w4 R4 d4 q4=>?_
    rw [Tr.ok_bind] at q4
    obtain ⟨z2,hz2,q6⟩:=Tr.ok_of q4
    rw [Tr.ok_bind] at q6
    obtain ⟨k2,hk2,q7⟩:=Tr.ok_of q6
    have s14:=s13.trans s4 w3.some
    refine v2 PK pa m4 G4 H4 u vu y u' z2 _ w4 ((d2.mono s3.gs).mono s4.gs) d4 hz2 fun zz2 G5 H5 s5 w5 d5=>?_
    have s15:=s14.trans s5 w4.some
    cases d5 <;> simp only [toB] at hk2 <;> cases hk2
    refine ⟨_,rfl,?_⟩
    split
    · rename_i hk3
      rw [if_pos hk3] at q7
      refine TAe.then (R4.step s5 w5) q7 fun m6 v' vv G6 H6 s6 w6 R6 d6 q8=>?_
      rw [Tr.ok_bind] at q8
      obtain ⟨z3,hz3,q9⟩:=Tr.ok_of q8
      obtain ⟨k3,hk4,q10⟩:=Tr.ok_of q9
      have s16:=s15.trans s6 w5.some
      refine v3 PK pa m6 G6 H6 vu vv u' v' z3 _ w6 ((d4.mono s5.gs).mono s6.gs) d6 hz3 fun zz3 G7 H7 s7 w7 d7=>?_
      have s17:=s16.trans s7 w6.some
      cases d7 <;> simp only [toB] at hk4 <;> cases hk4
      exact ⟨_,rfl,q10 G7 H7 s17 w7⟩
    · rename_i hk3
      rw [if_neg hk3] at q7
      exact q7 G5 H5 s15 w5
  · rename_i hk1
    rw [if_neg hk1] at q5
    exact q5 G3 H3 s13 w3
theorem at_chain3 {o1 o2 o3:CmpOp} {r1 r2 r3:R2} {f g h:PyData→PyData→Option PyData} (h1:OpR X (compareOp o1) r1) (v1:VOp2 r1 f) (h2:OpR X (compareOp o2) r2) (v2:VOp2 r2 g) (h3:OpR X (compareOp o3) r3) (v3:VOp2 r3 h) (ha:PE X a (TAe PK i)) (hb:PE X b (TAe PK j)) (hc:PE X c (TAe PK l)) (hd:PE X d (TAe PK n))
    (hm:lastMarks [o1,o2,o3] [b,c,d]=false:=by with_unfolding_all rfl):PT X (.Compare a [o1,o2,o3] [b,c,d] pos) (TAt PK (aChain3 f g h i j l n)):=(pt_chain3 h1 h2 h3 ha hb hc hd hm).imp (chain3_read v1 v2 v3)
theorem chain3_eq {ρ:List Sl} {x y u v:Int} (hi:i ρ=.ret (.int x)) (hj:j ρ=.ret (.int y)) (hl:l ρ=.ret (.int u)) (hn:n ρ=.ret (.int v)) :
    aChain3 (cmpD fun i j=>decide (i≤j)) (cmpD fun i j=>decide (i < j)) (cmpD fun i j=>decide (i < j)) i j l n ρ=.ret (decide (x≤y) && decide (y < u) && decide (u < v)):=by
  unfold aChain3
  rw [hi,Tr.ret_bind,hj,Tr.ret_bind]
  show (Tr.ret (PyData.bool (decide (x≤y)))).bind _=_
  rw [Tr.ret_bind]
  show (Tr.ret (decide (x≤y))).bind _=_
  rw [Tr.ret_bind]
  by_cases h1:x≤y
  · rw [decide_eq_true h1,if_pos rfl,hl,Tr.ret_bind]
    show (Tr.ret (PyData.bool (decide (y < u)))).bind _=_
    rw [Tr.ret_bind]
    show (Tr.ret (decide (y < u))).bind _=_
    rw [Tr.ret_bind]
    by_cases h2:y < u
    · rw [decide_eq_true h2,if_pos rfl,hn,Tr.ret_bind]
      rfl
    · rw [decide_eq_false h2,if_neg Bool.false_ne_true]
      rfl
  · rw [decide_eq_false h1,if_neg Bool.false_ne_true]
    rfl
end
end L2
set_option Elab.async false
set_option linter.all false
set_option maxRecDepth 100000
set_option exponentiation.threshold 9000
namespace Tw
open PySem L2
noncomputable def nb (k:Nat) (n:Int):Prop:=n.natAbs < 2 ^ k
theorem nb_fit {k:Nat} {n:Int} (h:nb k n) (hk:k≤8000):fit n=true:=decide_eq_true (Nat.lt_of_lt_of_le h (Nat.pow_le_pow_right (by decide) hk))
theorem nb_mono {k l:Nat} {n:Int} (h:nb k n) (hk:k≤l):nb l n:=Nat.lt_of_lt_of_le h (Nat.pow_le_pow_right (by decide) hk)
theorem nb_mul {k l:Nat} {m n:Int} (h:nb k m) (h':nb l n):nb (k+l) (m * n):=by
  unfold nb at *
  rw [Int.natAbs_mul,Nat.pow_add]
  exact Nat.mul_lt_mul'' h h'
theorem nb_add {k l:Nat} {m n:Int} (h:nb k m) (h':nb l n):nb (max k l+1) (m+n):=by
  have h1:=nb_mono h (Nat.le_max_left k l)
  have h2:=nb_mono h' (Nat.le_max_right k l)
  unfold nb at *
  rw [Nat.pow_succ,Nat.mul_two]
  exact Nat.lt_of_le_of_lt (Int.natAbs_add_le m n) (Nat.add_lt_add h1 h2)
theorem nb_neg {k:Nat} {n:Int} (h:nb k n):nb k (-n):=by
  unfold nb at *
  omega
theorem nb_sub {k l:Nat} {m n:Int} (h:nb k m) (h':nb l n):nb (max k l+1) (m - n):=by
  rw [Int.sub_eq_add_neg]
  exact nb_add h (nb_neg h')
theorem nb_of {k:Nat} {n:Int} (h1:-(2 ^ k:Nat) < n) (h2:n < (2 ^ k:Nat)):nb k n:=by
  unfold nb
  omega
theorem nb_ite {k:Nat} {c:Prop} [Decidable c] {m n:Int} (h:nb k m) (h':nb k n):nb k (if c then m else n):=by split <;> assumption
noncomputable def ws (f:Int→Int):Nat→List Int→Int
  | _,[]=>0
  | k,w::l=>w * f k+ws f (k+1) l
theorem sum_nb {a:Nat}:∀ {l:List Int},(∀ w∈l,nb a w)→nb (a+l.length) l.sum
  | [],h=>by unfold nb; simp; exact Nat.pos_of_ne_zero (by simp)
  | w::l,h=>by
    rw [List.sum_cons]
    refine nb_mono (nb_add (h w (by simp)) (sum_nb (l:=l) fun v hv=>h v (List.mem_cons_of_mem _ hv))) ?_
    rw [List.length_cons]
    omega
structure Shp where
  top:Int
  depth:Int
  start:Int
  piece:Int
  keep:Int
  lack:Int
  lost:Int
  back:Int
  late:Int
noncomputable def Shp.l (s:Shp):List Int:=[s.top,s.depth,s.start,s.piece,s.keep,s.lack,s.lost,s.back,s.late]
@[irreducible] noncomputable def Shp.d (s:Shp):PyData:=.tuple (s.l.map PyData.int)
structure Shp.Ok (s:Shp):Prop where
  t0:0≤s.top
  d0:0≤s.depth
  td:s.top+s.depth≤100
  start0:0≤s.start
  start:nb 45 s.start
  piece:nb 45 s.piece
  keep:nb 45 s.keep
  lack:nb 45 s.lack
  lost:nb 45 s.lost
  back:nb 45 s.back
  late:nb 45 s.late
theorem shp_0 (s:Shp):bin2 ixD s.d (.int 0)=.ret (.int s.top):=by unfold Shp.d; rw [ev_ixT]; exact congrArg Tr.of at_0
theorem shp_1 (s:Shp):bin2 ixD s.d (.int 1)=.ret (.int s.depth):=by unfold Shp.d; rw [ev_ixT]; exact congrArg Tr.of at_1
theorem shp_2 (s:Shp):bin2 ixD s.d (.int 2)=.ret (.int s.start):=by unfold Shp.d; rw [ev_ixT]; exact congrArg Tr.of at_2
theorem shp_3 (s:Shp):bin2 ixD s.d (.int 3)=.ret (.int s.piece):=by unfold Shp.d; rw [ev_ixT]; exact congrArg Tr.of at_3
theorem shp_4 (s:Shp):bin2 ixD s.d (.int 4)=.ret (.int s.keep):=by unfold Shp.d; rw [ev_ixT]; exact congrArg Tr.of at_4
theorem shp_5 (s:Shp):bin2 ixD s.d (.int 5)=.ret (.int s.lack):=by unfold Shp.d; rw [ev_ixT]; exact congrArg Tr.of at_5
theorem shp_6 (s:Shp):bin2 ixD s.d (.int 6)=.ret (.int s.lost):=by unfold Shp.d; rw [ev_ixT]; exact congrArg Tr.of at_6
theorem shp_7 (s:Shp):bin2 ixD s.d (.int 7)=.ret (.int s.back):=by unfold Shp.d; rw [ev_ixT]; exact congrArg Tr.of at_7
theorem shp_8 (s:Shp):bin2 ixD s.d (.int 8)=.ret (.int s.late):=by unfold Shp.d; rw [ev_ixT]; exact congrArg Tr.of at_8
section
variable (s:Shp)
noncomputable def Shp.nx (y f:Int):Int:=maxI (y - f) (-s.depth)
noncomputable def Shp.day (y f:Int):Int:=(if s.nx y f > 0 then s.keep * s.nx y f else s.lack * -s.nx y f)+s.lost * (s.nx y f - (y - f))
noncomputable def Shp.fin (x:Int):Int:=if x > 0 then -s.back * x else s.late * -x
noncomputable def Shp.wg (day:List Int) (y:Int) (ahead:Int→Int) (sc:Int):Int:=ws (fun f=>sc * s.day y f+ahead (s.nx y f)) 0 day
noncomputable def Shp.sm (day:List Int) (ahead:Int→Int) (sc:Int) (y:Int):Int:=sc * day.sum * s.piece * y+s.wg day y ahead sc
end
noncomputable def Shp.n (s:Shp):Nat:=(s.top+1 - -s.depth).toNat
noncomputable def Shp.row (s:Shp) (f:Int→Int):List Int:=(rangeI (-s.depth) s.n).map f
noncomputable def lI (l:List Int):PyData:=.list (l.map PyData.int)
noncomputable def tI (l:List Int):PyData:=.tuple (l.map PyData.int)
noncomputable def fD (fs:List (List Int)):PyData:=.tuple (fs.map tI)
theorem Shp.Ok.n_eq {s:Shp} (h:s.Ok):(s.n:Int)=s.top+s.depth+1:=by have:=h.t0; have:=h.d0; unfold Shp.n; omega
theorem row_len (s:Shp) (f:Int→Int):(s.row f).length=s.n:=by unfold Shp.row; rw [List.length_map,rangeI_length]
theorem row_at {s:Shp} {f:Int→Int} {x:Int} (h1:-s.depth≤x) (h2:x≤s.top):(s.row f)[(x+s.depth).toNat]?=some (f x):=by
  unfold Shp.row rangeI
  rw [List.map_map,List.getElem?_map,List.getElem?_range (by unfold Shp.n; omega)]
  show some (f (-s.depth+((x+s.depth).toNat:Int)))=_
  congr 2
  omega
theorem row_atI {s:Shp} {f:Int→Int} {x:Int} (h1:-s.depth≤x) (h2:x≤s.top):atI ((s.row f).map PyData.int) (x+s.depth)=some (.int (f x)) :=
  atI_ge (by omega) (by rw [List.getElem?_map,row_at h1 h2]; rfl)
theorem nx_ge (s:Shp) (y f:Int):-s.depth≤s.nx y f:=by unfold Shp.nx maxI; split <;> omega
theorem nx_le {s:Shp} (h:s.Ok) {y f:Int} (hy:y≤s.top) (hf:0≤f):s.nx y f≤s.top:=by have:=h.t0; have:=h.d0; unfold Shp.nx maxI; split <;> omega
end Tw
set_option Elab.async false
set_option linter.all false
set_option maxRecDepth 100000
namespace L2
open PySem PySem.Spec PyProof.Rows
variable {ρ:List Sl} {s t:List Sl→Tr Ou} {i j l:List Sl→Tr PyData} {is:List Sl→Tr (List PyData)} {k n:Nat} {x y d:PyData} {xs ys:List PyData} {sl:Sl}
theorem rb2 {α β:Type} {a:α} {f:α→Tr β}:(Tr.ret a).bind f=f a:=Eq.trans (Tr.ret_bind a f) (Eq.refl _)
theorem g_lst2 {gs:List PyData→List Sl→Option (List Sl)}:gLstD gs (.list xs) ρ=gs xs ρ:=by
  cases h:gs xs ρ <;> exact h
noncomputable def rvi2 (xs:List PyData):Tr (List PyData):=.ret xs.reverse
noncomputable def rvi1 (x:PyData):Tr (List PyData):=(it1 x).bind rvi2
theorem ev_revI:aRevI i ρ=(i ρ).bind rvi1:=rfl
theorem ev_rvi1:rvi1 x=(it1 x).bind rvi2:=rfl
theorem ev_rvi2:rvi2 xs=.ret xs.reverse:=rfl
noncomputable def rvr2 (xs:List PyData):Tr (List PyData):=(rng2 xs).bind rvi2
theorem ev_revR2:aRevR2 is ρ=(is ρ).bind rvr2:=rfl
theorem ev_rvr2:rvr2 xs=(rng2 xs).bind rvi2:=rfl
theorem ev_revL:bin2 revD (.list xs) (.int (-1))=.ret (.list xs.reverse):=rfl
theorem ev_revT:bin2 revD (.tuple xs) (.int (-1))=.ret (.tuple xs.reverse):=rfl
noncomputable def ext2 (k:Nat) (ρ:List Sl) (xs:List PyData):PyData→Tr Ou
  | .list ys=>if small (xs.length+ys.length)=true then .ret (.next (ρ.set k (.own (xs++ys)))) else .fail
  | _=>.fail
noncomputable def ext1 (k:Nat) (i:List Sl→Tr PyData) (ρ:List Sl) (xs:List PyData):Tr Ou:=(i ρ).bind (ext2 k ρ xs)
theorem ev_ext:aExt k i ρ=(ownAt k ρ).bind (ext1 k i ρ):=by
  refine Eq.trans ?_ (own_eq k ρ)
  unfold aExt
  cases ρ[k]? with
  | none=>rfl
  | some sl =>
    cases sl with
    | own xs=>exact congrArg (Tr.bind (i ρ)) (funext fun x=>by cases x <;> rfl)
    | _=>rfl
theorem ev_ext1:ext1 k i ρ xs=(i ρ).bind (ext2 k ρ xs):=rfl
theorem ev_ext2 (h:small (xs.length+ys.length)=true):ext2 k ρ xs (.list ys)=.ret (.next (ρ.set k (.own (xs++ys)))):=by
  show (if small (xs.length+ys.length)=true then _ else _)=_
  rw [if_pos h]
noncomputable def ins3 (k:Nat) (ρ:List Sl) (xs:List PyData) (x:PyData):PyData→Tr Ou
  | .int t=>if (decide (0≤t) && decide (t≤1000) && decide (xs.length≤1000))=true then .ret (.next (ρ.set k (.own (xs.take t.toNat++x::xs.drop t.toNat)))) else .fail
  | _=>.fail
noncomputable def ins2 (k:Nat) (ρ:List Sl) (xs:List PyData) (y x:PyData):Tr Ou:=ins3 k ρ xs x y
noncomputable def ins1 (k:Nat) (i:List Sl→Tr PyData) (ρ:List Sl) (xs:List PyData) (y:PyData):Tr Ou:=(i ρ).bind (ins2 k ρ xs y)
noncomputable def ins0 (k:Nat) (j i:List Sl→Tr PyData) (ρ:List Sl) (xs:List PyData):Tr Ou:=(j ρ).bind (ins1 k i ρ xs)
theorem ev_ins:aIns k j i ρ=(ownAt k ρ).bind (ins0 k j i ρ):=by
  refine Eq.trans ?_ (own_eq k ρ)
  unfold aIns
  cases ρ[k]? with
  | none=>rfl
  | some sl =>
    cases sl with
    | own xs=>exact congrArg (Tr.bind (j ρ)) (funext fun y=>congrArg (Tr.bind (i ρ)) (funext fun x=>by cases y <;> rfl))
    | _=>rfl
theorem ev_ins0:ins0 k j i ρ xs=(j ρ).bind (ins1 k i ρ xs):=rfl
theorem ev_ins1:ins1 k i ρ xs y=(i ρ).bind (ins2 k ρ xs y):=rfl
theorem ev_ins2 (h:xs.length≤1000):ins2 k ρ xs (.int 0) x=.ret (.next (ρ.set k (.own (x::xs)))):=by
  show (if (decide ((0:Int)≤0) && decide ((0:Int)≤1000) && decide (xs.length≤1000))=true then _ else _)=_
  rw [if_pos (by simp [h])]
  rfl
theorem ev_min2T (a b c d:Int):cb1 min2T [.tuple [.int a,.int b],.tuple [.int c,.int d]]=.ret (if c < a∨c=a∧d < b then .tuple [.int c,.int d] else .tuple [.int a,.int b]):=by
  have h1:ints? [PyData.int a,.int b]=some [a,b]:=ints?_map [a,b]
  have h2:ints? [PyData.int c,.int d]=some [c,d]:=ints?_map [c,d]
  unfold cb1 min2T
  simp only [h1,h2]
  show Tr.of (some _)=_
  rw [Tr.of_some]
  have e:HT.lexLt [c,d] [a,b]=true ↔ (c < a∨c=a∧d < b):=by
    simp only [HT.lexLt_cons,HT.lexLt_nil_nil]
    by_cases hca:c=a
    · subst hca
      by_cases hdb:d=b
      · simp [hdb]
      · simp [hdb]
    · simp [hca]
  by_cases hc:(c < a∨c=a∧d < b)
  · rw [if_pos (e.mpr hc),if_pos hc]; rfl
  · rw [if_neg (fun z=>hc (e.mp z)),if_neg hc]; rfl
theorem min1_of (ns:List Int) (h:ns≠[]):cb1 min1D [.list (ns.map PyData.int)]=.ret (.int (minL ns)):=by
  unfold cb1 min1D onL
  simp [h]
theorem min1_cons (n:Int) (ns:List Int):cb1 min1D [.list (PyData.int n::ns.map PyData.int)]=.ret (.int (minL (n::ns))):=min1_of (n::ns) (by simp)
theorem max1_of (ns:List Int) (h:ns≠[]):cb1 max1D [.list (ns.map PyData.int)]=.ret (.int (maxL ns)):=by
  unfold cb1 max1D onL
  simp [h]
theorem al_ex {α:Type} {t:Tr α} {P:α→Prop} (h:Al t 0 P):∃ a,t=.ret a∧P a:=by
  have h':=h.out
  cases t with
  | ret a=>exact ⟨a,rfl,h'⟩
  | draw w k=>exact h'.elim
  | fail=>exact h'.elim
theorem al_eq {α:Type} {t:Tr α} {a:α} (h:Al t 0 fun b=>b=a):t=.ret a:=by
  obtain ⟨b,e,rfl⟩:=al_ex h
  exact e
theorem al_of {α:Type} {t:Tr α} {a:α} {P:α→Prop} {N:Nat} (h:t=.ret a) (hp:P a):Al t N P:=by rw [h]; exact al_ret hp
theorem for_all2 {s:List Sl→Tr Ou} {g:PyData→List Sl→Option (List Sl)} {n:Nat} {full:List PyData} (I:List PyData→List Sl→Prop) {Q:Ou→Prop} (ht:∀ pre x post ρ,full=pre++x::post→I pre ρ→∃ ρ1,g x ρ=some ρ1∧(s ρ1).all n fun o=>∃ ρ2,o=.next ρ2∧I (pre++[x]) ρ2) (hq:∀ ρ,I full ρ→Q (.next ρ)) :
    ∀ {xs pre:List PyData} {ρ:List Sl},full=pre++xs→I pre ρ→(forL g s xs ρ).all (xs.length * n) Q
  | [],pre,ρ,e,h0=>hq ρ (by rw [e,List.append_nil]; exact h0)
  | x::xs,pre,ρ,e0,h0=>by
    obtain ⟨ρ1,e,ha⟩:=ht pre x xs ρ e0 h0
    have en:(x::xs).length * n=n+xs.length * n:=by rw [List.length_cons,Nat.succ_mul]; omega
    rw [en,for_cons,e,Tr.of_some,Tr.ret_bind]
    unfold for2
    refine Tr.all_bind ha fun o ⟨ρ2,eo,h2⟩=>?_
    subst eo
    rw [ev_for3n]
    exact for_all2 I ht hq (by rw [e0,List.append_assoc]; rfl) h2
theorem al_forQ {n N:Nat} {g:PyData→List Sl→Option (List Sl)} {s:List Sl→Tr Ou} {xs:List PyData} {ρ:List Sl} {Q:Ou→Prop} (I:List PyData→List Sl→Prop) (h0:I [] ρ) (hN:xs.length * n≤N) (ht:∀ pre x post ρ,xs=pre++x::post→I pre ρ→∃ ρ1,g x ρ=some ρ1∧Al (s ρ1) n fun o=>∃ ρ2,o=.next ρ2∧I (pre++[x]) ρ2) (hq:∀ ρ,I xs ρ→Q (.next ρ)):Al (forL g s xs ρ) N Q :=
  .of (Tr.all_mono (for_all2 (full:=xs) I (fun pre x post ρ e h=>let ⟨ρ1,e,a⟩:=ht pre x post ρ e h; ⟨ρ1,e,a.out⟩) hq (pre:=[]) rfl h0) hN fun _ h=>h)
theorem for_find {g:PyData→List Sl→Option (List Sl)} {s:List Sl→Tr Ou} {f:PyData→Option Re} (I:List Sl→Prop) :
    ∀ {xs:List PyData} {ρ:List Sl},(∀ x∈xs,∀ ρ,I ρ→∃ ρ1,g x ρ=some ρ1∧((∃ r,f x=some r∧s ρ1=.ret (.ret r))∨(f x=none∧∃ ρ2,s ρ1=.ret (.next ρ2)∧I ρ2)))→I ρ →
      (∃ r,xs.findSome? f=some r∧forL g s xs ρ=.ret (.ret r))∨(xs.findSome? f=none∧∃ ρ2,forL g s xs ρ=.ret (.next ρ2)∧I ρ2)
  | [],ρ,_,h0=>.inr ⟨rfl,ρ,rfl,h0⟩
  | x::xs,ρ,h,h0=>by
    obtain ⟨ρ1,e,hx⟩:=h x (by simp) ρ h0
    rw [for_cons,e,Tr.of_some,Tr.ret_bind]
    unfold for2
    rcases hx with ⟨r,e1,e2⟩ | ⟨e1,ρ2,e2,h2⟩
    · exact .inl ⟨r,by simp [e1],by rw [e2,Tr.ret_bind]; rfl⟩
    · rw [e2,Tr.ret_bind,ev_for3n]
      rcases for_find I (fun y hy=>h y (List.mem_cons_of_mem _ hy)) h2 with ⟨r,q1,q2⟩ | ⟨q1,ρ3,q2,q3⟩
      · exact .inl ⟨r,by simp [e1,q1],q2⟩
      · exact .inr ⟨by simp [e1,q1],ρ3,q2,q3⟩
theorem rngL_mid {lo hi:Int} {pre post:List PyData} {x:PyData} (h:rngL lo hi=pre++x::post):x=.int (lo+pre.length)∧(pre.length:Int) < hi - lo:=by
  have h1:(rngL lo hi)[pre.length]?=some x:=by rw [h]; simp
  have hl:pre.length < (rngL lo hi).length:=(List.getElem?_eq_some_iff.mp h1).1
  rw [rngL_len] at hl
  unfold rngL rangeI at h1
  rw [List.map_map,List.getElem?_map,List.getElem?_range (by omega)] at h1
  refine ⟨?_,by omega⟩
  cases h1
  rfl
theorem rngR_mid {lo hi:Int} {pre post:List PyData} {x:PyData} (h:(rngL lo hi).reverse=pre++x::post):x=.int (hi - 1 - pre.length)∧(pre.length:Int) < hi - lo:=by
  have h1:((rngL lo hi).reverse)[pre.length]?=some x:=by rw [h]; simp
  have hl:pre.length < ((rngL lo hi).reverse).length:=(List.getElem?_eq_some_iff.mp h1).1
  rw [List.length_reverse,rngL_len] at hl
  rw [List.getElem?_reverse (by rw [rngL_len]; exact hl),rngL_len] at h1
  unfold rngL rangeI at h1
  rw [List.map_map,List.getElem?_map,List.getElem?_range (by omega)] at h1
  refine ⟨?_,by omega⟩
  cases h1
  show PyData.int (lo+(((hi - lo).toNat - 1 - pre.length:Nat):Int))=_
  congr 1
  omega
theorem rngL_mem {lo hi:Int} {x:PyData} (h:x∈rngL lo hi):∃ z:Int,x=.int z∧lo≤z∧z < hi:=by
  unfold rngL at h
  obtain ⟨z,hz,rfl⟩:=List.mem_map.mp h
  have:=rangeI_mem hz
  exact ⟨z,rfl,by omega,by omega⟩
theorem mapT_rng {h:PyData→Tr PyData} {f:Int→PyData} {lo hi:Int} (hx:∀ z:Int,lo≤z→z < hi→h (.int z)=.ret (f z)):mapT h (rngL lo hi)=.ret ((rangeI lo (hi - lo).toNat).map f):=by
  have key:∀ l:List Int,(∀ z∈l,lo≤z∧z < hi)→mapT h (l.map PyData.int)=.ret (l.map f):=by
    intro l
    induction l with
    | nil=>intro _; rfl
    | cons z l ih =>
      intro hz
      have hh:=hz z (by simp)
      rw [List.map_cons,mapT,hx z hh.1 hh.2,Tr.ret_bind,ih fun y hy=>hz y (List.mem_cons_of_mem _ hy)]
      rfl
  unfold rngL
  refine key _ fun z hz=>?_
  have:=rangeI_mem hz
  omega
theorem enum_mid {xs:List PyData} {pre post:List PyData} {x:PyData} (h:enumD xs=pre++x::post):∃ y,xs[pre.length]?=some y∧x=.tuple [.int pre.length,y]:=by
  have h1:(enumD xs)[pre.length]?=some x:=by rw [h]; simp
  unfold enumD at h1
  rw [List.getElem?_zipWith] at h1
  cases hx:xs[pre.length]? with
  | none=>rw [hx] at h1; simp at h1
  | some y =>
    have hl:pre.length < xs.length:=(List.getElem?_eq_some_iff.mp hx).1
    rw [hx,List.getElem?_range hl] at h1
    simp at h1
    exact ⟨y,rfl,h1.symm⟩
theorem enumD_len (xs:List PyData):(enumD xs).length=xs.length:=by unfold enumD; simp
end L2
set_option Elab.async false
set_option linter.all false
set_option maxRecDepth 100000
namespace Tw
open PySem L2
noncomputable def bst (g:Int→Int) (top:Int):Nat→Int×Int
  | 0=>(g top,top)
  | n+1=>if (bst g top n).1 < g (top - ((n+1:Nat):Int)) then bst g top n else (g (top - ((n+1:Nat):Int)),top - ((n+1:Nat):Int))
theorem bst_lvl (g:Int→Int) (top:Int):∀ n:Nat,top - n≤(bst g top n).2∧(bst g top n).2≤top∧g (bst g top n).2=(bst g top n).1
  | 0=>by unfold bst; simp
  | n+1=>by
    have ih:=bst_lvl g top n
    unfold bst
    split
    · exact ⟨by omega,ih.2.1,ih.2.2⟩
    · exact ⟨Int.le_refl _,by omega,rfl⟩
theorem bst_min (g:Int→Int) (top:Int):∀ (n:Nat) (y:Int),top - n≤y→y≤top→(bst g top n).1≤g y
  | 0,y,h1,h2=>by
    have:y=top:=by omega
    subst this
    unfold bst
    exact Int.le_refl _
  | n+1,y,h1,h2=>by
    by_cases hy:y=top - ((n+1:Nat):Int)
    · unfold bst
      split
      · subst hy; omega
      · subst hy; exact Int.le_refl _
    · have ih:=bst_min g top n y (by omega) h2
      unfold bst
      split
      · exact ih
      · omega
noncomputable def pck (g:Int→Int) (top K x:Int):Int×Int :=
  match (top - x).toNat with
  | 0=>(g x,x)
  | n+1=>if K+(bst g top n).1 < g x then (K+(bst g top n).1,(bst g top n).2) else (g x,x)
noncomputable def cst (g:Int→Int) (top K P x:Int):Int:=(pck g top K x).1 - P * x
noncomputable def lvl (g:Int→Int) (top K x:Int):Int:=(pck g top K x).2
theorem pck_top (g:Int→Int) (top K:Int):pck g top K top=(g top,top):=by
  unfold pck
  rw [Int.sub_self]
  rfl
theorem pck_at (g:Int→Int) (top K:Int) (n:Nat):pck g top K (top - ((n+1:Nat):Int))=if K+(bst g top n).1 < g (top - ((n+1:Nat):Int)) then (K+(bst g top n).1,(bst g top n).2) else (g (top - ((n+1:Nat):Int)),top - ((n+1:Nat):Int)):=by
  unfold pck
  have e:(top - (top - ((n+1:Nat):Int))).toNat=n+1:=by omega
  rw [e]
theorem pck_le {g:Int→Int} {top K x:Int} (hx:x≤top):(pck g top K x).1≤g x∧∀ y,x < y→y≤top→(pck g top K x).1≤K+g y:=by
  by_cases ht:x=top
  · subst ht
    rw [pck_top]
    exact ⟨Int.le_refl _,fun y h1 h2=>by omega⟩
  · obtain ⟨n,hn⟩:∃ n:Nat,x=top - ((n+1:Nat):Int):=⟨(top - x - 1).toNat,by omega⟩
    subst hn
    rw [pck_at]
    split
    · rename_i hc
      exact ⟨by dsimp only; omega,fun y h1 h2=>by have:=bst_min g top n y (by omega) h2; dsimp only; omega⟩
    · rename_i hc
      exact ⟨Int.le_refl _,fun y h1 h2=>by have:=bst_min g top n y (by omega) h2; dsimp only; omega⟩
theorem pck_is {g:Int→Int} {top K x:Int} (hx:x≤top):x≤(pck g top K x).2∧(pck g top K x).2≤top∧(((pck g top K x).2=x∧(pck g top K x).1=g x)∨(x < (pck g top K x).2∧(pck g top K x).1=K+g (pck g top K x).2∧(pck g top K x).1 < g x)):=by
  by_cases ht:x=top
  · subst ht
    rw [pck_top]
    exact ⟨Int.le_refl _,Int.le_refl _,.inl ⟨rfl,rfl⟩⟩
  · obtain ⟨n,hn⟩:∃ n:Nat,x=top - ((n+1:Nat):Int):=⟨(top - x - 1).toNat,by omega⟩
    subst hn
    rw [pck_at]
    have hb:=bst_lvl g top n
    split
    · rename_i hc
      exact ⟨by dsimp only; omega,hb.2.1,.inr ⟨by dsimp only; omega,by dsimp only; rw [hb.2.2],hc⟩⟩
    · exact ⟨Int.le_refl _,by dsimp only; omega,.inl ⟨rfl,rfl⟩⟩
theorem pck_nb {g:Int→Int} {top K x:Int} {b:Nat} (hx:x≤top) (hg:∀ y,x≤y→y≤top→nb b (g y)) (hK:nb b K):nb (b+1) (pck g top K x).1:=by
  obtain ⟨h1,h2,h3⟩:=pck_is (g:=g) (K:=K) hx
  rcases h3 with ⟨e1,e2⟩ | ⟨e1,e2,e3⟩
  · rw [e2]
    exact nb_mono (hg x (Int.le_refl _) hx) (by omega)
  · rw [e2]
    exact nb_mono (nb_add hK (hg _ h1 h2)) (by omega)
structure DayB (l:List Int):Prop where
  len:l.length≤16
  nb:∀ w∈l,nb 30 w
  w0:∀ w∈l,0≤w
  pos:0 < l.sum
theorem day_nb {s:Shp} (h:s.Ok) {y f:Int} (hy:nb 20 y) (hf:nb 40 f):nb 100 (s.day y f):=by
  have hd:nb 7 s.depth:=by have:=h.t0; have:=h.d0; have:=h.td; exact nb_of (by show -128 < _; omega) (by show _ < 128; omega)
  have hn:nb 50 (s.nx y f):=by
    unfold Shp.nx maxI
    exact nb_ite (nb_mono (nb_neg hd) (by decide)) (nb_mono (nb_sub hy hf) (by decide))
  unfold Shp.day
  refine nb_mono (nb_add (nb_ite (k:=95) (nb_mul h.keep hn) (nb_mul h.lack (nb_neg hn))) (nb_mul h.lost (nb_sub hn (nb_sub hy hf)))) (by decide)
noncomputable def Bd (s:Shp) (b:Nat) (f:Int→Int):Prop:=∀ x,-s.depth≤x→x≤s.top→nb b (f x)
theorem wg_nb {s:Shp} (h:s.Ok) {day:List Int} (hd:DayB day) {y:Int} (y1:-s.depth≤y) (y2:y≤s.top) {A:Int→Int} {b:Nat} (hA:Bd s b A) {sc:Int} (hs:nb b sc):nb (b+150) (s.wg day y A sc):=by
  have:=h.t0
  have:=h.d0
  have:=h.td
  have hlen:=hd.len
  have hy:nb 20 y:=nb_of (by show -1048576 < _; omega) (by show _ < 1048576; omega)
  have key:∀ (l:List Int) (k:Nat),(∀ w∈l,nb 30 w)→k+l.length≤16→nb (30+(b+101)+l.length) (ws (fun f=>sc * s.day y f+A (s.nx y f)) k l):=by
    intro l
    induction l with
    | nil=>intro k _ _; unfold ws nb; exact Nat.pos_of_ne_zero (by simp)
    | cons w l ih =>
      intro k hw hk
      rw [List.length_cons] at hk ⊢
      have hf:nb 40 (k:Int):=nb_of (by show -1099511627776 < _; omega) (by show _ < 1099511627776; omega)
      have b1:=nb_add (nb_mul hs (day_nb h hy hf)) (hA _ (nx_ge s y k) (nx_le h y2 (show (0:Int)≤k by omega)))
      have h1:=nb_mul (hw w (by simp)) b1
      have h2:=ih (k+1) (fun v hv=>hw v (List.mem_cons_of_mem _ hv)) (by omega)
      unfold ws
      exact nb_mono (nb_add h1 h2) (by omega)
  exact nb_mono (key day 0 hd.nb (by omega)) (by omega)
theorem sum_nbD {day:List Int} (hd:DayB day):nb 46 day.sum:=nb_mono (sum_nb hd.nb) (by have:=hd.len; omega)
theorem sm_nb {s:Shp} (h:s.Ok) {day:List Int} (hd:DayB day) {A:Int→Int} {b:Nat} (hA:Bd s b A) {sc:Int} (hs:nb b sc):Bd s (b+151) (s.sm day A sc):=fun y y1 y2=>by
  have:=h.t0
  have:=h.d0
  have:=h.td
  have hy:nb 20 y:=nb_of (by show -1048576 < _; omega) (by show _ < 1048576; omega)
  unfold Shp.sm
  exact nb_mono (nb_add (nb_mul (nb_mul (nb_mul hs (sum_nbD hd)) h.piece) hy) (wg_nb h hd y1 y2 hA hs)) (by omega)
noncomputable def Shp.bk (s:Shp):List (List Int)→(Int→Int)×Int
  | []=>(s.fin,1)
  | day::rest=>(cst (s.sm day (s.bk rest).1 (s.bk rest).2) s.top ((s.bk rest).2 * day.sum * s.start) ((s.bk rest).2 * day.sum * s.piece),(s.bk rest).2 * day.sum)
noncomputable def Shp.sms (s:Shp) (day:List Int) (rest:List (List Int)) (y:Int):Int:=s.sm day (s.bk rest).1 (s.bk rest).2 y
theorem bk_sc {s:Shp}:∀ {fs:List (List Int)},(∀ l∈fs,DayB l)→0 < (s.bk fs).2
  | [],_=>by show (0:Int) < 1; decide
  | day::rest,h=>Int.mul_pos (bk_sc fun l hl=>h l (List.mem_cons_of_mem _ hl)) (h day (by simp)).pos
theorem fin_nb {s:Shp} (h:s.Ok):Bd s 100 s.fin:=fun x h1 h2=>by
  have:=h.t0
  have:=h.d0
  have:=h.td
  have hx:nb 20 x:=nb_of (by show -1048576 < _; omega) (by show _ < 1048576; omega)
  unfold Shp.fin
  exact nb_mono (nb_ite (k:=65) (nb_mul (nb_neg h.back) hx) (nb_mul h.late (nb_neg hx))) (by decide)
theorem cst_nb {s:Shp} (h:s.Ok) {g:Int→Int} {b:Nat} (hg:Bd s b g) {sc:Int} (hs:nb b sc):Bd s (b+112) (cst g s.top (sc * s.start) (sc * s.piece)):=fun x h1 h2=>by
  have:=h.t0
  have:=h.d0
  have:=h.td
  have hx:nb 20 x:=nb_of (by show -1048576 < _; omega) (by show _ < 1048576; omega)
  unfold cst
  have k1:=pck_nb (b:=b+45) (K:=sc * s.start) h2 (fun y y1 y2=>nb_mono (hg y (by omega) y2) (by omega)) (nb_mul hs h.start)
  exact nb_mono (nb_sub k1 (nb_mul (nb_mul hs h.piece) hx)) (by omega)
theorem bk_nb {s:Shp} (h:s.Ok):∀ {fs:List (List Int)},(∀ l∈fs,DayB l)→Bd s (100+300 * fs.length) (s.bk fs).1∧nb (100+300 * fs.length) (s.bk fs).2
  | [],_=>⟨fin_nb h,nb_of (by show -(2 ^ 100:Nat) < (1:Int); omega) (by show (1:Int) < (2 ^ 100:Nat); omega)⟩
  | day::rest,hf=>by
    obtain ⟨i1,i2⟩:=bk_nb h (fs:=rest) fun l hl=>hf l (List.mem_cons_of_mem _ hl)
    have hd:=hf day (by simp)
    have k1:=sm_nb h hd i1 i2
    have k2:=nb_mul i2 (sum_nbD hd)
    rw [List.length_cons]
    refine ⟨fun x h1 h2=>nb_mono (cst_nb h (b:=100+300 * rest.length+151) k1 (nb_mono k2 (by omega)) x h1 h2) (by omega),nb_mono k2 (by omega)⟩
theorem cut_tail (fs:List (List Int)) (t:Nat):L2.cutD (fs.map tI) (some ((t:Int)+1)) none=(fs.drop (t+1)).map tI:=by
  unfold L2.cutD
  have e1:HT.sIx (fs.map tI).length 0 (some ((t:Int)+1))=min (t+1) fs.length:=by
    unfold HT.sIx
    rw [List.length_map]
    simp only
    split <;> omega
  have e2:HT.sIx (fs.map tI).length (fs.map tI).length none=fs.length:=by
    unfold HT.sIx
    rw [List.length_map]
  rw [e1,e2,List.map_drop]
  rcases Nat.le_total (t+1) fs.length with hle | hle
  · rw [Nat.min_eq_left hle,List.take_of_length_le (by rw [List.length_drop,List.length_map]; exact Nat.le_refl _)]
  · rw [Nat.min_eq_right hle,List.drop_eq_nil_of_le (by rw [List.length_map]; exact Nat.le_refl _),List.drop_eq_nil_of_le (by rw [List.length_map]; exact hle)]
    simp
theorem revT_mid {fs:List (List Int)} {pre post:List PyData} {x:PyData} (h:(fs.map tI).reverse=pre++x::post):∃ (day:List Int),x=tI day∧pre.length < fs.length∧fs.drop (fs.length - (pre.length+1))=day::fs.drop (fs.length - pre.length):=by
  have h1:((fs.map tI).reverse)[pre.length]?=some x:=by rw [h]; simp
  have hl:pre.length < ((fs.map tI).reverse).length:=(List.getElem?_eq_some_iff.mp h1).1
  rw [List.length_reverse,List.length_map] at hl
  rw [List.getElem?_reverse (by rw [List.length_map]; exact hl),List.length_map,List.getElem?_map] at h1
  obtain ⟨day,hd,rfl⟩:=Option.map_eq_some_iff.mp h1
  refine ⟨day,rfl,hl,?_⟩
  have e:fs.length - (pre.length+1)=fs.length - 1 - pre.length:=by rw [Nat.add_comm pre.length 1,Nat.sub_add_eq]
  have e2:fs.length - pre.length=fs.length - 1 - pre.length+1:=by omega
  rw [e,e2,List.drop_eq_getElem_cons (by omega)]
  congr 1
  exact (List.getElem?_eq_some_iff.mp hd).2
end Tw
set_option Elab.async false
set_option linter.all false
set_option maxRecDepth 100000
namespace Tw
open PySem L2
noncomputable abbrev rng (lo hi:Int):List Int:=rangeI lo (hi - lo).toNat
variable {α:Type}
theorem rangeI_add (lo:Int) (a b:Nat):rangeI lo (a+b)=rangeI lo a++rangeI (lo+a) b:=by
  unfold rangeI
  rw [List.range_add,List.map_append,List.map_map]
  congr 1
  apply List.map_congr_left
  intro k _
  show lo+((a+k:Nat):Int)=lo+(a:Int)+(k:Int)
  omega
noncomputable def f3 (lo a b c:Int) (t:Int→Int→Int→Option α):Option α:=(rng lo a).findSome? fun u=>(rng (u+1) b).findSome? fun v=>(rng (v+1) c).findSome? fun w=>t u v w
end Tw
set_option Elab.async false
set_option linter.all false
set_option maxRecDepth 100000
namespace Tw
open PySem L2
noncomputable def enu:Nat→List Int→List PyData
  | _,[]=>[]
  | k,n::ns=>.tuple [.int k,.int n]::enu (k+1) ns
theorem enu_eq':∀ (ns:List Int) (k:Nat),(List.range' k (ns.map PyData.int).length).zipWith (fun (n:Nat) x=>PyData.tuple [.int n,x]) (ns.map PyData.int)=enu k ns
  | [],k=>rfl
  | n::ns,k=>by
    rw [List.map_cons,List.length_cons,List.range'_succ,List.zipWith_cons_cons,enu_eq' ns (k+1)]
    rfl
theorem enu_eq (ns:List Int):enumD (ns.map PyData.int)=enu 0 ns:=by
  unfold enumD
  rw [List.range_eq_range',enu_eq']
theorem enu_len:∀ (ns:List Int) (k:Nat),(enu k ns).length=ns.length
  | [],k=>rfl
  | n::ns,k=>by rw [enu,List.length_cons,List.length_cons,enu_len ns]
noncomputable def snF:Nat→List Int→List Int
  | _,[]=>[]
  | k,n::ns=>if n > 0 then (k:Int)::snF (k+1) ns else snF (k+1) ns
theorem snF_mem:∀ {ns:List Int} {k:Nat} {x:Int},x∈snF k ns→(k:Int)≤x∧x < k+ns.length
  | [],k,x,h=>by cases h
  | n::ns,k,x,h=>by
    unfold snF at h
    rw [List.length_cons]
    split at h
    · rcases List.mem_cons.mp h with rfl | h
      · omega
      · have:=snF_mem h
        omega
    · have:=snF_mem h
      omega
theorem snF_ne:∀ {ns:List Int} {k:Nat},(∃ n∈ns,n > 0)→snF k ns≠[]
  | [],k,h=>by obtain ⟨n,h,_⟩:=h; cases h
  | n::ns,k,h=>by
    unfold snF
    split
    · simp
    · rename_i hn
      obtain ⟨m,hm,hp⟩:=h
      rcases List.mem_cons.mp hm with rfl | hm
      · exact absurd hp hn
      · exact snF_ne ⟨m,hm,hp⟩
noncomputable def great (ls:List Int):Int:=maxL (snF 0 ls)
noncomputable def reach (fs:List (List Int)):Int:=(fs.map great).sum
structure DayOk (most:Nat) (ls:List Int):Prop where
  len:ls.length≤most
  pos:∃ n∈ls,n > 0
  le:∀ n∈ls,0≤n∧n≤1001
theorem DayOk.mono {m n:Nat} {ls:List Int} (h:DayOk m ls) (hm:m≤n):DayOk n ls:=⟨Nat.le_trans h.len hm,h.pos,h.le⟩
theorem sum_ge {ls:List Int} (h:∀ n∈ls,0≤n):∀ n∈ls,n≤ls.sum:=by
  induction ls with
  | nil=>intro n hn; cases hn
  | cons a l ih =>
    intro n hn
    have h0:0≤l.sum:=by
      clear ih hn
      have h':∀ n∈l,0≤n:=fun m hm=>h m (List.mem_cons_of_mem _ hm)
      clear h
      induction l with
      | nil=>decide
      | cons b l ih2 =>
        rw [List.sum_cons]
        have:=h' b (by simp)
        have:=ih2 fun m hm=>h' m (List.mem_cons_of_mem _ hm)
        omega
    have ha:=h a (by simp)
    rw [List.sum_cons]
    rcases List.mem_cons.mp hn with rfl | hn
    · omega
    · have:=ih (fun m hm=>h m (List.mem_cons_of_mem _ hm)) n hn
      omega
theorem sum_pos:∀ {ns:List Int},(∀ n∈ns,0≤n)→ns.sum≠0→∃ n∈ns,n > 0
  | [],_,h=>absurd rfl h
  | n::ns,hn,h=>by
    by_cases hp:n > 0
    · exact ⟨n,by simp,hp⟩
    · have h0:=hn n (by simp)
      rw [List.sum_cons] at h
      obtain ⟨m,hm,hp⟩:=sum_pos (ns:=ns) (fun m hm=>hn m (List.mem_cons_of_mem _ hm)) (by omega)
      exact ⟨m,List.mem_cons_of_mem _ hm,hp⟩
theorem DayOk.B {m:Nat} {ls:List Int} (h:DayOk m ls) (hm:m≤16):DayB ls:=by
  refine ⟨Nat.le_trans h.len hm,fun w hw=>?_,fun w hw=>(h.le w hw).1,?_⟩
  · have:=h.le w hw
    exact nb_of (by show -1073741824 < _; omega) (by show _ < 1073741824; omega)
  · obtain ⟨n,hn,hp⟩:=h.pos
    have:=sum_ge (fun n hn=>(h.le n hn).1) n hn
    omega
theorem great_le {most:Nat} {ls:List Int} (h:DayOk most ls):0≤great ls∧great ls≤(most:Int) - 1:=by
  have h1:=(maxL_spec (snF_ne (k:=0) h.pos)).1
  have h2:=snF_mem h1
  have:=h.len
  unfold great
  omega
theorem reach_le:∀ {fs:List (List Int)} {most:Nat},1≤most→(∀ ls∈fs,DayOk most ls)→0≤reach fs∧reach fs≤fs.length * ((most:Int) - 1)
  | [],most,_,_=>by unfold reach; simp
  | ls::fs,most,hm,h=>by
    have ih:=reach_le (fs:=fs) hm fun l hl=>h l (List.mem_cons_of_mem _ hl)
    have hg:=great_le (h ls (by simp))
    unfold reach at ih ⊢
    rw [List.map_cons,List.sum_cons,List.length_cons]
    have e:(((fs.length+1:Nat):Int)) * ((most:Int) - 1)=fs.length * ((most:Int) - 1)+((most:Int) - 1):=by
      rw [Int.natCast_add,Int.add_mul]
      simp
    rw [e]
    omega
structure FalOk (fs:List (List Int)):Prop where
  f:∀ ls∈fs,DayOk 8 ls
  l0:1≤fs.length
  l1:fs.length≤6
theorem FalOk.B {fs:List (List Int)} (h:FalOk fs):∀ l∈fs,DayB l:=fun l hl=>(h.f l hl).B (by decide)
structure Shp.Dr (s:Shp):Prop where
  t0:0≤s.top
  d0:0≤s.depth
  td:s.top+s.depth≤39
  p:∀ n∈[s.start,s.piece,s.keep,s.lack,s.lost,s.back,s.late],0≤n∧n≤1000000
theorem Shp.Dr.ok {s:Shp} (h:s.Dr):s.Ok:=by
  have hp:=h.p
  simp only [List.mem_cons,List.not_mem_nil,or_false,forall_eq_or_imp,forall_eq] at hp
  obtain ⟨h1,h2,h3,h4,h5,h6,h7⟩:=hp
  have k:∀ n:Int,0≤n∧n≤1000000→nb 45 n:=fun n hn=>nb_of (by show -35184372088832 < _; omega) (by show _ < 35184372088832; omega)
  exact ⟨h.t0,h.d0,by have:=h.td; omega,h1.1,k _ h1,k _ h2,k _ h3,k _ h4,k _ h5,k _ h6,k _ h7⟩
theorem shp_of {a b c d e f g h i:Int}:PyData.tuple [.int a,.int b,.int c,.int d,.int e,.int f,.int g,.int h,.int i]=(Shp.mk a b c d e f g h i).d:=by
  unfold Shp.d
  rfl
theorem it_tI (l:List Int):it1 (tI l)=.ret (l.map PyData.int):=rfl
theorem it_fD (l:List (List Int)):it1 (fD l)=.ret (l.map tI):=rfl
theorem len_lI (l:List Int):cb1 lenD [lI l]=.ret (.int l.length):=by
  show Tr.ret (PyData.int ((l.map PyData.int).length:Int))=_
  rw [List.length_map]
theorem len_fD (l:List (List Int)):cb1 lenD [fD l]=.ret (.int l.length):=by
  show Tr.ret (PyData.int ((l.map tI).length:Int))=_
  rw [List.length_map]
end Tw
set_option Elab.async false
set_option linter.all false
set_option maxRecDepth 100000
set_option exponentiation.threshold 9000
namespace Tw
open PySem L2
theorem str_self (x:Str):(x == x)=true:=by simp
end Tw
set_option Elab.async false
set_option linter.all false
set_option maxRecDepth 100000
set_option exponentiation.threshold 9000
namespace Tw
open PySem L2
noncomputable def pr (p:Int×Int):List Int:=[p.1,p.2]
end Tw
set_option Elab.async false
set_option linter.all false
set_option maxRecDepth 100000
namespace Tw
open PySem L2
end Tw
set_option Elab.async false
set_option linter.all false
set_option maxRecDepth 100000
namespace Tw
open PySem L2
noncomputable abbrev Rw:=List Int×Int
noncomputable def tot (X:List Rw) (c:List Int→Int):Int:=(X.map fun p=>p.2 * c p.1).sum
end Tw
set_option Elab.async false
set_option linter.all false
set_option maxRecDepth 100000
namespace Tw
open PySem L2
end Tw
set_option Elab.async false
set_option linter.all false
set_option maxRecDepth 100000
namespace Tw
open PySem L2
theorem eq_nil (l:List Int):bin2 eqD (.list (l.map PyData.int)) (.list [])=.ret (.bool l.isEmpty):=by
  rw [ev_eqL (ys:=[]) (shaped_ints l) (shaped_ints [])]
  cases l <;> rfl
theorem rangeI_snoc (lo:Int) (n:Nat):rangeI lo (n+1)=rangeI lo n++[lo+n]:=by
  rw [rangeI_add]
  congr 1
  unfold rangeI
  simp
noncomputable def lsr (o:Int→Bool):Nat→Int
  | 0=>0
  | n+1=>if o n=true then lsr o n else (n:Int)+1
theorem lsr_find {o:Int→Bool}:∀ n:Nat,((rangeI 0 n).reverse.find? (fun k=>!o k)=none∧lsr o n=0)∨∃ k,(rangeI 0 n).reverse.find? (fun k=>!o k)=some k∧lsr o n=k+1∧0≤k∧k < n∧o k=false
  | 0=>.inl ⟨rfl,rfl⟩
  | n+1=>by
    rw [rangeI_snoc,List.reverse_append]
    have er:([0+(n:Int)]:List Int).reverse=[(n:Int)]:=by simp
    rw [er]
    show (((n:Int)::(rangeI 0 n).reverse).find? _=none∧_)∨∃ k,((n:Int)::(rangeI 0 n).reverse).find? _=some k∧_
    unfold lsr
    cases hp:o n with
    | true =>
      rw [List.find?_cons_of_neg (by simp [hp]),if_pos rfl]
      rcases lsr_find (o:=o) n with z | ⟨k,a,b,c,d,e⟩
      · exact .inl z
      · exact .inr ⟨k,a,b,c,by omega,e⟩
    | false =>
      rw [List.find?_cons_of_pos (by simp [hp]),if_neg (by simp)]
      exact .inr ⟨n,rfl,rfl,by omega,by omega,hp⟩
theorem wh_down {p:List Sl→Tr Bool} {s:List Sl→Tr Ou} {E:Int→List Sl} {o:Int→Bool} {N:Nat} (hp0:p (E 0)=.ret false) (hp:∀ j:Nat,j < N→p (E (j+1))=.ret (o j)) (hs:∀ j:Nat,j < N→s (E (j+1))=.ret (.next (E j))) :
    ∀ n k:Nat,n≤N→whL p s (n+1+k) (E n)=.ret (.next (E (lsr o n)))
  | 0,k,_=>by
    have e:0+1+k=k+1:=by omega
    rw [e,whL]
    show ((p (E 0)).bind _)=_
    rw [hp0,Tr.ret_bind]
    rfl
  | n+1,k,h=>by
    have e:n+1+1+k=(n+1+k)+1:=by omega
    have ec:(((n+1:Nat):Int))=(n:Int)+1:=by omega
    rw [e,whL,ec,hp n (by omega),Tr.ret_bind]
    unfold lsr
    cases ho:o n with
    | true =>
      rw [if_pos rfl,if_pos rfl,hs n (by omega),Tr.ret_bind]
      exact wh_down hp0 hp hs n k (by omega)
    | false =>
      rw [if_neg (by simp),if_neg (by simp)]
noncomputable def ownD (g:Int→Int) (top K least k:Int):Bool:=decide (lvl g top K (least+k)=least+k)
noncomputable def chkD (g:Int→Int) (top K G x:Int):Bool:=decide (K+g G=(pck g top K x).1)
noncomputable def mks (a b:Int):PyData:=.tuple [.str "marks",.int a,.int b]
noncomputable def mkn (a b:Int):PyData:=.tuple [.str "none",.int a,.int b]
noncomputable def mkD (g:Int→Int) (top K least:Int):PyData :=
  match (rangeI 0 (top - least).toNat).reverse.find? (fun k=>!ownD g top K least k) with
  | none=>mks least least
  | some l=>match (rangeI 0 l.toNat).reverse.find? (fun k=>!chkD g top K (lvl g top K (least+l)) (least+k)) with
    | some k=>mkn (least+k) (least+l)
    | none=>mks (least+l+1) (lvl g top K (least+l))
theorem own_iff {g:Int→Int} {top K x:Int} (hx:x≤top):lvl g top K x=x ↔ g x=(pck g top K x).1:=by
  unfold lvl
  rcases (pck_is (g:=g) (K:=K) hx).2.2 with ⟨a,b⟩ | ⟨a,b,c⟩
  · exact ⟨fun _=>b.symm,fun _=>a⟩
  · exact ⟨fun z=>by omega,fun z=>by omega⟩
theorem chk_iff {g:Int→Int} {top K x G:Int} (h1:x < G) (h2:G≤top):(K+g G≤g x∧g G=minL ((rangeI (x+1) (top - x).toNat).map g)) ↔ K+g G=(pck g top K x).1:=by
  have hx:x≤top:=by omega
  have hne:(rangeI (x+1) (top - x).toNat).map g≠[]:=by
    intro z
    have:=congrArg List.length z
    rw [List.length_map,rangeI_length] at this
    simp at this
    omega
  obtain ⟨m1,m2⟩:=minL_spec hne
  obtain ⟨y,hy,ey⟩:=List.mem_map.mp m1
  have hy':=rangeI_mem hy
  obtain ⟨p1,p2⟩:=pck_le (g:=g) (K:=K) hx
  have hG:∀ z,x < z→z≤top→minL ((rangeI (x+1) (top - x).toNat).map g)≤g z:=fun z z1 z2=>m2 _ (List.mem_map.mpr ⟨z,by
    unfold rangeI
    exact List.mem_map.mpr ⟨(z - (x+1)).toNat,List.mem_range.mpr (by omega),by omega⟩,rfl⟩)
  constructor
  · rintro ⟨a,b⟩
    have:=p2 G h1 h2
    obtain ⟨_,_,z | z⟩:=pck_is (g:=g) (K:=K) hx
    · omega
    · obtain ⟨z1,z2,z3⟩:=z
      have:=hG _ z1 (pck_is (g:=g) (K:=K) hx).2.1
      omega
  · intro e
    have a:=p2 y (by omega) (by omega)
    have b:=hG G h1 h2
    rw [← ey] at b ⊢
    omega
end Tw
set_option Elab.async false
set_option linter.all false
set_option maxRecDepth 100000
namespace L2
open PySem PySem.Spec PyProof.Rows
structure Pen4 (K:PySem.W.Frag) (H:Hp) (p c:Addr) (ns:List Int) (m:Nat):Prop where
  ex:∃ (k:Nat) (left:Int),H p=some (.dK (penK c k left))∧k≤m∧0≤left
  cells:SqL K H c (ns.map V.int)
  len:ns.length≤63
noncomputable def spDraw4 (K:PySem.W.Frag):Sp:=fun vs H Q _=>∃ (p c:Addr) (ns:List Int) (m:Nat) (most:Int),vs=[.ref p,.int most]∧Pen4 K H p c ns m∧m≤500000∧0 < most∧most < 1073741824 ∧
  ∀ (r:Int) (H':Hp),0≤r→r < most→Pen4 K H' p c ns (m+1)→Kept p H H'→Q (.int r) H'
noncomputable def spPen4 (K:PySem.W.Frag):Sp:=fun vs H Q _=>∃ (a:Addr) (ns:List Int),vs=[.ref a]∧SqL K H a (ns.map V.int)∧ns.length≤63 ∧
  ∀ (p:Addr) (H':Hp),H p=none→Pen4 K H' p a ns 0→Same H H'→Q (.ref p) H'
noncomputable def PK2 (cn:PySem.W.Frag×Addr×List Int):Pk where
  is:=fun o G m=>∃ (k:Nat) (left:Int),o=.dK (penK cn.2.1 k left)∧k≤m∧0≤left∧SqL cn.1 G cn.2.1 (cn.2.2.map V.int)∧cn.2.2.length≤63
  mono:=fun s ⟨k,left,e,h1,h2,h3,h4⟩=>⟨k,left,e,h1,h2,Same.seq (fun b o h=>s b o h) h3,h4⟩
theorem pkLow {cn:PySem.W.Frag×Addr×List Int}:PkLow (PK2 cn):=⟨fun ⟨_,_,_,_,_,h3,_⟩ _ ⟨k,left,e,h1,h2,_,h4⟩=>⟨k,left,e,h1,h2,h3,h4⟩⟩
theorem pss_ex {ι:Type} {X:Cx} {e:List Stmt} {t:ι→TS} (h:∀ i,PSs X e (t i)):PSs X e (fun D σ H=>∃ i,t i D σ H):=fun pins s σ H D I z=>by
  obtain ⟨i,z⟩:=z
  exact h i pins s σ H D I z
noncomputable def m_draw:List Sl→Tr Re:=fun as=>match as with
  | [.pen,.d (.int most)]=>.draw most fun r=>.ret (.d (.int r))
  | _=>.fail
theorem draw_len {as:List Sl} {m:Nat} {Z:Nat→Re→Prop} (h:(m_draw as).ok m Z):∃ most,as=[.pen,.d (.int most)]:=by
  unfold m_draw at h
  split at h
  · exact ⟨_,rfl⟩
  · exact h.elim
theorem draw1 {P:Program} {w:World} {K:PySem.W.Frag} {c:Addr×List Int} {mg:Str→Option Value} {base:Heap} {x:Str} {k:Nat} {ps:List Str} (hp:ps.length=2) (C:Callee P w K mg base x k ps (spDraw4 K)):ACal (PK2 (K,c)) P w K mg base x k ps m_draw:=by
  refine ⟨?_,fun as m Z h=>by obtain ⟨most,rfl⟩:=draw_len h; exact hp.symm⟩
  obtain ⟨f,fd,F,hm,hk,hb⟩:=C.ex
  refine ⟨f,fd,F.imp fun vs H Q E h=>?_,hm,hk,hb⟩
  obtain ⟨hv,pa,m,G,as,wd,ar,z⟩:=h
  obtain ⟨most,rfl⟩:=draw_len z
  obtain ⟨h1,h2,h3,h4⟩:=z
  cases ar with
  | cons a1 ar =>
    cases ar with
    | cons a2 ar =>
      cases ar
      cases a1
      cases a2 with
      | d d2 =>
        cases d2
        obtain ⟨c,ns⟩:=c
        obtain ⟨o,ho,kk,left,rfl,q1,q2,q3,q4⟩:=wd.pen
        replace q3:SqL K G c (ns.map V.int):=q3
        refine ⟨pa,c,ns,m,most,rfl,⟨⟨kk,left,ho,q1,q2⟩,Same.seq (fun b o h=>wd.sub b o h) q3,q4⟩,by omega,h2,h3,fun r H' r0 r1 P' K'=>?_⟩
        refine h4 r r0 r1 (.int r) G H' ⟨fun _ _ q=>q,fun _ _ q=>.inl q,fun b o e n=>K' b o e n⟩ ⟨fun b o e=>K' b o (wd.sub b o e) (fun z=>by subst z; rw [wd.gpa] at e; cases e),wd.gpa,?_⟩ (.int r)
        obtain ⟨⟨k2,l2,e2,g1,g2⟩,_,_⟩:=P'
        exact ⟨_,e2,k2,l2,rfl,g1,g2,q3,q4⟩
noncomputable def spLaw:PySem.W.Frag→Sp:=fun K vs H Q _=>∃ (a:Addr) (ns:List Int),vs=[.ref a]∧SqL K H a (ns.map V.int)∧ns.length≤63∧∀ H',Q (.bl true) H'
theorem law_start {K:PySem.W.Frag} {D:Ends} {p c:Addr} {ns:List Int} {H:Hp} {σ:St} {s:List Sl→Tr Ou} {n:Nat} (P:Pen4 K H p c ns 0) (hσ:σ.length=n+2) (h1:σ[1]?=some (some (.ref p))) (hrt:∀ H',D.rt (.bl true) H')
    (h:(s (.un::.pen::List.replicate n .un)).ok 0 fun _ o=>o=.ret (.d (.bool true))):∃ cn:Addr×List Int,TAs (PK2 (K,cn)) s D σ H:=by
  obtain ⟨⟨k,l,e,hk,hl⟩,hc,hn⟩:=P
  obtain ⟨G,gs,gp,gc⟩:∃ G:Hp,(∀ b o,G b=some o→H b=some o)∧G p=none∧SqL K G c (ns.map V.int):=by
    rcases hc with (hc | ⟨o,hc⟩) | hc
    · refine ⟨fun b=>if b=c then H c else none,fun b o hb=>?_,?_,.inl (.inl (by simp [hc]))⟩
      · by_cases hbc:b=c
        · subst hbc; simpa using hb
        · simp [hbc] at hb
      · have:p≠c:=ne_of e hc (by intro z; cases z)
        exact if_neg this
    · refine ⟨fun b=>if b=c then H c else none,fun b o hb=>?_,?_,.inl (.inr ⟨o,by simp [hc]⟩)⟩
      · by_cases hbc:b=c
        · subst hbc; simpa using hb
        · simp [hbc] at hb
      · have:p≠c:=ne_of e hc (by intro z; cases z)
        exact if_neg this
    · exact ⟨fun _=>none,fun b o hb=>(by cases hb),rfl,.inr hc⟩
  have key:∀ (i:Nat) (sl:Sl),(Sl.un::.pen::List.replicate n .un)[i]?=some sl→sl=.un∨(i=1∧sl=.pen):=fun i sl hi=>by
    match i with
    | 0=>simp at hi; exact .inl hi.symm
    | 1=>simp at hi; exact .inr ⟨rfl,hi.symm⟩
    | i+2 =>
      simp [List.getElem?_replicate] at hi
      exact .inl hi.2.symm
  refine ⟨(c,ns),p,G,H,0,_,G,⟨⟨gs,gp,?_⟩,.refl,⟨_,e⟩,fun i sl hi=>?_,by simp [hσ],fun i j xs ys _ hi _=>?_⟩,Tr.ok_mono h fun m o ho=>?_⟩
  · exact ⟨_,e,k,l,rfl,hk,hl,gc,hn⟩
  · have hlt:i < σ.length:=by
      have:=(List.getElem?_eq_some_iff.mp hi).1
      simp at this
      omega
    rcases key i sl hi with rfl | ⟨rfl,rfl⟩
    · exact ⟨σ[i],by simp [hlt],.un⟩
    · exact ⟨_,h1,.pen⟩
  · rcases key i _ hi with z | ⟨_,z⟩ <;> cases z
  · subst ho
    intro v G H' s' w' d
    cases (show Dn G v (.bool true) from d)
    exact hrt H'
end L2
set_option Elab.async false
set_option linter.all false
set_option maxRecDepth 100000
namespace My
open PySem PySem.Spec PyProof.Rows L2
noncomputable def top (i:Nat):Stmt:=PySem.Challenge.pw_twomarks_k34_whole_no_marks_at_all.main.body.getD i (.Pass ⟨0,0,0,0⟩)
noncomputable abbrev s_stocks:Stmt:=top 10
noncomputable abbrev N_stocks:List Str:=["shop"]
theorem sc_stocks:FnScope N_stocks ["shop"] (defScope s_stocks):=⟨rfl,rfl,rfl,by decide +kernel,rfl,by decide +kernel,by decide +kernel⟩
noncomputable abbrev s_next_stock:Stmt:=top 11
noncomputable abbrev N_next_stock:List Str:=["shop","level","fall"]
theorem sc_next_stock:FnScope N_next_stock ["shop","level","fall"] (defScope s_next_stock):=⟨rfl,rfl,rfl,by decide +kernel,rfl,by decide +kernel,by decide +kernel⟩
noncomputable abbrev s_day_cost:Stmt:=top 12
noncomputable abbrev N_day_cost:List Str:=["shop","level","fall","stock","sold_never","held"]
theorem sc_day_cost:FnScope N_day_cost ["shop","level","fall"] (defScope s_day_cost):=⟨rfl,rfl,rfl,by decide +kernel,rfl,by decide +kernel,by decide +kernel⟩
noncomputable abbrev s_end_cost:Stmt:=top 13
noncomputable abbrev N_end_cost:List Str:=["shop","stock"]
theorem sc_end_cost:FnScope N_end_cost ["shop","stock"] (defScope s_end_cost):=⟨rfl,rfl,rfl,by decide +kernel,rfl,by decide +kernel,by decide +kernel⟩
noncomputable abbrev s_end_costs:Stmt:=top 15
noncomputable abbrev N_end_costs:List Str:=["shop"]
theorem sc_end_costs:FnScope N_end_costs ["shop"] (defScope s_end_costs):=⟨rfl,rfl,rfl,by decide +kernel,rfl,by decide +kernel,by decide +kernel⟩
noncomputable abbrev s_weighed:Stmt:=top 16
noncomputable abbrev N_weighed:List Str:=["shop","day","level","ahead","scale","total","fall","weight","following"]
theorem sc_weighed:FnScope N_weighed ["shop","day","level","ahead","scale"] (defScope s_weighed):=⟨rfl,rfl,rfl,by decide +kernel,rfl,by decide +kernel,by decide +kernel⟩
noncomputable abbrev s_level_sums:Stmt:=top 18
noncomputable abbrev N_level_sums:List Str:=["shop","day","ahead","scale","own_scale"]
theorem sc_level_sums:FnScope N_level_sums ["shop","day","ahead","scale"] (defScope s_level_sums):=⟨rfl,rfl,rfl,by decide +kernel,rfl,by decide +kernel,by decide +kernel⟩
noncomputable abbrev s_cheapest_from:Stmt:=top 19
noncomputable abbrev N_cheapest_from:List Str:=["shop","low","by_level","scale","picks","best","stock","own","cost","level"]
theorem sc_cheapest_from:FnScope N_cheapest_from ["shop","low","by_level","scale"] (defScope s_cheapest_from):=⟨rfl,rfl,rfl,by decide +kernel,rfl,by decide +kernel,by decide +kernel⟩
noncomputable abbrev s_cheapest:Stmt:=top 20
noncomputable abbrev N_cheapest:List Str:=["shop","by_level","scale"]
theorem sc_cheapest:FnScope N_cheapest ["shop","by_level","scale"] (defScope s_cheapest):=⟨rfl,rfl,rfl,by decide +kernel,rfl,by decide +kernel,by decide +kernel⟩
noncomputable abbrev s_day_sums:Stmt:=top 21
noncomputable abbrev N_day_sums:List Str:=["shop","falls","t","ahead","scale","day","by_level"]
theorem sc_day_sums:FnScope N_day_sums ["shop","falls","t"] (defScope s_day_sums):=⟨rfl,rfl,rfl,by decide +kernel,rfl,by decide +kernel,by decide +kernel⟩
noncomputable abbrev s_is_cheapest:Stmt:=top 23
noncomputable abbrev N_is_cheapest:List Str:=["shop","by_level","scale","stock","level","at","cost"]
theorem sc_is_cheapest:FnScope N_is_cheapest ["shop","by_level","scale","stock","level"] (defScope s_is_cheapest):=⟨rfl,rfl,rfl,by decide +kernel,rfl,by decide +kernel,by decide +kernel⟩
noncomputable abbrev s_marks_by:Stmt:=top 24
noncomputable abbrev N_marks_by:List Str:=["shop","by_level","scale","least","picks","lesser","greater","stock"]
theorem sc_marks_by:FnScope N_marks_by ["shop","by_level","scale","least"] (defScope s_marks_by):=⟨rfl,rfl,rfl,by decide +kernel,rfl,by decide +kernel,by decide +kernel⟩
noncomputable abbrev s_marks:Stmt:=top 25
noncomputable abbrev N_marks:List Str:=["shop","falls","t","least","by_level","scale"]
theorem sc_marks:FnScope N_marks ["shop","falls","t","least"] (defScope s_marks):=⟨rfl,rfl,rfl,by decide +kernel,rfl,by decide +kernel,by decide +kernel⟩
noncomputable abbrev s__law_pen:Stmt:=top 27
noncomputable abbrev N__law_pen:List Str:=["_law_script"]
theorem sc__law_pen:FnScope N__law_pen ["_law_script"] (defScope s__law_pen):=⟨rfl,rfl,rfl,by decide +kernel,rfl,by decide +kernel,by decide +kernel⟩
noncomputable abbrev s__law_draw:Stmt:=top 28
noncomputable abbrev N__law_draw:List Str:=["_law_pen_here","_law_many","_law_digit","_law_script","_law_at","_law_cell","_law_primes","_law_number"]
theorem sc__law_draw:FnScope N__law_draw ["_law_pen_here","_law_many"] (defScope s__law_draw):=⟨rfl,rfl,rfl,by decide +kernel,rfl,by decide +kernel,by decide +kernel⟩
noncomputable abbrev s__law_prices:Stmt:=top 29
noncomputable abbrev N__law_prices:List Str:=["_law_pen_here","_law_way","_law_found","_law_k","_law_some"]
theorem sc__law_prices:FnScope N__law_prices ["_law_pen_here"] (defScope s__law_prices):=⟨rfl,rfl,rfl,by decide +kernel,rfl,by decide +kernel,by decide +kernel⟩
noncomputable abbrev s__law_falls:Stmt:=top 30
noncomputable abbrev N__law_falls:List Str:=["_law_pen_here","_law_days","_law_most","_law_found","_law_t","_law_way","_law_one","_law_k"]
theorem sc__law_falls:FnScope N__law_falls ["_law_pen_here","_law_days","_law_most"] (defScope s__law_falls):=⟨rfl,rfl,rfl,by decide +kernel,rfl,by decide +kernel,by decide +kernel⟩
noncomputable abbrev s__law_reach:Stmt:=top 31
noncomputable abbrev N__law_reach:List Str:=["_law_falls_here"]
theorem sc__law_reach:FnScope N__law_reach ["_law_falls_here"] (defScope s__law_reach):=⟨rfl,rfl,rfl,by decide +kernel,rfl,by decide +kernel,by decide +kernel⟩
noncomputable abbrev s__law_shop:Stmt:=top 32
noncomputable abbrev N__law_shop:List Str:=["_law_pen_here","_law_is_free","_law_days","_law_falls_here","_law_room","_law_top","_law_depth"]
theorem sc__law_shop:FnScope N__law_shop ["_law_pen_here","_law_is_free"] (defScope s__law_shop):=⟨rfl,rfl,rfl,by decide +kernel,rfl,by decide +kernel,by decide +kernel⟩
noncomputable abbrev s__law_costs:Stmt:=top 33
noncomputable abbrev N__law_costs:List Str:=["_law_row","_law_bottom","_law_shop_here","_law_found","_law_at","_law_some"]
theorem sc__law_costs:FnScope N__law_costs ["_law_row","_law_bottom","_law_shop_here"] (defScope s__law_costs):=⟨rfl,rfl,rfl,by decide +kernel,rfl,by decide +kernel,by decide +kernel⟩
noncomputable abbrev s__law_sums:Stmt:=top 34
noncomputable abbrev N__law_sums:List Str:=["_law_shop_here","_law_falls_here","_law_top","_law_depth","_law_start","_law_piece","_law_keep","_law_lack","_law_lost","_law_back","_law_late","_law_costs_here","_law_stock","_law_bottom","_law_found","_law_one","_law_row","_law_level","_law_total","_law_fall","_law_weight","_law_there","_law_cost_here","_law_later"]
theorem sc__law_sums:FnScope N__law_sums ["_law_shop_here","_law_falls_here"] (defScope s__law_sums):=⟨rfl,rfl,rfl,by decide +kernel,rfl,by decide +kernel,by decide +kernel⟩
noncomputable abbrev s__law_odd:Stmt:=top 35
noncomputable abbrev N__law_odd:List Str:=["_law_pen_here","_law_shop_here","_law_lost","_law_start","_law_small"]
theorem sc__law_odd:FnScope N__law_odd ["_law_pen_here","_law_shop_here"] (defScope s__law_odd):=⟨rfl,rfl,rfl,by decide +kernel,rfl,by decide +kernel,by decide +kernel⟩
noncomputable abbrev s__law_feet:Stmt:=top 36
noncomputable abbrev N__law_feet:List Str:=["_law_pen_here","_law_shop_here","_law_falls_here","_law_low","_law_wide","_law_piece","_law_keep","_law_lost","_law_lack","_law_late","_law_weight","_law_high","_law_one"]
theorem sc__law_feet:FnScope N__law_feet ["_law_pen_here","_law_shop_here","_law_falls_here"] (defScope s__law_feet):=⟨rfl,rfl,rfl,by decide +kernel,rfl,by decide +kernel,by decide +kernel⟩
noncomputable abbrev s__law_hump:Stmt:=top 37
noncomputable abbrev N__law_hump:List Str:=["_law_pen_here","_law_shop_here","_law_falls_here","_law_fall","_law_lost","_law_piece","_law_prices_here","_law_row","_law_bottom","_law_drops","_law_some","_law_start"]
theorem sc__law_hump:FnScope N__law_hump ["_law_pen_here","_law_shop_here","_law_falls_here"] (defScope s__law_hump):=⟨rfl,rfl,rfl,by decide +kernel,rfl,by decide +kernel,by decide +kernel⟩
noncomputable abbrev s__law_cost:Stmt:=top 38
noncomputable abbrev N__law_cost:List Str:=["_law_row","_law_start","_law_place","_law_level"]
theorem sc__law_cost:FnScope N__law_cost ["_law_row","_law_start","_law_place","_law_level"] (defScope s__law_cost):=⟨rfl,rfl,rfl,by decide +kernel,rfl,by decide +kernel,by decide +kernel⟩
noncomputable abbrev s__law_best:Stmt:=top 39
noncomputable abbrev N__law_best:List Str:=["_law_row","_law_start","_law_place"]
theorem sc__law_best:FnScope N__law_best ["_law_row","_law_start","_law_place"] (defScope s__law_best):=⟨rfl,rfl,rfl,by decide +kernel,rfl,by decide +kernel,by decide +kernel⟩
noncomputable abbrev s__law_are_right:Stmt:=top 40
noncomputable abbrev N__law_are_right:List Str:=["_law_row","_law_start","_law_lesser","_law_greater","_law_place","_law_level"]
theorem sc__law_are_right:FnScope N__law_are_right ["_law_row","_law_start","_law_lesser","_law_greater"] (defScope s__law_are_right):=⟨rfl,rfl,rfl,by decide +kernel,rfl,by decide +kernel,by decide +kernel⟩
noncomputable abbrev s__law_apart:Stmt:=top 41
noncomputable abbrev N__law_apart:List Str:=["_law_row","_law_start","_law_x","_law_y","_law_level","_law_is_best"]
theorem sc__law_apart:FnScope N__law_apart ["_law_row","_law_start","_law_x","_law_y"] (defScope s__law_apart):=⟨rfl,rfl,rfl,by decide +kernel,rfl,by decide +kernel,by decide +kernel⟩
noncomputable abbrev s_law:Stmt:=top 42
noncomputable abbrev N_law:List Str:=["_law_script","_law_pen_here","_law_way","_law_shop_here","_law_falls_here","_law_t","_law_row","_law_bottom","_law_begin","_law_start","_law_word","_law_one","_law_other","_law_right","_law_lesser"]
theorem sc_law:FnScope N_law ["_law_script"] (defScope s_law):=⟨rfl,rfl,rfl,by decide +kernel,rfl,by decide +kernel,by decide +kernel⟩
structure Txt (K:PySem.W.Frag) (mg:Str→Option Value):Prop where
  n_len:mg "len"=none
  n_abs:mg "abs"=none
  n_max:mg "max"=none
  n_min:mg "min"=none
  n_int:mg "int"=none
  n_tuple:mg "tuple"=none
  n_range:mg "range"=none
  n_sorted:mg "sorted"=none
  n_sum:mg "sum"=none
  n_enumerate:mg "enumerate"=none
  n_reversed:mg "reversed"=none
  g_TOP:∃ t,mg "TOP"=some (.int 0 t)
  g_DEPTH:∃ t,mg "DEPTH"=some (.int 1 t)
  g_START:∃ t,mg "START"=some (.int 2 t)
  g_PIECE:∃ t,mg "PIECE"=some (.int 3 t)
  g_KEEP:∃ t,mg "KEEP"=some (.int 4 t)
  g_LACK:∃ t,mg "LACK"=some (.int 5 t)
  g_LOST:∃ t,mg "LOST"=some (.int 6 t)
  g_BACK:∃ t,mg "BACK"=some (.int 7 t)
  g_LATE:∃ t,mg "LATE"=some (.int 8 t)
  d_stocks:Def K mg "stocks" s_stocks ["shop"]
  d_next_stock:Def K mg "next_stock" s_next_stock ["shop","level","fall"]
  d_day_cost:Def K mg "day_cost" s_day_cost ["shop","level","fall"]
  d_end_cost:Def K mg "end_cost" s_end_cost ["shop","stock"]
  d_end_costs:Def K mg "end_costs" s_end_costs ["shop"]
  d_weighed:Def K mg "weighed" s_weighed ["shop","day","level","ahead","scale"]
  d_level_sums:Def K mg "level_sums" s_level_sums ["shop","day","ahead","scale"]
  d_cheapest_from:Def K mg "cheapest_from" s_cheapest_from ["shop","low","by_level","scale"]
  d_cheapest:Def K mg "cheapest" s_cheapest ["shop","by_level","scale"]
  d_day_sums:Def K mg "day_sums" s_day_sums ["shop","falls","t"]
  d_is_cheapest:Def K mg "is_cheapest" s_is_cheapest ["shop","by_level","scale","stock","level"]
  d_marks_by:Def K mg "marks_by" s_marks_by ["shop","by_level","scale","least"]
  d_marks:Def K mg "marks" s_marks ["shop","falls","t","least"]
  d__law_pen:Def K mg "_law_pen" s__law_pen ["_law_script"]
  d__law_draw:Def K mg "_law_draw" s__law_draw ["_law_pen_here","_law_many"]
  d__law_prices:Def K mg "_law_prices" s__law_prices ["_law_pen_here"]
  d__law_falls:Def K mg "_law_falls" s__law_falls ["_law_pen_here","_law_days","_law_most"]
  d__law_reach:Def K mg "_law_reach" s__law_reach ["_law_falls_here"]
  d__law_shop:Def K mg "_law_shop" s__law_shop ["_law_pen_here","_law_is_free"]
  d__law_costs:Def K mg "_law_costs" s__law_costs ["_law_row","_law_bottom","_law_shop_here"]
  d__law_sums:Def K mg "_law_sums" s__law_sums ["_law_shop_here","_law_falls_here"]
  d__law_odd:Def K mg "_law_odd" s__law_odd ["_law_pen_here","_law_shop_here"]
  d__law_feet:Def K mg "_law_feet" s__law_feet ["_law_pen_here","_law_shop_here","_law_falls_here"]
  d__law_hump:Def K mg "_law_hump" s__law_hump ["_law_pen_here","_law_shop_here","_law_falls_here"]
  d__law_cost:Def K mg "_law_cost" s__law_cost ["_law_row","_law_start","_law_place","_law_level"]
  d__law_best:Def K mg "_law_best" s__law_best ["_law_row","_law_start","_law_place"]
  d__law_are_right:Def K mg "_law_are_right" s__law_are_right ["_law_row","_law_start","_law_lesser","_law_greater"]
  d__law_apart:Def K mg "_law_apart" s__law_apart ["_law_row","_law_start","_law_x","_law_y"]
  d_law:Def K mg "law" s_law ["_law_script"]
set_option maxHeartbeats 4000000 in
theorem txt_mk {K:PySem.W.Frag} {mg:Str→Option Value} {h:Heap} (X:K.In h) (G:h.Ns mainGlobals mg)
    (z_len:PySem.W.nsIn K mainGlobals "len"=some none)
    (z_abs:PySem.W.nsIn K mainGlobals "abs"=some none)
    (z_max:PySem.W.nsIn K mainGlobals "max"=some none)
    (z_min:PySem.W.nsIn K mainGlobals "min"=some none)
    (z_int:PySem.W.nsIn K mainGlobals "int"=some none)
    (z_tuple:PySem.W.nsIn K mainGlobals "tuple"=some none)
    (z_range:PySem.W.nsIn K mainGlobals "range"=some none)
    (z_sorted:PySem.W.nsIn K mainGlobals "sorted"=some none)
    (z_sum:PySem.W.nsIn K mainGlobals "sum"=some none)
    (z_enumerate:PySem.W.nsIn K mainGlobals "enumerate"=some none)
    (z_reversed:PySem.W.nsIn K mainGlobals "reversed"=some none)
    {t_TOP:Tok} (z_TOP:PySem.W.nsIn K mainGlobals "TOP"=some (some (.int 0 t_TOP)))
    {t_DEPTH:Tok} (z_DEPTH:PySem.W.nsIn K mainGlobals "DEPTH"=some (some (.int 1 t_DEPTH)))
    {t_START:Tok} (z_START:PySem.W.nsIn K mainGlobals "START"=some (some (.int 2 t_START)))
    {t_PIECE:Tok} (z_PIECE:PySem.W.nsIn K mainGlobals "PIECE"=some (some (.int 3 t_PIECE)))
    {t_KEEP:Tok} (z_KEEP:PySem.W.nsIn K mainGlobals "KEEP"=some (some (.int 4 t_KEEP)))
    {t_LACK:Tok} (z_LACK:PySem.W.nsIn K mainGlobals "LACK"=some (some (.int 5 t_LACK)))
    {t_LOST:Tok} (z_LOST:PySem.W.nsIn K mainGlobals "LOST"=some (some (.int 6 t_LOST)))
    {t_BACK:Tok} (z_BACK:PySem.W.nsIn K mainGlobals "BACK"=some (some (.int 7 t_BACK)))
    {t_LATE:Tok} (z_LATE:PySem.W.nsIn K mainGlobals "LATE"=some (some (.int 8 t_LATE)))
    (z_stocks:Def K mg "stocks" s_stocks ["shop"])
    (z_next_stock:Def K mg "next_stock" s_next_stock ["shop","level","fall"])
    (z_day_cost:Def K mg "day_cost" s_day_cost ["shop","level","fall"])
    (z_end_cost:Def K mg "end_cost" s_end_cost ["shop","stock"])
    (z_end_costs:Def K mg "end_costs" s_end_costs ["shop"])
    (z_weighed:Def K mg "weighed" s_weighed ["shop","day","level","ahead","scale"])
    (z_level_sums:Def K mg "level_sums" s_level_sums ["shop","day","ahead","scale"])
    (z_cheapest_from:Def K mg "cheapest_from" s_cheapest_from ["shop","low","by_level","scale"])
    (z_cheapest:Def K mg "cheapest" s_cheapest ["shop","by_level","scale"])
    (z_day_sums:Def K mg "day_sums" s_day_sums ["shop","falls","t"])
    (z_is_cheapest:Def K mg "is_cheapest" s_is_cheapest ["shop","by_level","scale","stock","level"])
    (z_marks_by:Def K mg "marks_by" s_marks_by ["shop","by_level","scale","least"])
    (z_marks:Def K mg "marks" s_marks ["shop","falls","t","least"])
    (z__law_pen:Def K mg "_law_pen" s__law_pen ["_law_script"])
    (z__law_draw:Def K mg "_law_draw" s__law_draw ["_law_pen_here","_law_many"])
    (z__law_prices:Def K mg "_law_prices" s__law_prices ["_law_pen_here"])
    (z__law_falls:Def K mg "_law_falls" s__law_falls ["_law_pen_here","_law_days","_law_most"])
    (z__law_reach:Def K mg "_law_reach" s__law_reach ["_law_falls_here"])
    (z__law_shop:Def K mg "_law_shop" s__law_shop ["_law_pen_here","_law_is_free"])
    (z__law_costs:Def K mg "_law_costs" s__law_costs ["_law_row","_law_bottom","_law_shop_here"])
    (z__law_sums:Def K mg "_law_sums" s__law_sums ["_law_shop_here","_law_falls_here"])
    (z__law_odd:Def K mg "_law_odd" s__law_odd ["_law_pen_here","_law_shop_here"])
    (z__law_feet:Def K mg "_law_feet" s__law_feet ["_law_pen_here","_law_shop_here","_law_falls_here"])
    (z__law_hump:Def K mg "_law_hump" s__law_hump ["_law_pen_here","_law_shop_here","_law_falls_here"])
    (z__law_cost:Def K mg "_law_cost" s__law_cost ["_law_row","_law_start","_law_place","_law_level"])
    (z__law_best:Def K mg "_law_best" s__law_best ["_law_row","_law_start","_law_place"])
    (z__law_are_right:Def K mg "_law_are_right" s__law_are_right ["_law_row","_law_start","_law_lesser","_law_greater"])
    (z__law_apart:Def K mg "_law_apart" s__law_apart ["_law_row","_law_start","_law_x","_law_y"])
    (z_law:Def K mg "law" s_law ["_law_script"])
    : Txt K mg:=⟨PySem.W.mg_none_of X G z_len,PySem.W.mg_none_of X G z_abs,PySem.W.mg_none_of X G z_max,PySem.W.mg_none_of X G z_min,PySem.W.mg_none_of X G z_int,PySem.W.mg_none_of X G z_tuple,PySem.W.mg_none_of X G z_range,PySem.W.mg_none_of X G z_sorted,PySem.W.mg_none_of X G z_sum,PySem.W.mg_none_of X G z_enumerate,PySem.W.mg_none_of X G z_reversed,⟨_,PySem.W.mg_of X G z_TOP⟩,⟨_,PySem.W.mg_of X G z_DEPTH⟩,⟨_,PySem.W.mg_of X G z_START⟩,⟨_,PySem.W.mg_of X G z_PIECE⟩,⟨_,PySem.W.mg_of X G z_KEEP⟩,⟨_,PySem.W.mg_of X G z_LACK⟩,⟨_,PySem.W.mg_of X G z_LOST⟩,⟨_,PySem.W.mg_of X G z_BACK⟩,⟨_,PySem.W.mg_of X G z_LATE⟩,z_stocks,z_next_stock,z_day_cost,z_end_cost,z_end_costs,z_weighed,z_level_sums,z_cheapest_from,z_cheapest,z_day_sums,z_is_cheapest,z_marks_by,z_marks,z__law_pen,z__law_draw,z__law_prices,z__law_falls,z__law_reach,z__law_shop,z__law_costs,z__law_sums,z__law_odd,z__law_feet,z__law_hump,z__law_cost,z__law_best,z__law_are_right,z__law_apart,z_law⟩

theorem cell_at (ns:List Int) (a:Nat) (h:ns≠[]):∃ z:Int,atI (ns.map V.int) ((a:Int) % ((ns.map V.int).length:Nat))=some (.int z):=by
  have hl:0 < ns.length:=List.length_pos_iff.mpr h
  have hl':(ns.map V.int).length=ns.length:=List.length_map ..
  have e:(a:Int) % ((ns.map V.int).length:Nat)=((a % ns.length:Nat):Int):=by rw [hl']; omega
  have hlt:a % ns.length < ns.length:=Nat.mod_lt _ hl
  rw [e]
  exact ⟨ns[a % ns.length],atI_nat (by rw [List.getElem?_map,List.getElem?_eq_getElem hlt]; rfl)⟩
noncomputable def prs:List V:=[V.int 2147483629,V.int 2147483587,V.int 2147483579,V.int 2147483563,V.int 2147483549,V.int 2147483543,V.int 2147483497,V.int 2147483489]++[V.int 2147483477,V.int 2147483423,V.int 2147483399,V.int 2147483353]
theorem prime_at (a:Nat):∃ pr:Int,atI prs ((a:Int) % 12)=some (.int pr)∧2147483000 < pr∧pr≤2147483647:=by
  have e:(a:Int) % 12=((a % 12:Nat):Int):=by omega
  rw [e]
  have h:a % 12 < prs.length:=by show a % 12 < 12; exact Nat.mod_lt _ (by decide)
  generalize a % 12=b at h ⊢
  have hm:∀ x∈prs,∃ pr:Int,x=.int pr∧2147483000 < pr∧pr≤2147483647:=by
    intro x hx
    simp only [prs,List.cons_append,List.nil_append,List.mem_cons,List.not_mem_nil,or_false] at hx
    rcases hx with rfl | rfl | rfl | rfl | rfl | rfl | rfl | rfl | rfl | rfl | rfl | rfl <;> exact ⟨_,rfl,by decide,by decide⟩
  obtain ⟨pr,e1,e2⟩:=hm prs[b] (List.getElem_mem h)
  exact ⟨pr,by rw [atI_nat (List.getElem?_eq_getElem h),e1],e2⟩
theorem base1 {z a:Int} (h0:0≤a) (h1:a≤500000):(z % 2147483647+48271 * a+11).natAbs < 2 ^ 64:=by omega
theorem base2 {n a:Int} (n0:0≤n) (n1:n < 2147483647) (h0:0≤a) (h1:a≤500000):(n * (2 * a+40503)+a).natAbs < 2 ^ 64:=by
  have p0:0≤n * (2 * a+40503):=Int.mul_nonneg n0 (by omega)
  have p1:n * (2 * a+40503)≤2147483647 * 1040503:=Int.mul_le_mul (by omega) (by omega) (by omega) (by omega)
  omega
theorem sql_upd {K:PySem.W.Frag} {H:Hp} {p c:Addr} {xs:List V} {d:List (Key×V)} {o:HO} (hd:H p=some (.dK d)) (hc:SqL K H c xs):SqL K (upd H p o) c xs:=by
  rcases hc with (hc | ⟨u,hc⟩) | hc
  · exact .inl (.inl (by rw [upd_ne (ne_of hc hd (by intro z; cases z))]; exact hc))
  · exact .inl (.inr ⟨u,by rw [upd_ne (ne_of hc hd (by intro z; cases z))]; exact hc⟩)
  · exact .inr hc
section
variable {P:Program} {w:World} {K:PySem.W.Frag} {mg:Str→Option Value} {base:Heap}
set_option maxHeartbeats 1000000 in
theorem ok_pen (T:Txt K mg):Callee P w K mg base "_law_pen" 1 ["_law_script"] (spPen4 K):=by
  refine T.d__law_pen.ok sc__law_pen (fun vs H Q E h=>?_) (fun f cdv A outer s H vs Q E hr h=>?_)
  · obtain ⟨a,ns,rfl,_⟩:=h
    rfl
  · obtain ⟨a,ns,rfl,hS,hlen,k⟩:=h
    have hu:=hu_of hr
    refine ⟨_,(pss_one (ps_ret (pe_disp (pps_cons pe_str (pv 0) (pps_cons pe_str pe_int (pps_cons pe_str pe_int pps_nil))) rfl rfl (by simp) (by decide)))),?_⟩
    intro p hp
    refine ⟨_,rfl,upd_same,penK a 0 0,rfl,(by show 3≤15; decide),?_⟩
    have s0:Same H (upd (upd H p (.dK [])) p (.dK (penK a 0 0))):=fun b o e=>by
      rw [upd_ne (ne_of_none e hp),upd_ne (ne_of_none e hp)]
      exact e
    exact k p _ hp ⟨⟨0,0,by rw [upd_same]; rfl,Nat.le_refl _,Int.le_refl _⟩,s0.seq hS,hlen⟩ s0
set_option maxHeartbeats 2000000 in
theorem ok_draw (T:Txt K mg):Callee P w K mg base "_law_draw" 1 ["_law_pen_here","_law_many"] (spDraw4 K):=by
  refine T.d__law_draw.ok sc__law_draw (fun vs H Q E h=>?_) (fun f cdv A outer s H vs Q E hr h=>?_)
  · obtain ⟨p,c,ns,m,most,rfl,_⟩:=h
    rfl
  · obtain ⟨p,c,ns,m,most,rfl,hP,hm,h0,h1,k⟩:=h
    have hu:=hu_of hr
    refine ⟨_,(pss_cons (ps_if (pt_cmpR op_gt (pe_dget hu (pv 0) pe_str (fun _ _=>rfl)) pe_int (nomark _)) (pss_cons (ps_set (i:=2) sc__law_draw.nd rfl (Or.inl rfl) (pe_op op_mod (pe_dget hu (pv 0) pe_str (fun _ _=>rfl)) (pv 1)))
 (pss_cons (ps_dput hu (pv 0) pe_str (pe_op op_fdiv (pe_dget hu (pv 0) pe_str (fun _ _=>rfl)) (pv 1)) rfl)
 (pss_one (ps_ret (pv 2))))) pss_nil)
 (pss_cons (ps_set (i:=3) sc__law_draw.nd rfl (Or.inl rfl) (pe_dget hu (pv 0) pe_str (fun _ _=>rfl)))
 (pss_cons (ps_set (i:=4) sc__law_draw.nd rfl (Or.inl rfl) (pe_dget hu (pv 0) pe_str (fun _ _=>rfl)))
 (pss_cons (ps_dput hu (pv 0) pe_str (pe_op op_add (pv 4) pe_int) rfl)
 (pss_cons (ps_set (i:=5) sc__law_draw.nd rfl (Or.inl rfl) pe_int)
 (pss_cons (PS.join (ps_if (pt_cmpR op_gt (pe_callB (call_len_seq) rfl T.n_len boot_len (pa_cons (pv 3) pa_nil)) pe_int (nomark _)) (pss_one (ps_set (i:=5) sc__law_draw.nd rfl (Or.inl rfl) (pe_ix ix_list (pv 3) (pe_op op_mod (pv 4) (pe_callB (call_len_seq) rfl T.n_len boot_len (pa_cons (pv 3) pa_nil))) (fun _ _=>rfl)))) pss_nil))
 (pss_cons (ps_if (PT.join (PW.pt (pw_and (pt_cmpR op_lt (pv 4) (pe_callB (call_len_seq) rfl T.n_len boot_len (pa_cons (pv 3) pa_nil)) (nomark _)) (pw_and1 (pt_cmpR op_ge (pe_callB (call_abs) rfl T.n_abs boot_abs (pa_cons (pv 5) pa_nil)) (pe_op op_pow pe_int pe_int) (nomark _)))))) (pss_cons (ps_dput hu (pv 0) pe_str (pe_op op_fdiv (pe_callB (call_abs) rfl T.n_abs boot_abs (pa_cons (pv 5) pa_nil)) (pv 1)) rfl)
 (pss_one (ps_ret (pe_op op_mod (pe_callB (call_abs) rfl T.n_abs boot_abs (pa_cons (pv 5) pa_nil)) (pv 1))))) pss_nil)
 (pss_cons (ps_set (i:=6) sc__law_draw.nd rfl (Or.inl rfl) (pe_lst (pa_cons pe_int (pa_cons pe_int (pa_cons pe_int (pa_cons pe_int (pa_cons pe_int (pa_cons pe_int (pa_cons pe_int (pa_cons pe_int pa_nil))))))))))
 (pss_cons (ps_set (i:=6) sc__law_draw.nd rfl (Or.inl rfl) (pe_op op_cat (pv 6) (pe_lst (pa_cons pe_int (pa_cons pe_int (pa_cons pe_int (pa_cons pe_int pa_nil)))))))
 (pss_cons (ps_set (i:=7) sc__law_draw.nd rfl (Or.inl rfl) (pe_op op_mod (pe_op op_pow (pe_op op_add (pe_op op_add (pe_op op_mod (pv 5) pe_int) (pe_op op_mul pe_int (pv 4))) pe_int) pe_int) (pe_ix ix_list (pv 6) (pe_op op_mod (pv 4) pe_int) (fun _ _=>rfl))))
 (pss_cons (ps_set (i:=7) sc__law_draw.nd rfl (Or.inl rfl) (pe_op op_mod (pe_op op_pow (pe_op op_add (pe_op op_mul (pv 7) (pe_op op_add (pe_op op_mul pe_int (pv 4)) pe_int)) (pv 4)) pe_int) (pe_ix ix_list (pv 6) (pe_op op_mod (pe_op op_add (pv 4) pe_int) pe_int) (fun _ _=>rfl))))
 (pss_one (ps_ret (pe_op op_mod (pe_op op_fdiv (pv 7) pe_int) (pv 1))))))))))))))),?_⟩
    obtain ⟨⟨a,l,hd,ha,hl⟩,hc,hn⟩:=hP
    refine ⟨_,rfl,p,_,rfl,dg_left hd,_,_,rfl,rfl,_,rfl,?_⟩
    refine ite2 (fun hz=>?_) (fun hz=>?_)
    · refine ⟨_,rfl,p,_,rfl,dg_left hd,_,rfl,_,_,rfl,rfl,h0,?_⟩
      refine ⟨_,rfl,p,_,rfl,dg_left hd,_,rfl,_,_,rfl,rfl,⟨h0,h1⟩,_,rfl,p,_,rfl,dp_left hd,?_⟩
      exact ⟨_,rfl,k _ _ (Int.emod_nonneg _ (by omega)) (Int.emod_lt_of_pos _ h0) ⟨⟨a,_,upd_same,by omega,Int.ediv_nonneg hl (by omega)⟩,sql_upd hd hc,hn⟩ Kept.refl.pen⟩
    · refine ⟨_,rfl,p,_,rfl,dg_script hd,?_⟩
      refine ⟨_,rfl,p,_,rfl,dg_at hd,?_⟩
      refine ⟨_,rfl,_,_,rfl,rfl,_,rfl,p,_,rfl,dp_at hd,?_⟩
      have hd1:(upd H p (.dK (penK c ((a:Int)+1) l))) p=some (.dK (penK c ((a+1:Nat):Int) l)):=by
        rw [upd_same]
        rfl
      have hc1:SqL K (upd H p (.dK (penK c ((a:Int)+1) l))) c (ns.map V.int):=sql_upd hd hc
      have k1:Kept p H (upd H p (.dK (penK c ((a:Int)+1) l))):=Kept.refl.pen
      generalize upd H p (.dK (penK c ((a:Int)+1) l))=H1 at hd1 hc1 k1
      refine ⟨fun σ' H'=>∃ (z:Int),σ'=[some (.ref p),some (.int most),none,some (.ref c),some (.int a),some (.int z),none,none]∧H'=H1,?_,?_⟩
      · refine ⟨_,rfl,c,_,rfl,.inl hc1,_,_,rfl,rfl,_,rfl,?_⟩
        refine ite2 (fun hlen=>?_) (fun _=>⟨1013,rfl,rfl⟩)
        have hlen':(0:Int) < ((ns.map V.int).length:Nat):=of_decide_eq_true hlen
        have hne':ns≠[]:=by
          rintro rfl
          simp at hlen'
        obtain ⟨z,hz2⟩:=cell_at ns a hne'
        refine ⟨_,rfl,_,rfl,_,rfl,c,_,rfl,.inl hc1,_,_,rfl,rfl,hlen',c,_,_,_,rfl,rfl,hc1,hz2,?_⟩
        exact ⟨z,rfl,rfl⟩
      · rintro σ2 H2 ⟨z,rfl,rfl⟩
        refine ⟨fun _ H'=>H'=H2,?_,?_⟩
        · refine ⟨_,rfl,_,rfl,c,_,rfl,.inl hc1,_,_,rfl,rfl,_,rfl,?_⟩
          refine ite2 (fun _=>?_) (fun _=>rfl)
          exact ⟨_,rfl,z,rfl,_,_,rfl,rfl,⟨by decide,by decide,by decide⟩,_,_,rfl,rfl,_,rfl,rfl⟩
        · rintro b H3 rfl
          have ab:0≤(if z < 0 then -z else z):=by split <;> omega
          refine ite2 (fun _=>?_) (fun _=>?_)
          · refine ⟨_,rfl,z,rfl,_,rfl,_,_,rfl,rfl,⟨h0,h1⟩,_,rfl,p,_,rfl,dp_left hd1,?_⟩
            refine ⟨_,rfl,z,rfl,_,rfl,_,_,rfl,rfl,h0,?_⟩
            exact k _ _ (Int.emod_nonneg _ (by omega)) (Int.emod_lt_of_pos _ h0) ⟨⟨a+1,_,upd_same,by omega,Int.ediv_nonneg ab (by omega)⟩,sql_upd hd1 hc1,hn⟩ k1.pen
          · refine ⟨by show 8≤sizeLine; decide,fun q hq=>?_⟩
            refine ⟨_,rfl,by show 4≤sizeLine; decide,fun q2 hq2=>?_⟩
            have eq1:(upd (upd H3 q (.lst [V.int 2147483629,V.int 2147483587,V.int 2147483579,V.int 2147483563,V.int 2147483549,V.int 2147483543,V.int 2147483497,V.int 2147483489])) q2 (.lst [V.int 2147483477,V.int 2147483423,V.int 2147483399,V.int 2147483353])) q=some (.lst [V.int 2147483629,V.int 2147483587,V.int 2147483579,V.int 2147483563,V.int 2147483549,V.int 2147483543,V.int 2147483497,V.int 2147483489]):=by
              rw [upd_ne (ne_of_none upd_same hq2),upd_same]
            refine ⟨q,q2,_,_,rfl,rfl,eq1,upd_same,by show 12≤sizeLine; decide,fun q3 hq3=>?_⟩
            have s3:Same H3 (upd (upd (upd H3 q (.lst [V.int 2147483629,V.int 2147483587,V.int 2147483579,V.int 2147483563,V.int 2147483549,V.int 2147483543,V.int 2147483497,V.int 2147483489])) q2 (.lst [V.int 2147483477,V.int 2147483423,V.int 2147483399,V.int 2147483353])) q3 (.lst prs)):=(((Same.refl H3).new hq).new hq2).new hq3
            obtain ⟨pr,hpr,g1,g2⟩:=prime_at a
            obtain ⟨pr2,hpr2,f1,f2⟩:=prime_at (a+5)
            rw [show ((a+5:Nat):Int)=(a:Int)+5 by omega] at hpr2
            refine ⟨_,rfl,_,_,rfl,rfl,(by show (0:Int) < 2147483647; decide),_,rfl,_,_,rfl,rfl,.inl ⟨by decide,by decide⟩,_,_,rfl,rfl,_,_,rfl,rfl,_,_,rfl,rfl,⟨by decide,by decide,base1 (by omega) (by omega)⟩,_,rfl,_,rfl,_,_,rfl,rfl,(by show (0:Int) < 12; decide),q3,_,_,_,rfl,rfl,SqL.of upd_same,hpr,_,_,rfl,rfl,(by omega),?_⟩
            have m0:0≤((z % 2147483647+48271 * (a:Int)+11) ^ (3:Int).toNat) % pr:=Int.emod_nonneg _ (by omega)
            have m1:((z % 2147483647+48271 * (a:Int)+11) ^ (3:Int).toNat) % pr < 2147483647:=Int.lt_of_lt_of_le (Int.emod_lt_of_pos _ (by omega)) g2
            refine ⟨_,rfl,_,rfl,_,_,rfl,rfl,.inl ⟨by decide,by decide⟩,_,_,rfl,rfl,_,_,rfl,rfl,.inl ⟨Int.lt_of_lt_of_le (by decide) m0,Int.lt_trans m1 (by decide)⟩,_,rfl,_,_,rfl,rfl,_,_,rfl,rfl,⟨by decide,by decide,base2 m0 m1 (by omega) (by omega)⟩,_,rfl,_,rfl,_,_,rfl,rfl,_,_,rfl,rfl,(by show (0:Int) < 12; decide),q3,_,_,_,rfl,rfl,SqL.of upd_same,hpr2,_,_,rfl,rfl,(by omega),?_⟩
            refine ⟨_,rfl,_,_,rfl,rfl,⟨by decide,by decide⟩,_,rfl,_,_,rfl,rfl,h0,?_⟩
            refine k _ _ (Int.emod_nonneg _ (by omega)) (Int.emod_lt_of_pos _ h0) ⟨⟨a+1,l,s3 _ _ hd1,by omega,hl⟩,s3.seq hc1,hn⟩ ?_
            exact fun b o e n=>s3 b o (k1 b o e n)
end
end My
set_option Elab.async false
set_option linter.all false
set_option maxRecDepth 100000
namespace My
open PySem PySem.Spec PyProof.Rows L2
section
variable {cn:Addr×List Int} {P:Program} {w:World} {K:PySem.W.Frag} {mg:Str→Option Value} {base:Heap}
noncomputable def m_stocks:List Sl→Tr Re:=aDef 1 0
 (aRet (aTupR (aCons (aNeg (aBin ixD (aVar 0) (aC (.int 1)))) (aCons (aBin addD (aBin ixD (aVar 0) (aC (.int 0))) (aC (.int 1))) aNil))))
set_option maxHeartbeats 2000000 in
theorem c_stocks (T:Txt K mg):ACal (PK2 (K,cn)) P w K mg base "stocks" 1 ["shop"] m_stocks:=acal_of T.d_stocks sc_stocks rfl fun f cdv A outer sh H E hr=>by
  exact (ass_one (as_ret (ae_tupR (pe_callTy (call_tuple_rng hr.hd) rfl T.n_tuple boot_tuple (pa_cons (pe_callTy call_rangeV2 rfl T.n_range boot_range (ad_cons (ae_neg (ae_ix ix_seq vo_ix (ae_var (pv 0)) (ae_gint rfl T.g_DEPTH) (fun _ _=>rfl))) (ad_cons (ae_op op_addD vo_add (ae_ix ix_seq vo_ix (ae_var (pv 0)) (ae_gint rfl T.g_TOP) (fun _ _=>rfl)) ae_int) ad_nil))) pa_nil)))))
noncomputable def m_next_stock:List Sl→Tr Re:=aDef 3 0
 (aRet (aCB max2D (aCons (aBin subD (aVar 1) (aVar 2)) (aCons (aNeg (aBin ixD (aVar 0) (aC (.int 1)))) aNil))))
set_option maxHeartbeats 2000000 in
theorem c_next_stock (T:Txt K mg):ACal (PK2 (K,cn)) P w K mg base "next_stock" 1 ["shop","level","fall"] m_next_stock:=acal_of T.d_next_stock sc_next_stock rfl fun f cdv A outer sh H E hr=>by
  exact (ass_one (as_ret (ae_cb (t:=tNil) (pe_callB (call_max2 rfl) rfl T.n_max boot_max (ad_cons (ae_op op_sub vo_sub (ae_var (pv 1)) (ae_var (pv 2))) (ad_cons (ae_neg (ae_ix ix_seq vo_ix (ae_var (pv 0)) (ae_gint rfl T.g_DEPTH) (fun _ _=>rfl))) ad_nil))) vc_max2)))
noncomputable def m_end_cost:List Sl→Tr Re:=aDef 2 0
 (aSeq (aIfS (aTest (aBin (cmpD fun i j=>decide (i > j)) (aVar 1) (aC (.int 0))))
  (aRet (aBin mulD' (aNeg (aBin ixD (aVar 0) (aC (.int 7)))) (aVar 1)))
  aSkip)
 (aRet (aBin mulD' (aBin ixD (aVar 0) (aC (.int 8))) (aNeg (aVar 1)))))
set_option maxHeartbeats 2000000 in
theorem c_end_cost (T:Txt K mg):ACal (PK2 (K,cn)) P w K mg base "end_cost" 1 ["shop","stock"] m_end_cost:=acal_of T.d_end_cost sc_end_cost rfl fun f cdv A outer sh H E hr=>by
  exact (ass_cons (as_if (at_cmp op_gt vo_cmp (ae_var (pv 1)) ae_int (nomark _))
  (ass_one (as_ret (ae_op op_mulD vo_mul (ae_neg (ae_ix ix_seq vo_ix (ae_var (pv 0)) (ae_gint rfl T.g_BACK) (fun _ _=>rfl))) (ae_var (pv 1)))))
  ass_nil)
 (ass_one (as_ret (ae_op op_mulD vo_mul (ae_ix ix_seq vo_ix (ae_var (pv 0)) (ae_gint rfl T.g_LATE) (fun _ _=>rfl)) (ae_neg (ae_var (pv 1)))))))
noncomputable def l_cheapest_from_1:List Sl→Tr Ou :=
 (aSeq (aSet 7 (aTup (aCons (aBin ixD (aVar 2) (aBin subD (aVar 6) (aVar 1))) (aCons (aVar 6) aNil))))
 (aSeq (aAsg (gTupD (gsCons (gSet 8) (gsCons (gSet 9) gsNil))) (aCB min2T (aCons (aVar 7) (aCons (aTup (aCons (aBin addD (aBin mulD' (aVar 3) (aBin ixD (aVar 0) (aC (.int 2)))) (aBin ixD (aVar 5) (aC (.int 0)))) (aCons (aBin ixD (aVar 5) (aC (.int 1))) aNil))) aNil))))
 (aSeq (aApp 4 (aTup (aCons (aBin subD (aVar 8) (aBin mulD' (aBin mulD' (aVar 3) (aBin ixD (aVar 0) (aC (.int 3)))) (aVar 6))) (aCons (aVar 9) aNil))))
 (aSet 5 (aCB min2T (aCons (aVar 7) (aCons (aVar 5) aNil)))))))
noncomputable def m_cheapest_from:List Sl→Tr Re:=aDef 4 6
 (aSeq (aSetO 4 (aLo aNil))
 (aSeq (aSet 5 (aTup (aCons (aBin ixD (aVar 2) (aNeg (aC (.int 1)))) (aCons (aBin ixD (aVar 0) (aC (.int 0))) aNil))))
 (aSeq (aFor (aRevR2 (aCons (aVar 1) (aCons (aBin addD (aBin ixD (aVar 0) (aC (.int 0))) (aC (.int 1))) aNil))) (gSet 6) l_cheapest_from_1)
 (aSeq (aRev 4)
 (aRetV 4)))))
set_option maxHeartbeats 2000000 in
theorem c_cheapest_from (T:Txt K mg):ACal (PK2 (K,cn)) P w K mg base "cheapest_from" 1 ["shop","low","by_level","scale"] m_cheapest_from:=acal_of T.d_cheapest_from sc_cheapest_from rfl fun f cdv A outer sh H E hr=>by
  exact (ass_cons (as_setO (ps_set (i:=4) sc_cheapest_from.nd rfl (Or.inl rfl) (ao_lst ad_nil)))
 (ass_cons (as_set (ps_set (i:=5) sc_cheapest_from.nd rfl (Or.inl rfl) (ae_tup (ad_cons (ae_ix ix_seq vo_ix (ae_var (pv 2)) (ae_neg ae_int) (fun _ _=>rfl)) (ad_cons (ae_ix ix_seq vo_ix (ae_var (pv 0)) (ae_gint rfl T.g_TOP) (fun _ _=>rfl)) ad_nil)))))
 (ass_cons (as_for PassesOwn.never rfl (ai_revr2 (pi_rev rfl T.n_reversed (pe_callTy call_rangeV2 rfl T.n_range boot_range (ad_cons (ae_var (pv 1)) (ad_cons (ae_op op_addD vo_add (ae_ix ix_seq vo_ix (ae_var (pv 0)) (ae_gint rfl T.g_TOP) (fun _ _=>rfl)) ae_int) ad_nil))))) (ag_name (pg_name (i:=6) sc_cheapest_from.nd rfl (Or.inl rfl)))
  (ass_cons (as_set (ps_set (i:=7) sc_cheapest_from.nd rfl (Or.inl rfl) (ae_tup (ad_cons (ae_ix ix_seq vo_ix (ae_var (pv 2)) (ae_op op_sub vo_sub (ae_var (pv 6)) (ae_var (pv 1))) (fun _ _=>rfl)) (ad_cons (ae_var (pv 6)) ad_nil)))))
 (ass_cons (as_asg (ps_asg (ae_cb (t:=tNil) (pe_callB (call_min2T hr rfl) rfl T.n_min boot_min (ad_cons (ae_var (pv 7)) (ad_cons (ae_tup (ad_cons (ae_op op_addD vo_add (ae_op op_mulD vo_mul (ae_var (pv 3)) (ae_ix ix_seq vo_ix (ae_var (pv 0)) (ae_gint rfl T.g_START) (fun _ _=>rfl))) (ae_ix ix_seq vo_ix (ae_var (pv 5)) ae_int (fun _ _=>rfl))) (ad_cons (ae_ix ix_seq vo_ix (ae_var (pv 5)) ae_int (fun _ _=>rfl)) ad_nil))) ad_nil))) vc_min2T) (ag_tup rfl (ags_cons (ag_name (pg_name (i:=8) sc_cheapest_from.nd rfl (Or.inl rfl))) (ags_cons (ag_name (pg_name (i:=9) sc_cheapest_from.nd rfl (Or.inl rfl))) ags_nil)) (gsLen_cons (gsLen_cons gsLen_nil)))))
 (ass_cons (as_app (ps_expr (pe_bm PySem.F.plainAttrs_list PySem.F.slot_list_append PySem.F.type_list_append mt_append (pv 4) (pa_cons (ae_tup (ad_cons (ae_op op_sub vo_sub (ae_var (pv 8)) (ae_op op_mulD vo_mul (ae_op op_mulD vo_mul (ae_var (pv 3)) (ae_ix ix_seq vo_ix (ae_var (pv 0)) (ae_gint rfl T.g_PIECE) (fun _ _=>rfl))) (ae_var (pv 6)))) (ad_cons (ae_var (pv 9)) ad_nil))) pa_nil))))
 (ass_one (as_set (ps_set (i:=5) sc_cheapest_from.nd rfl (Or.inl rfl) (ae_cb (t:=tNil) (pe_callB (call_min2T hr rfl) rfl T.n_min boot_min (ad_cons (ae_var (pv 7)) (ad_cons (ae_var (pv 5)) ad_nil))) vc_min2T))))))))
 (ass_cons (as_rev (ps_expr (pe_bm0 PySem.F.plainAttrs_list PySem.F.slot_list_reverse PySem.F.type_list_reverse mt_reverse (pv 4))))
 (ass_one (as_retV (pv 4)))))))
noncomputable def m_is_cheapest:List Sl→Tr Re:=aDef 5 2
 (aSeq (aSet 5 (aBin addD (aVar 3) (aBin ixD (aVar 0) (aC (.int 1)))))
 (aSeq (aSet 6 (aBin addD (aBin mulD' (aVar 2) (aBin ixD (aVar 0) (aC (.int 2)))) (aBin ixD (aVar 1) (aBin addD (aVar 4) (aBin ixD (aVar 0) (aC (.int 1)))))))
 (aRet (aAndV (aBin (cmpD fun i j=>decide (i≤j)) (aVar 6) (aBin ixD (aVar 1) (aVar 5))) (aBin eqD (aBin ixD (aVar 1) (aBin addD (aVar 4) (aBin ixD (aVar 0) (aC (.int 1))))) (aCB min1D (aCons (aSl (aVar 1) (aP1 (aBin addD (aVar 5) (aC (.int 1)))) aP0) aNil)))))))
set_option maxHeartbeats 2000000 in
theorem c_is_cheapest (T:Txt K mg):ACal (PK2 (K,cn)) P w K mg base "is_cheapest" 1 ["shop","by_level","scale","stock","level"] m_is_cheapest:=acal_of T.d_is_cheapest sc_is_cheapest rfl fun f cdv A outer sh H E hr=>by
  exact (ass_cons (as_set (ps_set (i:=5) sc_is_cheapest.nd rfl (Or.inl rfl) (ae_op op_addD vo_add (ae_var (pv 3)) (ae_ix ix_seq vo_ix (ae_var (pv 0)) (ae_gint rfl T.g_DEPTH) (fun _ _=>rfl)))))
 (ass_cons (as_set (ps_set (i:=6) sc_is_cheapest.nd rfl (Or.inl rfl) (ae_op op_addD vo_add (ae_op op_mulD vo_mul (ae_var (pv 2)) (ae_ix ix_seq vo_ix (ae_var (pv 0)) (ae_gint rfl T.g_START) (fun _ _=>rfl))) (ae_ix ix_seq vo_ix (ae_var (pv 1)) (ae_op op_addD vo_add (ae_var (pv 4)) (ae_ix ix_seq vo_ix (ae_var (pv 0)) (ae_gint rfl T.g_DEPTH) (fun _ _=>rfl))) (fun _ _=>rfl)))))
 (ass_one (as_ret (ae_and (ae_cmp op_le vo_cmp (ae_var (pv 6)) (ae_ix ix_seq vo_ix (ae_var (pv 1)) (ae_var (pv 5)) (fun _ _=>rfl)) (nomark _)) (ae_one (ae_cmp (op_eqA hr) vo_eq (ae_ix ix_seq vo_ix (ae_var (pv 1)) (ae_op op_addD vo_add (ae_var (pv 4)) (ae_ix ix_seq vo_ix (ae_var (pv 0)) (ae_gint rfl T.g_DEPTH) (fun _ _=>rfl))) (fun _ _=>rfl)) (ae_cb (t:=tNil) (pe_callB (call_minD rfl) rfl T.n_min boot_min (ad_cons (ae_sl (ae_var (pv 1)) (ap_some (ae_op op_addD vo_add (ae_var (pv 5)) ae_int)) ap_none) ad_nil)) vc_min1) (nomark _))))))))
noncomputable abbrev m_law_draw:=m_draw
theorem c_law_draw (T:Txt K mg):ACal (PK2 (K,cn)) P w K mg base "_law_draw" 1 ["_law_pen_here","_law_many"] m_law_draw:=draw1 rfl (ok_draw T)
noncomputable def q_law_reach_1:List Sl→Tr PyData :=
 (aVar 0)
noncomputable def p_law_reach_1:List Sl→Tr Bool :=
 (aTest (aBin (cmpD fun i j=>decide (i > j)) (aVar 1) (aC (.int 0))))
noncomputable def q_law_reach_2:List Sl→Tr PyData :=
 (aCB max1D (aCons (aLst (aLcif (aEnum (aVar 0)) 2 [] (gTupD (gsCons (gSet 0) (gsCons (gSet 1) gsNil))) p_law_reach_1 q_law_reach_1)) aNil))
noncomputable def m_law_reach:List Sl→Tr Re:=aDef 1 0
 (aRet (aCB sumD (aCons (aLst (aLc (aIt (aVar 0)) 1 [] (gSet 0) q_law_reach_2)) aNil)))
set_option maxHeartbeats 2000000 in
theorem c_law_reach (T:Txt K mg):ACal (PK2 (K,cn)) P w K mg base "_law_reach" 1 ["_law_falls_here"] m_law_reach:=acal_of T.d__law_reach sc__law_reach rfl fun f cdv A outer sh H E hr=>by
  exact (ass_one (as_ret (ae_cb (t:=tNil) (pe_callB (call_sumD rfl) rfl T.n_sum boot_sum (ad_cons (ae_o (ao_lc (pe_lc N__law_reach ["_law_one"] [] rfl (ai_seq (ae_var (pv 0))) (fun b=>(ag_name (pg_name (i:=0) (show ((bN N__law_reach ["_law_one"] [])).Nodup by decide +kernel) rfl (Or.inl rfl)))) (fun b=>(ae_cb (t:=tNil) (pe_callB (call_maxD rfl) rfl T.n_max boot_max (ad_cons (ae_o (ao_lcif (pe_lcif (bN N__law_reach ["_law_one"] []) ["_law_fall","_law_weight"] [] rfl (ai_enum (pi_enum rfl rfl T.n_enumerate (ae_var (pv 0)))) (fun b=>(ag_tup rfl (ags_cons (ag_name (pg_name (i:=0) (show ((bN (bN N__law_reach ["_law_one"] []) ["_law_fall","_law_weight"] [])).Nodup by decide +kernel) rfl (Or.inl rfl))) (ags_cons (ag_name (pg_name (i:=1) (show ((bN (bN N__law_reach ["_law_one"] []) ["_law_fall","_law_weight"] [])).Nodup by decide +kernel) rfl (Or.inl rfl))) ags_nil)) (gsLen_cons (gsLen_cons gsLen_nil)))) (fun b=>(at_cmp op_gt vo_cmp (ae_var (pv 1)) ae_int (nomark _))) (fun b=>(ae_var (pv 0))) rfl (BlkOk.leaf rfl (by decide +kernel) (by decide +kernel))) (pres_tup (pres_cons (pres_set (by decide)) (pres_cons (pres_set (by decide)) pres_nil))))) ad_nil)) vc_max1)) rfl (show BlkOk N__law_reach (defScope s__law_reach) _ [] from ⟨rfl,by decide +kernel,by decide +kernel,by decide +kernel,by decide +kernel⟩)) (pres_set (by decide)))) ad_nil)) vc_sum)))
noncomputable def q_law_costs_1:List Sl→Tr PyData :=
 (aBin addD (aBin mulD' (aBin ixD (aVar 2) (aC (.int 2))) (aVar 1)) (aVar 0))
noncomputable def l_law_costs_1:List Sl→Tr Ou :=
 (aSeq (aSet 5 (aBin addD (aLst (aLo (aCons (aBin ixD (aVar 0) (aVar 4)) aNil))) (aLst (aLc (aIt (aSl (aVar 0) (aP1 (aBin addD (aVar 4) (aC (.int 1)))) aP0)) 1 [1,2] (gSet 0) q_law_costs_1))))
 (aApp 3 (aBin subD (aCB min1D (aCons (aVar 5) aNil)) (aBin mulD' (aBin mulD' (aBin ixD (aVar 2) (aC (.int 3))) (aBin subD (aVar 4) (aBin ixD (aVar 2) (aC (.int 1))))) (aVar 1)))))
noncomputable def m_law_costs:List Sl→Tr Re:=aDef 3 3
 (aSeq (aSetO 3 (aLo aNil))
 (aSeq (aFor (aRng1 (aCons (aCB lenD (aCons (aVar 0) aNil)) aNil)) (gSet 4) l_law_costs_1)
 (aRetV 3)))
set_option maxHeartbeats 2000000 in
theorem c_law_costs (T:Txt K mg):ACal (PK2 (K,cn)) P w K mg base "_law_costs" 1 ["_law_row","_law_bottom","_law_shop_here"] m_law_costs:=acal_of T.d__law_costs sc__law_costs rfl fun f cdv A outer sh H E hr=>by
  exact (ass_cons (as_setO (ps_set (i:=3) sc__law_costs.nd rfl (Or.inl rfl) (ao_lst ad_nil)))
 (ass_cons (as_for PassesOwn.never rfl (ai_rng1 (pi_range1 rfl T.n_range (ad_cons (ae_cb (t:=tNil) (pe_callB call_len_seq rfl T.n_len boot_len (ad_cons (ae_var (pv 0)) ad_nil)) vc_len) ad_nil))) (ag_name (pg_name (i:=4) sc__law_costs.nd rfl (Or.inl rfl)))
  (ass_cons (as_set (ps_set (i:=5) sc__law_costs.nd rfl (Or.inl rfl) (ae_op op_addD vo_add (ae_o (ao_lst (ad_cons (ae_ix ix_seq vo_ix (ae_var (pv 0)) (ae_var (pv 4)) (fun _ _=>rfl)) ad_nil))) (ae_o (ao_lc (pe_lc N__law_costs ["_law_one"] [1,2] rfl (ai_seq (ae_sl (ae_var (pv 0)) (ap_some (ae_op op_addD vo_add (ae_var (pv 4)) ae_int)) ap_none)) (fun b=>(ag_name (pg_name (i:=0) (show ((bN N__law_costs ["_law_one"] [1,2])).Nodup by decide +kernel) rfl (Or.inl rfl)))) (fun b=>(ae_op op_addD vo_add (ae_op op_mulD vo_mul (ae_ix ix_seq vo_ix (ae_var (pv 2)) ae_int (fun _ _=>rfl)) (ae_var (pv 1))) (ae_var (pv 0)))) rfl (show BlkOk N__law_costs (defScope s__law_costs) _ [1,2] from ⟨rfl,by decide +kernel,by decide +kernel,by decide +kernel,by decide +kernel⟩)) (pres_set (by decide)))))))
 (ass_one (as_app (ps_expr (pe_bm PySem.F.plainAttrs_list PySem.F.slot_list_append PySem.F.type_list_append mt_append (pv 3) (pa_cons (ae_op op_sub vo_sub (ae_cb (t:=tNil) (pe_callB (call_minD rfl) rfl T.n_min boot_min (ad_cons (ae_var (pv 5)) ad_nil)) vc_min1) (ae_op op_mulD vo_mul (ae_op op_mulD vo_mul (ae_ix ix_seq vo_ix (ae_var (pv 2)) ae_int (fun _ _=>rfl)) (ae_op op_sub vo_sub (ae_var (pv 4)) (ae_ix ix_seq vo_ix (ae_var (pv 2)) ae_int (fun _ _=>rfl)))) (ae_var (pv 1)))) pa_nil)))))))
 (ass_one (as_retV (pv 3)))))
noncomputable def m_law_cost:List Sl→Tr Re:=aDef 4 0
 (aRet (aBin addD (aBin ixD (aVar 0) (aVar 3)) (aBin mulD' (aVar 1) (aCB intD (aCons (aBin (cmpD fun i j=>decide (i > j)) (aVar 3) (aVar 2)) aNil)))))
set_option maxHeartbeats 2000000 in
theorem c_law_cost (T:Txt K mg):ACal (PK2 (K,cn)) P w K mg base "_law_cost" 1 ["_law_row","_law_start","_law_place","_law_level"] m_law_cost:=acal_of T.d__law_cost sc__law_cost rfl fun f cdv A outer sh H E hr=>by
  exact (ass_one (as_ret (ae_op op_addD vo_add (ae_ix ix_seq vo_ix (ae_var (pv 0)) (ae_var (pv 3)) (fun _ _=>rfl)) (ae_op op_mulD vo_mul (ae_var (pv 1)) (ae_cb (t:=tNil) (pe_callTy call_int1 rfl T.n_int boot_int (ad_cons (ae_cmp op_gt vo_cmp (ae_var (pv 3)) (ae_var (pv 2)) (nomark _)) ad_nil)) vc_int)))))
noncomputable def m_day_cost:List Sl→Tr Re:=aDef 3 3
 (aSeq (aSet 3 (aRe (aCall m_next_stock (aaCons (aVar 0) (aaCons (aVar 1) (aaCons (aVar 2) aaNil))))))
 (aSeq (aSet 4 (aBin subD (aVar 3) (aBin subD (aVar 1) (aVar 2))))
 (aSeq (aSet 5 (aIf (aTest (aBin (cmpD fun i j=>decide (i > j)) (aVar 3) (aC (.int 0)))) (aBin mulD' (aBin ixD (aVar 0) (aC (.int 4))) (aVar 3)) (aBin mulD' (aBin ixD (aVar 0) (aC (.int 5))) (aNeg (aVar 3)))))
 (aRet (aBin addD (aVar 5) (aBin mulD' (aBin ixD (aVar 0) (aC (.int 6))) (aVar 4)))))))
set_option maxHeartbeats 2000000 in
theorem c_day_cost (T:Txt K mg):ACal (PK2 (K,cn)) P w K mg base "day_cost" 2 ["shop","level","fall"] m_day_cost:=acal_of T.d_day_cost sc_day_cost rfl fun f cdv A outer sh H E hr=>by
  exact (ass_cons (as_set (ps_set (i:=3) sc_day_cost.nd rfl (Or.inl rfl) (ae_r (ar_call (c_next_stock T) (hr.mono (by decide)) rfl (aa_cons (ae_var (pv 0)) (aa_cons (ae_var (pv 1)) (aa_cons (ae_var (pv 2)) aa_nil)))))))
 (ass_cons (as_set (ps_set (i:=4) sc_day_cost.nd rfl (Or.inl rfl) (ae_op op_sub vo_sub (ae_var (pv 3)) (ae_op op_sub vo_sub (ae_var (pv 1)) (ae_var (pv 2))))))
 (ass_cons (as_set (ps_set (i:=5) sc_day_cost.nd rfl (Or.inl rfl) (ae_if (at_cmp op_gt vo_cmp (ae_var (pv 3)) ae_int (nomark _)) (ae_op op_mulD vo_mul (ae_ix ix_seq vo_ix (ae_var (pv 0)) (ae_gint rfl T.g_KEEP) (fun _ _=>rfl)) (ae_var (pv 3))) (ae_op op_mulD vo_mul (ae_ix ix_seq vo_ix (ae_var (pv 0)) (ae_gint rfl T.g_LACK) (fun _ _=>rfl)) (ae_neg (ae_var (pv 3)))))))
 (ass_one (as_ret (ae_op op_addD vo_add (ae_var (pv 5)) (ae_op op_mulD vo_mul (ae_ix ix_seq vo_ix (ae_var (pv 0)) (ae_gint rfl T.g_LOST) (fun _ _=>rfl)) (ae_var (pv 4)))))))))
noncomputable def q_end_costs_1:List Sl→Tr PyData :=
 (aRe (aCall m_end_cost (aaCons (aVar 1) (aaCons (aVar 0) aaNil))))
noncomputable def m_end_costs:List Sl→Tr Re:=aDef 1 0
 (aRetO (aLc (aIt (aRe (aCall m_stocks (aaCons (aVar 0) aaNil)))) 1 [0] (gSet 0) q_end_costs_1))
set_option maxHeartbeats 2000000 in
theorem c_end_costs (T:Txt K mg):ACal (PK2 (K,cn)) P w K mg base "end_costs" 2 ["shop"] m_end_costs:=acal_of T.d_end_costs sc_end_costs rfl fun f cdv A outer sh H E hr=>by
  exact (ass_one (as_retO (ao_lc (pe_lc N_end_costs ["stock"] [0] rfl (ai_seq (ae_r (ar_call (c_stocks T) (hr.mono (by decide)) rfl (aa_cons (ae_var (pv 0)) aa_nil)))) (fun b=>(ag_name (pg_name (i:=0) (show ((bN N_end_costs ["stock"] [0])).Nodup by decide +kernel) rfl (Or.inl rfl)))) (fun b=>(ae_r (ar_call (c_end_cost T) (hr.mono (by decide)) rfl (aa_cons (ae_var (pv 1)) (aa_cons (ae_var (pv 0)) aa_nil))))) rfl (show BlkOk N_end_costs (defScope s_end_costs) _ [0] from ⟨rfl,by decide +kernel,by decide +kernel,by decide +kernel,by decide +kernel⟩)) (pres_set (by decide)))))
noncomputable def m_cheapest:List Sl→Tr Re:=aDef 3 0
 (aRetR (aCall m_cheapest_from (aaCons (aVar 0) (aaCons (aNeg (aBin ixD (aVar 0) (aC (.int 1)))) (aaCons (aVar 1) (aaCons (aVar 2) aaNil))))))
set_option maxHeartbeats 2000000 in
theorem c_cheapest (T:Txt K mg):ACal (PK2 (K,cn)) P w K mg base "cheapest" 2 ["shop","by_level","scale"] m_cheapest:=acal_of T.d_cheapest sc_cheapest rfl fun f cdv A outer sh H E hr=>by
  exact (ass_one (as_retR (ar_call (c_cheapest_from T) (hr.mono (by decide)) rfl (aa_cons (ae_var (pv 0)) (aa_cons (ae_neg (ae_ix ix_seq vo_ix (ae_var (pv 0)) (ae_gint rfl T.g_DEPTH) (fun _ _=>rfl))) (aa_cons (ae_var (pv 1)) (aa_cons (ae_var (pv 2)) aa_nil)))))))
noncomputable def l_law_prices_1:List Sl→Tr Ou :=
 (aSeq (aSet 4 (aLst (aLo (aCons (aRe (aCall m_law_draw (aaPen 0 (aaCons (aC (.int 10)) aaNil)))) (aCons (aRe (aCall m_law_draw (aaPen 0 (aaCons (aC (.int 40)) aaNil)))) (aCons (aRe (aCall m_law_draw (aaPen 0 (aaCons (aC (.int 1000001)) aaNil)))) (aCons (aBin ixD (aLst (aLo (aCons (aC (.int 0)) (aCons (aC (.int 1)) (aCons (aC (.int 7)) (aCons (aC (.int 1000000)) aNil)))))) (aRe (aCall m_law_draw (aaPen 0 (aaCons (aC (.int 4)) aaNil))))) aNil)))))))
 (aApp 2 (aBin ixD (aVar 4) (aVar 1))))
noncomputable def m_law_prices:List Sl→Tr Re:=aDef 1 4
 (aSeq (aSet 1 (aRe (aCall m_law_draw (aaPen 0 (aaCons (aC (.int 4)) aaNil)))))
 (aSeq (aSetO 2 (aLo aNil))
 (aSeq (aFor (aRng1 (aCons (aC (.int 7)) aNil)) (gSet 3) l_law_prices_1)
 (aSeq (aIfS (aTest (aBin eqD (aRe (aCall m_law_draw (aaPen 0 (aaCons (aC (.int 4)) aaNil)))) (aC (.int 0))))
  (aSetIx 2 (aC (.int 0)) (aC (.int 0)))
  aSkip)
 (aSeq (aIfS (aTest (aBin (cmpD fun i j=>decide (i > j)) (aRe (aCall m_law_draw (aaPen 0 (aaCons (aC (.int 3)) aaNil)))) (aC (.int 0))))
  (aFz 2 (aSet 2 (aBin addD (aSl (aVar 2) aP0 (aP1 (aC (.int 5)))) (aLst (aCBo sortD (aCons (aSl (aVar 2) (aP1 (aC (.int 5))) aP0) aNil))))))
  aSkip)
 (aFz 2 (aRet (aCB tupD (aCons (aVar 2) aNil)))))))))
set_option maxHeartbeats 2000000 in
theorem c_law_prices (T:Txt K mg):ACal (PK2 (K,cn)) P w K mg base "_law_prices" 2 ["_law_pen_here"] m_law_prices:=acal_of T.d__law_prices sc__law_prices rfl fun f cdv A outer sh H E hr=>by
  exact (ass_cons (as_set (ps_set (i:=1) sc__law_prices.nd rfl (Or.inl rfl) (ae_r (ar_call (c_law_draw T) (hr.mono (by decide)) rfl (aa_pen (pv 0) (aa_cons ae_int aa_nil))))))
 (ass_cons (as_setO (ps_set (i:=2) sc__law_prices.nd rfl (Or.inl rfl) (ao_lst ad_nil)))
 (ass_cons (as_for PassesOwn.never rfl (ai_rng1 (pi_range1 rfl T.n_range (ad_cons ae_int ad_nil))) (ag_name (pg_name (i:=3) sc__law_prices.nd rfl (Or.inl rfl)))
  (ass_cons (as_set (ps_set (i:=4) sc__law_prices.nd rfl (Or.inl rfl) (ae_o (ao_lst (ad_cons (ae_r (ar_call (c_law_draw T) (hr.mono (by decide)) rfl (aa_pen (pv 0) (aa_cons ae_int aa_nil)))) (ad_cons (ae_r (ar_call (c_law_draw T) (hr.mono (by decide)) rfl (aa_pen (pv 0) (aa_cons ae_int aa_nil)))) (ad_cons (ae_r (ar_call (c_law_draw T) (hr.mono (by decide)) rfl (aa_pen (pv 0) (aa_cons ae_int aa_nil)))) (ad_cons (ae_ix ix_seq vo_ix (ae_o (ao_lst (ad_cons ae_int (ad_cons ae_int (ad_cons ae_int (ad_cons ae_int ad_nil)))))) (ae_r (ar_call (c_law_draw T) (hr.mono (by decide)) rfl (aa_pen (pv 0) (aa_cons ae_int aa_nil)))) (fun _ _=>rfl)) ad_nil))))))))
 (ass_one (as_app (ps_expr (pe_bm PySem.F.plainAttrs_list PySem.F.slot_list_append PySem.F.type_list_append mt_append (pv 2) (pa_cons (ae_ix ix_seq vo_ix (ae_var (pv 4)) (ae_var (pv 1)) (fun _ _=>rfl)) pa_nil)))))))
 (ass_cons (as_if (at_cmp (op_eqA hr) vo_eq (ae_r (ar_call (c_law_draw T) (hr.mono (by decide)) rfl (aa_pen (pv 0) (aa_cons ae_int aa_nil)))) ae_int (nomark _))
  (ass_one (as_setIx (ps_asg ae_int (pg_sub (pv 2) ae_int set_list))))
  ass_nil)
 (ass_cons (as_if (at_cmp op_gt vo_cmp (ae_r (ar_call (c_law_draw T) (hr.mono (by decide)) rfl (aa_pen (pv 0) (aa_cons ae_int aa_nil)))) ae_int (nomark _))
  (ass_one (as_fz (k:=2) (as_set (ps_set (i:=2) sc__law_prices.nd rfl (Or.inl rfl) (ae_op op_addD vo_add (ae_sl (ae_var (pv 2)) ap_none (ap_some ae_int)) (ae_o (ao_cb (t:=tNil) (pe_callB call_sortedI rfl T.n_sorted boot_sorted (ad_cons (ae_sl (ae_var (pv 2)) (ap_some ae_int) ap_none) ad_nil)) vc_sort)))))))
  ass_nil)
 (ass_one (as_fz (k:=2) (as_ret (ae_cb (t:=tNil) (pe_callTy call_tuple_of rfl T.n_tuple boot_tuple (ad_cons (ae_var (pv 2)) ad_nil)) vc_tup)))))))))
noncomputable def l_law_falls_1:List Sl→Tr Ou :=
 (aApp 6 (aBin ixD (aLst (aLo (aCons (aC (.int 1)) (aCons (aRe (aCall m_law_draw (aaPen 0 (aaCons (aC (.int 2)) aaNil)))) (aCons (aRe (aCall m_law_draw (aaPen 0 (aaCons (aC (.int 4)) aaNil)))) (aCons (aRe (aCall m_law_draw (aaPen 0 (aaCons (aC (.int 1001)) aaNil)))) aNil)))))) (aVar 5)))
noncomputable def l_law_falls_2:List Sl→Tr Ou :=
 (aSeq (aSet 5 (aRe (aCall m_law_draw (aaPen 0 (aaCons (aC (.int 4)) aaNil)))))
 (aSeq (aSetO 6 (aLo aNil))
 (aSeq (aFor (aRng1 (aCons (aBin addD (aC (.int 1)) (aRe (aCall m_law_draw (aaPen 0 (aaCons (aVar 2) aaNil))))) aNil)) (gSet 7) l_law_falls_1)
 (aSeq (aIfS (aTest (aBin eqD (aCBF sumD (aaLend 6 aaNil)) (aC (.int 0))))
  (aSetIx 6 (aRe (aCall m_law_draw (aaPen 0 (aaCons (aCBF lenD (aaLend 6 aaNil)) aaNil)))) (aBin addD (aC (.int 1)) (aRe (aCall m_law_draw (aaPen 0 (aaCons (aC (.int 9)) aaNil))))))
  aSkip)
 (aFz 6 (aApp 3 (aCB tupD (aCons (aVar 6) aNil))))))))
noncomputable def m_law_falls:List Sl→Tr Re:=aDef 3 5
 (aSeq (aSetO 3 (aLo aNil))
 (aSeq (aFor (aRng1 (aCons (aVar 1) aNil)) (gSet 4) l_law_falls_2)
 (aFz 3 (aRet (aCB tupD (aCons (aVar 3) aNil))))))
set_option maxHeartbeats 2000000 in
theorem c_law_falls (T:Txt K mg):ACal (PK2 (K,cn)) P w K mg base "_law_falls" 2 ["_law_pen_here","_law_days","_law_most"] m_law_falls:=acal_of T.d__law_falls sc__law_falls rfl fun f cdv A outer sh H E hr=>by
  exact (ass_cons (as_setO (ps_set (i:=3) sc__law_falls.nd rfl (Or.inl rfl) (ao_lst ad_nil)))
 (ass_cons (as_for PassesOwn.never rfl (ai_rng1 (pi_range1 rfl T.n_range (ad_cons (ae_var (pv 1)) ad_nil))) (ag_name (pg_name (i:=4) sc__law_falls.nd rfl (Or.inl rfl)))
  (ass_cons (as_set (ps_set (i:=5) sc__law_falls.nd rfl (Or.inl rfl) (ae_r (ar_call (c_law_draw T) (hr.mono (by decide)) rfl (aa_pen (pv 0) (aa_cons ae_int aa_nil))))))
 (ass_cons (as_setO (ps_set (i:=6) sc__law_falls.nd rfl (Or.inl rfl) (ao_lst ad_nil)))
 (ass_cons (as_for PassesOwn.never rfl (ai_rng1 (pi_range1 rfl T.n_range (ad_cons (ae_op op_addD vo_add ae_int (ae_r (ar_call (c_law_draw T) (hr.mono (by decide)) rfl (aa_pen (pv 0) (aa_cons (ae_var (pv 2)) aa_nil))))) ad_nil))) (ag_name (pg_name (i:=7) sc__law_falls.nd rfl (Or.inl rfl)))
  (ass_one (as_app (ps_expr (pe_bm PySem.F.plainAttrs_list PySem.F.slot_list_append PySem.F.type_list_append mt_append (pv 6) (pa_cons (ae_ix ix_seq vo_ix (ae_o (ao_lst (ad_cons ae_int (ad_cons (ae_r (ar_call (c_law_draw T) (hr.mono (by decide)) rfl (aa_pen (pv 0) (aa_cons ae_int aa_nil)))) (ad_cons (ae_r (ar_call (c_law_draw T) (hr.mono (by decide)) rfl (aa_pen (pv 0) (aa_cons ae_int aa_nil)))) (ad_cons (ae_r (ar_call (c_law_draw T) (hr.mono (by decide)) rfl (aa_pen (pv 0) (aa_cons ae_int aa_nil)))) ad_nil)))))) (ae_var (pv 5)) (fun _ _=>rfl)) pa_nil))))))
 (ass_cons (as_if (at_cmp (op_eqA hr) vo_eq (ae_cbF pkLow (pe_callB (call_sumD rfl) rfl T.n_sum boot_sum (ab_lend (pv 6) ab_nil)) vc_sum) ae_int (nomark _))
  (ass_one (as_setIx (ps_asg (ae_op op_addD vo_add ae_int (ae_r (ar_call (c_law_draw T) (hr.mono (by decide)) rfl (aa_pen (pv 0) (aa_cons ae_int aa_nil))))) (pg_sub (pv 6) (ae_r (ar_call (c_law_draw T) (hr.mono (by decide)) rfl (aa_pen (pv 0) (aa_cons (ae_cbF pkLow (pe_callB call_len_seq rfl T.n_len boot_len (ab_lend (pv 6) ab_nil)) vc_len) aa_nil)))) set_list))))
  ass_nil)
 (ass_one (as_fz (k:=6) (as_app (ps_expr (pe_bm PySem.F.plainAttrs_list PySem.F.slot_list_append PySem.F.type_list_append mt_append (pv 3) (pa_cons (ae_cb (t:=tNil) (pe_callTy call_tuple_of rfl T.n_tuple boot_tuple (ad_cons (ae_var (pv 6)) ad_nil)) vc_tup) pa_nil)))))))))))
 (ass_one (as_fz (k:=3) (as_ret (ae_cb (t:=tNil) (pe_callTy call_tuple_of rfl T.n_tuple boot_tuple (ad_cons (ae_var (pv 3)) ad_nil)) vc_tup))))))
noncomputable def l_law_sums_1:List Sl→Tr Ou :=
 (aApp 11 (aBin subD (aBin mulD' (aVar 10) (aCB max2D (aCons (aBin subD (aC (.int 0)) (aVar 12)) (aCons (aC (.int 0)) aNil)))) (aBin mulD' (aVar 9) (aCB max2D (aCons (aVar 12) (aCons (aC (.int 0)) aNil))))))
noncomputable def l_law_sums_2:List Sl→Tr Ou :=
 (aSeq (aSet 21 (aCB max2D (aCons (aBin subD (aVar 17) (aVar 19)) (aCons (aBin subD (aC (.int 0)) (aVar 3)) aNil))))
 (aSeq (aSet 22 (aBin addD (aBin mulD' (aVar 6) (aCB max2D (aCons (aVar 21) (aCons (aC (.int 0)) aNil)))) (aBin mulD' (aVar 7) (aCB max2D (aCons (aBin subD (aC (.int 0)) (aVar 21)) (aCons (aC (.int 0)) aNil))))))
 (aSeq (aSet 22 (aBin addD (aVar 22) (aBin mulD' (aVar 8) (aBin addD (aBin subD (aVar 21) (aVar 17)) (aVar 19)))))
 (aSeq (aFz 11 (aSet 23 (aBin ixD (aVar 11) (aBin addD (aVar 21) (aVar 3)))))
 (aSet 18 (aBin addD (aVar 18) (aBin mulD' (aVar 20) (aBin addD (aBin mulD' (aVar 22) (aVar 13)) (aVar 23)))))))))
noncomputable def l_law_sums_3:List Sl→Tr Ou :=
 (aSeq (aSet 18 (aBin mulD' (aBin mulD' (aBin mulD' (aVar 5) (aVar 17)) (aCB sumD (aCons (aVar 15) aNil))) (aVar 13)))
 (aSeq (aFor (aEnum (aVar 15)) (gTupD (gsCons (gSet 19) (gsCons (gSet 20) gsNil))) l_law_sums_2)
 (aApp 16 (aVar 18))))
noncomputable def l_law_sums_4:List Sl→Tr Ou :=
 (aSeq (aSetO 16 (aLo aNil))
 (aSeq (aFor (aRng2 (aCons (aBin subD (aC (.int 0)) (aVar 3)) (aCons (aBin addD (aVar 2) (aC (.int 1))) aNil))) (gSet 17) l_law_sums_3)
 (aSeq (aSet 13 (aBin mulD' (aVar 13) (aCB sumD (aCons (aVar 15) aNil))))
 (aSeq (aFz 16 (aIns 14 (aC (.int 0)) (aTup (aCons (aVar 16) (aCons (aVar 13) aNil)))))
 (aFz 16 (aSetR 11 (aCall m_law_costs (aaCons (aVar 16) (aaCons (aVar 13) (aaCons (aVar 0) aaNil))))))))))
noncomputable def m_law_sums:List Sl→Tr Re:=aDef 2 22
 (aSeq (aAsg (gTupD (gsCons (gSet 2) (gsCons (gSet 3) (gsCons (gSet 4) (gsCons (gSet 5) (gsCons (gSet 6) gsNil)))))) (aSl (aVar 0) aP0 (aP1 (aC (.int 5)))))
 (aSeq (aAsg (gTupD (gsCons (gSet 7) (gsCons (gSet 8) (gsCons (gSet 9) (gsCons (gSet 10) gsNil))))) (aSl (aVar 0) (aP1 (aC (.int 5))) aP0))
 (aSeq (aSetO 11 (aLo aNil))
 (aSeq (aFor (aRng2 (aCons (aBin subD (aC (.int 0)) (aVar 3)) (aCons (aBin addD (aVar 2) (aC (.int 1))) aNil))) (gSet 12) l_law_sums_1)
 (aSeq (aSet 13 (aC (.int 1)))
 (aSeq (aSetO 14 (aLo aNil))
 (aSeq (aFor (aIt (aBin revD (aVar 1) (aNeg (aC (.int 1))))) (gSet 15) l_law_sums_4)
 (aRetV 14))))))))
set_option maxHeartbeats 2000000 in
theorem c_law_sums (T:Txt K mg):ACal (PK2 (K,cn)) P w K mg base "_law_sums" 2 ["_law_shop_here","_law_falls_here"] m_law_sums:=acal_of T.d__law_sums sc__law_sums rfl fun f cdv A outer sh H E hr=>by
  exact (ass_cons (as_asg (ps_asg (ae_sl (ae_var (pv 0)) ap_none (ap_some ae_int)) (ag_tup rfl (ags_cons (ag_name (pg_name (i:=2) sc__law_sums.nd rfl (Or.inl rfl))) (ags_cons (ag_name (pg_name (i:=3) sc__law_sums.nd rfl (Or.inl rfl))) (ags_cons (ag_name (pg_name (i:=4) sc__law_sums.nd rfl (Or.inl rfl))) (ags_cons (ag_name (pg_name (i:=5) sc__law_sums.nd rfl (Or.inl rfl))) (ags_cons (ag_name (pg_name (i:=6) sc__law_sums.nd rfl (Or.inl rfl))) ags_nil))))) (gsLen_cons (gsLen_cons (gsLen_cons (gsLen_cons (gsLen_cons gsLen_nil))))))))
 (ass_cons (as_asg (ps_asg (ae_sl (ae_var (pv 0)) (ap_some ae_int) ap_none) (ag_tup rfl (ags_cons (ag_name (pg_name (i:=7) sc__law_sums.nd rfl (Or.inl rfl))) (ags_cons (ag_name (pg_name (i:=8) sc__law_sums.nd rfl (Or.inl rfl))) (ags_cons (ag_name (pg_name (i:=9) sc__law_sums.nd rfl (Or.inl rfl))) (ags_cons (ag_name (pg_name (i:=10) sc__law_sums.nd rfl (Or.inl rfl))) ags_nil)))) (gsLen_cons (gsLen_cons (gsLen_cons (gsLen_cons gsLen_nil)))))))
 (ass_cons (as_setO (ps_set (i:=11) sc__law_sums.nd rfl (Or.inl rfl) (ao_lst ad_nil)))
 (ass_cons (as_for PassesOwn.never rfl (ai_rng2 (pi_range2 rfl T.n_range (ad_cons (ae_op op_sub vo_sub ae_int (ae_var (pv 3))) (ad_cons (ae_op op_addD vo_add (ae_var (pv 2)) ae_int) ad_nil)))) (ag_name (pg_name (i:=12) sc__law_sums.nd rfl (Or.inl rfl)))
  (ass_one (as_app (ps_expr (pe_bm PySem.F.plainAttrs_list PySem.F.slot_list_append PySem.F.type_list_append mt_append (pv 11) (pa_cons (ae_op op_sub vo_sub (ae_op op_mulD vo_mul (ae_var (pv 10)) (ae_cb (t:=tNil) (pe_callB (call_max2 rfl) rfl T.n_max boot_max (ad_cons (ae_op op_sub vo_sub ae_int (ae_var (pv 12))) (ad_cons ae_int ad_nil))) vc_max2)) (ae_op op_mulD vo_mul (ae_var (pv 9)) (ae_cb (t:=tNil) (pe_callB (call_max2 rfl) rfl T.n_max boot_max (ad_cons (ae_var (pv 12)) (ad_cons ae_int ad_nil))) vc_max2))) pa_nil))))))
 (ass_cons (as_set (ps_set (i:=13) sc__law_sums.nd rfl (Or.inl rfl) ae_int))
 (ass_cons (as_setO (ps_set (i:=14) sc__law_sums.nd rfl (Or.inl rfl) (ao_lst ad_nil)))
 (ass_cons (as_for PassesOwn.never rfl (ai_seq (ae_slv (ae_var (pv 1)) (ae_neg ae_int))) (ag_name (pg_name (i:=15) sc__law_sums.nd rfl (Or.inl rfl)))
  (ass_cons (as_setO (ps_set (i:=16) sc__law_sums.nd rfl (Or.inl rfl) (ao_lst ad_nil)))
 (ass_cons (as_for PassesOwn.never rfl (ai_rng2 (pi_range2 rfl T.n_range (ad_cons (ae_op op_sub vo_sub ae_int (ae_var (pv 3))) (ad_cons (ae_op op_addD vo_add (ae_var (pv 2)) ae_int) ad_nil)))) (ag_name (pg_name (i:=17) sc__law_sums.nd rfl (Or.inl rfl)))
  (ass_cons (as_set (ps_set (i:=18) sc__law_sums.nd rfl (Or.inl rfl) (ae_op op_mulD vo_mul (ae_op op_mulD vo_mul (ae_op op_mulD vo_mul (ae_var (pv 5)) (ae_var (pv 17))) (ae_cb (t:=tNil) (pe_callB (call_sumD rfl) rfl T.n_sum boot_sum (ad_cons (ae_var (pv 15)) ad_nil)) vc_sum)) (ae_var (pv 13)))))
 (ass_cons (as_for PassesOwn.never rfl (ai_enum (pi_enum rfl rfl T.n_enumerate (ae_var (pv 15)))) (ag_tup rfl (ags_cons (ag_name (pg_name (i:=19) sc__law_sums.nd rfl (Or.inl rfl))) (ags_cons (ag_name (pg_name (i:=20) sc__law_sums.nd rfl (Or.inl rfl))) ags_nil)) (gsLen_cons (gsLen_cons gsLen_nil)))
  (ass_cons (as_set (ps_set (i:=21) sc__law_sums.nd rfl (Or.inl rfl) (ae_cb (t:=tNil) (pe_callB (call_max2 rfl) rfl T.n_max boot_max (ad_cons (ae_op op_sub vo_sub (ae_var (pv 17)) (ae_var (pv 19))) (ad_cons (ae_op op_sub vo_sub ae_int (ae_var (pv 3))) ad_nil))) vc_max2)))
 (ass_cons (as_set (ps_set (i:=22) sc__law_sums.nd rfl (Or.inl rfl) (ae_op op_addD vo_add (ae_op op_mulD vo_mul (ae_var (pv 6)) (ae_cb (t:=tNil) (pe_callB (call_max2 rfl) rfl T.n_max boot_max (ad_cons (ae_var (pv 21)) (ad_cons ae_int ad_nil))) vc_max2)) (ae_op op_mulD vo_mul (ae_var (pv 7)) (ae_cb (t:=tNil) (pe_callB (call_max2 rfl) rfl T.n_max boot_max (ad_cons (ae_op op_sub vo_sub ae_int (ae_var (pv 21))) (ad_cons ae_int ad_nil))) vc_max2)))))
 (ass_cons (as_set (ps_set (i:=22) sc__law_sums.nd rfl (Or.inl rfl) (ae_op op_addD vo_add (ae_var (pv 22)) (ae_op op_mulD vo_mul (ae_var (pv 8)) (ae_op op_addD vo_add (ae_op op_sub vo_sub (ae_var (pv 21)) (ae_var (pv 17))) (ae_var (pv 19)))))))
 (ass_cons (as_fz (k:=11) (as_set (ps_set (i:=23) sc__law_sums.nd rfl (Or.inl rfl) (ae_ix ix_seq vo_ix (ae_var (pv 11)) (ae_op op_addD vo_add (ae_var (pv 21)) (ae_var (pv 3))) (fun _ _=>rfl)))))
 (ass_one (as_set (ps_set (i:=18) sc__law_sums.nd rfl (Or.inl rfl) (ae_op op_addD vo_add (ae_var (pv 18)) (ae_op op_mulD vo_mul (ae_var (pv 20)) (ae_op op_addD vo_add (ae_op op_mulD vo_mul (ae_var (pv 22)) (ae_var (pv 13))) (ae_var (pv 23)))))))))))))
 (ass_one (as_app (ps_expr (pe_bm PySem.F.plainAttrs_list PySem.F.slot_list_append PySem.F.type_list_append mt_append (pv 16) (pa_cons (ae_var (pv 18)) pa_nil))))))))
 (ass_cons (as_set (ps_set (i:=13) sc__law_sums.nd rfl (Or.inl rfl) (ae_op op_mulD vo_mul (ae_var (pv 13)) (ae_cb (t:=tNil) (pe_callB (call_sumD rfl) rfl T.n_sum boot_sum (ad_cons (ae_var (pv 15)) ad_nil)) vc_sum))))
 (ass_cons (as_fz (k:=16) (as_ins (ps_expr (pe_bm PySem.F.plainAttrs_list PySem.F.slot_list_insert PySem.F.type_list_insert mt_insert (pv 14) (pa_cons ae_int (pa_cons (ae_tup (ad_cons (ae_var (pv 16)) (ad_cons (ae_var (pv 13)) ad_nil))) pa_nil))))))
 (ass_one (as_fz (k:=16) (as_setR (ps_set (i:=11) sc__law_sums.nd rfl (Or.inl rfl) (ar_call (c_law_costs T) (hr.mono (by decide)) rfl (aa_cons (ae_var (pv 16)) (aa_cons (ae_var (pv 13)) (aa_cons (ae_var (pv 0)) aa_nil)))))))))))))
 (ass_one (as_retV (pv 14))))))))))
noncomputable def q_law_odd_1:List Sl→Tr PyData :=
 (aRe (aCall m_law_draw (aaPen 1 (aaCons (aC (.int 4)) aaNil))))
noncomputable def m_law_odd:List Sl→Tr Re:=aDef 2 3
 (aSeq (aSet 2 (aBin addD (aC (.int 1)) (aRe (aCall m_law_draw (aaPen 0 (aaCons (aC (.int 60)) aaNil))))))
 (aSeq (aSet 3 (aRe (aCall m_law_draw (aaPen 0 (aaCons (aBin addD (aBin mulD' (aC (.int 2)) (aVar 2)) (aC (.int 2))) aaNil)))))
 (aSeq (aSet 4 (aCB tupD (aCons (aLst (aLc (aRng1 (aCons (aC (.int 3)) aNil)) 1 [0] (gSet 0) q_law_odd_1)) aNil)))
 (aRet (aBin addD (aBin addD (aBin addD (aTup (aCons (aCB min2D (aCons (aBin ixD (aVar 1) (aC (.int 0))) (aCons (aC (.int 7)) aNil))) (aCons (aRe (aCall m_law_draw (aaPen 0 (aaCons (aC (.int 3)) aaNil)))) (aCons (aVar 3) aNil)))) (aVar 4)) (aTup (aCons (aVar 2) aNil))) (aSl (aVar 1) (aP1 (aC (.int 7))) aP0))))))
set_option maxHeartbeats 2000000 in
theorem c_law_odd (T:Txt K mg):ACal (PK2 (K,cn)) P w K mg base "_law_odd" 2 ["_law_pen_here","_law_shop_here"] m_law_odd:=acal_of T.d__law_odd sc__law_odd rfl fun f cdv A outer sh H E hr=>by
  exact (ass_cons (as_set (ps_set (i:=2) sc__law_odd.nd rfl (Or.inl rfl) (ae_op op_addD vo_add ae_int (ae_r (ar_call (c_law_draw T) (hr.mono (by decide)) rfl (aa_pen (pv 0) (aa_cons ae_int aa_nil)))))))
 (ass_cons (as_set (ps_set (i:=3) sc__law_odd.nd rfl (Or.inl rfl) (ae_r (ar_call (c_law_draw T) (hr.mono (by decide)) rfl (aa_pen (pv 0) (aa_cons (ae_op op_addD vo_add (ae_op op_mulD vo_mul ae_int (ae_var (pv 2))) ae_int) aa_nil))))))
 (ass_cons (as_set (ps_set (i:=4) sc__law_odd.nd rfl (Or.inl rfl) (ae_cb (t:=tNil) (pe_callTy call_tuple_of rfl T.n_tuple boot_tuple (ad_cons (ae_o (ao_lc (pe_lc N__law_odd ["_law_k"] [0] rfl (ai_rng1 (pi_range1 rfl T.n_range (ad_cons ae_int ad_nil))) (fun b=>(ag_name (pg_name (i:=0) (show ((bN N__law_odd ["_law_k"] [0])).Nodup by decide +kernel) rfl (Or.inl rfl)))) (fun b=>(ae_r (ar_call (c_law_draw T) (hr.mono (by decide)) rfl (aa_pen (pv 1) (aa_cons ae_int aa_nil))))) rfl (show BlkOk N__law_odd (defScope s__law_odd) _ [0] from ⟨rfl,by decide +kernel,by decide +kernel,by decide +kernel,by decide +kernel⟩)) (pres_set (by decide)))) ad_nil)) vc_tup)))
 (ass_one (as_ret (ae_op op_addD vo_add (ae_op op_addD vo_add (ae_op op_addD vo_add (ae_tup (ad_cons (ae_cb (t:=tNil) (pe_callB (call_min2 rfl) rfl T.n_min boot_min (ad_cons (ae_ix ix_seq vo_ix (ae_var (pv 1)) ae_int (fun _ _=>rfl)) (ad_cons ae_int ad_nil))) vc_min2) (ad_cons (ae_r (ar_call (c_law_draw T) (hr.mono (by decide)) rfl (aa_pen (pv 0) (aa_cons ae_int aa_nil)))) (ad_cons (ae_var (pv 3)) ad_nil)))) (ae_var (pv 4))) (ae_tup (ad_cons (ae_var (pv 2)) ad_nil))) (ae_sl (ae_var (pv 1)) (ap_some ae_int) ap_none)))))))
noncomputable def q_law_feet_1:List Sl→Tr PyData :=
 (aBin mulD' (aVar 1) (aCB intD (aCons (aOrV (aBin eqD (aVar 0) (aVar 2)) (aBin eqD (aVar 0) (aVar 3))) aNil)))
noncomputable def m_law_feet:List Sl→Tr Re:=aDef 3 10
 (aSeq (aSet 3 (aRe (aCall m_law_draw (aaPen 0 (aaCons (aC (.int 3)) aaNil)))))
 (aSeq (aSet 4 (aBin addD (aC (.int 1)) (aRe (aCall m_law_draw (aaPen 0 (aaCons (aC (.int 3)) aaNil))))))
 (aSeq (aSet 5 (aBin addD (aC (.int 2)) (aRe (aCall m_law_draw (aaPen 0 (aaCons (aC (.int 5)) aaNil))))))
 (aSeq (aSet 6 (aRe (aCall m_law_draw (aaPen 0 (aaCons (aC (.int 4)) aaNil)))))
 (aSeq (aSet 7 (aBin addD (aBin addD (aVar 5) (aC (.int 1))) (aRe (aCall m_law_draw (aaPen 0 (aaCons (aBin subD (aBin addD (aVar 5) (aVar 6)) (aC (.int 1))) aaNil))))))
 (aSeq (aSet 8 (aRe (aCall m_law_draw (aaPen 0 (aaCons (aC (.int 4)) aaNil)))))
 (aSeq (aSet 9 (aBin subD (aBin addD (aBin addD (aBin mulD' (aC (.int 2)) (aVar 5)) (aVar 6)) (aBin mulD' (aVar 4) (aBin subD (aBin addD (aBin mulD' (aC (.int 2)) (aVar 5)) (aVar 6)) (aVar 7)))) (aVar 8)))
 (aSeq (aSet 10 (aBin addD (aC (.int 1)) (aRe (aCall m_law_draw (aaPen 0 (aaCons (aC (.int 9)) aaNil))))))
 (aSeq (aSet 11 (aBin addD (aBin addD (aVar 3) (aC (.int 1))) (aVar 4)))
 (aSeq (aSet 12 (aCB tupD (aCons (aLst (aLc (aRng1 (aCons (aBin addD (aVar 11) (aC (.int 1))) aNil)) 1 [10,3,11] (gSet 0) q_law_feet_1)) aNil)))
 (aRetO (aLo (aCons (aTup (aCons (aCB max2D (aCons (aVar 11) (aCons (aCB min2D (aCons (aC (.int 7)) (aCons (aBin ixD (aVar 1) (aC (.int 0))) aNil))) aNil))) (aCons (aC (.int 1)) (aCons (aC (.int 0)) (aCons (aVar 5) (aCons (aVar 6) (aCons (aVar 8) (aCons (aVar 7) (aCons (aC (.int 0)) (aCons (aVar 9) aNil)))))))))) (aCons (aBin addE (aSl (aVar 2) aP0 (aP1 (aNeg (aC (.int 1))))) (aTup (aCons (aVar 12) aNil))) aNil))))))))))))))
set_option maxHeartbeats 2000000 in
theorem c_law_feet (T:Txt K mg):ACal (PK2 (K,cn)) P w K mg base "_law_feet" 2 ["_law_pen_here","_law_shop_here","_law_falls_here"] m_law_feet:=acal_of T.d__law_feet sc__law_feet rfl fun f cdv A outer sh H E hr=>by
  exact (ass_cons (as_set (ps_set (i:=3) sc__law_feet.nd rfl (Or.inr rfl) (ae_r (ar_call (c_law_draw T) (hr.mono (by decide)) rfl (aa_pen (pv 0) (aa_cons ae_int aa_nil))))))
 (ass_cons (as_set (ps_set (i:=4) sc__law_feet.nd rfl (Or.inl rfl) (ae_op op_addD vo_add ae_int (ae_r (ar_call (c_law_draw T) (hr.mono (by decide)) rfl (aa_pen (pv 0) (aa_cons ae_int aa_nil)))))))
 (ass_cons (as_set (ps_set (i:=5) sc__law_feet.nd rfl (Or.inl rfl) (ae_op op_addD vo_add ae_int (ae_r (ar_call (c_law_draw T) (hr.mono (by decide)) rfl (aa_pen (pv 0) (aa_cons ae_int aa_nil)))))))
 (ass_cons (as_set (ps_set (i:=6) sc__law_feet.nd rfl (Or.inl rfl) (ae_r (ar_call (c_law_draw T) (hr.mono (by decide)) rfl (aa_pen (pv 0) (aa_cons ae_int aa_nil))))))
 (ass_cons (as_set (ps_set (i:=7) sc__law_feet.nd rfl (Or.inl rfl) (ae_op op_addD vo_add (ae_op op_addD vo_add (ae_var (pv 5)) ae_int) (ae_r (ar_call (c_law_draw T) (hr.mono (by decide)) rfl (aa_pen (pv 0) (aa_cons (ae_op op_sub vo_sub (ae_op op_addD vo_add (ae_var (pv 5)) (ae_var (pv 6))) ae_int) aa_nil)))))))
 (ass_cons (as_set (ps_set (i:=8) sc__law_feet.nd rfl (Or.inl rfl) (ae_r (ar_call (c_law_draw T) (hr.mono (by decide)) rfl (aa_pen (pv 0) (aa_cons ae_int aa_nil))))))
 (ass_cons (as_set (ps_set (i:=9) sc__law_feet.nd rfl (Or.inl rfl) (ae_op op_sub vo_sub (ae_op op_addD vo_add (ae_op op_addD vo_add (ae_op op_mulD vo_mul ae_int (ae_var (pv 5))) (ae_var (pv 6))) (ae_op op_mulD vo_mul (ae_var (pv 4)) (ae_op op_sub vo_sub (ae_op op_addD vo_add (ae_op op_mulD vo_mul ae_int (ae_var (pv 5))) (ae_var (pv 6))) (ae_var (pv 7))))) (ae_var (pv 8)))))
 (ass_cons (as_set (ps_set (i:=10) sc__law_feet.nd rfl (Or.inr rfl) (ae_op op_addD vo_add ae_int (ae_r (ar_call (c_law_draw T) (hr.mono (by decide)) rfl (aa_pen (pv 0) (aa_cons ae_int aa_nil)))))))
 (ass_cons (as_set (ps_set (i:=11) sc__law_feet.nd rfl (Or.inr rfl) (ae_op op_addD vo_add (ae_op op_addD vo_add (ae_var (pv 3)) ae_int) (ae_var (pv 4)))))
 (ass_cons (as_set (ps_set (i:=12) sc__law_feet.nd rfl (Or.inl rfl) (ae_cb (t:=tNil) (pe_callTy call_tuple_of rfl T.n_tuple boot_tuple (ad_cons (ae_o (ao_lc (pe_lc N__law_feet ["_law_k"] [10,3,11] rfl (ai_rng1 (pi_range1 rfl T.n_range (ad_cons (ae_op op_addD vo_add (ae_var (pv 11)) ae_int) ad_nil))) (fun b=>(ag_name (pg_name (i:=0) (show ((bN N__law_feet ["_law_k"] [10,3,11])).Nodup by decide +kernel) rfl (Or.inl rfl)))) (fun b=>(ae_op op_mulD vo_mul (ae_var (pv 1)) (ae_cb (t:=tNil) (pe_callTy call_int1 rfl T.n_int boot_int (ad_cons (ae_or (ae_cmp (op_eqA hr) vo_eq (ae_var (pv 0)) (ae_var (pv 2)) (nomark _)) (ae_one (ae_cmp (op_eqA hr) vo_eq (ae_var (pv 0)) (ae_var (pv 3)) (nomark _)))) ad_nil)) vc_int))) rfl (show BlkOk N__law_feet (defScope s__law_feet) _ [10,3,11] from ⟨rfl,by decide +kernel,by decide +kernel,by decide +kernel,by decide +kernel⟩)) (pres_set (by decide)))) ad_nil)) vc_tup)))
 (ass_one (as_retO (ao_lst (ad_cons (ae_tup (ad_cons (ae_cb (t:=tNil) (pe_callB (call_max2 rfl) rfl T.n_max boot_max (ad_cons (ae_var (pv 11)) (ad_cons (ae_cb (t:=tNil) (pe_callB (call_min2 rfl) rfl T.n_min boot_min (ad_cons ae_int (ad_cons (ae_ix ix_seq vo_ix (ae_var (pv 1)) ae_int (fun _ _=>rfl)) ad_nil))) vc_min2) ad_nil))) vc_max2) (ad_cons ae_int (ad_cons ae_int (ad_cons (ae_var (pv 5)) (ad_cons (ae_var (pv 6)) (ad_cons (ae_var (pv 8)) (ad_cons (ae_var (pv 7)) (ad_cons ae_int (ad_cons (ae_var (pv 9)) ad_nil)))))))))) (ad_cons (ae_op op_addE vo_addE (ae_sl (ae_var (pv 2)) ap_none (ap_some (ae_neg ae_int))) (ae_tup (ad_cons (ae_var (pv 12)) ad_nil))) ad_nil)))))))))))))))
noncomputable def q_law_best_1:List Sl→Tr PyData :=
 (aRe (aCall m_law_cost (aaCons (aVar 1) (aaCons (aVar 2) (aaCons (aVar 3) (aaCons (aVar 0) aaNil))))))
noncomputable def m_law_best:List Sl→Tr Re:=aDef 3 0
 (aRet (aCB min1D (aCons (aLst (aLc (aRng2 (aCons (aVar 2) (aCons (aCB lenD (aCons (aVar 0) aNil)) aNil))) 1 [0,1,2] (gSet 0) q_law_best_1)) aNil)))
set_option maxHeartbeats 2000000 in
theorem c_law_best (T:Txt K mg):ACal (PK2 (K,cn)) P w K mg base "_law_best" 2 ["_law_row","_law_start","_law_place"] m_law_best:=acal_of T.d__law_best sc__law_best rfl fun f cdv A outer sh H E hr=>by
  exact (ass_one (as_ret (ae_cb (t:=tNil) (pe_callB (call_minD rfl) rfl T.n_min boot_min (ad_cons (ae_o (ao_lc (pe_lc N__law_best ["_law_level"] [0,1,2] rfl (ai_rng2 (pi_range2 rfl T.n_range (ad_cons (ae_var (pv 2)) (ad_cons (ae_cb (t:=tNil) (pe_callB call_len_seq rfl T.n_len boot_len (ad_cons (ae_var (pv 0)) ad_nil)) vc_len) ad_nil)))) (fun b=>(ag_name (pg_name (i:=0) (show ((bN N__law_best ["_law_level"] [0,1,2])).Nodup by decide +kernel) rfl (Or.inl rfl)))) (fun b=>(ae_r (ar_call (c_law_cost T) (hr.mono (by decide)) rfl (aa_cons (ae_var (pv 1)) (aa_cons (ae_var (pv 2)) (aa_cons (ae_var (pv 3)) (aa_cons (ae_var (pv 0)) aa_nil))))))) rfl (show BlkOk N__law_best (defScope s__law_best) _ [0,1,2] from ⟨rfl,by decide +kernel,by decide +kernel,by decide +kernel,by decide +kernel⟩)) (pres_set (by decide)))) ad_nil)) vc_min1)))
noncomputable def l_weighed_1:List Sl→Tr Ou :=
 (aSeq (aSet 8 (aBin ixD (aVar 3) (aBin addD (aRe (aCall m_next_stock (aaCons (aVar 0) (aaCons (aVar 2) (aaCons (aVar 6) aaNil))))) (aBin ixD (aVar 0) (aC (.int 1))))))
 (aAug iaddD 5 (aBin mulD' (aVar 7) (aBin addD (aBin mulD' (aVar 4) (aRe (aCall m_day_cost (aaCons (aVar 0) (aaCons (aVar 2) (aaCons (aVar 6) aaNil)))))) (aVar 8)))))
noncomputable def m_weighed:List Sl→Tr Re:=aDef 5 4
 (aSeq (aSet 5 (aC (.int 0)))
 (aSeq (aFor (aEnum (aVar 1)) (gTupD (gsCons (gSet 6) (gsCons (gSet 7) gsNil))) l_weighed_1)
 (aRetV 5)))
set_option maxHeartbeats 2000000 in
theorem c_weighed (T:Txt K mg):ACal (PK2 (K,cn)) P w K mg base "weighed" 3 ["shop","day","level","ahead","scale"] m_weighed:=acal_of T.d_weighed sc_weighed rfl fun f cdv A outer sh H E hr=>by
  exact (ass_cons (as_set (ps_set (i:=5) sc_weighed.nd rfl (Or.inl rfl) ae_int))
 (ass_cons (as_for PassesOwn.never rfl (ai_enum (pi_enum rfl rfl T.n_enumerate (ae_var (pv 1)))) (ag_tup rfl (ags_cons (ag_name (pg_name (i:=6) sc_weighed.nd rfl (Or.inl rfl))) (ags_cons (ag_name (pg_name (i:=7) sc_weighed.nd rfl (Or.inl rfl))) ags_nil)) (gsLen_cons (gsLen_cons gsLen_nil)))
  (ass_cons (as_set (ps_set (i:=8) sc_weighed.nd rfl (Or.inl rfl) (ae_ix ix_seq vo_ix (ae_var (pv 3)) (ae_op op_addD vo_add (ae_r (ar_call (c_next_stock T) (hr.mono (by decide)) rfl (aa_cons (ae_var (pv 0)) (aa_cons (ae_var (pv 2)) (aa_cons (ae_var (pv 6)) aa_nil))))) (ae_ix ix_seq vo_ix (ae_var (pv 0)) (ae_gint rfl T.g_DEPTH) (fun _ _=>rfl))) (fun _ _=>rfl))))
 (ass_one (as_aug vo_iadd (ps_aug (i:=5) sc_weighed.nd rfl (Or.inl rfl) (ae_op op_mulD vo_mul (ae_var (pv 7)) (ae_op op_addD vo_add (ae_op op_mulD vo_mul (ae_var (pv 4)) (ae_r (ar_call (c_day_cost T) (hr.mono (by decide)) rfl (aa_cons (ae_var (pv 0)) (aa_cons (ae_var (pv 2)) (aa_cons (ae_var (pv 6)) aa_nil)))))) (ae_var (pv 8)))) (pip iop_add))))))
 (ass_one (as_retV (pv 5)))))
noncomputable def w_marks_by_1:List Sl→Tr Bool :=
 (aAnd (aTest (aBin (cmpD fun i j=>decide (i > j)) (aVar 5) (aVar 3))) (aTest (aBin eqD (aBin ixD (aBin ixD (aVar 4) (aBin addD (aBin subD (aVar 5) (aC (.int 1))) (aBin ixD (aVar 0) (aC (.int 1))))) (aC (.int 1))) (aBin subD (aVar 5) (aC (.int 1))))))
noncomputable def l_marks_by_1:List Sl→Tr Ou :=
 (aAug subD 5 (aC (.int 1)))
noncomputable def l_marks_by_2:List Sl→Tr Ou :=
 (aIfS (aNot (aTru (aRe (aCall m_is_cheapest (aaCons (aVar 0) (aaCons (aVar 1) (aaCons (aVar 2) (aaCons (aVar 7) (aaCons (aVar 6) aaNil)))))))))
  (aRet (aTup (aCons (aC (.str "none")) (aCons (aVar 7) (aCons (aBin subD (aVar 5) (aC (.int 1))) aNil)))))
  aSkip)
noncomputable def m_marks_by:List Sl→Tr Re:=aDef 4 4
 (aSeq (aSet 4 (aRe (aCall m_cheapest (aaCons (aVar 0) (aaCons (aVar 1) (aaCons (aVar 2) aaNil))))))
 (aSeq (aSet 5 (aBin ixD (aVar 0) (aC (.int 0))))
 (aSeq (whL w_marks_by_1 l_marks_by_1 100000)
 (aSeq (aIfS (aTest (aBin eqD (aVar 5) (aVar 3)))
  (aRet (aTup (aCons (aC (.str "marks")) (aCons (aVar 3) (aCons (aVar 3) aNil)))))
  aSkip)
 (aSeq (aSet 6 (aBin ixD (aBin ixD (aVar 4) (aBin addD (aBin subD (aVar 5) (aC (.int 1))) (aBin ixD (aVar 0) (aC (.int 1))))) (aC (.int 1))))
 (aSeq (aFor (aRevR2 (aCons (aVar 3) (aCons (aBin subD (aVar 5) (aC (.int 1))) aNil))) (gSet 7) l_marks_by_2)
 (aRet (aTup (aCons (aC (.str "marks")) (aCons (aVar 5) (aCons (aVar 6) aNil)))))))))))
set_option maxHeartbeats 2000000 in
theorem c_marks_by (T:Txt K mg):ACal (PK2 (K,cn)) P w K mg base "marks_by" 3 ["shop","by_level","scale","least"] m_marks_by:=acal_of T.d_marks_by sc_marks_by rfl fun f cdv A outer sh H E hr=>by
  exact (ass_cons (as_set (ps_set (i:=4) sc_marks_by.nd rfl (Or.inl rfl) (ae_r (ar_call (c_cheapest T) (hr.mono (by decide)) rfl (aa_cons (ae_var (pv 0)) (aa_cons (ae_var (pv 1)) (aa_cons (ae_var (pv 2)) aa_nil)))))))
 (ass_cons (as_set (ps_set (i:=5) sc_marks_by.nd rfl (Or.inl rfl) (ae_ix ix_seq vo_ix (ae_var (pv 0)) (ae_gint rfl T.g_TOP) (fun _ _=>rfl))))
 (ass_cons (as_while 100000 PassesOwn.never (at_w (aw_and (at_cmp op_gt vo_cmp (ae_var (pv 5)) (ae_var (pv 3)) (nomark _)) (aw_and1 (at_cmp (op_eqA hr) vo_eq (ae_ix ix_seq vo_ix (ae_ix ix_seq vo_ix (ae_var (pv 4)) (ae_op op_addD vo_add (ae_op op_sub vo_sub (ae_var (pv 5)) ae_int) (ae_ix ix_seq vo_ix (ae_var (pv 0)) (ae_gint rfl T.g_DEPTH) (fun _ _=>rfl))) (fun _ _=>rfl)) ae_int (fun _ _=>rfl)) (ae_op op_sub vo_sub (ae_var (pv 5)) ae_int) (nomark _)))))
  (ass_one (as_aug vo_sub (ps_aug (i:=5) sc_marks_by.nd rfl (Or.inl rfl) ae_int (pip iop_sub)))))
 (ass_cons (as_if (at_cmp (op_eqA hr) vo_eq (ae_var (pv 5)) (ae_var (pv 3)) (nomark _))
  (ass_one (as_ret (ae_tup (ad_cons ae_str (ad_cons (ae_var (pv 3)) (ad_cons (ae_var (pv 3)) ad_nil))))))
  ass_nil)
 (ass_cons (as_set (ps_set (i:=6) sc_marks_by.nd rfl (Or.inl rfl) (ae_ix ix_seq vo_ix (ae_ix ix_seq vo_ix (ae_var (pv 4)) (ae_op op_addD vo_add (ae_op op_sub vo_sub (ae_var (pv 5)) ae_int) (ae_ix ix_seq vo_ix (ae_var (pv 0)) (ae_gint rfl T.g_DEPTH) (fun _ _=>rfl))) (fun _ _=>rfl)) ae_int (fun _ _=>rfl))))
 (ass_cons (as_for PassesOwn.never rfl (ai_revr2 (pi_rev rfl T.n_reversed (pe_callTy call_rangeV2 rfl T.n_range boot_range (ad_cons (ae_var (pv 3)) (ad_cons (ae_op op_sub vo_sub (ae_var (pv 5)) ae_int) ad_nil))))) (ag_name (pg_name (i:=7) sc_marks_by.nd rfl (Or.inl rfl)))
  (ass_one (as_if (at_not (at_tru (ae_r (ar_call (c_is_cheapest T) (hr.mono (by decide)) rfl (aa_cons (ae_var (pv 0)) (aa_cons (ae_var (pv 1)) (aa_cons (ae_var (pv 2)) (aa_cons (ae_var (pv 7)) (aa_cons (ae_var (pv 6)) aa_nil)))))))))
  (ass_one (as_ret (ae_tup (ad_cons ae_str (ad_cons (ae_var (pv 7)) (ad_cons (ae_op op_sub vo_sub (ae_var (pv 5)) ae_int) ad_nil))))))
  ass_nil)))
 (ass_one (as_ret (ae_tup (ad_cons ae_str (ad_cons (ae_var (pv 5)) (ad_cons (ae_var (pv 6)) ad_nil))))))))))))
noncomputable def m_law_shop:List Sl→Tr Re:=aDef 2 5
 (aSeq (aSet 2 (aBin addD (aC (.int 1)) (aRe (aCall m_law_draw (aaPen 0 (aaCons (aC (.int 6)) aaNil))))))
 (aSeq (aSet 3 (aRe (aCall m_law_falls (aaPen 0 (aaCons (aVar 2) (aaCons (aBin ixD (aLst (aLo (aCons (aC (.int 8)) (aCons (aC (.int 8)) (aCons (aC (.int 8)) (aCons (aC (.int 6)) (aCons (aC (.int 5)) (aCons (aC (.int 4)) aNil)))))))) (aBin subD (aVar 2) (aC (.int 1)))) aaNil))))))
 (aSeq (aSet 4 (aBin subD (aC (.int 39)) (aRe (aCall m_law_reach (aaCons (aVar 3) aaNil)))))
 (aSeq (aSet 5 (aRe (aCall m_law_draw (aaPen 0 (aaCons (aBin addD (aCB min2D (aCons (aVar 4) (aCons (aBin ixD (aLst (aLo (aCons (aC (.int 2)) (aCons (aC (.int 12)) (aCons (aC (.int 12)) aNil))))) (aRe (aCall m_law_draw (aaPen 0 (aaCons (aC (.int 3)) aaNil))))) aNil))) (aC (.int 1))) aaNil)))))
 (aSeq (aSet 6 (aRe (aCall m_law_draw (aaPen 0 (aaCons (aC (.int 8)) aaNil)))))
 (aSeq (aIfS (aTru (aVar 1))
  (aSet 6 (aBin addD (aBin subD (aC (.int 39)) (aVar 4)) (aCB min2D (aCons (aBin subD (aVar 4) (aVar 5)) (aCons (aRe (aCall m_law_draw (aaPen 0 (aaCons (aC (.int 4)) aaNil)))) aNil)))))
  aSkip)
 (aRetO (aLo (aCons (aBin addD (aTup (aCons (aVar 5) (aCons (aVar 6) aNil))) (aRe (aCall m_law_prices (aaPen 0 aaNil)))) (aCons (aVar 3) aNil))))))))))
set_option maxHeartbeats 2000000 in
theorem c_law_shop (T:Txt K mg):ACal (PK2 (K,cn)) P w K mg base "_law_shop" 3 ["_law_pen_here","_law_is_free"] m_law_shop:=acal_of T.d__law_shop sc__law_shop rfl fun f cdv A outer sh H E hr=>by
  exact (ass_cons (as_set (ps_set (i:=2) sc__law_shop.nd rfl (Or.inl rfl) (ae_op op_addD vo_add ae_int (ae_r (ar_call (c_law_draw T) (hr.mono (by decide)) rfl (aa_pen (pv 0) (aa_cons ae_int aa_nil)))))))
 (ass_cons (as_set (ps_set (i:=3) sc__law_shop.nd rfl (Or.inl rfl) (ae_r (ar_call (c_law_falls T) (hr.mono (by decide)) rfl (aa_pen (pv 0) (aa_cons (ae_var (pv 2)) (aa_cons (ae_ix ix_seq vo_ix (ae_o (ao_lst (ad_cons ae_int (ad_cons ae_int (ad_cons ae_int (ad_cons ae_int (ad_cons ae_int (ad_cons ae_int ad_nil)))))))) (ae_op op_sub vo_sub (ae_var (pv 2)) ae_int) (fun _ _=>rfl)) aa_nil)))))))
 (ass_cons (as_set (ps_set (i:=4) sc__law_shop.nd rfl (Or.inl rfl) (ae_op op_sub vo_sub ae_int (ae_r (ar_call (c_law_reach T) (hr.mono (by decide)) rfl (aa_cons (ae_var (pv 3)) aa_nil))))))
 (ass_cons (as_set (ps_set (i:=5) sc__law_shop.nd rfl (Or.inl rfl) (ae_r (ar_call (c_law_draw T) (hr.mono (by decide)) rfl (aa_pen (pv 0) (aa_cons (ae_op op_addD vo_add (ae_cb (t:=tNil) (pe_callB (call_min2 rfl) rfl T.n_min boot_min (ad_cons (ae_var (pv 4)) (ad_cons (ae_ix ix_seq vo_ix (ae_o (ao_lst (ad_cons ae_int (ad_cons ae_int (ad_cons ae_int ad_nil))))) (ae_r (ar_call (c_law_draw T) (hr.mono (by decide)) rfl (aa_pen (pv 0) (aa_cons ae_int aa_nil)))) (fun _ _=>rfl)) ad_nil))) vc_min2) ae_int) aa_nil))))))
 (ass_cons (as_set (ps_set (i:=6) sc__law_shop.nd rfl (Or.inl rfl) (ae_r (ar_call (c_law_draw T) (hr.mono (by decide)) rfl (aa_pen (pv 0) (aa_cons ae_int aa_nil))))))
 (ass_cons (as_if (at_tru (ae_var (pv 1)))
  (ass_one (as_set (ps_set (i:=6) sc__law_shop.nd rfl (Or.inl rfl) (ae_op op_addD vo_add (ae_op op_sub vo_sub ae_int (ae_var (pv 4))) (ae_cb (t:=tNil) (pe_callB (call_min2 rfl) rfl T.n_min boot_min (ad_cons (ae_op op_sub vo_sub (ae_var (pv 4)) (ae_var (pv 5))) (ad_cons (ae_r (ar_call (c_law_draw T) (hr.mono (by decide)) rfl (aa_pen (pv 0) (aa_cons ae_int aa_nil)))) ad_nil))) vc_min2)))))
  ass_nil)
 (ass_one (as_retO (ao_lst (ad_cons (ae_op op_addD vo_add (ae_tup (ad_cons (ae_var (pv 5)) (ad_cons (ae_var (pv 6)) ad_nil))) (ae_r (ar_call (c_law_prices T) (hr.mono (by decide)) rfl (aa_pen (pv 0) aa_nil)))) (ad_cons (ae_var (pv 3)) ad_nil)))))))))))
noncomputable def q_law_hump_1:List Sl→Tr PyData :=
 (aBin fdivD (aBin subD (aBin ixD (aVar 2) (aVar 0)) (aCB min1D (aCons (aSl (aVar 2) (aP1 (aBin addD (aVar 0) (aC (.int 1)))) aP0) aNil))) (aVar 1))
noncomputable def q_law_hump_2:List Sl→Tr PyData :=
 (aBin ixD (aVar 1) (aVar 0))
noncomputable def p_law_hump_1:List Sl→Tr Bool :=
 (aTest (aChain (cmpD fun i j=>decide (i≤j)) (cmpD fun i j=>decide (i < j)) (aC (.int 0)) (aBin ixD (aVar 1) (aVar 0)) (aCB max1D (aCons (aSl (aVar 1) (aP1 (aVar 0)) aP0) aNil))))
noncomputable def m_law_hump:List Sl→Tr Re:=aDef 3 9
 (aSeq (aSet 3 (aBin addD (aC (.int 2)) (aRe (aCall m_law_draw (aaPen 0 (aaCons (aC (.int 6)) aaNil))))))
 (aSeq (aSet 4 (aRe (aCall m_law_draw (aaPen 0 (aaCons (aC (.int 10)) aaNil)))))
 (aSeq (aSet 5 (aBin addD (aBin addD (aVar 4) (aC (.int 1))) (aRe (aCall m_law_draw (aaPen 0 (aaCons (aC (.int 4)) aaNil))))))
 (aSeq (aSet 6 (aTup (aCons (aVar 5) (aCons (aRe (aCall m_law_draw (aaPen 0 (aaCons (aC (.int 4)) aaNil)))) (aCons (aRe (aCall m_law_draw (aaPen 0 (aaCons (aC (.int 4)) aaNil)))) (aCons (aVar 4) (aCons (aRe (aCall m_law_draw (aaPen 0 (aaCons (aC (.int 4)) aaNil)))) (aCons (aBin addD (aVar 5) (aRe (aCall m_law_draw (aaPen 0 (aaCons (aC (.int 40)) aaNil))))) aNil))))))))
 (aSeq (aSet 1 (aBin addD (aTup (aCons (aCB max2D (aCons (aVar 3) (aCons (aCB min2D (aCons (aC (.int 7)) (aCons (aBin ixD (aVar 1) (aC (.int 0))) aNil))) aNil))) (aCons (aBin addD (aC (.int 1)) (aRe (aCall m_law_draw (aaPen 0 (aaCons (aCB min2D (aCons (aC (.int 3)) (aCons (aVar 3) aNil))) aaNil))))) (aCons (aC (.int 0)) aNil)))) (aVar 6)))
 (aSeq (aSet 2 (aBin addE (aSl (aVar 2) aP0 (aP1 (aNeg (aC (.int 1))))) (aTup (aCons (aBin addD (aBin repD (aTup (aCons (aC (.int 0)) aNil)) (aVar 3)) (aTup (aCons (aBin addD (aC (.int 1)) (aRe (aCall m_law_draw (aaPen 0 (aaCons (aC (.int 9)) aaNil))))) aNil))) aNil))))
 (aSeq (aAsg (gTupD (gsCons (gSet 7) (gsCons (gSet 8) gsNil))) (aBin ixD (aRe (aCall m_law_sums (aaCons (aVar 1) (aaCons (aVar 2) aaNil)))) (aNeg (aC (.int 1)))))
 (aSeq (aSet 9 (aLst (aLc (aRng1 (aCons (aBin subD (aCB lenD (aCons (aVar 7) aNil)) (aC (.int 1))) aNil)) 1 [8,7] (gSet 0) q_law_hump_1)))
 (aSeq (aSet 10 (aLst (aLcif (aRng1 (aCons (aCB lenD (aCons (aVar 9) aNil)) aNil)) 1 [9] (gSet 0) p_law_hump_1 q_law_hump_2)))
 (aSeq (aSet 11 (aBin ixD (aBin addD (aVar 10) (aLst (aLo (aCons (aCB max2D (aCons (aC (.int 0)) (aCons (aCB max1D (aCons (aVar 9) aNil)) aNil))) aNil)))) (aRe (aCall m_law_draw (aaPen 0 (aaCons (aCB max2D (aCons (aC (.int 1)) (aCons (aCB lenD (aCons (aVar 10) aNil)) aNil))) aaNil))))))
 (aRetO (aLo (aCons (aBin addD (aBin addD (aSl (aVar 1) aP0 (aP1 (aC (.int 2)))) (aTup (aCons (aVar 11) aNil))) (aSl (aVar 1) (aP1 (aC (.int 3))) aP0)) (aCons (aVar 2) aNil))))))))))))))
set_option maxHeartbeats 2000000 in
theorem c_law_hump (T:Txt K mg):ACal (PK2 (K,cn)) P w K mg base "_law_hump" 3 ["_law_pen_here","_law_shop_here","_law_falls_here"] m_law_hump:=acal_of T.d__law_hump sc__law_hump rfl fun f cdv A outer sh H E hr=>by
  exact (ass_cons (as_set (ps_set (i:=3) sc__law_hump.nd rfl (Or.inl rfl) (ae_op op_addD vo_add ae_int (ae_r (ar_call (c_law_draw T) (hr.mono (by decide)) rfl (aa_pen (pv 0) (aa_cons ae_int aa_nil)))))))
 (ass_cons (as_set (ps_set (i:=4) sc__law_hump.nd rfl (Or.inl rfl) (ae_r (ar_call (c_law_draw T) (hr.mono (by decide)) rfl (aa_pen (pv 0) (aa_cons ae_int aa_nil))))))
 (ass_cons (as_set (ps_set (i:=5) sc__law_hump.nd rfl (Or.inl rfl) (ae_op op_addD vo_add (ae_op op_addD vo_add (ae_var (pv 4)) ae_int) (ae_r (ar_call (c_law_draw T) (hr.mono (by decide)) rfl (aa_pen (pv 0) (aa_cons ae_int aa_nil)))))))
 (ass_cons (as_set (ps_set (i:=6) sc__law_hump.nd rfl (Or.inl rfl) (ae_tup (ad_cons (ae_var (pv 5)) (ad_cons (ae_r (ar_call (c_law_draw T) (hr.mono (by decide)) rfl (aa_pen (pv 0) (aa_cons ae_int aa_nil)))) (ad_cons (ae_r (ar_call (c_law_draw T) (hr.mono (by decide)) rfl (aa_pen (pv 0) (aa_cons ae_int aa_nil)))) (ad_cons (ae_var (pv 4)) (ad_cons (ae_r (ar_call (c_law_draw T) (hr.mono (by decide)) rfl (aa_pen (pv 0) (aa_cons ae_int aa_nil)))) (ad_cons (ae_op op_addD vo_add (ae_var (pv 5)) (ae_r (ar_call (c_law_draw T) (hr.mono (by decide)) rfl (aa_pen (pv 0) (aa_cons ae_int aa_nil))))) ad_nil)))))))))
 (ass_cons (as_set (ps_set (i:=1) sc__law_hump.nd rfl (Or.inl rfl) (ae_op op_addD vo_add (ae_tup (ad_cons (ae_cb (t:=tNil) (pe_callB (call_max2 rfl) rfl T.n_max boot_max (ad_cons (ae_var (pv 3)) (ad_cons (ae_cb (t:=tNil) (pe_callB (call_min2 rfl) rfl T.n_min boot_min (ad_cons ae_int (ad_cons (ae_ix ix_seq vo_ix (ae_var (pv 1)) ae_int (fun _ _=>rfl)) ad_nil))) vc_min2) ad_nil))) vc_max2) (ad_cons (ae_op op_addD vo_add ae_int (ae_r (ar_call (c_law_draw T) (hr.mono (by decide)) rfl (aa_pen (pv 0) (aa_cons (ae_cb (t:=tNil) (pe_callB (call_min2 rfl) rfl T.n_min boot_min (ad_cons ae_int (ad_cons (ae_var (pv 3)) ad_nil))) vc_min2) aa_nil))))) (ad_cons ae_int ad_nil)))) (ae_var (pv 6)))))
 (ass_cons (as_set (ps_set (i:=2) sc__law_hump.nd rfl (Or.inl rfl) (ae_op op_addE vo_addE (ae_sl (ae_var (pv 2)) ap_none (ap_some (ae_neg ae_int))) (ae_tup (ad_cons (ae_op op_addD vo_add (ae_op op_repE vo_rep (ae_tup (ad_cons ae_int ad_nil)) (ae_var (pv 3))) (ae_tup (ad_cons (ae_op op_addD vo_add ae_int (ae_r (ar_call (c_law_draw T) (hr.mono (by decide)) rfl (aa_pen (pv 0) (aa_cons ae_int aa_nil))))) ad_nil))) ad_nil)))))
 (ass_cons (as_asg (ps_asg (ae_ix ix_seq vo_ix (ae_r (ar_call (c_law_sums T) (hr.mono (by decide)) rfl (aa_cons (ae_var (pv 1)) (aa_cons (ae_var (pv 2)) aa_nil)))) (ae_neg ae_int) (fun _ _=>rfl)) (ag_tup rfl (ags_cons (ag_name (pg_name (i:=7) sc__law_hump.nd rfl (Or.inr rfl))) (ags_cons (ag_name (pg_name (i:=8) sc__law_hump.nd rfl (Or.inr rfl))) ags_nil)) (gsLen_cons (gsLen_cons gsLen_nil)))))
 (ass_cons (as_set (ps_set (i:=9) sc__law_hump.nd rfl (Or.inr rfl) (ae_o (ao_lc (pe_lc N__law_hump ["_law_k"] [8,7] rfl (ai_rng1 (pi_range1 rfl T.n_range (ad_cons (ae_op op_sub vo_sub (ae_cb (t:=tNil) (pe_callB call_len_seq rfl T.n_len boot_len (ad_cons (ae_var (pv 7)) ad_nil)) vc_len) ae_int) ad_nil))) (fun b=>(ag_name (pg_name (i:=0) (show ((bN N__law_hump ["_law_k"] [8,7])).Nodup by decide +kernel) rfl (Or.inl rfl)))) (fun b=>(ae_op op_fdivG vo_fdiv (ae_op op_sub vo_sub (ae_ix ix_seq vo_ix (ae_var (pv 2)) (ae_var (pv 0)) (fun _ _=>rfl)) (ae_cb (t:=tNil) (pe_callB (call_minD rfl) rfl T.n_min boot_min (ad_cons (ae_sl (ae_var (pv 2)) (ap_some (ae_op op_addD vo_add (ae_var (pv 0)) ae_int)) ap_none) ad_nil)) vc_min1)) (ae_var (pv 1)))) rfl (show BlkOk N__law_hump (defScope s__law_hump) _ [8,7] from ⟨rfl,by decide +kernel,by decide +kernel,by decide +kernel,by decide +kernel⟩)) (pres_set (by decide))))))
 (ass_cons (as_setLcifD (ps_setLcifif (i:=10) N__law_hump ["_law_k"] [9] rfl sc__law_hump.nd rfl rfl (ai_rng1 (pi_range1 rfl T.n_range (ad_cons (ae_cb (t:=tNil) (pe_callB call_len_seq rfl T.n_len boot_len (ad_cons (ae_var (pv 9)) ad_nil)) vc_len) ad_nil))) (fun b=>(ag_name (pg_name (i:=0) (show ((bN N__law_hump ["_law_k"] [9])).Nodup by decide +kernel) rfl (Or.inl rfl)))) (fun b=>(at_chain op_le vo_cmp op_lt vo_cmp ae_int (ae_ix ix_seq vo_ix (ae_var (pv 1)) (ae_var (pv 0)) (fun _ _=>rfl)) (ae_cb (t:=tNil) (pe_callB (call_maxD rfl) rfl T.n_max boot_max (ad_cons (ae_sl (ae_var (pv 1)) (ap_some (ae_var (pv 0))) ap_none) ad_nil)) vc_max1))) (fun b=>(ae_ix ix_seq vo_ix (ae_var (pv 1)) (ae_var (pv 0)) (fun _ _=>rfl))) rfl (show BlkOk N__law_hump (defScope s__law_hump) _ [9] from ⟨rfl,by decide +kernel,by decide +kernel,by decide +kernel,by decide +kernel⟩) rfl) (pres_set (by decide)))
 (ass_cons (as_set (ps_set (i:=11) sc__law_hump.nd rfl (Or.inl rfl) (ae_ix ix_seq vo_ix (ae_op op_addD vo_add (ae_var (pv 10)) (ae_o (ao_lst (ad_cons (ae_cb (t:=tNil) (pe_callB (call_max2 rfl) rfl T.n_max boot_max (ad_cons ae_int (ad_cons (ae_cb (t:=tNil) (pe_callB (call_maxD rfl) rfl T.n_max boot_max (ad_cons (ae_var (pv 9)) ad_nil)) vc_max1) ad_nil))) vc_max2) ad_nil)))) (ae_r (ar_call (c_law_draw T) (hr.mono (by decide)) rfl (aa_pen (pv 0) (aa_cons (ae_cb (t:=tNil) (pe_callB (call_max2 rfl) rfl T.n_max boot_max (ad_cons ae_int (ad_cons (ae_cb (t:=tNil) (pe_callB call_len_seq rfl T.n_len boot_len (ad_cons (ae_var (pv 10)) ad_nil)) vc_len) ad_nil))) vc_max2) aa_nil)))) (fun _ _=>rfl))))
 (ass_one (as_retO (ao_lst (ad_cons (ae_op op_addD vo_add (ae_op op_addD vo_add (ae_sl (ae_var (pv 1)) ap_none (ap_some ae_int)) (ae_tup (ad_cons (ae_var (pv 11)) ad_nil))) (ae_sl (ae_var (pv 1)) (ap_some ae_int) ap_none)) (ad_cons (ae_var (pv 2)) ad_nil)))))))))))))))
noncomputable def l_law_are_right_1:List Sl→Tr Ou :=
 (aSeq (aSet 5 (aVar 4))
 (aSeq (aIfS (aTest (aBin (cmpD fun i j=>decide (i < j)) (aVar 4) (aVar 2)))
  (aSet 5 (aCB max2D (aCons (aVar 4) (aCons (aVar 3) aNil))))
  aSkip)
 (aIfS (aTest (aBin (cmpD fun i j=>decide (i > j)) (aRe (aCall m_law_cost (aaCons (aVar 0) (aaCons (aVar 1) (aaCons (aVar 4) (aaCons (aVar 5) aaNil)))))) (aRe (aCall m_law_best (aaCons (aVar 0) (aaCons (aVar 1) (aaCons (aVar 4) aaNil)))))))
  (aRet (aC (.bool false)))
  aSkip)))
noncomputable def m_law_are_right:List Sl→Tr Re:=aDef 4 2
 (aSeq (aFor (aRng1 (aCons (aCB lenD (aCons (aVar 0) aNil)) aNil)) (gSet 4) l_law_are_right_1)
 (aRet (aC (.bool true))))
set_option maxHeartbeats 2000000 in
theorem c_law_are_right (T:Txt K mg):ACal (PK2 (K,cn)) P w K mg base "_law_are_right" 3 ["_law_row","_law_start","_law_lesser","_law_greater"] m_law_are_right:=acal_of T.d__law_are_right sc__law_are_right rfl fun f cdv A outer sh H E hr=>by
  exact (ass_cons (as_for PassesOwn.never rfl (ai_rng1 (pi_range1 rfl T.n_range (ad_cons (ae_cb (t:=tNil) (pe_callB call_len_seq rfl T.n_len boot_len (ad_cons (ae_var (pv 0)) ad_nil)) vc_len) ad_nil))) (ag_name (pg_name (i:=4) sc__law_are_right.nd rfl (Or.inl rfl)))
  (ass_cons (as_set (ps_set (i:=5) sc__law_are_right.nd rfl (Or.inl rfl) (ae_var (pv 4))))
 (ass_cons (as_if (at_cmp op_lt vo_cmp (ae_var (pv 4)) (ae_var (pv 2)) (nomark _))
  (ass_one (as_set (ps_set (i:=5) sc__law_are_right.nd rfl (Or.inl rfl) (ae_cb (t:=tNil) (pe_callB (call_max2 rfl) rfl T.n_max boot_max (ad_cons (ae_var (pv 4)) (ad_cons (ae_var (pv 3)) ad_nil))) vc_max2))))
  ass_nil)
 (ass_one (as_if (at_cmp op_gt vo_cmp (ae_r (ar_call (c_law_cost T) (hr.mono (by decide)) rfl (aa_cons (ae_var (pv 0)) (aa_cons (ae_var (pv 1)) (aa_cons (ae_var (pv 4)) (aa_cons (ae_var (pv 5)) aa_nil)))))) (ae_r (ar_call (c_law_best T) (hr.mono (by decide)) rfl (aa_cons (ae_var (pv 0)) (aa_cons (ae_var (pv 1)) (aa_cons (ae_var (pv 4)) aa_nil))))) (nomark _))
  (ass_one (as_ret ae_bl))
  ass_nil)))))
 (ass_one (as_ret ae_bl)))
noncomputable def l_law_apart_1:List Sl→Tr Ou :=
 (aSeq (aSet 5 (aBin eqD (aRe (aCall m_law_cost (aaCons (aVar 0) (aaCons (aVar 1) (aaCons (aVar 3) (aaCons (aVar 4) aaNil)))))) (aRe (aCall m_law_best (aaCons (aVar 0) (aaCons (aVar 1) (aaCons (aVar 3) aaNil)))))))
 (aIfS (aAnd (aTru (aVar 5)) (aTest (aBin eqD (aRe (aCall m_law_cost (aaCons (aVar 0) (aaCons (aVar 1) (aaCons (aVar 2) (aaCons (aVar 4) aaNil)))))) (aRe (aCall m_law_best (aaCons (aVar 0) (aaCons (aVar 1) (aaCons (aVar 2) aaNil))))))))
  (aRet (aC (.bool false)))
  aSkip))
noncomputable def m_law_apart:List Sl→Tr Re:=aDef 4 2
 (aSeq (aIfS (aOr (aNot (aChain3 (cmpD fun i j=>decide (i≤j)) (cmpD fun i j=>decide (i < j)) (cmpD fun i j=>decide (i < j)) (aC (.int 0)) (aVar 2) (aVar 3) (aCB lenD (aCons (aVar 0) aNil)))) (aTest (aBin eqD (aBin ixD (aVar 0) (aVar 3)) (aRe (aCall m_law_best (aaCons (aVar 0) (aaCons (aVar 1) (aaCons (aVar 3) aaNil))))))))
  (aRet (aC (.bool false)))
  aSkip)
 (aSeq (aFor (aRng2 (aCons (aVar 3) (aCons (aCB lenD (aCons (aVar 0) aNil)) aNil))) (gSet 4) l_law_apart_1)
 (aRet (aC (.bool true)))))
set_option maxHeartbeats 2000000 in
theorem c_law_apart (T:Txt K mg):ACal (PK2 (K,cn)) P w K mg base "_law_apart" 3 ["_law_row","_law_start","_law_x","_law_y"] m_law_apart:=acal_of T.d__law_apart sc__law_apart rfl fun f cdv A outer sh H E hr=>by
  exact (ass_cons (as_if (at_w (aw_or (at_not (at_chain3 op_le vo_cmp op_lt vo_cmp op_lt vo_cmp ae_int (ae_var (pv 2)) (ae_var (pv 3)) (ae_cb (t:=tNil) (pe_callB call_len_seq rfl T.n_len boot_len (ad_cons (ae_var (pv 0)) ad_nil)) vc_len))) (aw_or1 (at_cmp (op_eqA hr) vo_eq (ae_ix ix_seq vo_ix (ae_var (pv 0)) (ae_var (pv 3)) (fun _ _=>rfl)) (ae_r (ar_call (c_law_best T) (hr.mono (by decide)) rfl (aa_cons (ae_var (pv 0)) (aa_cons (ae_var (pv 1)) (aa_cons (ae_var (pv 3)) aa_nil))))) (nomark _)))))
  (ass_one (as_ret ae_bl))
  ass_nil)
 (ass_cons (as_for PassesOwn.never rfl (ai_rng2 (pi_range2 rfl T.n_range (ad_cons (ae_var (pv 3)) (ad_cons (ae_cb (t:=tNil) (pe_callB call_len_seq rfl T.n_len boot_len (ad_cons (ae_var (pv 0)) ad_nil)) vc_len) ad_nil)))) (ag_name (pg_name (i:=4) sc__law_apart.nd rfl (Or.inl rfl)))
  (ass_cons (as_set (ps_set (i:=5) sc__law_apart.nd rfl (Or.inl rfl) (ae_cmp (op_eqA hr) vo_eq (ae_r (ar_call (c_law_cost T) (hr.mono (by decide)) rfl (aa_cons (ae_var (pv 0)) (aa_cons (ae_var (pv 1)) (aa_cons (ae_var (pv 3)) (aa_cons (ae_var (pv 4)) aa_nil)))))) (ae_r (ar_call (c_law_best T) (hr.mono (by decide)) rfl (aa_cons (ae_var (pv 0)) (aa_cons (ae_var (pv 1)) (aa_cons (ae_var (pv 3)) aa_nil))))) (nomark _))))
 (ass_one (as_if (at_w (aw_and (at_tru (ae_var (pv 5))) (aw_and1 (at_cmp (op_eqA hr) vo_eq (ae_r (ar_call (c_law_cost T) (hr.mono (by decide)) rfl (aa_cons (ae_var (pv 0)) (aa_cons (ae_var (pv 1)) (aa_cons (ae_var (pv 2)) (aa_cons (ae_var (pv 4)) aa_nil)))))) (ae_r (ar_call (c_law_best T) (hr.mono (by decide)) rfl (aa_cons (ae_var (pv 0)) (aa_cons (ae_var (pv 1)) (aa_cons (ae_var (pv 2)) aa_nil))))) (nomark _)))))
  (ass_one (as_ret ae_bl))
  ass_nil))))
 (ass_one (as_ret ae_bl))))
noncomputable def q_level_sums_1:List Sl→Tr PyData :=
 (aBin addD (aBin mulD' (aBin mulD' (aVar 5) (aBin ixD (aVar 1) (aC (.int 3)))) (aVar 0)) (aRe (aCall m_weighed (aaCons (aVar 1) (aaCons (aVar 2) (aaCons (aVar 0) (aaCons (aVar 3) (aaCons (aVar 4) aaNil))))))))
noncomputable def m_level_sums:List Sl→Tr Re:=aDef 4 1
 (aSeq (aSet 4 (aBin mulD' (aVar 3) (aCB sumD (aCons (aVar 1) aNil))))
 (aRetO (aLc (aIt (aRe (aCall m_stocks (aaCons (aVar 0) aaNil)))) 1 [0,1,2,3,4] (gSet 0) q_level_sums_1)))
set_option maxHeartbeats 2000000 in
theorem c_level_sums (T:Txt K mg):ACal (PK2 (K,cn)) P w K mg base "level_sums" 4 ["shop","day","ahead","scale"] m_level_sums:=acal_of T.d_level_sums sc_level_sums rfl fun f cdv A outer sh H E hr=>by
  exact (ass_cons (as_set (ps_set (i:=4) sc_level_sums.nd rfl (Or.inr rfl) (ae_op op_mulD vo_mul (ae_var (pv 3)) (ae_cb (t:=tNil) (pe_callB (call_sumD rfl) rfl T.n_sum boot_sum (ad_cons (ae_var (pv 1)) ad_nil)) vc_sum))))
 (ass_one (as_retO (ao_lc (pe_lc N_level_sums ["level"] [0,1,2,3,4] rfl (ai_seq (ae_r (ar_call (c_stocks T) (hr.mono (by decide)) rfl (aa_cons (ae_var (pv 0)) aa_nil)))) (fun b=>(ag_name (pg_name (i:=0) (show ((bN N_level_sums ["level"] [0,1,2,3,4])).Nodup by decide +kernel) rfl (Or.inl rfl)))) (fun b=>(ae_op op_addD vo_add (ae_op op_mulD vo_mul (ae_op op_mulD vo_mul (ae_var (pv 5)) (ae_ix ix_seq vo_ix (ae_var (pv 1)) (ae_gint rfl T.g_PIECE) (fun _ _=>rfl))) (ae_var (pv 0))) (ae_r (ar_call (c_weighed T) (hr.mono (by decide)) rfl (aa_cons (ae_var (pv 1)) (aa_cons (ae_var (pv 2)) (aa_cons (ae_var (pv 0)) (aa_cons (ae_var (pv 3)) (aa_cons (ae_var (pv 4)) aa_nil))))))))) rfl (show BlkOk N_level_sums (defScope s_level_sums) _ [0,1,2,3,4] from ⟨rfl,by decide +kernel,by decide +kernel,by decide +kernel,by decide +kernel⟩)) (pres_set (by decide))))))
noncomputable def q_day_sums_1:List Sl→Tr PyData :=
 (aVar 0)
noncomputable def l_day_sums_1:List Sl→Tr Ou :=
 (aSeq (aSet 6 (aRe (aCall m_level_sums (aaCons (aVar 0) (aaCons (aVar 5) (aaCons (aVar 3) (aaCons (aVar 4) aaNil)))))))
 (aSeq (aAug imulD 4 (aCB sumD (aCons (aVar 5) aNil)))
 (aSet 3 (aLst (aLc (aIt (aRe (aCall m_cheapest (aaCons (aVar 0) (aaCons (aVar 6) (aaCons (aVar 4) aaNil)))))) 2 [] (gTupD (gsCons (gSet 0) (gsCons (gSet 1) gsNil))) q_day_sums_1)))))
noncomputable def m_day_sums:List Sl→Tr Re:=aDef 3 4
 (aSeq (aSet 3 (aRe (aCall m_end_costs (aaCons (aVar 0) aaNil))))
 (aSeq (aSet 4 (aC (.int 1)))
 (aSeq (aFor (aRevI (aSl (aVar 1) (aP1 (aBin addD (aVar 2) (aC (.int 1)))) aP0)) (gSet 5) l_day_sums_1)
 (aRet (aTup (aCons (aRe (aCall m_level_sums (aaCons (aVar 0) (aaCons (aBin ixD (aVar 1) (aVar 2)) (aaCons (aVar 3) (aaCons (aVar 4) aaNil)))))) (aCons (aBin mulD' (aVar 4) (aCB sumD (aCons (aBin ixD (aVar 1) (aVar 2)) aNil))) aNil)))))))
set_option maxHeartbeats 2000000 in
theorem c_day_sums (T:Txt K mg):ACal (PK2 (K,cn)) P w K mg base "day_sums" 5 ["shop","falls","t"] m_day_sums:=acal_of T.d_day_sums sc_day_sums rfl fun f cdv A outer sh H E hr=>by
  exact (ass_cons (as_set (ps_set (i:=3) sc_day_sums.nd rfl (Or.inl rfl) (ae_r (ar_call (c_end_costs T) (hr.mono (by decide)) rfl (aa_cons (ae_var (pv 0)) aa_nil)))))
 (ass_cons (as_set (ps_set (i:=4) sc_day_sums.nd rfl (Or.inl rfl) ae_int))
 (ass_cons (as_for PassesOwn.never rfl (ai_rev (pi_rev rfl T.n_reversed (ae_sl (ae_var (pv 1)) (ap_some (ae_op op_addD vo_add (ae_var (pv 2)) ae_int)) ap_none))) (ag_name (pg_name (i:=5) sc_day_sums.nd rfl (Or.inl rfl)))
  (ass_cons (as_set (ps_set (i:=6) sc_day_sums.nd rfl (Or.inl rfl) (ae_r (ar_call (c_level_sums T) (hr.mono (by decide)) rfl (aa_cons (ae_var (pv 0)) (aa_cons (ae_var (pv 5)) (aa_cons (ae_var (pv 3)) (aa_cons (ae_var (pv 4)) aa_nil))))))))
 (ass_cons (as_aug vo_imul (ps_aug (i:=4) sc_day_sums.nd rfl (Or.inl rfl) (ae_cb (t:=tNil) (pe_callB (call_sumD rfl) rfl T.n_sum boot_sum (ad_cons (ae_var (pv 5)) ad_nil)) vc_sum) (pip iop_mulG)))
 (ass_one (as_setLcD (ps_setLc (i:=3) N_day_sums ["cost","level"] [] rfl sc_day_sums.nd rfl rfl (ai_seq (ae_r (ar_call (c_cheapest T) (hr.mono (by decide)) rfl (aa_cons (ae_var (pv 0)) (aa_cons (ae_var (pv 6)) (aa_cons (ae_var (pv 4)) aa_nil)))))) (fun b=>(ag_tup rfl (ags_cons (ag_name (pg_name (i:=0) (show ((bN N_day_sums ["cost","level"] [])).Nodup by decide +kernel) rfl (Or.inl rfl))) (ags_cons (ag_name (pg_name (i:=1) (show ((bN N_day_sums ["cost","level"] [])).Nodup by decide +kernel) rfl (Or.inl rfl))) ags_nil)) (gsLen_cons (gsLen_cons gsLen_nil)))) (fun b=>(ae_var (pv 0))) rfl (show BlkOk N_day_sums (defScope s_day_sums) _ [] from ⟨rfl,by decide +kernel,by decide +kernel,by decide +kernel,by decide +kernel⟩) rfl) (pres_tup (pres_cons (pres_set (by decide)) (pres_cons (pres_set (by decide)) pres_nil))))))))
 (ass_one (as_ret (ae_tup (ad_cons (ae_r (ar_call (c_level_sums T) (hr.mono (by decide)) rfl (aa_cons (ae_var (pv 0)) (aa_cons (ae_ix ix_seq vo_ix (ae_var (pv 1)) (ae_var (pv 2)) (fun _ _=>rfl)) (aa_cons (ae_var (pv 3)) (aa_cons (ae_var (pv 4)) aa_nil)))))) (ad_cons (ae_op op_mulD vo_mul (ae_var (pv 4)) (ae_cb (t:=tNil) (pe_callB (call_sumD rfl) rfl T.n_sum boot_sum (ad_cons (ae_ix ix_seq vo_ix (ae_var (pv 1)) (ae_var (pv 2)) (fun _ _=>rfl)) ad_nil)) vc_sum)) ad_nil))))))))
noncomputable def m_marks:List Sl→Tr Re:=aDef 4 2
 (aSeq (aAsg (gTupD (gsCons (gSet 4) (gsCons (gSet 5) gsNil))) (aRe (aCall m_day_sums (aaCons (aVar 0) (aaCons (aVar 1) (aaCons (aVar 2) aaNil))))))
 (aRetR (aCall m_marks_by (aaCons (aVar 0) (aaCons (aVar 4) (aaCons (aVar 5) (aaCons (aVar 3) aaNil)))))))
set_option maxHeartbeats 2000000 in
theorem c_marks (T:Txt K mg):ACal (PK2 (K,cn)) P w K mg base "marks" 6 ["shop","falls","t","least"] m_marks:=acal_of T.d_marks sc_marks rfl fun f cdv A outer sh H E hr=>by
  exact (ass_cons (as_asg (ps_asg (ae_r (ar_call (c_day_sums T) (hr.mono (by decide)) rfl (aa_cons (ae_var (pv 0)) (aa_cons (ae_var (pv 1)) (aa_cons (ae_var (pv 2)) aa_nil))))) (ag_tup rfl (ags_cons (ag_name (pg_name (i:=4) sc_marks.nd rfl (Or.inl rfl))) (ags_cons (ag_name (pg_name (i:=5) sc_marks.nd rfl (Or.inl rfl))) ags_nil)) (gsLen_cons (gsLen_cons gsLen_nil)))))
 (ass_one (as_retR (ar_call (c_marks_by T) (hr.mono (by decide)) rfl (aa_cons (ae_var (pv 0)) (aa_cons (ae_var (pv 4)) (aa_cons (ae_var (pv 5)) (aa_cons (ae_var (pv 3)) aa_nil))))))))
noncomputable def q_law_1:List Sl→Tr PyData :=
 (aTup (aCons (aVar 1) (aCons (aVar 0) aNil)))
noncomputable def p_law_1:List Sl→Tr Bool :=
 (aTru (aRe (aCall m_law_are_right (aaCons (aVar 2) (aaCons (aVar 3) (aaCons (aVar 1) (aaCons (aVar 0) aaNil)))))))
noncomputable def l_law_1:List Sl→Tr Ou :=
 (aExt 13 (aLst (aLcif (aRng1 (aCons (aCB lenD (aCons (aVar 6) aNil)) aNil)) 1 [14,6,9] (gSet 0) p_law_1 q_law_1)))
noncomputable def m_law:List Sl→Tr Ou :=
 (aSeq (aSet 2 (aRe (aCall m_law_draw (aaPen 1 (aaCons (aC (.int 4)) aaNil)))))
 (aSeq (aAsg (gLstD (gsCons (gSet 3) (gsCons (gSet 4) gsNil))) (aRe (aCall m_law_shop (aaPen 1 (aaCons (aBin eqD (aVar 2) (aC (.int 0))) aaNil)))))
 (aSeq (aIfS (aTest (aBin eqD (aVar 2) (aC (.int 1))))
  (aSet 3 (aRe (aCall m_law_odd (aaPen 1 (aaCons (aVar 3) aaNil)))))
  aSkip)
 (aSeq (aSet 5 (aRe (aCall m_law_draw (aaPen 1 (aaCons (aCB lenD (aCons (aVar 4) aNil)) aaNil)))))
 (aSeq (aIfS (aTest (aBin eqD (aVar 2) (aC (.int 2))))
  (aAsg (gLstD (gsCons (gSet 3) (gsCons (gSet 4) gsNil))) (aRe (aCall m_law_hump (aaPen 1 (aaCons (aVar 3) (aaCons (aVar 4) aaNil))))))
  aSkip)
 (aSeq (aIfS (aTest (aBin eqD (aVar 2) (aC (.int 3))))
  (aAsg (gLstD (gsCons (gSet 3) (gsCons (gSet 4) gsNil))) (aRe (aCall m_law_feet (aaPen 1 (aaCons (aVar 3) (aaCons (aVar 4) aaNil))))))
  aSkip)
 (aSeq (aIfS (aTest (aBin (cmpD fun i j=>decide (i > j)) (aVar 2) (aC (.int 1))))
  (aSet 5 (aBin ixD (aLst (aLo (aCons (aVar 5) (aCons (aBin subD (aCB lenD (aCons (aVar 4) aNil)) (aC (.int 1))) (aCons (aBin subD (aCB lenD (aCons (aVar 4) aNil)) (aC (.int 1))) aNil))))) (aRe (aCall m_law_draw (aaPen 1 (aaCons (aC (.int 3)) aaNil))))))
  aSkip)
 (aSeq (aAsg (gTupD (gsCons (gSet 6) (gsCons (gSet 7) gsNil))) (aBin ixD (aRe (aCall m_law_sums (aaCons (aVar 3) (aaCons (aVar 4) aaNil)))) (aVar 5)))
 (aSeq (aSet 8 (aBin subD (aBin ixD (aLst (aLo (aCons (aC (.int 0)) (aCons (aRe (aCall m_law_draw (aaPen 1 (aaCons (aCB lenD (aCons (aVar 6) aNil)) aaNil)))) aNil)))) (aRe (aCall m_law_draw (aaPen 1 (aaCons (aC (.int 2)) aaNil))))) (aBin ixD (aVar 3) (aC (.int 1)))))
 (aSeq (aSet 8 (aCB max2D (aCons (aVar 8) (aCons (aBin subD (aBin ixD (aVar 3) (aC (.int 0))) (aC (.int 9))) aNil))))
 (aSeq (aSet 6 (aSl (aVar 6) (aP1 (aBin addD (aVar 8) (aBin ixD (aVar 3) (aC (.int 1))))) aP0))
 (aSeq (aSet 9 (aBin mulD' (aBin ixD (aVar 3) (aC (.int 2))) (aVar 7)))
 (aSeq (aAsg (gTupD (gsCons (gSet 10) (gsCons (gSet 11) (gsCons (gSet 12) gsNil)))) (aRe (aCall m_marks (aaCons (aVar 3) (aaCons (aVar 4) (aaCons (aVar 5) (aaCons (aVar 8) aaNil)))))))
 (aSeq (aSetO 13 (aLo aNil))
 (aSeq (aFor (aRng1 (aCons (aBin addD (aCB lenD (aCons (aVar 6) aNil)) (aC (.int 1))) aNil)) (gSet 14) l_law_1)
 (aSeq (aIfS (aTest (aBin eqD (aVar 10) (aC (.str "marks"))))
  (aFz 13 (aRet (aBin (inL false) (aTup (aCons (aBin subD (aVar 11) (aVar 8)) (aCons (aBin subD (aVar 12) (aVar 8)) aNil))) (aVar 13))))
  aSkip)
 (aFz 13 (aRet (aAndV (aBin eqD (aVar 10) (aC (.str "none"))) (aAndV (aBin eqD (aVar 13) (aLst (aLo aNil))) (aRe (aCall m_law_apart (aaCons (aVar 6) (aaCons (aVar 9) (aaCons (aBin subD (aVar 11) (aVar 8)) (aaCons (aBin subD (aVar 12) (aVar 8)) aaNil))))))))))))))))))))))))))
noncomputable abbrev law0:List Sl:=.un::.pen::List.replicate 13 .un
set_option maxHeartbeats 4000000 in
theorem ok_law (T:Txt K mg) {f:Addr} {fd:FuncData} (F:Fun K "law" "law" s_law f fd) (hl:(m_law law0).ok 0 fun _ o=>o=.ret (.d (.bool true))):FnOk P w K mg base CX0 7 f fd ["_law_script"] (spLaw K):=by
  refine F.ok sc_law (fun vs H Q E h=>?_) (fun cdv A outer s H vs Q E hr h=>?_)
  · obtain ⟨a,ns,rfl,_⟩:=h
    rfl
  · obtain ⟨a,ns,rfl,hS,hlen,k⟩:=h
    have hu:=hu_of hr
    refine ⟨_,(pss_cons (ps_set (i:=1) sc_law.nd rfl (Or.inl rfl) (pe_callC (ok_pen T) (hr.mono (by decide)) rfl (pa_cons (pv 0) pa_nil)))
 (pss_ex (t:=fun cn=>TAs (PK2 (K,cn)) m_law) fun cn=>(ass_cons (as_set (ps_set (i:=2) sc_law.nd rfl (Or.inl rfl) (ae_r (ar_call (c_law_draw T) (hr.mono (by decide)) rfl (aa_pen (pv 1) (aa_cons ae_int aa_nil))))))
 (ass_cons (as_asg (ps_asg (ae_r (ar_call (c_law_shop T) (hr.mono (by decide)) rfl (aa_pen (pv 1) (aa_cons (ae_cmp (op_eqA hr) vo_eq (ae_var (pv 2)) ae_int (nomark _)) aa_nil)))) (ag_lst rfl (ags_cons (ag_name (pg_name (i:=3) sc_law.nd rfl (Or.inl rfl))) (ags_cons (ag_name (pg_name (i:=4) sc_law.nd rfl (Or.inl rfl))) ags_nil)) (gsLen_cons (gsLen_cons gsLen_nil)))))
 (ass_cons (as_if (at_cmp (op_eqA hr) vo_eq (ae_var (pv 2)) ae_int (nomark _))
  (ass_one (as_set (ps_set (i:=3) sc_law.nd rfl (Or.inl rfl) (ae_r (ar_call (c_law_odd T) (hr.mono (by decide)) rfl (aa_pen (pv 1) (aa_cons (ae_var (pv 3)) aa_nil)))))))
  ass_nil)
 (ass_cons (as_set (ps_set (i:=5) sc_law.nd rfl (Or.inl rfl) (ae_r (ar_call (c_law_draw T) (hr.mono (by decide)) rfl (aa_pen (pv 1) (aa_cons (ae_cb (t:=tNil) (pe_callB call_len_seq rfl T.n_len boot_len (ad_cons (ae_var (pv 4)) ad_nil)) vc_len) aa_nil))))))
 (ass_cons (as_if (at_cmp (op_eqA hr) vo_eq (ae_var (pv 2)) ae_int (nomark _))
  (ass_one (as_asg (ps_asg (ae_r (ar_call (c_law_hump T) (hr.mono (by decide)) rfl (aa_pen (pv 1) (aa_cons (ae_var (pv 3)) (aa_cons (ae_var (pv 4)) aa_nil))))) (ag_lst rfl (ags_cons (ag_name (pg_name (i:=3) sc_law.nd rfl (Or.inl rfl))) (ags_cons (ag_name (pg_name (i:=4) sc_law.nd rfl (Or.inl rfl))) ags_nil)) (gsLen_cons (gsLen_cons gsLen_nil))))))
  ass_nil)
 (ass_cons (as_if (at_cmp (op_eqA hr) vo_eq (ae_var (pv 2)) ae_int (nomark _))
  (ass_one (as_asg (ps_asg (ae_r (ar_call (c_law_feet T) (hr.mono (by decide)) rfl (aa_pen (pv 1) (aa_cons (ae_var (pv 3)) (aa_cons (ae_var (pv 4)) aa_nil))))) (ag_lst rfl (ags_cons (ag_name (pg_name (i:=3) sc_law.nd rfl (Or.inl rfl))) (ags_cons (ag_name (pg_name (i:=4) sc_law.nd rfl (Or.inl rfl))) ags_nil)) (gsLen_cons (gsLen_cons gsLen_nil))))))
  ass_nil)
 (ass_cons (as_if (at_cmp op_gt vo_cmp (ae_var (pv 2)) ae_int (nomark _))
  (ass_one (as_set (ps_set (i:=5) sc_law.nd rfl (Or.inl rfl) (ae_ix ix_seq vo_ix (ae_o (ao_lst (ad_cons (ae_var (pv 5)) (ad_cons (ae_op op_sub vo_sub (ae_cb (t:=tNil) (pe_callB call_len_seq rfl T.n_len boot_len (ad_cons (ae_var (pv 4)) ad_nil)) vc_len) ae_int) (ad_cons (ae_op op_sub vo_sub (ae_cb (t:=tNil) (pe_callB call_len_seq rfl T.n_len boot_len (ad_cons (ae_var (pv 4)) ad_nil)) vc_len) ae_int) ad_nil))))) (ae_r (ar_call (c_law_draw T) (hr.mono (by decide)) rfl (aa_pen (pv 1) (aa_cons ae_int aa_nil)))) (fun _ _=>rfl)))))
  ass_nil)
 (ass_cons (as_asg (ps_asg (ae_ix ix_seq vo_ix (ae_r (ar_call (c_law_sums T) (hr.mono (by decide)) rfl (aa_cons (ae_var (pv 3)) (aa_cons (ae_var (pv 4)) aa_nil)))) (ae_var (pv 5)) (fun _ _=>rfl)) (ag_tup rfl (ags_cons (ag_name (pg_name (i:=6) sc_law.nd rfl (Or.inr rfl))) (ags_cons (ag_name (pg_name (i:=7) sc_law.nd rfl (Or.inl rfl))) ags_nil)) (gsLen_cons (gsLen_cons gsLen_nil)))))
 (ass_cons (as_set (ps_set (i:=8) sc_law.nd rfl (Or.inl rfl) (ae_op op_sub vo_sub (ae_ix ix_seq vo_ix (ae_o (ao_lst (ad_cons ae_int (ad_cons (ae_r (ar_call (c_law_draw T) (hr.mono (by decide)) rfl (aa_pen (pv 1) (aa_cons (ae_cb (t:=tNil) (pe_callB call_len_seq rfl T.n_len boot_len (ad_cons (ae_var (pv 6)) ad_nil)) vc_len) aa_nil)))) ad_nil)))) (ae_r (ar_call (c_law_draw T) (hr.mono (by decide)) rfl (aa_pen (pv 1) (aa_cons ae_int aa_nil)))) (fun _ _=>rfl)) (ae_ix ix_seq vo_ix (ae_var (pv 3)) ae_int (fun _ _=>rfl)))))
 (ass_cons (as_set (ps_set (i:=8) sc_law.nd rfl (Or.inl rfl) (ae_cb (t:=tNil) (pe_callB (call_max2 rfl) rfl T.n_max boot_max (ad_cons (ae_var (pv 8)) (ad_cons (ae_op op_sub vo_sub (ae_ix ix_seq vo_ix (ae_var (pv 3)) ae_int (fun _ _=>rfl)) ae_int) ad_nil))) vc_max2)))
 (ass_cons (as_set (ps_set (i:=6) sc_law.nd rfl (Or.inr rfl) (ae_sl (ae_var (pv 6)) (ap_some (ae_op op_addD vo_add (ae_var (pv 8)) (ae_ix ix_seq vo_ix (ae_var (pv 3)) ae_int (fun _ _=>rfl)))) ap_none)))
 (ass_cons (as_set (ps_set (i:=9) sc_law.nd rfl (Or.inr rfl) (ae_op op_mulD vo_mul (ae_ix ix_seq vo_ix (ae_var (pv 3)) ae_int (fun _ _=>rfl)) (ae_var (pv 7)))))
 (ass_cons (as_asg (ps_asg (ae_r (ar_call (c_marks T) (hr.mono (by decide)) rfl (aa_cons (ae_var (pv 3)) (aa_cons (ae_var (pv 4)) (aa_cons (ae_var (pv 5)) (aa_cons (ae_var (pv 8)) aa_nil)))))) (ag_tup rfl (ags_cons (ag_name (pg_name (i:=10) sc_law.nd rfl (Or.inl rfl))) (ags_cons (ag_name (pg_name (i:=11) sc_law.nd rfl (Or.inl rfl))) (ags_cons (ag_name (pg_name (i:=12) sc_law.nd rfl (Or.inl rfl))) ags_nil))) (gsLen_cons (gsLen_cons (gsLen_cons gsLen_nil))))))
 (ass_cons (as_setO (ps_set (i:=13) sc_law.nd rfl (Or.inl rfl) (ao_lst ad_nil)))
 (ass_cons (as_for PassesOwn.never rfl (ai_rng1 (pi_range1 rfl T.n_range (ad_cons (ae_op op_addD vo_add (ae_cb (t:=tNil) (pe_callB call_len_seq rfl T.n_len boot_len (ad_cons (ae_var (pv 6)) ad_nil)) vc_len) ae_int) ad_nil))) (ag_name (pg_name (i:=14) sc_law.nd rfl (Or.inr rfl)))
  (ass_one (as_ext (ps_expr (pe_bm PySem.F.plainAttrs_list PySem.F.slot_list_extend PySem.F.type_list_extend mt_extend (pv 13) (pa_cons (ae_o (ao_lcif (pe_lcif N_law ["_law_k"] [14,6,9] rfl (ai_rng1 (pi_range1 rfl T.n_range (ad_cons (ae_cb (t:=tNil) (pe_callB call_len_seq rfl T.n_len boot_len (ad_cons (ae_var (pv 6)) ad_nil)) vc_len) ad_nil))) (fun b=>(ag_name (pg_name (i:=0) (show ((bN N_law ["_law_k"] [14,6,9])).Nodup by decide +kernel) rfl (Or.inl rfl)))) (fun b=>(at_tru (ae_r (ar_call (c_law_are_right T) (hr.mono (by decide)) rfl (aa_cons (ae_var (pv 2)) (aa_cons (ae_var (pv 3)) (aa_cons (ae_var (pv 1)) (aa_cons (ae_var (pv 0)) aa_nil)))))))) (fun b=>(ae_tup (ad_cons (ae_var (pv 1)) (ad_cons (ae_var (pv 0)) ad_nil)))) rfl (show BlkOk N_law (defScope s_law) _ [14,6,9] from ⟨rfl,by decide +kernel,by decide +kernel,by decide +kernel,by decide +kernel⟩)) (pres_set (by decide)))) pa_nil))))))
 (ass_cons (as_if (at_cmp (op_eqA hr) vo_eq (ae_var (pv 10)) ae_str (nomark _))
  (ass_one (as_fz (k:=13) (as_ret (ae_cmp (op_inL hr) vo_inL (ae_tup (ad_cons (ae_op op_sub vo_sub (ae_var (pv 11)) (ae_var (pv 8))) (ad_cons (ae_op op_sub vo_sub (ae_var (pv 12)) (ae_var (pv 8))) ad_nil))) (ae_var (pv 13)) (by with_unfolding_all rfl)))))
  ass_nil)
 (ass_one (as_fz (k:=13) (as_ret (ae_and (ae_cmp (op_eqA hr) vo_eq (ae_var (pv 10)) ae_str (nomark _)) (ae_and (ae_cmp (op_eqA hr) vo_eq (ae_var (pv 13)) (ae_o (ao_lst ad_nil)) (nomark _)) (ae_one (ae_r (ar_call (c_law_apart T) (hr.mono (by decide)) rfl (aa_cons (ae_var (pv 6)) (aa_cons (ae_var (pv 9)) (aa_cons (ae_op op_sub vo_sub (ae_var (pv 11)) (ae_var (pv 8))) (aa_cons (ae_op op_sub vo_sub (ae_var (pv 12)) (ae_var (pv 8))) aa_nil)))))))))))))))))))))))))))))),?_⟩
    refine ⟨_,rfl,a,ns,rfl,hS,hlen,fun p H' hp hP hs=>?_⟩
    exact law_start (n:=13) hP rfl rfl (fun H'=>k H') hl
end
end My
set_option Elab.async false
set_option linter.all false
set_option maxRecDepth 100000
local macro_rules | `(tactic| simp_arith [$ls,*] $[$loc]?) => do let b : Lean.TSyntaxArray ``Lean.Parser.Tactic.simpLemma ← (("L2.ev_var0 L2.ev_varS L2.ev_C L2.ev_bin L2.ev_bin1 L2.ev_add L2.ev_addT L2.ev_addL L2.ev_sub L2.ev_cmp L2.ev_eqI L2.ev_eqB L2.ev_eqS L2.ev_ixL L2.ev_ixT L2.at_0 L2.at_1 L2.at_2 L2.at_3 L2.at_4 L2.at_5 L2.at_6 L2.at_7 L2.at_8 L2.ev_neg L2.ev_neg1 L2.ev_test L2.ev_tst1 L2.ev_tru L2.ev_truB L2.ev_truI L2.ev_truL L2.ev_truT L2.ev_truN L2.ev_and L2.ev_or L2.ev_not L2.ev_and1t L2.ev_and1f L2.ev_or1t L2.ev_or1f L2.ev_not1 L2.ev_andV L2.ev_orV L2.ev_andV1t L2.ev_andV1f L2.ev_orV1t L2.ev_orV1f L2.ev_if L2.ev_if1t L2.ev_if1f L2.ev_chain L2.ev_ch1 L2.ev_ch2 L2.ev_ch3 L2.ev_ch4t L2.ev_ch4f L2.ev_nil L2.ev_cons L2.ev_cons1 L2.ev_cons2 L2.ev_tup L2.ev_tup1 L2.ev_lst L2.ev_lst1 L2.ev_lo L2.ev_lo1 L2.small_le L2.ev_cb L2.ev_cbo L2.ev_lenL L2.ev_lenT L2.ev_max2 L2.ev_min2 L2.ev_intI L2.ev_intB L2.ev_tupL L2.ev_tupT L2.ev_sumL L2.ev_sumT L2.ev_maxL L2.ev_sl L2.ev_sl1 L2.ev_sl2 L2.ev_sl3L L2.ev_sl3T L2.ev_p0 L2.ev_p1 L2.ev_pa1 L2.ev_tupR L2.ev_tupR1 L2.ev_aaNil L2.ev_aaCons L2.ev_aa1 L2.ev_aa2 L2.ev_pen0 L2.ev_penS L2.ev_aaPen L2.ev_aap L2.ev_call L2.ev_re L2.ev_re1 L2.ev_def L2.ev_finN L2.ev_finR L2.ev_seq L2.ev_seqN L2.ev_seqR L2.ev_seqB L2.ev_seqC L2.ev_skip L2.ev_ifs L2.ev_ifst L2.ev_ifsf L2.ev_ret L2.ev_ret1 L2.ev_retO L2.ev_retO1 L2.ev_retR L2.ev_retR1 L2.ev_retVd L2.ev_retVo L2.ev_retVs L2.ev_set L2.ev_set1 L2.ev_setO L2.ev_setO1 L2.ev_setR L2.ev_setR1d L2.ev_setR1o L2.ls_0 L2.ls_S L2.ev_aug L2.ev_aug1 L2.ev_aug2 L2.ev_iadd L2.ev_own0 L2.ev_ownS L2.ev_app L2.ev_app1 L2.ev_app2 L2.ev_rev L2.ev_rev1 L2.ev_fz L2.fz_o L2.fz_d L2.fz_p L2.fz_u L2.fz_S L2.ev_asg L2.ev_asg1 L2.ev_nx1 L2.g_set L2.g_tup L2.g_nil L2.g_cons L2.g_some L2.ev_it L2.ev_it1L L2.ev_it1T L2.ev_rng1 L2.ev_rng2 L2.ev_enum L2.ev_enu1 L2.ev_enu2 L2.ev_for L2.ev_for1 L2.for_nil L2.ev_lc L2.ev_lc1 L2.ev_lc2 L2.mt_nil L2.mt_cons L2.mt_1 L2.mt_2 L2.ev_len0o L2.ev_len0d L2.ev_lenS L2.ev_lend L2.ev_lcif L2.ev_lci1 L2.ev_lci2 L2.ev_ifE L2.ev_if2t L2.ev_if2f L2.ev_if3 L2.ev_cbF L2.ev_cbf1 L2.ev_fl1I L2.ev_six L2.ev_six1 L2.ev_six2 L2.ev_addE0 L2.ev_addE1 L2.g_lst2 L2.ev_revI L2.ev_rvi1 L2.ev_rvi2 L2.ev_revR2 L2.ev_rvr2 L2.ev_revL L2.ev_revT L2.ev_ext L2.ev_ext1 L2.ev_ins L2.ev_ins0 L2.ev_ins1 L2.ev_min2T Tw.shp_0 Tw.shp_1 Tw.shp_2 Tw.shp_3 Tw.shp_4 Tw.shp_5 Tw.shp_6 Tw.shp_7 Tw.shp_8 L2.ev_ext2 L2.ev_ins2 L2.ev_mul L2.ev_imul L2.rb2 L2.Tr.of_some L2.Tr.bind_assoc L2.Tr.draw_bind List.cons_append List.nil_append List.replicate_succ List.replicate_zero List.length_cons List.length_nil L2.Re.val_d L2.Re.val_own L2.blk L2.blS List.map_cons List.map_nil List.getElem?_cons_zero List.getElem?_cons_succ Option.getD_some Nat.reduceAdd Nat.reduceLeDiff List.isEmpty_cons".splitOn " ").toArray.map fun s => Lean.mkIdent s.toName).mapM fun i => `(Lean.Parser.Tactic.simpLemma| $i:ident); `(tactic| simp only [$b,*, $ls,*] $[$loc]?)
local macro_rules | `(tactic| simp_arith only [$ls,*] $[$loc]?) => do let b : Lean.TSyntaxArray ``Lean.Parser.Tactic.simpLemma ← (("L2.ev_var0 L2.ev_varS L2.ev_C L2.ev_bin L2.ev_bin1 L2.ev_add L2.ev_addT L2.ev_addL L2.ev_sub L2.ev_cmp L2.ev_eqI L2.ev_eqB L2.ev_eqS L2.ev_ixL L2.ev_ixT L2.at_0 L2.at_1 L2.at_2 L2.at_3 L2.at_4 L2.at_5 L2.at_6 L2.at_7 L2.at_8 L2.ev_neg L2.ev_neg1 L2.ev_test L2.ev_tst1 L2.ev_tru L2.ev_truB L2.ev_truI L2.ev_truL L2.ev_truT L2.ev_truN L2.ev_and L2.ev_or L2.ev_not L2.ev_and1t L2.ev_and1f L2.ev_or1t L2.ev_or1f L2.ev_not1 L2.ev_andV L2.ev_orV L2.ev_andV1t L2.ev_andV1f L2.ev_orV1t L2.ev_orV1f L2.ev_if L2.ev_if1t L2.ev_if1f L2.ev_chain L2.ev_ch1 L2.ev_ch2 L2.ev_ch3 L2.ev_ch4t L2.ev_ch4f L2.ev_nil L2.ev_cons L2.ev_cons1 L2.ev_cons2 L2.ev_tup L2.ev_tup1 L2.ev_lst L2.ev_lst1 L2.ev_lo L2.ev_lo1 L2.small_le L2.ev_cb L2.ev_cbo L2.ev_lenL L2.ev_lenT L2.ev_max2 L2.ev_min2 L2.ev_intI L2.ev_intB L2.ev_tupL L2.ev_tupT L2.ev_sumL L2.ev_sumT L2.ev_maxL L2.ev_sl L2.ev_sl1 L2.ev_sl2 L2.ev_sl3L L2.ev_sl3T L2.ev_p0 L2.ev_p1 L2.ev_pa1 L2.ev_tupR L2.ev_tupR1 L2.ev_aaNil L2.ev_aaCons L2.ev_aa1 L2.ev_aa2 L2.ev_pen0 L2.ev_penS L2.ev_aaPen L2.ev_aap L2.ev_call L2.ev_re L2.ev_re1 L2.ev_def L2.ev_finN L2.ev_finR L2.ev_seq L2.ev_seqN L2.ev_seqR L2.ev_seqB L2.ev_seqC L2.ev_skip L2.ev_ifs L2.ev_ifst L2.ev_ifsf L2.ev_ret L2.ev_ret1 L2.ev_retO L2.ev_retO1 L2.ev_retR L2.ev_retR1 L2.ev_retVd L2.ev_retVo L2.ev_retVs L2.ev_set L2.ev_set1 L2.ev_setO L2.ev_setO1 L2.ev_setR L2.ev_setR1d L2.ev_setR1o L2.ls_0 L2.ls_S L2.ev_aug L2.ev_aug1 L2.ev_aug2 L2.ev_iadd L2.ev_own0 L2.ev_ownS L2.ev_app L2.ev_app1 L2.ev_app2 L2.ev_rev L2.ev_rev1 L2.ev_fz L2.fz_o L2.fz_d L2.fz_p L2.fz_u L2.fz_S L2.ev_asg L2.ev_asg1 L2.ev_nx1 L2.g_set L2.g_tup L2.g_nil L2.g_cons L2.g_some L2.ev_it L2.ev_it1L L2.ev_it1T L2.ev_rng1 L2.ev_rng2 L2.ev_enum L2.ev_enu1 L2.ev_enu2 L2.ev_for L2.ev_for1 L2.for_nil L2.ev_lc L2.ev_lc1 L2.ev_lc2 L2.mt_nil L2.mt_cons L2.mt_1 L2.mt_2 L2.ev_len0o L2.ev_len0d L2.ev_lenS L2.ev_lend L2.ev_lcif L2.ev_lci1 L2.ev_lci2 L2.ev_ifE L2.ev_if2t L2.ev_if2f L2.ev_if3 L2.ev_cbF L2.ev_cbf1 L2.ev_fl1I L2.ev_six L2.ev_six1 L2.ev_six2 L2.ev_addE0 L2.ev_addE1 L2.g_lst2 L2.ev_revI L2.ev_rvi1 L2.ev_rvi2 L2.ev_revR2 L2.ev_rvr2 L2.ev_revL L2.ev_revT L2.ev_ext L2.ev_ext1 L2.ev_ins L2.ev_ins0 L2.ev_ins1 L2.ev_min2T Tw.shp_0 Tw.shp_1 Tw.shp_2 Tw.shp_3 Tw.shp_4 Tw.shp_5 Tw.shp_6 Tw.shp_7 Tw.shp_8 L2.ev_ext2 L2.ev_ins2 L2.ev_mul L2.ev_imul L2.rb2 L2.Tr.of_some L2.Tr.bind_assoc L2.Tr.draw_bind List.cons_append List.nil_append List.replicate_succ List.replicate_zero List.length_cons List.length_nil L2.Re.val_d L2.Re.val_own L2.blk L2.blS List.map_cons List.map_nil List.getElem?_cons_zero List.getElem?_cons_succ Option.getD_some Nat.reduceAdd Nat.reduceLeDiff List.isEmpty_cons".splitOn " ").toArray.map fun s => Lean.mkIdent s.toName).mapM fun i => `(Lean.Parser.Tactic.simpLemma| $i:ident); `(tactic| simp -implicitDefEqProofs only [$b,*, $ls,*] $[$loc]?)
namespace My
open PySem PySem.Spec PyProof.Rows L2 Tw
theorem e_stocks {s:Shp} (h:s.Ok):m_stocks [.d s.d]=.ret (.d (.tuple (rngL (-s.depth) (s.top+1)))):=by
  have:=h.t0
  have:=h.d0
  have:=h.td
  have hr:rngOk (-s.depth) (s.top+1)=true:=by
    unfold rngOk
    rw [inR_of (by omega) (by omega),inR_of (by omega) (by omega)]
    simp
    omega
  simp_arith [m_stocks,ev_tupR1 hr]
theorem e_next (s:Shp) (y f:Int):m_next_stock [.d s.d,.d (.int y),.d (.int f)]=.ret (.d (.int (s.nx y f))):=by
  simp_arith [m_next_stock,Shp.nx]
theorem e_end {s:Shp} (h:s.Ok) {x:Int} (hx:nb 20 x):m_end_cost [.d s.d,.d (.int x)]=.ret (.d (.int (s.fin x))):=by
  have f1:=nb_fit (nb_neg h.back) (by decide)
  have f2:=nb_fit h.late (by decide)
  have f3:=nb_fit hx (by decide)
  have f4:=nb_fit (nb_neg hx) (by decide)
  by_cases hp:x > 0
  · simp_arith [m_end_cost,decide_eq_true hp,f1,f3,Shp.fin,if_pos hp]
  · simp_arith [m_end_cost,decide_eq_false hp,f2,f4,Shp.fin,if_neg hp]
theorem e_day {s:Shp} (h:s.Ok) {y f:Int} (hy:nb 20 y) (hf:nb 40 f):m_day_cost [.d s.d,.d (.int y),.d (.int f)]=.ret (.d (.int (s.day y f))):=by
  have hd:nb 7 s.depth:=by have:=h.t0; have:=h.d0; have:=h.td; exact nb_of (by show -128 < _; omega) (by show _ < 128; omega)
  have hn:nb 50 (s.nx y f):=by
    unfold Shp.nx maxI
    exact nb_ite (nb_mono (nb_neg hd) (by decide)) (nb_mono (nb_sub hy hf) (by decide))
  have f1:=nb_fit h.keep (by decide)
  have f2:=nb_fit hn (by decide)
  have f3:=nb_fit (nb_neg hn) (by decide)
  have f4:=nb_fit h.lack (by decide)
  have f5:=nb_fit h.lost (by decide)
  have f6:=nb_fit (nb_sub hn (nb_sub hy hf)) (by decide)
  have e:=e_next s y f
  by_cases hp:s.nx y f > 0
  · simp_arith [m_day_cost,e,decide_eq_true hp,f1,f2,f5,f6,Shp.day,if_pos hp]
  · simp_arith [m_day_cost,e,decide_eq_false hp,f3,f4,f5,f6,Shp.day,if_neg hp]
theorem e_ends {s:Shp} (h:s.Ok):m_end_costs [.d s.d]=.ret (.own ((s.row s.fin).map PyData.int)):=by
  have:=h.t0
  have:=h.d0
  have:=h.td
  have hs:small (rngL (-s.depth) (s.top+1)).length=true:=small_le (by rw [rngL_len]; omega)
  have e:mapT (lc2 (gSet 0) q_end_costs_1 (blk 1 [0] [.d s.d])) (rngL (-s.depth) (s.top+1))=.ret ((s.row s.fin).map PyData.int):=by
    refine Eq.trans (mapT_rng (f:=fun x=>.int (s.fin x)) fun z h1 h2=>?_) ?_
    · have e1:=e_end h (x:=z) (nb_of (by show -1048576 < _; omega) (by show _ < 1048576; omega))
      simp_arith [q_end_costs_1,e1]
    · unfold Shp.row Shp.n
      rw [List.map_map]
      rfl
  simp_arith [m_end_costs,e_stocks h,hs] at e ⊢
  simp_arith [e]
end My
set_option Elab.async false
set_option linter.all false
set_option maxRecDepth 100000
namespace My
open PySem PySem.Spec PyProof.Rows L2 Tw
theorem lenI (l:List Int):(l.map PyData.int).length=l.length:=List.length_map ..
theorem e_weighed {s:Shp} (h:s.Ok) {day:List Int} (hd:DayB day) {y:Int} (y1:-s.depth≤y) (y2:y≤s.top) {A:Int→Int} {b:Nat} (hA:Bd s b A) {sc:Int} (hs:nb b sc) (hb:b≤2000) :
    m_weighed [.d s.d,.d (tI day),.d (.int y),.d (lI (s.row A)),.d (.int sc)]=.ret (.d (.int (s.wg day y A sc))):=by
  have:=h.t0
  have:=h.d0
  have:=h.td
  have hy:nb 20 y:=nb_of (by show -1048576 < _; omega) (by show _ < 1048576; omega)
  apply al_eq
  simp_arith [m_weighed,tI,lI]
  refine al_bind (n:=0) (n':=0) (P:=fun o=>∃ J1 J2 J3:Sl,o=.next [.d s.d,.d (.tuple (day.map PyData.int)),.d (.int y),.d (.list ((s.row A).map PyData.int)),.d (.int sc),.d (.int (s.wg day y A sc)),J1,J2,J3]) ?_ (by decide) ?_
  · refine al_forQ (n:=0) (fun pre ρ=>∃ J1 J2 J3:Sl,ρ=[.d s.d,.d (.tuple (day.map PyData.int)),.d (.int y),.d (.list ((s.row A).map PyData.int)),.d (.int sc),.d (.int (s.wg day y A sc - ws (fun f=>sc * s.day y f+A (s.nx y f)) pre.length (day.drop pre.length))),J1,J2,J3]) ⟨.un,.un,.un,?_⟩ (by simp) ?_ ?_
    · have:s.wg day y A sc - ws (fun f=>sc * s.day y f+A (s.nx y f)) 0 day=0:=by unfold Shp.wg; omega
      simp only [List.length_nil,List.drop_zero,this]
    · rintro pre x post ρ e ⟨J1,J2,J3,rfl⟩
      obtain ⟨w,hw,rfl⟩:=enum_mid e
      rw [List.getElem?_map] at hw
      obtain ⟨v,hv,rfl⟩:=Option.map_eq_some_iff.mp hw
      refine ⟨_,rfl,?_⟩
      have hl:pre.length < day.length:=(List.getElem?_eq_some_iff.mp hv).1
      have hlen:=hd.len
      have hf:nb 40 (pre.length:Int):=nb_of (by show -1099511627776 < _; omega) (by show _ < 1099511627776; omega)
      have e1:=e_next s y pre.length
      have e2:=e_day h hy hf
      have n1:=nx_ge s y pre.length
      have n2:=nx_le h y2 (show (0:Int)≤pre.length by omega)
      have e3:=row_atI (f:=A) n1 n2
      have v1:nb 30 v:=hd.nb v (List.mem_of_getElem? hv)
      have b1:=nb_mul hs (day_nb h hy hf)
      have f1:=nb_fit hs (by omega)
      have f2:=nb_fit (day_nb h hy hf) (by decide)
      have f3:=nb_fit v1 (by decide)
      have f4:=nb_fit (nb_add b1 (hA _ n1 n2)) (by omega)
      simp_arith [l_weighed_1,e1,e2,e3,f1,f2,f3,f4]
      have ed:day.drop pre.length=v::day.drop (pre.length+1):=by
        rw [List.drop_eq_getElem_cons hl]
        congr 1
        exact (List.getElem?_eq_some_iff.mp hv).2
      have el:(pre++[PyData.tuple [PyData.int pre.length,PyData.int v]]).length=pre.length+1:=by simp
      have ee:s.wg day y A sc - ws (fun f=>sc * s.day y f+A (s.nx y f)) pre.length (day.drop pre.length)+v * (sc * s.day y pre.length+A (s.nx y pre.length)) =
          s.wg day y A sc - ws (fun f=>sc * s.day y f+A (s.nx y f)) (pre++[PyData.tuple [PyData.int pre.length,PyData.int v]]).length (day.drop (pre++[PyData.tuple [PyData.int pre.length,PyData.int v]]).length):=by
        rw [el,ed,ws]
        omega
      rw [ee]
      exact al_ret ⟨_,rfl,_,_,_,rfl⟩
    · rintro ρ ⟨J1,J2,J3,rfl⟩
      refine ⟨J1,J2,J3,?_⟩
      rw [enumD_len,lenI,List.drop_length,ws,Int.sub_zero]
  · rintro _ ⟨J1,J2,J3,rfl⟩
    simp_arith [List.isEmpty_cons]
    exact al_ret rfl
theorem e_levels {s:Shp} (h:s.Ok) {day:List Int} (hd:DayB day) {A:Int→Int} {b:Nat} (hA:Bd s b A) {sc:Int} (hs:nb b sc) (hb:b≤2000) :
    m_level_sums [.d s.d,.d (tI day),.d (lI (s.row A)),.d (.int sc)]=.ret (.own ((s.row (s.sm day A sc)).map PyData.int)):=by
  have:=h.t0
  have:=h.d0
  have:=h.td
  have f1:=nb_fit hs (by omega)
  have f2:=nb_fit (sum_nbD hd) (by decide)
  have f3:=nb_fit (nb_mul hs (sum_nbD hd)) (by omega)
  have f4:=nb_fit h.piece (by decide)
  have f5:=nb_fit (nb_mul (nb_mul hs (sum_nbD hd)) h.piece) (by omega)
  have es:cb1 sumD [tI day]=.ret (.int day.sum):=ev_sumT day
  have hsm:small (rngL (-s.depth) (s.top+1)).length=true:=small_le (by rw [rngL_len]; omega)
  have e:mapT (lc2 (gSet 0) q_level_sums_1 (blk 1 [0,1,2,3,4] [.d s.d,.d (tI day),.d (lI (s.row A)),.d (.int sc),.d (.int (sc * day.sum))])) (rngL (-s.depth) (s.top+1))=.ret ((s.row (s.sm day A sc)).map PyData.int):=by
    refine Eq.trans (mapT_rng (f:=fun x=>.int (s.sm day A sc x)) fun z h1 h2=>?_) ?_
    · have e1:=e_weighed h hd (y:=z) (by omega) (by omega) hA hs hb
      have hz:nb 20 z:=nb_of (by show -1048576 < _; omega) (by show _ < 1048576; omega)
      have f6:=nb_fit hz (by decide)
      simp_arith [q_level_sums_1,e1,f3,f4,f5,f6]
      rfl
    · unfold Shp.row Shp.n
      rw [List.map_map]
      rfl
  simp_arith [m_level_sums,e_stocks h,hsm,es,f1,f2] at e ⊢
  simp_arith [e]
end My
set_option Elab.async false
set_option linter.all false
set_option maxRecDepth 100000
namespace My
open PySem PySem.Spec PyProof.Rows L2 Tw
theorem at_last {xs:List PyData} {v:PyData} (h:xs[xs.length - 1]?=some v):atI xs (-1)=some v:=by
  have hl:xs≠[]:=fun e=>by subst e; cases h
  have hp:0 < xs.length:=List.length_pos_iff.mpr hl
  obtain ⟨k,hk⟩:=Nat.exists_eq_succ_of_ne_zero (Nat.ne_of_gt hp)
  unfold atI ixN
  have e0:(-1:Int)+(xs.length:Int)=(k:Int):=by rw [hk]; show (-1:Int)+((k:Int)+1)=k; rw [Int.add_comm,Int.add_assoc]; exact Int.add_zero _
  have e:((-1:Int)+(xs.length:Int)).toNat=xs.length - 1:=by rw [e0,hk]; exact Int.toNat_natCast k
  rw [if_neg (by decide),if_pos (by omega)]
  show xs[((-1:Int)+(xs.length:Int)).toNat]?=some v
  rw [e]
  exact h
noncomputable def pairD (g:Int→Int) (top K P x:Int):PyData:=.tuple [.int (cst g top K P x),.int (lvl g top K x)]
theorem rev_down {lo hi:Int} {F:Int→PyData}:((List.range (hi - lo).toNat).map fun (i:Nat)=>F (hi - 1 - i)).reverse=(rangeI lo (hi - lo).toNat).map F:=by
  unfold rangeI
  rw [List.map_map]
  apply List.ext_getElem?
  intro i
  by_cases hi':i < (hi - lo).toNat
  · rw [List.getElem?_reverse (by simpa using hi'),List.length_map,List.length_range,List.getElem?_map,List.getElem?_map,List.getElem?_range (by omega),List.getElem?_range hi']
    show some (F (hi - 1 - (((hi - lo).toNat - 1 - i:Nat):Int)))=some (F (lo+(i:Int)))
    congr 2
    omega
  · rw [List.getElem?_eq_none (by simpa using hi'),List.getElem?_eq_none (by simpa using hi')]
theorem e_cheap_from {s:Shp} (h:s.Ok) {low:Int} (hl:low≤s.top) (hl0:-1000≤low) {g:Int→Int} {b:Nat} (hg:∀ x,low≤x→x≤s.top→nb b (g x)) {sc:Int} (hs:nb b sc) (hK:0≤sc * s.start) (hb:b≤3000) :
    m_cheapest_from [.d s.d,.d (.int low),.d (lI ((rangeI low (s.top+1 - low).toNat).map g)),.d (.int sc)]=.ret (.own ((rangeI low (s.top+1 - low).toNat).map (pairD g s.top (sc * s.start) (sc * s.piece)))):=by
  have:=h.t0
  have:=h.d0
  have:=h.td
  have hn:0 < (s.top+1 - low).toNat:=by omega
  have hlen:(((rangeI low (s.top+1 - low).toNat).map g).map PyData.int).length=(s.top+1 - low).toNat:=by rw [List.length_map,List.length_map,rangeI_length]
  have hat:∀ x,low≤x→x≤s.top→(((rangeI low (s.top+1 - low).toNat).map g).map PyData.int)[(x - low).toNat]?=some (.int (g x)):=fun x h1 h2=>by
    unfold rangeI
    rw [List.map_map,List.map_map,List.getElem?_map,List.getElem?_range (by omega)]
    show some (PyData.int (g (low+((x - low).toNat:Int))))=_
    congr 3
    omega
  have hlast:atI (((rangeI low (s.top+1 - low).toNat).map g).map PyData.int) (-1)=some (.int (g s.top)):=at_last (by
    rw [hlen]
    have:=hat s.top hl (Int.le_refl _)
    have e:(s.top - low).toNat=(s.top+1 - low).toNat - 1:=by
      obtain ⟨k,hk⟩:=Int.eq_ofNat_of_zero_le (Int.sub_nonneg_of_le hl)
      have hk2:s.top+1 - low=((k+1:Nat):Int):=by omega
      rw [hk,hk2]
      rfl
    rw [e] at this
    exact this)
  have r1:inR low=true:=inR_of (by omega) (by omega)
  have r2:inR (s.top+1)=true:=inR_of (by omega) (by omega)
  have f1:=nb_fit hs (by omega)
  have f2:=nb_fit h.start (by decide)
  have f3:=nb_fit h.piece (by decide)
  have f4:=nb_fit (nb_mul hs h.piece) (by omega)
  apply al_eq
  simp_arith [m_cheapest_from,lI,hlast,ev_rg2 r1 r2]
  refine al_bind (n:=0) (n':=0) (P:=fun o=>∃ J5 J6 J7 J8 J9:Sl,o=.next [.d s.d,.d (.int low),.d (.list (((rangeI low (s.top+1 - low).toNat).map g).map PyData.int)),.d (.int sc),.own ((List.range (s.top+1 - low).toNat).map fun (i:Nat)=>pairD g s.top (sc * s.start) (sc * s.piece) (s.top+1 - 1 - i)),J5,J6,J7,J8,J9]) ?_ (by decide) ?_
  · refine al_forQ (n:=0) (fun pre ρ=>∃ J6 J7 J8 J9:Sl,ρ=[.d s.d,.d (.int low),.d (.list (((rangeI low (s.top+1 - low).toNat).map g).map PyData.int)),.d (.int sc),.own ((List.range pre.length).map fun (i:Nat)=>pairD g s.top (sc * s.start) (sc * s.piece) (s.top+1 - 1 - i)),.d (.tuple [.int (bst g s.top (pre.length - 1)).1,.int (bst g s.top (pre.length - 1)).2]),J6,J7,J8,J9]) ⟨.un,.un,.un,.un,rfl⟩ (by simp) ?_ ?_
    · rintro pre x post ρ e ⟨J6,J7,J8,J9,rfl⟩
      obtain ⟨rfl,hpre⟩:=rngR_mid e
      refine ⟨_,rfl,?_⟩
      generalize hk:pre.length=k at hpre ⊢
      have hx1:low≤s.top+1 - 1 - (k:Int):=by omega
      have hx2:s.top+1 - 1 - (k:Int)≤s.top:=by omega
      have ha:atI (((rangeI low (s.top+1 - low).toNat).map g).map PyData.int) (s.top+1 - 1 - (k:Int) - low)=some (.int (g (s.top+1 - 1 - (k:Int)))):=atI_ge (by omega) (hat _ hx1 hx2)
      have hxn:nb 20 (s.top+1 - 1 - (k:Int)):=nb_of (by show -1048576 < _; omega) (by show _ < 1048576; omega)
      have f5:=nb_fit hxn (by decide)
      have hsm:small (((List.range k).map fun (i:Nat)=>pairD g s.top (sc * s.start) (sc * s.piece) (s.top+1 - 1 - i)).length+1)=true:=small_le (by rw [List.length_map,List.length_range]; omega)
      have el:(pre++[PyData.int (s.top+1 - 1 - (k:Int))]).length=k+1:=by rw [List.length_append,hk]; rfl
      have m1:cb1 min2T [.tuple [.int (g (s.top+1 - 1 - (k:Int))),.int (s.top+1 - 1 - (k:Int))],.tuple [.int (sc * s.start+(bst g s.top (k - 1)).1),.int (bst g s.top (k - 1)).2]]=.ret (.tuple [.int (pck g s.top (sc * s.start) (s.top+1 - 1 - (k:Int))).1,.int (pck g s.top (sc * s.start) (s.top+1 - 1 - (k:Int))).2]):=by
        rw [ev_min2T]
        cases k with
        | zero =>
          have ex:s.top+1 - 1 - ((0:Nat):Int)=s.top:=by simp
          rw [ex,pck_top,if_neg]
          show ¬ (sc * s.start+g s.top < g s.top∨sc * s.start+g s.top=g s.top∧s.top < s.top)
          omega
        | succ n =>
          have ex:s.top+1 - 1 - ((n+1:Nat):Int)=s.top - ((n+1:Nat):Int):=by omega
          rw [ex,pck_at,Nat.add_sub_cancel]
          have hb:=(bst_lvl g s.top n).1
          by_cases hc:sc * s.start+(bst g s.top n).1 < g (s.top - ((n+1:Nat):Int))
          · rw [if_pos (.inl hc),if_pos hc]
          · rw [if_neg (by omega),if_neg hc]
      have m2:cb1 min2T [.tuple [.int (g (s.top+1 - 1 - (k:Int))),.int (s.top+1 - 1 - (k:Int))],.tuple [.int (bst g s.top (k - 1)).1,.int (bst g s.top (k - 1)).2]]=.ret (.tuple [.int (bst g s.top k).1,.int (bst g s.top k).2]):=by
        rw [ev_min2T]
        cases k with
        | zero =>
          have ex:s.top+1 - 1 - ((0:Nat):Int)=s.top:=by simp
          rw [ex,if_neg]
          · rfl
          · show ¬ (g s.top < g s.top∨g s.top=g s.top∧s.top < s.top)
            omega
        | succ n =>
          have ex:s.top+1 - 1 - ((n+1:Nat):Int)=s.top - ((n+1:Nat):Int):=by omega
          rw [ex,Nat.add_sub_cancel]
          have hb:=(bst_lvl g s.top n).1
          rw [bst]
          by_cases hc:(bst g s.top n).1 < g (s.top - ((n+1:Nat):Int))
          · rw [if_pos (.inl hc),if_pos hc]
          · rw [if_neg (by omega),if_neg hc]
      simp_arith [l_cheapest_from_1,ha,m1,m2,f1,f2,f3,f4,f5,hsm]
      rw [el,List.range_succ,List.map_append]
      exact al_ret ⟨_,rfl,_,_,_,_,rfl⟩
    · rintro ρ ⟨J6,J7,J8,J9,rfl⟩
      rw [List.length_reverse,rngL_len]
      exact ⟨_,J6,J7,J8,J9,rfl⟩
  · rintro _ ⟨J5,J6,J7,J8,J9,rfl⟩
    simp_arith [List.isEmpty_cons]
    rw [rev_down]
    exact al_ret rfl
theorem e_cheap {s:Shp} (h:s.Ok) {g:Int→Int} {b:Nat} (hg:Bd s b g) {sc:Int} (hs:nb b sc) (h0:0≤sc) (hb:b≤3000) :
    m_cheapest [.d s.d,.d (lI (s.row g)),.d (.int sc)]=.ret (.own ((rangeI (-s.depth) s.n).map (pairD g s.top (sc * s.start) (sc * s.piece)))):=by
  have:=h.t0
  have:=h.d0
  have:=h.td
  have e:=e_cheap_from h (low:=-s.depth) (by omega) (by omega) (fun x h1 h2=>hg x h1 h2) hs (Int.mul_nonneg h0 h.start0) hb
  simp_arith [m_cheapest]
  unfold Shp.row Shp.n
  rw [e]
  simp_arith [List.isEmpty_cons]
theorem costs_of {g:Int→Int} {top K P:Int}:∀ l:List Int,mapT (lc2 (gTupD (gsCons (gSet 0) (gsCons (gSet 1) gsNil))) q_day_sums_1 [.un,.un]) (l.map (pairD g top K P))=.ret ((l.map (cst g top K P)).map PyData.int)
  | []=>rfl
  | x::l=>by
    have ih:=costs_of (g:=g) (top:=top) (K:=K) (P:=P) l
    have e0:lc2 (gTupD (gsCons (gSet 0) (gsCons (gSet 1) gsNil))) q_day_sums_1 [.un,.un] (pairD g top K P x)=.ret (.int (cst g top K P x)):=by
      simp_arith [q_day_sums_1,pairD]
    rw [List.map_cons,mapT,e0,Tr.ret_bind,ih]
    rfl
theorem e_day_sums {s:Shp} (h:s.Ok) {fs:List (List Int)} (hf:∀ l∈fs,DayB l) (hl:fs.length≤6) {t:Nat} {day:List Int} (ht:fs[t]?=some day) :
    m_day_sums [.d s.d,.d (fD fs),.d (.int t)]=.ret (.d (.tuple [lI (s.row (s.sms day (fs.drop (t+1)))),.int ((s.bk (fs.drop (t+1))).2 * day.sum)])):=by
  have hsub:∀ k,∀ l∈(fs.drop (t+1)).drop k,DayB l:=fun k l hl=>hf l (List.mem_of_mem_drop (List.mem_of_mem_drop hl))
  have hlen:(fs.drop (t+1)).length≤6:=by rw [List.length_drop]; omega
  have hd:DayB day:=hf day (List.mem_of_getElem? ht)
  have hat:atI (fs.map tI) (t:Int)=some (tI day):=atI_ge (by omega) (by
    rw [List.getElem?_map,Int.toNat_natCast,ht]; rfl)
  have es:∀ l:List Int,cb1 sumD [tI l]=.ret (.int l.sum):=fun l=>ev_sumT l
  have hR:∀ k,(fs.drop (t+1)).length≤6→Bd s 1900 (s.bk ((fs.drop (t+1)).drop k)).1∧nb 1900 (s.bk ((fs.drop (t+1)).drop k)).2:=fun k hk=>by
    obtain ⟨h1,h2⟩:=bk_nb h (hsub k)
    have:((fs.drop (t+1)).drop k).length≤6:=by rw [List.length_drop]; omega
    exact ⟨fun x a b=>nb_mono (h1 x a b) (by omega),nb_mono h2 (by omega)⟩
  have hsc:∀ k,0 < (s.bk ((fs.drop (t+1)).drop k)).2:=fun k=>bk_sc (hsub k)
  apply al_eq
  simp_arith [m_day_sums,fD,e_ends h,cut_tail]
  generalize fs.drop (t+1)=R at *
  have hR':=fun k=>hR k hlen
  refine al_bind (n:=0) (n':=0) (P:=fun o=>∃ J5 J6:Sl,o=.next [.d s.d,.d (.tuple (fs.map tI)),.d (.int t),.d (lI (s.row (s.bk R).1)),.d (.int (s.bk R).2),J5,J6]) ?_ (by decide) ?_
  · refine al_forQ (n:=0) (fun pre ρ=>∃ J5 J6:Sl,ρ=[.d s.d,.d (.tuple (fs.map tI)),.d (.int t),.d (lI (s.row (s.bk (R.drop (R.length - pre.length))).1)),.d (.int (s.bk (R.drop (R.length - pre.length))).2),J5,J6]) ⟨.un,.un,?_⟩ (by simp) ?_ ?_
    · rw [List.length_nil,Nat.sub_zero,List.drop_length]
      rfl
    · rintro pre x post ρ e ⟨J5,J6,rfl⟩
      obtain ⟨d,rfl,hpl,hdr⟩:=revT_mid e
      refine ⟨_,rfl,?_⟩
      have hdd:DayB d:=hsub (R.length - (pre.length+1)) d (by rw [hdr]; simp)
      obtain ⟨k1,k2⟩:=hR' (R.length - pre.length)
      have k3:=hsc (R.length - pre.length)
      have e1:=e_levels h hdd k1 k2 (by decide)
      have b1:=sm_nb h hdd k1 k2
      have b2:=nb_mul k2 (sum_nbD hdd)
      have f1:=nb_fit k2 (by decide)
      have f2:=nb_fit (sum_nbD hdd) (by decide)
      have e2:=e_cheap h (b:=1900+151) b1 (nb_mono b2 (by decide)) (Int.le_of_lt (Int.mul_pos k3 hdd.pos)) (by decide)
      have hsm:small ((rangeI (-s.depth) s.n).map (pairD (s.sm d (s.bk (R.drop (R.length - pre.length))).1 (s.bk (R.drop (R.length - pre.length))).2) s.top ((s.bk (R.drop (R.length - pre.length))).2 * d.sum * s.start) ((s.bk (R.drop (R.length - pre.length))).2 * d.sum * s.piece))).length=true:=small_le (by
        rw [List.length_map,rangeI_length]
        have:=h.n_eq; have:=h.td; omega)
      unfold lI at e1 e2
      simp_arith [l_day_sums_1,lI,e1,es,f1,f2,e2,hsm,costs_of]
      have el:(pre++[tI d]).length=pre.length+1:=by simp
      rw [el,hdr]
      exact al_ret ⟨_,rfl,_,_,rfl⟩
    · rintro ρ ⟨J5,J6,rfl⟩
      refine ⟨J5,J6,?_⟩
      rw [List.length_reverse,List.length_map,Nat.sub_self,List.drop_zero]
  · rintro _ ⟨J5,J6,rfl⟩
    obtain ⟨k1,k2⟩:=hR' 0
    rw [List.drop_zero] at k1 k2
    have e1:=e_levels h hd k1 k2 (by decide)
    have f1:=nb_fit k2 (by decide)
    have f2:=nb_fit (sum_nbD hd) (by decide)
    simp_arith [hat,e1,es,f1,f2]
    exact al_ret rfl
end My
set_option Elab.async false
set_option linter.all false
set_option maxRecDepth 100000
namespace My
open PySem PySem.Spec PyProof.Rows L2 Tw
theorem sl_c5 (s:Shp):sl3 s.d none (some 5)=.ret (.tuple [.int s.top,.int s.depth,.int s.start,.int s.piece,.int s.keep]):=by unfold Shp.d; rfl
theorem sl_r5 (s:Shp):sl3 s.d (some 5) none=.ret (.tuple [.int s.lack,.int s.lost,.int s.back,.int s.late]):=by unfold Shp.d; rfl
theorem row_tail {s:Shp} {g:Int→Int} {x:Int} (h1:-s.depth≤x) (h2:x≤s.top):L2.cutD ((s.row g).map PyData.int) (some (x+s.depth+1)) none=((rangeI (x+1) (s.top - x).toNat).map g).map PyData.int:=by
  unfold L2.cutD
  have e1:HT.sIx ((s.row g).map PyData.int).length 0 (some (x+s.depth+1))=(x+s.depth+1).toNat:=by
    unfold HT.sIx
    rw [List.length_map,row_len]
    unfold Shp.n
    simp only
    split <;> omega
  have e2:HT.sIx ((s.row g).map PyData.int).length ((s.row g).map PyData.int).length none=s.n:=by
    unfold HT.sIx
    rw [List.length_map,row_len]
  rw [e1,e2]
  unfold Shp.row rangeI
  rw [List.map_map,List.map_map,List.map_map,List.map_map]
  apply List.ext_getElem?
  intro i
  by_cases hi:i < (s.top - x).toNat
  · rw [List.getElem?_take_of_lt (by unfold Shp.n; omega),List.getElem?_drop,List.getElem?_map,List.getElem?_map,List.getElem?_range (by unfold Shp.n; omega),List.getElem?_range hi]
    show some (PyData.int (g (-s.depth+(((x+s.depth+1).toNat+i:Nat):Int))))=some (PyData.int (g (x+1+(i:Int))))
    congr 3
    omega
  · rw [List.getElem?_eq_none (by rw [List.length_take,List.length_drop,List.length_map,List.length_range]; unfold Shp.n; omega),List.getElem?_eq_none (by rw [List.length_map,List.length_range]; omega)]
theorem min_is {g:Int→Int} {top K x:Int} (hx:x≤top):minL (g x::(rangeI (x+1) (top - x).toNat).map fun y=>K+g y)=(pck g top K x).1:=by
  obtain ⟨m1,m2⟩:=minL_spec (ns:=g x::(rangeI (x+1) (top - x).toNat).map fun y=>K+g y) (by simp)
  obtain ⟨p1,p2⟩:=pck_le (g:=g) (K:=K) hx
  obtain ⟨q1,q2,q3⟩:=pck_is (g:=g) (K:=K) hx
  apply Int.le_antisymm
  · rcases q3 with ⟨e1,e2⟩ | ⟨e1,e2,e3⟩
    · rw [e2]
      exact m2 _ (by simp)
    · rw [e2]
      refine m2 _ (List.mem_cons_of_mem _ (List.mem_map.mpr ⟨_,?_,rfl⟩))
      unfold rangeI
      exact List.mem_map.mpr ⟨((pck g top K x).2 - (x+1)).toNat,List.mem_range.mpr (by omega),by omega⟩
  · rcases List.mem_cons.mp m1 with e | e
    · rw [e]; exact p1
    · obtain ⟨y,hy,e⟩:=List.mem_map.mp e
      have:=rangeI_mem hy
      rw [← e]
      exact p2 y (by omega) (by omega)
theorem e_law_costs {s:Shp} (h:s.Ok) {g:Int→Int} {b:Nat} (hg:Bd s b g) {sc:Int} (hs:nb b sc) (hb:b≤3000) :
    m_law_costs [.d (lI (s.row g)),.d (.int sc),.d s.d]=.ret (.own ((s.row (cst g s.top (sc * s.start) (sc * s.piece))).map PyData.int)):=by
  have:=h.t0
  have:=h.d0
  have:=h.td
  have hn:=h.n_eq
  have f1:=nb_fit hs (by omega)
  have f2:=nb_fit h.start (by decide)
  have f3:=nb_fit h.piece (by decide)
  have r1:rng1 [.int (((s.row g).map PyData.int).length:Int)]=.ret (rngL 0 s.n):=by
    rw [List.length_map,row_len]
    exact ev_rg1 (inR_of (by omega) (by omega))
  apply al_eq
  simp_arith only [m_law_costs,lI,r1]
  refine al_bind (n:=0) (n':=0) (P:=fun o=>∃ J4 J5:Sl,o=.next [.d (.list ((s.row g).map PyData.int)),.d (.int sc),.d s.d,.own ((s.row (cst g s.top (sc * s.start) (sc * s.piece))).map PyData.int),J4,J5]) ?_ (by decide) ?_
  · refine al_forQ (n:=0) (fun pre ρ=>∃ J4 J5:Sl,ρ=[.d (.list ((s.row g).map PyData.int)),.d (.int sc),.d s.d,.own (((s.row (cst g s.top (sc * s.start) (sc * s.piece))).map PyData.int).take pre.length),J4,J5]) ⟨.un,.un,?_⟩ (by simp) ?_ ?_
    · simp
    · rintro pre x post ρ e ⟨J4,J5,rfl⟩
      obtain ⟨rfl,hpre⟩:=rngL_mid e
      refine ⟨_,rfl,?_⟩
      generalize hk:pre.length=k at hpre ⊢
      obtain ⟨x,hx⟩:∃ x:Int,x=(k:Int) - s.depth:=⟨_,rfl⟩
      have hx0:(0:Int)+(k:Int)=x+s.depth:=by omega
      have x1:-s.depth≤x:=by omega
      have x2:x≤s.top:=by omega
      have hxn:nb 20 x:=nb_of (by show -1048576 < _; omega) (by show _ < 1048576; omega)
      have ha:=row_atI (f:=g) x1 x2
      have hs1:small (((rangeI (x+1) (s.top - x).toNat).map g).map PyData.int).length=true:=small_le (by rw [List.length_map,List.length_map,rangeI_length]; omega)
      have em:mapT (lc2 (gSet 0) q_law_costs_1 [.un,.d (.int sc),.d s.d]) (((rangeI (x+1) (s.top - x).toNat).map g).map PyData.int)=.ret (((rangeI (x+1) (s.top - x).toNat).map fun y=>sc * s.start+g y).map PyData.int):=by
        have key:∀ l:List Int,mapT (lc2 (gSet 0) q_law_costs_1 [.un,.d (.int sc),.d s.d]) ((l.map g).map PyData.int)=.ret ((l.map fun y=>sc * s.start+g y).map PyData.int):=by
          intro l
          induction l with
          | nil=>rfl
          | cons z l ih =>
            have e0:lc2 (gSet 0) q_law_costs_1 [.un,.d (.int sc),.d s.d] (.int (g z))=.ret (.int (sc * s.start+g z)):=by
              simp_arith only [q_law_costs_1,f1,f2]
              rw [Int.mul_comm]
            rw [List.map_cons,List.map_cons,mapT,e0,Tr.ret_bind,ih]
            rfl
        exact key _
      have hs2:small ([PyData.int (g x)].length+(((rangeI (x+1) (s.top - x).toNat).map fun y=>sc * s.start+g y).map PyData.int).length)=true:=small_le (by rw [List.length_map,List.length_map,rangeI_length]; show 1+_≤_; omega)
      have ea:bin2 addD (.list [.int (g x)]) (.list (((rangeI (x+1) (s.top - x).toNat).map fun y=>sc * s.start+g y).map PyData.int))=.ret (.list (.int (g x)::((rangeI (x+1) (s.top - x).toNat).map fun y=>sc * s.start+g y).map PyData.int)):=ev_addL hs2
      have emin:cb1 min1D [.list (.int (g x)::((rangeI (x+1) (s.top - x).toNat).map fun y=>sc * s.start+g y).map PyData.int)]=.ret (.int (pck g s.top (sc * s.start) x).1):=by
        rw [← min_is x2]
        exact min1_cons _ _
      have f4:=nb_fit (nb_sub (nb_add hxn (show nb 20 s.depth from nb_of (by show -1048576 < _; omega) (by show _ < 1048576; omega))) (show nb 20 s.depth from nb_of (by show -1048576 < _; omega) (by show _ < 1048576; omega))) (by decide)
      have f5:=nb_fit (nb_mul h.piece (nb_sub (nb_add hxn (show nb 20 s.depth from nb_of (by show -1048576 < _; omega) (by show _ < 1048576; omega))) (show nb 20 s.depth from nb_of (by show -1048576 < _; omega) (by show _ < 1048576; omega)))) (by decide)
      have hsm:small ((((s.row (cst g s.top (sc * s.start) (sc * s.piece))).map PyData.int).take k).length+1)=true:=small_le (by rw [List.length_take,List.length_map,row_len]; omega)
      rw [hx0]
      simp_arith only [l_law_costs_1,ha,row_tail x1 x2,hs1,em,f1,f2,f3,f4,f5,hsm]
      simp_arith only [ea,emin,f1,f2,f3,f4,f5,hsm]
      have ev:(pck g s.top (sc * s.start) x).1 - s.piece * (x+s.depth - s.depth) * sc=cst g s.top (sc * s.start) (sc * s.piece) x:=by
        unfold cst
        have e1:x+s.depth - s.depth=x:=by omega
        have e2:s.piece * x * sc=sc * s.piece * x:=by grind
        rw [e1,e2]
      have el:∀ y:PyData,(pre++[y]).length=k+1:=fun y=>by rw [List.length_append,hk]; rfl
      have et:((s.row (cst g s.top (sc * s.start) (sc * s.piece))).map PyData.int).take (k+1)=((s.row (cst g s.top (sc * s.start) (sc * s.piece))).map PyData.int).take k++[PyData.int (cst g s.top (sc * s.start) (sc * s.piece) x)]:=by
        have hr:=row_at (f:=cst g s.top (sc * s.start) (sc * s.piece)) x1 x2
        have ek:(x+s.depth).toNat=k:=by omega
        rw [ek] at hr
        have hr2:((s.row (cst g s.top (sc * s.start) (sc * s.piece))).map PyData.int)[k]?=some (.int (cst g s.top (sc * s.start) (sc * s.piece) x)):=by rw [List.getElem?_map,hr]; rfl
        rw [List.take_add_one,hr2]
        rfl
      rw [ev,el,et]
      exact al_ret ⟨_,rfl,_,_,rfl⟩
    · rintro ρ ⟨J4,J5,rfl⟩
      refine ⟨J4,J5,?_⟩
      rw [rngL_len,List.take_of_length_le (by rw [List.length_map,row_len]; omega)]
  · rintro _ ⟨J4,J5,rfl⟩
    simp_arith only [List.isEmpty_cons]
    exact al_ret rfl
end My
set_option Elab.async false
set_option linter.all false
set_option maxRecDepth 100000
namespace My
open PySem PySem.Spec PyProof.Rows L2 Tw
noncomputable def isL (J:Sl) (xs:List PyData):Prop:=J=.own xs∨J=.d (.list xs)
noncomputable abbrev lsE (s:Shp) (F:PyData) (a b c d e f g h i j k l m:Sl):List Sl:=[.d s.d,.d F,.d (.int s.top),.d (.int s.depth),.d (.int s.start),.d (.int s.piece),.d (.int s.keep),.d (.int s.lack),.d (.int s.lost),.d (.int s.back),.d (.int s.late),a,b,c,d,e,f,g,h,i,j,k,l,m]
theorem day_law (s:Shp) (y f:Int):s.keep * maxI (s.nx y f) 0+s.lack * maxI (0 - s.nx y f) 0+s.lost * (s.nx y f - y+f)=s.day y f:=by
  unfold Shp.day
  have e:s.nx y f - y+f=s.nx y f - (y - f):=by omega
  rw [e]
  generalize s.nx y f=z
  unfold maxI
  by_cases hz:z > 0
  · rw [if_neg (by omega),if_pos (by omega),if_pos hz,Int.mul_zero,Int.add_zero]
  · rw [if_neg hz]
    by_cases h0:z=0
    · subst h0; simp
    · rw [if_pos (by omega),if_neg (by omega),Int.mul_zero,Int.zero_add]
      have e2:0 - z=-z:=by omega
      rw [e2]
theorem fin_law (s:Shp) (x:Int):s.late * maxI (0 - x) 0 - s.back * maxI x 0=s.fin x:=by
  unfold Shp.fin maxI
  by_cases hx:x > 0
  · rw [if_pos (by omega),if_neg (by omega),if_pos hx,Int.mul_zero,Int.neg_mul]
    omega
  · rw [if_neg hx]
    by_cases h0:x=0
    · subst h0; simp
    · rw [if_neg (by omega),if_pos (by omega),Int.mul_zero,Int.sub_zero]
      have e2:0 - x=-x:=by omega
      rw [e2]
theorem ls2 {s:Shp} (h:s.Ok) {F:PyData} {y:Int} (y1:-s.depth≤y) (y2:y≤s.top) {A:Int→Int} {b:Nat} (hA:Bd s b A) {sc:Int} (hs:nb b sc) (hb:b≤2000) {f w tot:Int} (f0:0≤f) (f1:f≤16) (hw:nb 30 w) {J11:Sl} (hJ:isL J11 ((s.row A).map PyData.int)) (J12 J14 J15 J16 J21 J22 J23:Sl) :
    ∃ J J' J'':Sl,l_law_sums_2 (lsE s F J11 J12 (.d (.int sc)) J14 J15 J16 (.d (.int y)) (.d (.int tot)) (.d (.int f)) (.d (.int w)) J21 J22 J23) =
      .ret (.next (lsE s F (.d (.list ((s.row A).map PyData.int))) J12 (.d (.int sc)) J14 J15 J16 (.d (.int y)) (.d (.int (tot+w * (sc * s.day y f+A (s.nx y f))))) (.d (.int f)) (.d (.int w)) J J' J'')):=by
  have:=h.t0
  have:=h.d0
  have:=h.td
  have hy:nb 20 y:=nb_of (by show -1048576 < _; omega) (by show _ < 1048576; omega)
  have hf:nb 40 f:=nb_of (by show -1099511627776 < _; omega) (by show _ < 1099511627776; omega)
  have n1:=nx_ge s y f
  have n2:=nx_le h y2 f0
  have hn:nb 20 (s.nx y f):=nb_of (by show -1048576 < _; omega) (by show _ < 1048576; omega)
  have en:maxI (y - f) (0 - s.depth)=s.nx y f:=by
    unfold Shp.nx
    have e:0 - s.depth=-s.depth:=by omega
    rw [e]
  have hm:∀ z:Int,nb 20 z→nb 20 (maxI z 0):=fun z hz=>by
    unfold maxI
    exact nb_ite (nb_of (by decide) (by decide)) hz
  have g1:=nb_fit h.keep (by decide)
  have g2:=nb_fit (hm _ hn) (by decide)
  have g3:=nb_fit h.lack (by decide)
  have hn2:nb 20 (0 - s.nx y f):=nb_of (by show -1048576 < _; omega) (by show _ < 1048576; omega)
  have g4:=nb_fit (hm _ hn2) (by decide)
  have g5:=nb_fit h.lost (by decide)
  have hn3:nb 20 (s.nx y f - y+f):=nb_of (by show -1048576 < _; omega) (by show _ < 1048576; omega)
  have g6:=nb_fit hn3 (by decide)
  have g7:=nb_fit hs (by omega)
  have g8:=nb_fit (day_nb h hy hf) (by decide)
  have g9:=nb_fit hw (by decide)
  have ga:=nb_fit (nb_add (nb_mul (day_nb h hy hf) hs) (hA _ n1 n2)) (by omega)
  have e3:=row_atI (f:=A) n1 n2
  have ed:=day_law s y f
  have ec:s.day y f * sc=sc * s.day y f:=Int.mul_comm _ _
  refine ⟨.d (.int (s.nx y f)),.d (.int (s.day y f)),.d (.int (A (s.nx y f))),?_⟩
  rcases hJ with rfl | rfl
  · simp_arith [l_law_sums_2,lsE,en,g1,g2,g3,g4,g5,g6,ed,g7,g8,e3,g9,ga]
    rw [ec]
  · simp_arith [l_law_sums_2,lsE,en,g1,g2,g3,g4,g5,g6,ed,g7,g8,e3,g9,ga]
    rw [ec]
theorem ls3 {s:Shp} (h:s.Ok) {F:PyData} {day:List Int} (hd:DayB day) {y:Int} (y1:-s.depth≤y) (y2:y≤s.top) {A:Int→Int} {b:Nat} (hA:Bd s b A) {sc:Int} (hs:nb b sc) (hb:b≤2000) {J11:Sl} (hJ:isL J11 ((s.row A).map PyData.int)) {row:List PyData} (hr:row.length≤1000) (J12 J14 J18 J19 J20 J21 J22 J23:Sl) :
    Al (l_law_sums_3 (lsE s F J11 J12 (.d (.int sc)) J14 (.d (tI day)) (.own row) (.d (.int y)) J18 J19 J20 J21 J22 J23)) 0 fun o=>∃ K11 K18 K19 K20 K21 K22 K23:Sl,isL K11 ((s.row A).map PyData.int) ∧
      o=.next (lsE s F K11 J12 (.d (.int sc)) J14 (.d (tI day)) (.own (row++[.int (s.sm day A sc y)])) (.d (.int y)) K18 K19 K20 K21 K22 K23):=by
  have:=h.t0
  have:=h.d0
  have:=h.td
  have hy:nb 20 y:=nb_of (by show -1048576 < _; omega) (by show _ < 1048576; omega)
  have es:cb1 sumD [tI day]=.ret (.int day.sum):=ev_sumT day
  have g1:=nb_fit h.piece (by decide)
  have g2:=nb_fit hy (by decide)
  have g3:=nb_fit (nb_mul h.piece hy) (by decide)
  have g4:=nb_fit (sum_nbD hd) (by decide)
  have g5:=nb_fit (nb_mul (nb_mul h.piece hy) (sum_nbD hd)) (by decide)
  have g6:=nb_fit hs (by omega)
  have hsm:small (row.length+1)=true:=small_le (by omega)
  have ep:s.piece * y * day.sum * sc=sc * day.sum * s.piece * y:=by grind
  have eit:it1 (tI day)=.ret (day.map PyData.int):=rfl
  simp_arith [l_law_sums_3,lsE,es,g1,g2,g3,g4,g5,g6,ep,eit]
  refine al_bind (n:=0) (n':=0) (P:=fun o=>∃ K11 K19 K20 K21 K22 K23:Sl,isL K11 ((s.row A).map PyData.int)∧o=.next (lsE s F K11 J12 (.d (.int sc)) J14 (.d (tI day)) (.own row) (.d (.int y)) (.d (.int (s.sm day A sc y))) K19 K20 K21 K22 K23)) ?_ (by decide) ?_
  · refine al_forQ (n:=0) (fun pre ρ=>∃ K11 K19 K20 K21 K22 K23:Sl,isL K11 ((s.row A).map PyData.int)∧ρ=lsE s F K11 J12 (.d (.int sc)) J14 (.d (tI day)) (.own row) (.d (.int y)) (.d (.int (s.sm day A sc y - ws (fun f=>sc * s.day y f+A (s.nx y f)) pre.length (day.drop pre.length)))) K19 K20 K21 K22 K23) ⟨J11,J19,J20,J21,J22,J23,hJ,?_⟩ (by simp) ?_ ?_
    · have:s.sm day A sc y - ws (fun f=>sc * s.day y f+A (s.nx y f)) 0 day=sc * day.sum * s.piece * y:=by unfold Shp.sm Shp.wg; omega
      simp only [List.length_nil,List.drop_zero,this]
    · rintro pre x post ρ e ⟨K11,K19,K20,K21,K22,K23,hK,rfl⟩
      obtain ⟨w,hw,rfl⟩:=enum_mid e
      rw [List.getElem?_map] at hw
      obtain ⟨v,hv,rfl⟩:=Option.map_eq_some_iff.mp hw
      refine ⟨_,rfl,?_⟩
      have hl:pre.length < day.length:=(List.getElem?_eq_some_iff.mp hv).1
      have hlen:=hd.len
      obtain ⟨L1,L2,L3,e2⟩:=ls2 h (F:=F) (f:=pre.length) (w:=v) (tot:=s.sm day A sc y - ws (fun f=>sc * s.day y f+A (s.nx y f)) pre.length (day.drop pre.length)) y1 y2 hA hs hb (by omega) (by omega) (hd.nb v (List.mem_of_getElem? hv)) hK J12 J14 (.d (tI day)) (.own row) K21 K22 K23
      have ed:day.drop pre.length=v::day.drop (pre.length+1):=by
        rw [List.drop_eq_getElem_cons hl]
        congr 1
        exact (List.getElem?_eq_some_iff.mp hv).2
      have el:(pre++[PyData.tuple [PyData.int pre.length,PyData.int v]]).length=pre.length+1:=by simp
      refine al_of e2 ⟨_,rfl,.d (.list ((s.row A).map PyData.int)),.d (.int pre.length),.d (.int v),L1,L2,L3,.inr rfl,?_⟩
      have ee:s.sm day A sc y - ws (fun f=>sc * s.day y f+A (s.nx y f)) pre.length (day.drop pre.length)+v * (sc * s.day y pre.length+A (s.nx y pre.length)) =
          s.sm day A sc y - ws (fun f=>sc * s.day y f+A (s.nx y f)) (pre.length+1) (day.drop (pre.length+1)):=by
        rw [ed,ws]
        omega
      rw [ee,el]
    · rintro ρ ⟨K11,K19,K20,K21,K22,K23,hK,rfl⟩
      refine ⟨K11,K19,K20,K21,K22,K23,hK,?_⟩
      rw [enumD_len,lenI,List.drop_length,ws,Int.sub_zero]
  · rintro _ ⟨K11,K19,K20,K21,K22,K23,hK,rfl⟩
    simp_arith [lsE,hsm]
    exact al_ret ⟨K11,_,K19,K20,K21,K22,K23,hK,rfl⟩
theorem ls4 {s:Shp} (h:s.Ok) {F:PyData} {day:List Int} (hd:DayB day) {A:Int→Int} {b:Nat} (hA:Bd s b A) {sc:Int} (hs:nb b sc) (hb:b≤2000) {J11:Sl} (hJ:isL J11 ((s.row A).map PyData.int)) {found:List PyData} (hr:found.length≤900) (J12 J16 J17 J18 J19 J20 J21 J22 J23:Sl) :
    Al (l_law_sums_4 (lsE s F J11 J12 (.d (.int sc)) (.own found) (.d (tI day)) J16 J17 J18 J19 J20 J21 J22 J23)) 0 fun o=>∃ K12 K16 K17 K18 K19 K20 K21 K22 K23:Sl,
      o=.next (lsE s F (.own ((s.row (cst (s.sm day A sc) s.top (sc * day.sum * s.start) (sc * day.sum * s.piece))).map PyData.int)) K12 (.d (.int (sc * day.sum))) (.own (.tuple [lI (s.row (s.sm day A sc)),.int (sc * day.sum)]::found)) (.d (tI day)) K16 K17 K18 K19 K20 K21 K22 K23):=by
  have:=h.t0
  have:=h.d0
  have:=h.td
  have es:cb1 sumD [tI day]=.ret (.int day.sum):=ev_sumT day
  have g4:=nb_fit (sum_nbD hd) (by decide)
  have g6:=nb_fit hs (by omega)
  have r1:rng2 [.int (0 - s.depth),.int (s.top+1)]=.ret (rngL (0 - s.depth) (s.top+1)):=ev_rg2 (inR_of (by omega) (by omega)) (inR_of (by omega) (by omega))
  have b1:=sm_nb h hd hA hs
  have b2:=nb_mul hs (sum_nbD hd)
  have ec:=e_law_costs h (b:=b+151) b1 (nb_mono b2 (by omega)) (by omega)
  unfold lI at ec
  have hfl:found.length≤1000:=by omega
  simp_arith only [l_law_sums_4,lsE,r1]
  refine al_bind (n:=0) (n':=0) (P:=fun o=>∃ K11 K17 K18 K19 K20 K21 K22 K23:Sl,isL K11 ((s.row A).map PyData.int)∧o=.next (lsE s F K11 J12 (.d (.int sc)) (.own found) (.d (tI day)) (.own ((s.row (s.sm day A sc)).map PyData.int)) K17 K18 K19 K20 K21 K22 K23)) ?_ (by decide) ?_
  · refine al_forQ (n:=0) (fun pre ρ=>∃ K11 K17 K18 K19 K20 K21 K22 K23:Sl,isL K11 ((s.row A).map PyData.int)∧ρ=lsE s F K11 J12 (.d (.int sc)) (.own found) (.d (tI day)) (.own (((s.row (s.sm day A sc)).map PyData.int).take pre.length)) K17 K18 K19 K20 K21 K22 K23) ⟨J11,J17,J18,J19,J20,J21,J22,J23,hJ,?_⟩ (by simp) ?_ ?_
    · simp
    · rintro pre x post ρ e ⟨K11,K17,K18,K19,K20,K21,K22,K23,hK,rfl⟩
      obtain ⟨rfl,hpre⟩:=rngL_mid e
      refine ⟨_,rfl,?_⟩
      have x1:-s.depth≤0 - s.depth+(pre.length:Int):=by omega
      have x2:0 - s.depth+(pre.length:Int)≤s.top:=by omega
      refine al_mono (ls3 h hd x1 x2 hA hs hb hK (by rw [List.length_take,List.length_map,row_len]; have:=h.n_eq; omega) J12 (.own found) K18 K19 K20 K21 K22 K23) (Nat.le_refl _) ?_
      rintro o ⟨M11,M18,M19,M20,M21,M22,M23,hM,rfl⟩
      refine ⟨_,rfl,M11,.d (.int (0 - s.depth+(pre.length:Int))),M18,M19,M20,M21,M22,M23,hM,?_⟩
      have el:∀ y:PyData,(pre++[y]).length=pre.length+1:=fun y=>by simp
      have hr:=row_at (f:=s.sm day A sc) x1 x2
      have ek:(0 - s.depth+(pre.length:Int)+s.depth).toNat=pre.length:=by omega
      rw [ek] at hr
      have hr2:((s.row (s.sm day A sc)).map PyData.int)[pre.length]?=some (.int (s.sm day A sc (0 - s.depth+(pre.length:Int)))):=by rw [List.getElem?_map,hr]; rfl
      rw [el,List.take_add_one,hr2]
      rfl
    · rintro ρ ⟨K11,K17,K18,K19,K20,K21,K22,K23,hK,rfl⟩
      refine ⟨K11,K17,K18,K19,K20,K21,K22,K23,hK,?_⟩
      rw [rngL_len,List.take_of_length_le (by rw [List.length_map,row_len]; unfold Shp.n; omega)]
  · rintro _ ⟨K11,K17,K18,K19,K20,K21,K22,K23,hK,rfl⟩
    simp_arith only [lsE,es,g4,g6,hfl,ec]
    exact al_ret ⟨_,_,_,_,_,_,_,_,_,rfl⟩
end My
set_option Elab.async false
set_option linter.all false
set_option maxRecDepth 100000
namespace My
open PySem PySem.Spec PyProof.Rows L2 Tw
noncomputable def rowsOf (s:Shp):List (List Int)→List PyData
  | []=>[]
  | day::rest=>.tuple [lI (s.row (s.sms day rest)),.int ((s.bk rest).2 * day.sum)]::rowsOf s rest
theorem rows_len (s:Shp):∀ fs:List (List Int),(rowsOf s fs).length=fs.length
  | []=>rfl
  | d::r=>by rw [rowsOf,List.length_cons,List.length_cons,rows_len s r]
theorem rows_at (s:Shp):∀ {fs:List (List Int)} {t:Nat} {day:List Int},fs[t]?=some day→(rowsOf s fs)[t]?=some (.tuple [lI (s.row (s.sms day (fs.drop (t+1)))),.int ((s.bk (fs.drop (t+1))).2 * day.sum)])
  | [],t,day,h=>by cases h
  | d::r,0,day,h=>by
    cases h
    rfl
  | d::r,t+1,day,h=>by
    rw [List.getElem?_cons_succ] at h
    rw [rowsOf,List.getElem?_cons_succ,rows_at s h]
    rfl
theorem e_law_sums {s:Shp} (h:s.Ok) {fs:List (List Int)} (hf:∀ l∈fs,DayB l) (hl:fs.length≤6):m_law_sums [.d s.d,.d (fD fs)]=.ret (.own (rowsOf s fs)):=by
  have:=h.t0
  have:=h.d0
  have:=h.td
  have r1:rng2 [.int (0 - s.depth),.int (s.top+1)]=.ret (rngL (0 - s.depth) (s.top+1)):=ev_rg2 (inR_of (by omega) (by omega)) (inR_of (by omega) (by omega))
  have erev:bin2 revD (fD fs) (.int (-1))=.ret (.tuple (fs.map tI).reverse):=rfl
  have hsub:∀ k,∀ l∈fs.drop k,DayB l:=fun k l hl=>hf l (List.mem_of_mem_drop hl)
  have hR:∀ k,Bd s 1900 (s.bk (fs.drop k)).1∧nb 1900 (s.bk (fs.drop k)).2:=fun k=>by
    obtain ⟨h1,h2⟩:=bk_nb h (hsub k)
    have:(fs.drop k).length≤6:=by rw [List.length_drop]; omega
    exact ⟨fun x a b=>nb_mono (h1 x a b) (by omega),nb_mono h2 (by omega)⟩
  apply al_eq
  simp_arith [m_law_sums,sl_c5,sl_r5,r1]
  refine al_bind (n:=0) (n':=0) (P:=fun o=>∃ K12:Sl,o=.next (lsE s (fD fs) (.own ((s.row s.fin).map PyData.int)) K12 .un .un .un .un .un .un .un .un .un .un .un)) ?_ (by decide) ?_
  · refine al_forQ (n:=0) (fun pre ρ=>∃ K12:Sl,ρ=lsE s (fD fs) (.own (((s.row s.fin).map PyData.int).take pre.length)) K12 .un .un .un .un .un .un .un .un .un .un .un) ⟨.un,?_⟩ (by simp) ?_ ?_
    · simp
    · rintro pre x post ρ e ⟨K12,rfl⟩
      obtain ⟨rfl,hpre⟩:=rngL_mid e
      refine ⟨_,rfl,?_⟩
      have x1:-s.depth≤0 - s.depth+(pre.length:Int):=by omega
      have x2:0 - s.depth+(pre.length:Int)≤s.top:=by omega
      have hr:=row_at (f:=s.fin) x1 x2
      have ek:(0 - s.depth+(pre.length:Int)+s.depth).toNat=pre.length:=by omega
      rw [ek] at hr
      have hr2:((s.row s.fin).map PyData.int)[pre.length]?=some (.int (s.fin (0 - s.depth+(pre.length:Int)))):=by rw [List.getElem?_map,hr]; rfl
      have hsm:small ((((s.row s.fin).map PyData.int).take pre.length).length+1)=true:=small_le (by rw [List.length_take,List.length_map,row_len]; have:=h.n_eq; omega)
      have hm:∀ z:Int,nb 20 z→nb 20 (maxI z 0):=fun z hz=>by
        unfold maxI
        exact nb_ite (nb_of (by decide) (by decide)) hz
      generalize hx:0 - s.depth+(pre.length:Int)=x at *
      have n1:nb 20 (0 - x):=nb_of (by show -1048576 < _; omega) (by show _ < 1048576; omega)
      have n2:nb 20 x:=nb_of (by show -1048576 < _; omega) (by show _ < 1048576; omega)
      have g1:=nb_fit h.late (by decide)
      have g2:=nb_fit (hm _ n1) (by decide)
      have g3:=nb_fit h.back (by decide)
      have g4:=nb_fit (hm _ n2) (by decide)
      have el:∀ y:PyData,(pre++[y]).length=pre.length+1:=fun y=>by simp
      simp_arith [l_law_sums_1,lsE,g1,g2,g3,g4,fin_law,hsm]
      rw [el,List.take_add_one,hr2]
      exact al_ret ⟨_,rfl,_,rfl⟩
    · rintro ρ ⟨K12,rfl⟩
      refine ⟨K12,?_⟩
      rw [rngL_len,List.take_of_length_le (by rw [List.length_map,row_len]; unfold Shp.n; omega)]
  · rintro _ ⟨K12,rfl⟩
    simp_arith [lsE,erev]
    refine al_bind (n:=0) (n':=0) (P:=fun o=>∃ K11 K12 K13 K15 K16 K17 K18 K19 K20 K21 K22 K23:Sl,o=.next (lsE s (fD fs) K11 K12 K13 (.own (rowsOf s fs)) K15 K16 K17 K18 K19 K20 K21 K22 K23)) ?_ (by decide) ?_
    · refine al_forQ (n:=0) (fun pre ρ=>∃ K12 K15 K16 K17 K18 K19 K20 K21 K22 K23:Sl,ρ=lsE s (fD fs) (.own ((s.row (s.bk (fs.drop (fs.length - pre.length))).1).map PyData.int)) K12 (.d (.int (s.bk (fs.drop (fs.length - pre.length))).2)) (.own (rowsOf s (fs.drop (fs.length - pre.length)))) K15 K16 K17 K18 K19 K20 K21 K22 K23) ⟨K12,.un,.un,.un,.un,.un,.un,.un,.un,.un,?_⟩ (by simp) ?_ ?_
      · rw [List.length_nil,Nat.sub_zero,List.drop_length]
        rfl
      · rintro pre x post ρ e ⟨L12,L15,L16,L17,L18,L19,L20,L21,L22,L23,rfl⟩
        obtain ⟨d,rfl,hpl,hdr⟩:=revT_mid e
        refine ⟨_,rfl,?_⟩
        have hdd:DayB d:=hsub (fs.length - (pre.length+1)) d (by rw [hdr]; simp)
        obtain ⟨k1,k2⟩:=hR (fs.length - pre.length)
        refine al_mono (ls4 h hdd k1 k2 (by decide) (.inl rfl) (by rw [rows_len,List.length_drop]; omega) L12 L16 L17 L18 L19 L20 L21 L22 L23) (Nat.le_refl _) ?_
        rintro o ⟨M12,M16,M17,M18,M19,M20,M21,M22,M23,rfl⟩
        refine ⟨_,rfl,M12,.d (tI d),M16,M17,M18,M19,M20,M21,M22,M23,?_⟩
        have el:(pre++[tI d]).length=pre.length+1:=by simp
        rw [el,hdr]
        rfl
      · rintro ρ ⟨L12,L15,L16,L17,L18,L19,L20,L21,L22,L23,rfl⟩
        rw [List.length_reverse,List.length_map,Nat.sub_self,List.drop_zero]
        exact Exists.intro _ (Exists.intro L12 (Exists.intro _ ⟨L15,L16,L17,L18,L19,L20,L21,L22,L23,rfl⟩))
    · rintro _ ⟨K11,K12,K13,K15,K16,K17,K18,K19,K20,K21,K22,K23,rfl⟩
      simp_arith [lsE]
      exact al_ret rfl
end My
set_option Elab.async false
set_option linter.all false
set_option maxRecDepth 100000
namespace My
open PySem PySem.Spec PyProof.Rows L2 Tw
theorem ev_drw (n:Int):m_law_draw [.pen,.d (.int n)]=.draw n fun r=>.ret (.d (.int r)):=rfl
theorem max_eq {ls:List Int} (h:∃ n∈ls,n > 0):cb1 max1D [.list ((snF 0 ls).map PyData.int)]=.ret (.int (great ls)):=max1_of _ (snF_ne (k:=0) h)
theorem seen_eq:∀ (ns:List Int) (k:Nat),mapO (lci2 (gTupD (gsCons (gSet 0) (gsCons (gSet 1) gsNil))) p_law_reach_1 q_law_reach_1 [.un,.un]) (enu k ns)=.ret ((snF k ns).map PyData.int)
  | [],k=>rfl
  | n::ns,k=>by
    have ih:=seen_eq ns (k+1)
    have e0:lci2 (gTupD (gsCons (gSet 0) (gsCons (gSet 1) gsNil))) p_law_reach_1 q_law_reach_1 [.un,.un] (.tuple [.int k,.int n])=.ret (if n > 0 then some (.int k) else none):=by
      by_cases h:n > 0
      · simp_arith [p_law_reach_1,q_law_reach_1,decide_eq_true h,if_pos h]
      · simp_arith [p_law_reach_1,q_law_reach_1,decide_eq_false h,if_neg h]
    rw [enu,mapO,e0,Tr.ret_bind,ih,Tr.ret_bind,snF]
    unfold mapC
    by_cases h:n > 0
    · rw [if_pos h,if_pos h]; rfl
    · rw [if_neg h,if_neg h]
theorem q_reach {ls:List Int} (h:∃ n∈ls,n > 0) (hl:ls.length≤100):q_law_reach_2 [.d (tI ls)]=.ret (.int (great ls)):=by
  have hs:small (enu 0 ls).length=true:=small_le (by rw [enu_len]; omega)
  simp_arith [q_law_reach_2,it_tI,enu_eq,hs,seen_eq,max_eq h]
theorem reach_map:∀ {fs:List (List Int)},(∀ l∈fs,DayOk 8 l)→mapT (lc2 (gSet 0) q_law_reach_2 [.un]) (fs.map tI)=.ret ((fs.map great).map PyData.int)
  | [],_=>rfl
  | ls::fs,h=>by
    have ih:=reach_map (fs:=fs) fun l hl=>h l (List.mem_cons_of_mem _ hl)
    have hd:=h ls (by simp)
    have e0:lc2 (gSet 0) q_law_reach_2 [.un] (tI ls)=.ret (.int (great ls)):=q_reach hd.pos (Nat.le_trans hd.len (by decide))
    rw [List.map_cons,mapT,e0,Tr.ret_bind,ih]
    rfl
theorem e_reach {fs:List (List Int)} (h:∀ l∈fs,DayOk 8 l) (hl:fs.length≤100):m_law_reach [.d (fD fs)]=.ret (.d (.int (reach fs))):=by
  have hs:small (fs.map tI).length=true:=small_le (by rw [List.length_map]; omega)
  have e:=reach_map h
  have es:cb1 sumD [.list ((fs.map great).map PyData.int)]=.ret (.int (reach fs)):=ev_sumL _
  simp_arith [m_law_reach,it_fD,hs,e,es]
noncomputable def okP (ps:List Int):Prop:=ps.length=7∧∀ p∈ps,0≤p∧p≤1000000
theorem cut_a (a b c d e f g:PyData):L2.cutD [a,b,c,d,e,f,g] none (some 5)=[a,b,c,d,e]:=rfl
theorem cut_b (a b c d e f g:PyData):L2.cutD [a,b,c,d,e,f,g] (some 5) none=[f,g]:=rfl
theorem pr1 {w:Int} (w0:0≤w) (w1:w < 4) {ns:List Int} (hl:ns.length≤100) (A B:Sl):Al (l_law_prices_1 [.pen,.d (.int w),.own (ns.map PyData.int),A,B]) 4 fun o=>∃ (y:Int) (B':Sl),o=.next [.pen,.d (.int w),.own ((ns++[y]).map PyData.int),A,B']∧0≤y∧y≤1000000:=by
  have hs:small ((ns.map PyData.int).length+1)=true:=small_le (by rw [List.length_map]; omega)
  simp_arith [l_law_prices_1,ev_drw]
  refine al_drw (n:=3) (by decide) (by decide) (by decide) fun a a0 a1=>?_
  try simp_arith [ev_drw]
  refine al_drw (n:=2) (by decide) (by decide) (by decide) fun b b0 b1=>?_
  try simp_arith [ev_drw]
  refine al_drw (n:=1) (by decide) (by decide) (by decide) fun c c0 c1=>?_
  try simp_arith [ev_drw]
  refine al_drw (n:=0) (by decide) (by decide) (by decide) fun d d0 d1=>?_
  obtain ⟨z,hz,z0,z1⟩:=pickI (xs:=[PyData.int 0,.int 1,.int 7,.int 1000000]) (lo:=0) (hi:=1000000) (by simp [intIn]) d0 d1
  obtain ⟨y,hy,y0,y1⟩:=pickI (xs:=[PyData.int a,.int b,.int c,.int z]) (lo:=0) (hi:=1000000) (by simp [intIn]; omega) w0 w1
  simp_arith [ev_drw,hz,hy,hs]
  have em:ns.map PyData.int++[PyData.int y]=(ns++[y]).map PyData.int:=by rw [List.map_append]; rfl
  rw [em]
  exact al_ret ⟨y,_,rfl,y0,y1⟩
theorem s_prices:Al (m_law_prices [.pen]) 40 fun r=>∃ ps,r=.d (tI ps)∧okP ps:=by
  have r1:rng1 [.int 7]=.ret (rngL 0 7):=ev_rg1 rfl
  simp_arith [m_law_prices,ev_drw]
  refine al_drw (n:=39) (by decide) (by decide) (by decide) fun w w0 w1=>?_
  try simp_arith [ev_drw,r1]
  refine al_bind (n:=28) (n':=10) (P:=fun o=>∃ (ns:List Int) (A B:Sl),o=.next [.pen,.d (.int w),.own (ns.map PyData.int),A,B]∧okP ns) ?_ (by decide) ?_
  · refine al_forQ (n:=4) (fun pre ρ=>∃ (ns:List Int) (A B:Sl),ρ=[.pen,.d (.int w),.own (ns.map PyData.int),A,B]∧ns.length=pre.length∧∀ p∈ns,0≤p∧p≤1000000) ⟨[],_,_,rfl,rfl,fun _ q=>by cases q⟩ (by rw [rngL_len]; decide) ?_ ?_
    · rintro pre x post ρ e ⟨ns,A,B,rfl,hl,hn⟩
      obtain ⟨rfl,hpre⟩:=rngL_mid e
      refine ⟨_,rfl,al_mono (pr1 w0 w1 (by omega) _ _) (Nat.le_refl _) ?_⟩
      rintro _ ⟨y,B',rfl,y0,y1⟩
      refine ⟨_,rfl,ns++[y],_,_,rfl,by simp [hl],fun q hq=>?_⟩
      rcases List.mem_append.mp hq with hq | hq
      · exact hn q hq
      · simp at hq
        subst hq
        exact ⟨y0,y1⟩
    · rintro ρ ⟨ns,A,B,rfl,hl,hn⟩
      rw [rngL_len] at hl
      exact ⟨ns,A,B,rfl,hl,hn⟩
  · rintro _ ⟨ns,A,B,rfl,hn⟩
    try simp_arith [ev_drw]
    refine al_drw (n:=9) (by decide) (by decide) (by decide) fun r r0 r1=>?_
    try simp_arith [ev_drw]
    refine al_bind (n:=0) (n':=9) (P:=fun o=>∃ ns:List Int,o=.next [.pen,.d (.int w),.own (ns.map PyData.int),A,B]∧okP ns) ?_ (by decide) ?_
    · cases hb:(r == 0)
      · simp_arith [ev_drw]
        exact al_ret ⟨ns,rfl,hn⟩
      · obtain ⟨hl,hb⟩:=hn
        obtain ⟨a,b,c,d,e,f,g,rfl⟩:=list7 hl
        simp_arith [ev_drw,ev_six3 (xs:=[PyData.int a,.int b,.int c,.int d,.int e,.int f,.int g]) (y:=0) (t:=0) rfl]
        refine al_ret ⟨[0,b,c,d,e,f,g],rfl,rfl,fun p hp=>?_⟩
        rcases List.mem_cons.mp hp with rfl | hp
        · decide
        · exact hb p (List.mem_cons_of_mem _ hp)
    · rintro _ ⟨ns,rfl,hl,hb⟩
      obtain ⟨a,b,c,d,e,f,g,rfl⟩:=list7 hl
      simp_arith [ev_drw]
      refine al_drw (n:=8) (by decide) (by decide) (by decide) fun r r0 r1=>?_
      try simp_arith [ev_drw]
      by_cases hr:r > 0
      · have hp:=sortI_perm [f,g]
        have hsl:(sortI [f,g]).length=2:=by rw [hp.length_eq]; rfl
        obtain ⟨x,y,exy⟩:∃ x y,sortI [f,g]=[x,y]:=by
          match h:sortI [f,g],hsl with
          | [x,y],_=>exact ⟨x,y,rfl⟩
        have es:=ev_sort [f,g] (by show 2 < 64; decide)
        rw [exy] at es hp
        simp only [List.map_cons,List.map_nil] at es
        have hs:small 7=true:=small_le (by decide)
        simp_arith [decide_eq_true hr,ev_drw,cut_a,cut_b,es,ev_addL (xs:=[PyData.int a,.int b,.int c,.int d,.int e]) (ys:=[PyData.int x,.int y]) hs]
        refine al_ret ⟨[a,b,c,d,e,x,y],rfl,rfl,fun p hp'=>?_⟩
        rcases List.mem_append.mp (show p∈[a,b,c,d,e]++[x,y] from hp') with q | q
        · exact hb p (List.mem_append_left [f,g] q)
        · exact hb p (List.mem_append_right [a,b,c,d,e] (hp.mem_iff.mp q))
      · simp_arith [decide_eq_false hr,ev_drw]
        exact al_ret ⟨[a,b,c,d,e,f,g],rfl,rfl,hb⟩
end My
set_option Elab.async false
set_option linter.all false
set_option maxRecDepth 100000
namespace My
open PySem PySem.Spec PyProof.Rows L2 Tw
theorem fa1 {w:Int} (w0:0≤w) (w1:w < 4) {ns:List Int} (hl:ns.length≤100) (A B C D E:Sl):Al (l_law_falls_1 [.pen,A,B,C,D,.d (.int w),.own (ns.map PyData.int),E]) 3 fun o=>∃ y:Int,o=.next [.pen,A,B,C,D,.d (.int w),.own ((ns++[y]).map PyData.int),E]∧0≤y∧y≤1001:=by
  have hs:small ((ns.map PyData.int).length+1)=true:=small_le (by rw [List.length_map]; omega)
  simp_arith [l_law_falls_1,ev_drw]
  refine al_drw (n:=2) (by decide) (by decide) (by decide) fun a a0 a1=>?_
  try simp_arith [ev_drw]
  refine al_drw (n:=1) (by decide) (by decide) (by decide) fun b b0 b1=>?_
  try simp_arith [ev_drw]
  refine al_drw (n:=0) (by decide) (by decide) (by decide) fun c c0 c1=>?_
  obtain ⟨y,hy,y0,y1⟩:=pickI (xs:=[PyData.int 1,.int a,.int b,.int c]) (lo:=0) (hi:=1001) (by simp [intIn]; omega) w0 w1
  simp_arith [ev_drw,hy,hs]
  have em:ns.map PyData.int++[PyData.int y]=(ns++[y]).map PyData.int:=by rw [List.map_append]; rfl
  rw [em]
  exact al_ret ⟨y,rfl,y0,y1⟩
theorem fa2 {most:Int} (m0:1≤most) (m1:most≤8) {fs:List (List Int)} (hf:∀ ls∈fs,DayOk most.toNat ls) (hfl:fs.length≤50) (A C D E F:Sl) :
    Al (l_law_falls_2 [.pen,A,.d (.int most),.own (fs.map tI),C,D,E,F]) 30 fun o=>∃ (ls:List Int) (D' E' F':Sl),o=.next [.pen,A,.d (.int most),.own ((fs++[ls]).map tI),C,D',E',F']∧DayOk most.toNat ls:=by
  have hs2:small ((fs.map tI).length+1)=true:=small_le (by rw [List.length_map]; omega)
  simp_arith [l_law_falls_2,ev_drw]
  refine al_drw (n:=29) (by decide) (by decide) (by decide) fun w w0 w1=>?_
  try simp_arith [ev_drw]
  refine al_drw (n:=28) (by omega) (by omega) (by decide) fun q q0 q1=>?_
  have r1:rng1 [.int (1+q)]=.ret (rngL 0 (1+q)):=ev_rg1 (inR_of (by omega) (by omega))
  simp_arith [ev_drw,r1]
  refine al_bind (n:=24) (n':=2) (P:=fun o=>∃ (ns:List Int) (E:Sl),o=.next [.pen,A,.d (.int most),.own (fs.map tI),C,.d (.int w),.own (ns.map PyData.int),E]∧(ns.length:Int)=1+q∧∀ n∈ns,0≤n∧n≤1001) ?_ (by decide) ?_
  · refine al_forQ (n:=3) (fun pre2 ρ=>∃ (ns:List Int) (E:Sl),ρ=[.pen,A,.d (.int most),.own (fs.map tI),C,.d (.int w),.own (ns.map PyData.int),E]∧ns.length=pre2.length∧∀ n∈ns,0≤n∧n≤1001) ⟨[],_,rfl,rfl,fun _ q=>by cases q⟩ (by rw [rngL_len]; omega) ?_ ?_
    · rintro pre2 x2 post2 ρ2 e2 ⟨ns,E,rfl,hl2,hn⟩
      obtain ⟨rfl,hpre2⟩:=rngL_mid e2
      refine ⟨_,rfl,al_mono (fa1 w0 w1 (by omega) _ _ _ _ _) (Nat.le_refl _) ?_⟩
      rintro _ ⟨y,rfl,y0,y1⟩
      refine ⟨_,rfl,ns++[y],_,rfl,by simp [hl2],fun n hn'=>?_⟩
      rcases List.mem_append.mp hn' with hq | hq
      · exact hn n hq
      · simp at hq
        subst hq
        exact ⟨y0,y1⟩
    · rintro ρ ⟨ns,E,rfl,hl2,hn⟩
      rw [rngL_len] at hl2
      exact ⟨ns,E,rfl,by omega,hn⟩
  · rintro _ ⟨ns,E,rfl,hl2,hn⟩
    by_cases h0:ns.sum=0
    · have e0:(ns.sum == 0)=true:=by rw [h0]; rfl
      simp_arith [ev_drw,e0]
      refine al_drw (n:=1) (by decide) (by decide) (by decide) fun v v0 v1=>?_
      simp_arith [ev_drw,List.length_map]
      refine al_drw (n:=0) (by omega) (by omega) (by decide) fun r r0 r1=>?_
      have hi:ixN (ns.map PyData.int).length r=some r.toNat:=by
        rw [List.length_map]
        unfold ixN
        rw [if_pos r0,if_pos r1]
      have es:(ns.map PyData.int).set r.toNat (.int (1+v))=(ns.set r.toNat (1+v)).map PyData.int:=List.map_set.symm
      simp_arith [ev_drw,ev_six3 hi,es,hs2]
      have em:fs.map tI++[PyData.tuple ((ns.set r.toNat (1+v)).map PyData.int)]=(fs++[ns.set r.toNat (1+v)]).map tI:=by rw [List.map_append]; rfl
      rw [em]
      refine al_ret ⟨ns.set r.toNat (1+v),_,_,_,rfl,⟨by rw [List.length_set]; omega,⟨1+v,List.mem_set (by omega) _,by omega⟩,fun n hm'=>?_⟩⟩
      rcases List.mem_or_eq_of_mem_set hm' with q | q
      · exact hn n q
      · subst q; omega
    · have e0:(ns.sum == 0)=false:=beq_eq_false_iff_ne.mpr h0
      simp_arith [ev_drw,e0,hs2]
      have em:fs.map tI++[PyData.tuple (ns.map PyData.int)]=(fs++[ns]).map tI:=by rw [List.map_append]; rfl
      rw [em]
      exact al_ret ⟨ns,_,_,_,rfl,by omega,sum_pos (fun n h=>(hn n h).1) h0,hn⟩
theorem s_falls {days most:Int} (d0:1≤days) (d1:days≤6) (m0:1≤most) (m1:most≤8):Al (m_law_falls [.pen,.d (.int days),.d (.int most)]) 180 fun r=>∃ fs,r=.d (fD fs)∧(fs.length:Int)=days∧∀ ls∈fs,DayOk most.toNat ls:=by
  have r1:rng1 [.int days]=.ret (rngL 0 days):=ev_rg1 (inR_of (by omega) (by omega))
  simp_arith [m_law_falls,ev_drw,r1]
  refine al_bind (n:=180) (n':=0) (P:=fun o=>∃ (fs:List (List Int)) (A B C D:Sl),o=.next [.pen,.d (.int days),.d (.int most),.own (fs.map tI),A,B,C,D]∧(fs.length:Int)=days∧∀ ls∈fs,DayOk most.toNat ls) ?_ (by decide) ?_
  · refine al_forQ (n:=30) (fun pre ρ=>∃ (fs:List (List Int)) (A B C D:Sl),ρ=[.pen,.d (.int days),.d (.int most),.own (fs.map tI),A,B,C,D]∧fs.length=pre.length∧∀ ls∈fs,DayOk most.toNat ls) ⟨[],_,_,_,_,rfl,rfl,fun _ q=>by cases q⟩ (by rw [rngL_len]; omega) ?_ ?_
    · rintro pre x post ρ e ⟨fs,A,B,C,D,rfl,hl,hf⟩
      obtain ⟨rfl,hpre⟩:=rngL_mid e
      refine ⟨_,rfl,al_mono (fa2 m0 m1 hf (by omega) _ _ _ _ _) (Nat.le_refl _) ?_⟩
      rintro o ⟨ls,D',E',F',rfl,hd⟩
      refine ⟨_,rfl,fs++[ls],_,_,_,_,rfl,by simp [hl],fun z hz=>?_⟩
      rcases List.mem_append.mp hz with hz | hz
      · exact hf z hz
      · simp at hz
        subst hz
        exact hd
    · rintro ρ ⟨fs,A,B,C,D,rfl,hl,hf⟩
      rw [rngL_len] at hl
      exact ⟨fs,_,_,_,_,rfl,by omega,hf⟩
  · rintro _ ⟨fs,A,B,C,D,rfl,hl,hf⟩
    try simp_arith [ev_drw]
    exact al_ret ⟨fs,rfl,hl,hf⟩
theorem most_at {u:Int} (u0:0≤u) (u1:u < 6):∃ m:Int,atI [PyData.int 8,.int 8,.int 8,.int 6,.int 5,.int 4] (1+u - 1)=some (.int m)∧1≤m∧m≤8∧(1+u) * (m - 1)≤21:=by
  have:u=0∨u=1∨u=2∨u=3∨u=4∨u=5:=by omega
  rcases this with rfl | rfl | rfl | rfl | rfl | rfl
  · exact ⟨8,at_0,by decide,by decide,by decide⟩
  · exact ⟨8,at_1,by decide,by decide,by decide⟩
  · exact ⟨8,at_2,by decide,by decide,by decide⟩
  · exact ⟨6,at_3,by decide,by decide,by decide⟩
  · exact ⟨5,at_4,by decide,by decide,by decide⟩
  · exact ⟨4,at_5,by decide,by decide,by decide⟩
theorem s_shop (b:Bool):Al (m_law_shop [.pen,.d (.bool b)]) 300 fun r=>∃ (s:Shp) (fs:List (List Int)),r=.own [s.d,fD fs]∧s.Dr∧FalOk fs∧(b=true→reach fs≤s.depth):=by
  simp_arith [m_law_shop,ev_drw]
  refine al_drw (n:=299) (by decide) (by decide) (by decide) fun u u0 u1=>?_
  obtain ⟨m,hm,m0,m1,hum⟩:=most_at u0 u1
  simp_arith [ev_drw,hm]
  refine al_bind (n:=180) (n':=100) (s_falls (days:=1+u) (by omega) (by omega) m0 m1) (by decide) ?_
  rintro _ ⟨fs,rfl,hl,hf⟩
  have hF:FalOk fs:=⟨fun ls h=>(hf ls h).mono (by omega),by omega,by omega⟩
  have er:=e_reach hF.f (by omega)
  obtain ⟨r0,r1⟩:=reach_le (most:=m.toNat) (by omega) hf
  have hr:reach fs≤21:=by
    have e1:((m.toNat:Nat):Int)=m:=by omega
    rw [hl,e1] at r1
    omega
  simp_arith [ev_drw,er]
  refine al_drw (n:=99) (by decide) (by decide) (by decide) fun v v0 v1=>?_
  obtain ⟨z,hz,z0,z1⟩:=pickI (xs:=[PyData.int 2,.int 12,.int 12]) (lo:=2) (hi:=12) (by simp [intIn]) v0 v1
  have hmin:2≤minI (39 - reach fs) z∧minI (39 - reach fs) z≤12:=by unfold minI; split <;> omega
  simp_arith [ev_drw,hz]
  refine al_drw (n:=98) (by omega) (by omega) (by decide) fun t t0 t1=>?_
  try simp_arith [ev_drw]
  refine al_drw (n:=97) (by decide) (by decide) (by decide) fun d d0 d1=>?_
  try simp_arith [ev_drw]
  have fin:∀ {dd:Int},0≤dd→t+dd≤39→(b=true→reach fs≤dd)→∀ A B C:Sl,Al (((aRetO (aLo (aCons (aBin addD (aTup (aCons (aVar 5) (aCons (aVar 6) aNil))) (aRe (aCall m_law_prices (aaPen 0 aaNil)))) (aCons (aVar 3) aNil)))) [.pen,A,B,.d (fD fs),C,.d (.int t),.d (.int dd)]).bind finR) 50 fun r=>∃ (s:Shp) (fs:List (List Int)),r=.own [s.d,fD fs]∧s.Dr∧FalOk fs∧(b=true→reach fs≤s.depth):=fun {dd} hd hdd hbd A B C=>by
    have hs2:small 2=true:=small_le (by decide)
    simp_arith [ev_drw]
    refine al_bind (n:=40) (n':=0) s_prices (by decide) ?_
    rintro _ ⟨ps,rfl,hpl,hp⟩
    obtain ⟨a1,a2,a3,a4,a5,a6,a7,rfl⟩:=list7 hpl
    simp_arith [tI,ev_drw]
    exact al_ret ⟨⟨t,dd,a1,a2,a3,a4,a5,a6,a7⟩,fs,by rw [← shp_of],⟨by show 0≤t; omega,hd,hdd,hp⟩,hF,hbd⟩
  cases b
  · simp only [ev_ifsf,ev_skip,Tr.ret_bind,ev_seqN]
    exact al_mono (fin (by omega) (by omega) (fun z=>by cases z) _ _ _) (by decide) fun _ h=>h
  · simp only [ev_ifst]
    simp only [ev_set,ev_bin,ev_bin1,ev_sub,ev_add,ev_C,ev_cb,ev_cons,ev_cons1,ev_cons2,ev_nil,ev_min2,ev_re,ev_re1,ev_call,ev_aaPen,ev_pen0,ev_aap,ev_aaCons,ev_aa1,ev_aa2,ev_aaNil,ev_drw,ev_set1,ev_var0,ev_varS,Tr.ret_bind,Tr.bind_assoc,Tr.draw_bind,Re.val_d,ls_0,ls_S]
    refine al_drw (n:=96) (by decide) (by decide) (by decide) fun w w0 w1=>?_
    have ht:t≤39 - reach fs:=by
      have:minI (39 - reach fs) z≤39 - reach fs:=by unfold minI; split <;> omega
      omega
    have hm2:0≤minI (39 - reach fs - t) w∧minI (39 - reach fs - t) w≤39 - reach fs - t:=by unfold minI; split <;> omega
    simp only [ev_set,ev_bin,ev_bin1,ev_sub,ev_add,ev_C,ev_cb,ev_cons,ev_cons1,ev_cons2,ev_nil,ev_min2,ev_re,ev_re1,ev_call,ev_set1,ev_var0,ev_varS,Tr.ret_bind,Tr.bind_assoc,Tr.draw_bind,Re.val_d,ls_0,ls_S,ev_seqN]
    exact al_mono (fin (by omega) (by omega) (fun _=>by omega) _ _ _) (by decide) fun _ ⟨s,fs,h1,h2,h3,h4⟩=>⟨s,fs,h1,h2,h3,fun _=>h4 rfl⟩
end My
set_option Elab.async false
set_option linter.all false
set_option maxRecDepth 100000
namespace My
open PySem PySem.Spec PyProof.Rows L2 Tw
theorem e_is_chp {s:Shp} (h:s.Ok) {g:Int→Int} (hg:Bd s 3000 g) {B:Int} (hB:nb 3000 B) {x G:Int} (x1:-s.depth≤x) (x2:x < G) (G2:G≤s.top) :
    m_is_cheapest [.d s.d,.d (lI (s.row g)),.d (.int B),.d (.int x),.d (.int G)]=.ret (.d (.bool (chkD g s.top (B * s.start) G x))):=by
  have a1:=row_atI (s:=s) (f:=g) (x:=x) x1 (by omega)
  have a2:=row_atI (s:=s) (f:=g) (x:=G) (by omega) G2
  have a3:=row_tail (s:=s) (g:=g) (x:=x) x1 (by omega)
  have f1:=nb_fit hB (by decide)
  have f2:=nb_fit h.start (by decide)
  have hne:(rangeI (x+1) (s.top - x).toNat).map g≠[]:=by
    intro z
    have:=congrArg List.length z
    rw [List.length_map,rangeI_length] at this
    simp at this
    omega
  have m1:=min1_of _ hne
  have ck:=chk_iff (g:=g) (K:=B * s.start) x2 G2
  unfold chkD
  by_cases c1:B * s.start+g G≤g x
  · simp_arith [m_is_cheapest,lI,a1,a2,a3,f1,f2,m1,decide_eq_true c1]
    congr 3
    by_cases c2:g G=minL ((rangeI (x+1) (s.top - x).toNat).map g)
    · rw [decide_eq_true (ck.mp ⟨c1,c2⟩),c2]
      simp
    · rw [decide_eq_false (fun z=>c2 (ck.mpr z).2)]
      simp [c2]
  · simp_arith [m_is_cheapest,lI,a1,a2,a3,f1,f2,m1,decide_eq_false c1]
    rw [decide_eq_false (fun z=>c1 (ck.mpr z).1)]
noncomputable abbrev mbE (s:Shp) (R:PyData) (B least:Int) (P:PyData) (x:Int) (a b:Sl):List Sl:=[.d s.d,.d R,.d (.int B),.d (.int least),.d P,.d (.int x),a,b]
theorem e_marks_by {s:Shp} (h:s.Ok) {g:Int→Int} (hg:Bd s 3000 g) {B:Int} (hB:nb 3000 B) (hB0:0≤B) {least:Int} (l1:-s.depth≤least) (l2:least≤s.top) :
    m_marks_by [.d s.d,.d (lI (s.row g)),.d (.int B),.d (.int least)]=.ret (.d (mkD g s.top (B * s.start) least)):=by
  have:=h.t0
  have:=h.d0
  have:=h.td
  have e1:=e_cheap h hg hB hB0 (by decide)
  have hpk:∀ x,-s.depth≤x→x≤s.top→atI ((rangeI (-s.depth) s.n).map (pairD g s.top (B * s.start) (B * s.piece))) (x+s.depth)=some (pairD g s.top (B * s.start) (B * s.piece) x):=fun x x1 x2=>by
    refine atI_ge (by omega) ?_
    unfold rangeI
    rw [List.map_map,List.getElem?_map,List.getElem?_range (by unfold Shp.n; omega)]
    show some (pairD g s.top (B * s.start) (B * s.piece) (-s.depth+((x+s.depth).toNat:Int)))=_
    congr 2
    omega
  obtain ⟨N,hN⟩:∃ N:Nat,s.top=least+N:=⟨(s.top - least).toNat,by omega⟩
  have hlv:∀ x,x≤s.top→x≤lvl g s.top (B * s.start) x∧lvl g s.top (B * s.start) x≤s.top:=fun x hx=>⟨(pck_is (g:=g) (K:=B * s.start) hx).1,(pck_is (g:=g) (K:=B * s.start) hx).2.1⟩
  generalize hP:PyData.list ((rangeI (-s.depth) s.n).map (pairD g s.top (B * s.start) (B * s.piece)))=P at *
  have key:=wh_down (p:=w_marks_by_1) (s:=l_marks_by_1) (E:=fun j=>mbE s (lI (s.row g)) B least P (least+j) .un .un) (o:=ownD g s.top (B * s.start) least) (N:=N) (by
      simp_arith [w_marks_by_1,mbE]
      have:decide (least+0 > least)=false:=decide_eq_false (by omega)
      simp_arith [this]) (fun j hj=>by
      have c1:decide (least+((j:Int)+1) > least)=true:=decide_eq_true (by omega)
      have c2:=hpk (least+j) (by omega) (by omega)
      have c3:least+((j:Int)+1) - 1+s.depth=least+j+s.depth:=by omega
      have c4:least+((j:Int)+1) - 1=least+j:=by omega
      subst hP
      simp_arith [w_marks_by_1,mbE,pairD,c1,c3,c2,c4]
      unfold ownD
      congr 1) (fun j hj=>by
      have c4:least+((j:Int)+1) - 1=least+j:=by omega
      simp_arith [l_marks_by_1,mbE,c4]) N (100000 - (N+1)) (Nat.le_refl _)
  have eN:N+1+(100000 - (N+1))=100000:=by omega
  rw [eN] at key
  simp only [mbE,← hN] at key
  have hsm:((least+(N:Int)) - least).toNat=N:=by omega
  simp_arith [m_marks_by,e1,hP,key]
  unfold mkD
  rw [show (s.top - least).toNat=N by omega]
  rcases lsr_find (o:=ownD g s.top (B * s.start) least) N with ⟨z1,z2⟩ | ⟨l,z1,z2,z3,z4,z5⟩
  · rw [z1,z2]
    have e0:least+0=least:=by omega
    simp_arith [e0,beq_self_eq_true]
    rfl
  · rw [z1,z2]
    have e0:((least+(l+1)) == least)=false:=by
      rw [beq_eq_false_iff_ne]; omega
    have e2:least+(l+1) - 1=least+l:=by omega
    have c2:=hpk (least+l) (by omega) (by omega)
    have r1:rng2 [.int least,.int (least+l)]=.ret (rngL least (least+l)):=ev_rg2 (inR_of (by omega) (by omega)) (inR_of (by omega) (by omega))
    generalize hG:lvl g s.top (B * s.start) (least+l)=G at *
    have hG1:least+l < G:=by
      have a:=(hlv (least+l) (by omega)).1
      have b:¬ lvl g s.top (B * s.start) (least+l)=least+l:=by
        unfold ownD at z5
        exact of_decide_eq_false z5
      omega
    have hG2:G≤s.top:=by
      have a:=(hlv (least+l) (by omega)).2
      omega
    have kf:=for_find (g:=gSet 7) (s:=l_marks_by_2) (f:=fun y=>match y with | .int w=>if chkD g s.top (B * s.start) G w=true then none else some (Re.d (mkn w (least+l))) | _=>none)
      (fun ρ=>∃ a,ρ=mbE s (lI (s.row g)) B least P (least+(l+1)) (.d (.int G)) a) (xs:=(rngL least (least+l)).reverse) (ρ:=mbE s (lI (s.row g)) B least P (least+(l+1)) (.d (.int G)) .un) (fun y hy ρ hρ=>by
        obtain ⟨w,rfl,w1,w2⟩:=rngL_mem (List.mem_reverse.mp hy)
        obtain ⟨a,rfl⟩:=hρ
        refine ⟨_,rfl,?_⟩
        have ec:=e_is_chp h hg hB (x:=w) (G:=G) (by omega) (by omega) hG2
        show (∃ r,(if chkD g s.top (B * s.start) G w=true then none else some (Re.d (mkn w (least+l))))=some r∧l_marks_by_2 (mbE s (lI (s.row g)) B least P (least+(l+1)) (.d (.int G)) (.d (.int w)))=_)∨_∧∃ ρ2,l_marks_by_2 (mbE s (lI (s.row g)) B least P (least+(l+1)) (.d (.int G)) (.d (.int w)))=_∧_
        cases hc:chkD g s.top (B * s.start) G w with
        | true =>
          rw [hc] at ec
          refine .inr ⟨by show (if chkD g s.top (B * s.start) G w=true then none else _)=none; rw [hc]; rfl,_,?_,.d (.int w),rfl⟩
          simp_arith [l_marks_by_2,mbE,ec,Bool.not_true]
        | false =>
          rw [hc] at ec
          refine .inl ⟨_,rfl,?_⟩
          simp_arith [l_marks_by_2,mbE,ec,Bool.not_false,e2]
          rfl) ⟨_,rfl⟩
    have hfind:(rngL least (least+l)).reverse.findSome? (fun y=>match y with | .int w=>if chkD g s.top (B * s.start) G w=true then none else some (Re.d (mkn w (least+l))) | _=>none)=((rangeI 0 l.toNat).reverse.find? (fun k=>!chkD g s.top (B * s.start) G (least+k))).map fun k=>Re.d (mkn (least+k) (least+l)):=by
      have er:rngL least (least+l)=(rangeI 0 l.toNat).map fun k=>PyData.int (least+k):=by
        unfold rngL rangeI
        rw [show (least+l - least).toNat=l.toNat by omega,List.map_map,List.map_map]
        refine List.map_congr_left fun i _=>?_
        show PyData.int (least+(i:Int))=PyData.int (least+(0+(i:Int)))
        congr 1
        omega
      rw [er,← List.map_reverse]
      generalize (rangeI 0 l.toNat).reverse=L
      induction L with
      | nil=>rfl
      | cons k L ih =>
        rw [List.map_cons,List.findSome?_cons]
        cases hc:chkD g s.top (B * s.start) G (least+k) with
        | true =>
          rw [List.find?_cons_of_neg (by simp [hc])]
          simp only [hc,if_true]
          exact ih
        | false =>
          rw [List.find?_cons_of_pos (by simp [hc])]
          simp [hc]
    rw [hfind] at kf
    simp only [mbE] at kf
    subst hP
    cases hfd:(rangeI 0 l.toNat).reverse.find? (fun k=>!chkD g s.top (B * s.start) G (least+k)) with
    | some k =>
      rw [hfd] at kf
      rcases kf with ⟨r,q1,q2⟩ | ⟨q1,_⟩
      · cases q1
        simp only [pairD,hG] at c2
        try simp only [pairD] at q2
        simp_arith [pairD,e0,e2,c2,r1,q2]
        rw [hG,hfd]
      · cases q1
    | none =>
      rw [hfd] at kf
      rcases kf with ⟨r,q1,q2⟩ | ⟨q1,ρ2,q2,a,rfl⟩
      · cases q1
      · simp only [pairD,hG] at c2
        try simp only [pairD] at q2
        have e3:least+(l+1)=least+l+1:=by omega
        simp_arith [pairD,e0,e2,c2,r1,q2]
        rw [e3,hG,hfd]
        rfl
theorem e_marks {s:Shp} (h:s.Ok) {fs:List (List Int)} (hf:∀ l∈fs,DayB l) (hl:fs.length≤6) {t:Nat} {day:List Int} (ht:fs[t]?=some day) {least:Int} (l1:-s.depth≤least) (l2:least≤s.top) :
    m_marks [.d s.d,.d (fD fs),.d (.int t),.d (.int least)]=.ret (.d (mkD (s.sms day (fs.drop (t+1))) s.top ((s.bk (fs.drop (t+1))).2 * day.sum * s.start) least)):=by
  have e1:=e_day_sums h hf hl ht
  have hd:DayB day:=hf day (List.mem_of_getElem? ht)
  obtain ⟨k1,k2⟩:=bk_nb h (fs:=fs.drop (t+1)) fun l hl=>hf l (List.mem_of_mem_drop hl)
  have hlen:(fs.drop (t+1)).length≤6:=by rw [List.length_drop]; omega
  have c1:=sm_nb h hd k1 k2
  have c2:=nb_mul k2 (sum_nbD hd)
  have hpos:0 < (s.bk (fs.drop (t+1))).2 * day.sum:=Int.mul_pos (bk_sc fun l hl=>hf l (List.mem_of_mem_drop hl)) hd.pos
  have e2:=e_marks_by h (g:=s.sms day (fs.drop (t+1))) (fun x x1 x2=>nb_mono (c1 x x1 x2) (by omega)) (nb_mono c2 (by omega)) (Int.le_of_lt hpos) l1 l2
  simp_arith [m_marks,e1,e2]
end My
set_option Elab.async false
set_option linter.all false
set_option maxRecDepth 100000
namespace My
open PySem PySem.Spec PyProof.Rows L2 Tw
theorem cut_from {xs:List PyData} {p:Int} (h0:0≤p) (h1:p≤xs.length):L2.cutD xs (some p) none=xs.drop p.toNat:=by
  unfold L2.cutD
  have e1:HT.sIx xs.length 0 (some p)=p.toNat:=by
    unfold HT.sIx
    simp only
    split <;> omega
  have e2:HT.sIx xs.length xs.length none=xs.length:=rfl
  rw [e1,e2,List.take_of_length_le (by rw [List.length_drop]; exact Nat.le_refl _)]
theorem rangeI_in {lo z:Int} {n:Nat} (h1:lo≤z) (h2:z < lo+n):z∈rangeI lo n:=by
  unfold rangeI
  exact List.mem_map.mpr ⟨(z - lo).toNat,List.mem_range.mpr (by omega),by omega⟩
theorem minL_is {l:List Int} {v:Int} (h1:v∈l) (h2:∀ y∈l,v≤y):minL l=v:=by
  have hne:l≠[]:=fun e=>by rw [e] at h1; cases h1
  obtain ⟨a,b⟩:=minL_spec hne
  have:=h2 _ a
  have:=b _ h1
  omega
end My
set_option Elab.async false
set_option linter.all false
set_option maxRecDepth 100000
namespace My
open PySem PySem.Spec PyProof.Rows L2 Tw
theorem fitS {n:Int} (h1:-1000000≤n) (h2:n≤1000000):fit n=true:=nb_fit (k:=20) (nb_of (by show -1048576 < _; omega) (by show _ < 1048576; omega)) (by decide)
theorem nbS {n:Int} (h1:-20000000≤n) (h2:n≤20000000):nb 45 n:=nb_mono (nb_of (k:=25) (by show -33554432 < _; omega) (by show _ < 33554432; omega)) (by decide)
theorem okOf {s:Shp} (t0:0≤s.top) (d0:0≤s.depth) (td:s.top+s.depth≤100) (s0:0≤s.start) (h:∀ n∈[s.start,s.piece,s.keep,s.lack,s.lost,s.back,s.late],-20000000≤n∧n≤20000000):s.Ok:=by
  refine ⟨t0,d0,td,s0,?_,?_,?_,?_,?_,?_,?_⟩ <;> exact nbS (h _ (by simp)).1 (h _ (by simp)).2
theorem sl_r7 (s:Shp):sl3 s.d (some 7) none=.ret (.tuple [.int s.back,.int s.late]):=by unfold Shp.d; rfl
theorem sl_r3 (s:Shp):sl3 s.d (some 3) none=.ret (.tuple [.int s.piece,.int s.keep,.int s.lack,.int s.lost,.int s.back,.int s.late]):=by unfold Shp.d; rfl
theorem sl_c2 (s:Shp):sl3 s.d none (some 2)=.ret (.tuple [.int s.top,.int s.depth]):=by unfold Shp.d; rfl
theorem cut_init (xs:List PyData):L2.cutD xs none (some (-1))=xs.dropLast:=by
  unfold L2.cutD
  have e1:HT.sIx xs.length 0 none=0:=rfl
  have e2:HT.sIx xs.length xs.length (some (-1))=xs.length - 1:=by
    unfold HT.sIx
    simp only
    split <;> omega
  rw [e1,e2,List.drop_zero,Nat.sub_zero,List.dropLast_eq_take]
theorem sl_init (fs:List (List Int)):sl3 (fD fs) none (some (-1))=.ret (.tuple (fs.dropLast.map tI)):=by
  unfold fD
  show Tr.ret (PyData.tuple (L2.cutD (fs.map tI) none (some (-1))))=_
  rw [cut_init,List.map_dropLast]
theorem add_last {l:List (List Int)} {d:List Int} (h:l.length≤100):bin2 addE (.tuple (l.map tI)) (.tuple [tI d])=.ret (fD (l++[d])):=by
  unfold fD
  rw [List.map_append]
  cases l with
  | nil=>exact ev_addE0
  | cons x l =>
    rw [List.map_cons]
    exact ev_addE1 (small_le (by simp at h ⊢; omega))
structure FB (fs:List (List Int)):Prop where
  B:∀ l∈fs,DayB l
  l0:1≤fs.length
  l1:fs.length≤6
theorem FB.last {fs:List (List Int)} (h:FB fs) {d:List Int} (hd:DayB d):FB (fs.dropLast++[d]):=by
  have:=h.l0
  have:=h.l1
  refine ⟨fun l hl=>?_,by simp,by simp; omega⟩
  rcases List.mem_append.mp hl with z | z
  · exact h.B l ((List.dropLast_sublist _).subset z)
  · simp at z; subst z; exact hd
theorem s_odd {s:Shp} (h:s.Dr):Al (m_law_odd [.pen,.d s.d]) 20 fun r=>∃ s':Shp,r=.d s'.d∧s'.Ok:=by
  have:=h.t0
  have:=h.d0
  have:=h.td
  have r3:rng1 [.int 3]=.ret [.int 0,.int 1,.int 2]:=(ev_rg1 (inR_of (by decide) (by decide))).trans rfl
  have g2:fit 2=true:=fitS (by decide) (by decide)
  have hs3:small 3=true:=small_le (by decide)
  simp_arith [m_law_odd,ev_drw]
  refine al_drw (n:=19) (by decide) (by decide) (by decide) fun u u0 u1=>?_
  have g1:fit (1+u)=true:=fitS (by omega) (by omega)
  simp_arith [ev_drw,g1,g2]
  refine al_drw (n:=18) (by omega) (by omega) (by decide) fun st st0 st1=>?_
  simp_arith [ev_drw,r3,hs3,q_law_odd_1]
  refine al_drw (n:=17) (by decide) (by decide) (by decide) fun a a0 a1=>?_
  try simp_arith [ev_drw]
  refine al_drw (n:=16) (by decide) (by decide) (by decide) fun b b0 b1=>?_
  try simp_arith [ev_drw]
  refine al_drw (n:=15) (by decide) (by decide) (by decide) fun c c0 c1=>?_
  try simp_arith [ev_drw]
  refine al_drw (n:=14) (by decide) (by decide) (by decide) fun d d0 d1=>?_
  simp_arith [ev_drw,sl_r7]
  have hb:=h.p s.back (by simp)
  have hl:=h.p s.late (by simp)
  refine al_ret ⟨⟨minI s.top 7,d,st,a,b,c,1+u,s.back,s.late⟩,by rw [← shp_of],okOf ?_ ?_ ?_ ?_ fun n hn=>?_⟩
  · show 0≤minI s.top 7; unfold minI; split <;> omega
  · show 0≤d; omega
  · show minI s.top 7+d≤100; unfold minI; split <;> omega
  · show 0≤st; omega
  · simp only [List.mem_cons,List.not_mem_nil,or_false] at hn
    omega
end My
set_option Elab.async false
set_option linter.all false
set_option maxRecDepth 100000
namespace My
open PySem PySem.Spec PyProof.Rows L2 Tw
theorem last_len {fs:List (List Int)} (h:FB fs) (d:List Int):(fs.dropLast++[d]).length=fs.length:=by
  have:=h.l0
  rw [List.length_append,List.length_dropLast]
  simp
  omega
noncomputable def fcell (w lo hi k:Int):Int:=w * (if (k == lo || k == hi)=true then 1 else 0)
theorem q_feet {w lo hi k:Int} (hw:fit w=true):q_law_feet_1 [.d (.int k),.d (.int w),.d (.int lo),.d (.int hi)]=.ret (.int (fcell w lo hi k)):=by
  have g0:fit 0=true:=fitS (by decide) (by decide)
  have g1:fit 1=true:=fitS (by decide) (by decide)
  unfold fcell
  cases c1:(k == lo) <;> cases c2:(k == hi) <;> simp_arith [q_law_feet_1,c1,c2,hw,g0,g1,Bool.or_true,Bool.or_false,Bool.false_or,Bool.true_or,if_true,if_false,Bool.false_eq_true]
theorem feet_day {w lo hi:Int} (w0:1≤w) (w1:w≤9) (l0:0≤lo) (lh:lo≤hi) (h1:hi≤7):DayB ((rangeI 0 (hi+1 - 0).toNat).map (fcell w lo hi)):=by
  have hc:∀ k,0≤fcell w lo hi k∧fcell w lo hi k≤9:=fun k=>by
    unfold fcell
    split
    · omega
    · omega
  refine ⟨by rw [List.length_map,rangeI_length]; omega,fun v hv=>?_,fun v hv=>?_,?_⟩
  · obtain ⟨k,_,rfl⟩:=List.mem_map.mp hv
    have:=hc k
    exact nb_of (by show -1073741824 < _; omega) (by show _ < 1073741824; omega)
  · obtain ⟨k,_,rfl⟩:=List.mem_map.mp hv
    exact (hc k).1
  · have hm:fcell w lo hi lo∈(rangeI 0 (hi+1 - 0).toNat).map (fcell w lo hi):=List.mem_map.mpr ⟨lo,rangeI_in l0 (by omega),rfl⟩
    have hs:=sum_ge (ls:=(rangeI 0 (hi+1 - 0).toNat).map (fcell w lo hi)) (fun v hv=>by
      obtain ⟨k,_,rfl⟩:=List.mem_map.mp hv
      exact (hc k).1) _ hm
    have e:fcell w lo hi lo=w:=by
      unfold fcell
      simp
    omega
theorem s_feet {s:Shp} (h:s.Dr) {fs:List (List Int)} (hf:FB fs):Al (m_law_feet [.pen,.d s.d,.d (fD fs)]) 20 fun r=>∃ (s':Shp) (fs':List (List Int)),r=.own [s'.d,fD fs']∧s'.Ok∧FB fs'∧fs'.length=fs.length:=by
  have:=h.t0
  have:=h.d0
  have:=h.td
  have g2:fit 2=true:=fitS (by decide) (by decide)
  simp_arith [m_law_feet,ev_drw]
  refine al_drw (n:=19) (by decide) (by decide) (by decide) fun lo lo0 lo1=>?_
  try simp_arith [ev_drw]
  refine al_drw (n:=18) (by decide) (by decide) (by decide) fun wd wd0 wd1=>?_
  try simp_arith [ev_drw]
  refine al_drw (n:=17) (by decide) (by decide) (by decide) fun pc pc0 pc1=>?_
  try simp_arith [ev_drw]
  refine al_drw (n:=16) (by decide) (by decide) (by decide) fun kp kp0 kp1=>?_
  try simp_arith [ev_drw]
  refine al_drw (n:=15) (by omega) (by omega) (by decide) fun ls ls0 ls1=>?_
  try simp_arith [ev_drw]
  refine al_drw (n:=14) (by decide) (by decide) (by decide) fun lk lk0 lk1=>?_
  have g3:fit (2+pc)=true:=fitS (by omega) (by omega)
  have g5:fit (1+wd)=true:=fitS (by omega) (by omega)
  have g6:fit (2 * (2+pc)+kp - (2+pc+1+ls))=true:=fitS (by omega) (by omega)
  simp_arith [ev_drw,g2,g3,g5,g6]
  refine al_drw (n:=13) (by decide) (by decide) (by decide) fun w w0 w1=>?_
  have gw:fit (1+w)=true:=fitS (by omega) (by omega)
  have r1:rng1 [.int (lo+1+(1+wd)+1)]=.ret (rngL 0 (lo+1+(1+wd)+1)):=ev_rg1 (inR_of (by omega) (by omega))
  have hs1:small (rngL 0 (lo+1+(1+wd)+1)).length=true:=small_le (by unfold rngL; rw [List.length_map,rangeI_length]; omega)
  have e1:mapT (lc2 (gSet 0) q_law_feet_1 [.un,.d (.int (1+w)),.d (.int lo),.d (.int (lo+1+(1+wd)))]) (rngL 0 (lo+1+(1+wd)+1))=.ret (((rangeI 0 (lo+1+(1+wd)+1 - 0).toNat).map (fcell (1+w) lo (lo+1+(1+wd)))).map PyData.int):=by
    rw [List.map_map]
    refine mapT_rng fun z z0 z1=>?_
    have:=q_feet (w:=1+w) (lo:=lo) (hi:=lo+1+(1+wd)) (k:=z) gw
    simp_arith [this]
    rfl
  have hd:=feet_day (w:=1+w) (lo:=lo) (hi:=lo+1+(1+wd)) (by omega) (by omega) lo0 (by omega) (by omega)
  have hfl:=hf.last hd
  have hl6:=hf.l1
  generalize hday:(rangeI 0 (lo+1+(1+wd)+1 - 0).toNat).map (fcell (1+w) lo (lo+1+(1+wd)))=day at *
  have ea:bin2 addE (.tuple (fs.dropLast.map tI)) (.tuple [.tuple (day.map PyData.int)])=.ret (fD (fs.dropLast++[day])):=add_last (l:=fs.dropLast) (d:=day) (by rw [List.length_dropLast]; omega)
  have et:cb1 tupD [.list (day.map PyData.int)]=.ret (tI day):=rfl
  have hs2:small 2=true:=small_le (by decide)
  have hll:=last_len hf day
  have hmx:0≤maxI (lo+1+(1+wd)) (minI 7 s.top)∧maxI (lo+1+(1+wd)) (minI 7 s.top)≤7:=by unfold maxI minI; split <;> split <;> omega
  simp_arith [ev_drw,r1,hs1,e1,et,sl_init,ea,hs2]
  have hmul:(1+wd) * (2 * (2+pc)+kp - (2+pc+1+ls))≤1000∧-1000≤(1+wd) * (2 * (2+pc)+kp - (2+pc+1+ls)):=by
    have a:(1+wd) * (2 * (2+pc)+kp - (2+pc+1+ls))≤(1+wd) * 30:=Int.mul_le_mul_of_nonneg_left (by omega) (by omega)
    have b:(1+wd) * (-30)≤(1+wd) * (2 * (2+pc)+kp - (2+pc+1+ls)):=Int.mul_le_mul_of_nonneg_left (by omega) (by omega)
    omega
  refine al_ret ⟨⟨maxI (lo+1+(1+wd)) (minI 7 s.top),1,0,2+pc,kp,lk,2+pc+1+ls,0,2 * (2+pc)+kp+(1+wd) * (2 * (2+pc)+kp - (2+pc+1+ls)) - lk⟩,fs.dropLast++[day],by rw [← shp_of],okOf ?_ ?_ ?_ ?_ fun n hn=>?_,hfl,hll⟩
  · exact hmx.1
  · show (0:Int)≤1; decide
  · have:=hmx.2
    show maxI (lo+1+(1+wd)) (minI 7 s.top)+1≤100
    omega
  · show (0:Int)≤0; decide
  · simp only [List.mem_cons,List.not_mem_nil,or_false] at hn
    rcases hn with rfl | rfl | rfl | rfl | rfl | rfl | rfl <;> omega
end My
set_option Elab.async false
set_option linter.all false
set_option maxRecDepth 100000
namespace My
open PySem PySem.Spec PyProof.Rows L2 Tw
theorem ws_rep (f:Int→Int) (w:Int):∀ (k j:Nat),ws f j (List.replicate k 0++[w])=w * f ((j+k:Nat):Int)
  | 0,j=>by
    show w * f (j:Int)+0=_
    rw [Int.add_zero]
    rfl
  | k+1,j=>by
    rw [List.replicate_succ,List.cons_append]
    show 0 * f (j:Int)+ws f (j+1) (List.replicate k 0++[w])=_
    rw [ws_rep f w k (j+1),Int.zero_mul,Int.zero_add,show j+1+k=j+(k+1) by omega]
theorem sum_rep (w:Int):∀ k:Nat,(List.replicate k (0:Int)++[w]).sum=w
  | 0=>by simp
  | k+1=>by rw [List.replicate_succ,List.cons_append,List.sum_cons,sum_rep w k,Int.zero_add]
theorem hump_day {k:Nat} {w:Int} (hk:k≤8) (w0:1≤w) (w1:w≤9):DayB (List.replicate k 0++[w]):=by
  have hc:∀ v∈List.replicate k 0++[w],0≤v∧v≤9:=fun v hv=>by
    rcases List.mem_append.mp hv with z | z
    · have:=List.eq_of_mem_replicate z
      omega
    · simp at z
      omega
  refine ⟨by simp; omega,fun v hv=>?_,fun v hv=>(hc v hv).1,by rw [sum_rep]; omega⟩
  have:=hc v hv
  exact nb_of (by show -1073741824 < _; omega) (by show _ < 1073741824; omega)
theorem hump_nb {s:Shp} (t0:0≤s.top) (t1:s.top≤7) (d0:0≤s.depth) (d1:s.depth≤3) (hp:∀ n∈[s.piece,s.keep,s.lack,s.lost,s.back,s.late],0≤n∧n≤60) {k:Nat} (hk:k≤8) {w:Int} (w0:1≤w) (w1:w≤9) {x:Int} (x1:-s.depth≤x) (x2:x≤s.top) :
    nb 24 (s.sms (List.replicate k 0++[w]) [] x):=by
  have n6:∀ n∈[s.piece,s.keep,s.lack,s.lost,s.back,s.late],nb 6 n:=fun n hn=>by
    have:=hp n hn
    exact nb_of (by show -64 < _; omega) (by show _ < 64; omega)
  have hx:nb 4 x:=nb_of (by show -16 < _; omega) (by show _ < 16; omega)
  have hw:nb 4 w:=nb_of (by show -16 < _; omega) (by show _ < 16; omega)
  have ho:nb 1 (1:Int):=nb_of (by show -2 < _; omega) (by show _ < 2; omega)
  have hfk:nb 4 ((0+k:Nat):Int):=nb_of (by show -16 < _; omega) (by show _ < 16; omega)
  have hd:nb 4 s.depth:=nb_of (by show -16 < _; omega) (by show _ < 16; omega)
  have hn:nb 5 (s.nx x ((0+k:Nat):Int)):=by
    unfold Shp.nx maxI
    exact nb_ite (nb_mono (nb_neg hd) (by decide)) (nb_mono (nb_sub hx hfk) (by decide))
  have c1:nb 15 (s.day x ((0+k:Nat):Int)):=by
    unfold Shp.day
    exact nb_mono (nb_add (nb_ite (k:=11) (nb_mul (n6 s.keep (by simp)) hn) (nb_mul (n6 s.lack (by simp)) (nb_neg hn))) (nb_mul (n6 s.lost (by simp)) (nb_sub hn (nb_sub hx hfk)))) (by decide)
  have c2:nb 11 (s.fin (s.nx x ((0+k:Nat):Int))):=by
    unfold Shp.fin
    exact nb_ite (nb_mul (nb_neg (n6 s.back (by simp))) hn) (nb_mul (n6 s.late (by simp)) (nb_neg hn))
  unfold Shp.sms Shp.bk Shp.sm Shp.wg
  rw [ws_rep,sum_rep]
  exact nb_mono (nb_add (nb_mul (nb_mul (nb_mul ho hw) (n6 s.piece (by simp))) hx) (nb_mul hw (nb_add (nb_mul ho c1) c2))) (by decide)
theorem fdiv_nb {a b:Int} {k:Nat} (hb:0 < b) (ha:nb k a):nb k (a.fdiv b):=by
  rw [Int.fdiv_eq_ediv_of_nonneg _ (Int.le_of_lt hb)]
  unfold nb at *
  exact Nat.lt_of_le_of_lt (Int.natAbs_ediv_le_natAbs a b) ha
theorem rep_zero {n:Int} (h0:0≤n) (h1:n≤1000):bin2 repD (.tuple [.int 0]) (.int n)=.ret (.tuple ((List.replicate n.toNat (0:Int)).map PyData.int)):=by
  rw [ev_rep (by simp; omega)]
  congr 2
  generalize n.toNat=k
  induction k with
  | zero=>rfl
  | succ k ih=>rw [List.replicate_succ,List.flatten_cons,ih,List.replicate_succ]; rfl
theorem add_zero' {k:Nat} {w:Int} (h0:1≤k) (h1:k≤100):bin2 addD (.tuple ((List.replicate k (0:Int)).map PyData.int)) (.tuple [.int w])=.ret (tI (List.replicate k 0++[w])):=by
  rw [ev_addT (by cases k with | zero=>omega | succ k=>rfl) (small_le (by simp; omega))]
  unfold tI
  rw [List.map_append]
  rfl
noncomputable def dr (s:Shp) (g:Int→Int) (B z:Int):Int:=(g (z - s.depth) - minL ((rangeI (z - s.depth+1) (s.top - (z - s.depth)).toNat).map g)).fdiv B
theorem tail_ne {s:Shp} {g:Int→Int} {x:Int} (h:x < s.top):(rangeI (x+1) (s.top - x).toNat).map g≠[]:=by
  intro z
  have:=congrArg List.length z
  rw [List.length_map,rangeI_length] at this
  simp at this
  omega
theorem dr_nb {s:Shp} {g:Int→Int} {B:Int} (hg:Bd s 24 g) (hB:0 < B) {z:Int} (z0:0≤z) (z1:z < s.top+s.depth):nb 25 (dr s g B z):=by
  unfold dr
  obtain ⟨m,_⟩:=minL_spec (tail_ne (s:=s) (g:=g) (x:=z - s.depth) (by omega))
  obtain ⟨y,hy,ey⟩:=List.mem_map.mp m
  have hy':=rangeI_mem hy
  rw [← ey]
  exact fdiv_nb hB (nb_mono (nb_sub (hg _ (by omega) (by omega)) (hg y (by omega) (by omega))) (by decide))
theorem q_hump {s:Shp} {g:Int→Int} {B:Int} (hB:0 < B) (hBf:fit B=true) {z:Int} (z0:0≤z) (z1:z < s.top+s.depth):q_law_hump_1 [.d (.int z),.d (.int B),.d (lI (s.row g))]=.ret (.int (dr s g B z)):=by
  have a1:=row_atI (s:=s) (f:=g) (x:=z - s.depth) (by omega) (by omega)
  have a2:=row_tail (s:=s) (g:=g) (x:=z - s.depth) (by omega) (by omega)
  rw [show z - s.depth+s.depth=z by omega] at a1 a2
  have m1:=min1_of _ (tail_ne (s:=s) (g:=g) (x:=z - s.depth) (by omega))
  unfold dr
  simp_arith [q_law_hump_1,lI,a1,a2,m1,ev_fdiv (Int.ne_of_gt hB) hBf]
theorem drop_ints (D:List Int) {z:Int} (z0:0≤z) (z1:z < D.length):L2.cutD (D.map PyData.int) (some z) none=(D.drop z.toNat).map PyData.int:=by
  rw [cut_from z0 (by rw [List.length_map]; omega),← List.map_drop]
theorem p_hump {D:List Int} {f:Int→Int} {z:Int} (z0:0≤z) (z1:z < D.length) (hz:atI (D.map PyData.int) z=some (.int (f z))) :
    ∃ b:Bool,(b=true→0≤f z)∧lci2 (gSet 0) p_law_hump_1 q_law_hump_2 [.un,.d (.list (D.map PyData.int))] (.int z)=.ret (if b=true then some (.int (f z)) else none):=by
  have hd:=drop_ints D z0 z1
  have hne:D.drop z.toNat≠[]:=fun e=>by
    have:=congrArg List.length e
    rw [List.length_drop] at this
    simp at this
    omega
  have m1:=max1_of _ hne
  by_cases c1:0≤f z
  · by_cases c2:f z < maxL (D.drop z.toNat)
    · refine ⟨true,fun _=>c1,?_⟩
      simp_arith [p_law_hump_1,q_law_hump_2,hz,hd,m1,decide_eq_true c1,decide_eq_true c2,if_true]
    · refine ⟨false,fun z=>(by cases z),?_⟩
      simp_arith [p_law_hump_1,q_law_hump_2,hz,hd,m1,decide_eq_true c1,decide_eq_false c2]
      rfl
  · refine ⟨false,fun z=>(by cases z),?_⟩
    simp_arith [p_law_hump_1,q_law_hump_2,hz,hd,m1,decide_eq_false c1]
    rfl
end My
set_option Elab.async false
set_option linter.all false
set_option maxRecDepth 100000
namespace My
open PySem PySem.Spec PyProof.Rows L2 Tw
theorem mapO_of {h:PyData→Tr (Option PyData)} {f:Int→Int} {lo hi:Int} {P:Int→Prop} (hx:∀ z,lo≤z→z < hi→∃ b:Bool,(b=true→P (f z))∧h (.int z)=.ret (if b=true then some (.int (f z)) else none)) :
    ∃ S:List Int,mapO h (rngL lo hi)=.ret (S.map PyData.int)∧S.length≤(hi - lo).toNat∧∀ v∈S,P v∧∃ z,lo≤z∧z < hi∧v=f z:=by
  have key:∀ l:List Int,(∀ z∈l,lo≤z∧z < hi)→∃ S:List Int,mapO h (l.map PyData.int)=.ret (S.map PyData.int)∧S.length≤l.length∧∀ v∈S,P v∧∃ z,lo≤z∧z < hi∧v=f z:=by
    intro l
    induction l with
    | nil=>intro _; exact ⟨[],rfl,Nat.le_refl _,fun v hv=>by cases hv⟩
    | cons z l ih =>
      intro hz
      have hh:=hz z (by simp)
      obtain ⟨b,hb,e⟩:=hx z hh.1 hh.2
      obtain ⟨S,e2,hl,hS⟩:=ih fun y hy=>hz y (List.mem_cons_of_mem _ hy)
      rw [List.map_cons,mapO,e,Tr.ret_bind,e2,Tr.ret_bind]
      cases b with
      | true =>
        refine ⟨f z::S,rfl,by simp; omega,fun v hv=>?_⟩
        rcases List.mem_cons.mp hv with rfl | hv
        · exact ⟨hb rfl,z,hh.1,hh.2,rfl⟩
        · exact hS v hv
      | false=>exact ⟨S,rfl,by simp; omega,hS⟩
  unfold rngL
  obtain ⟨S,a,b,c⟩:=key (rangeI lo (hi - lo).toNat) fun z hz=>by
    have:=rangeI_mem hz
    omega
  exact ⟨S,a,by rw [rangeI_length] at b; exact b,c⟩
theorem hump2 {s:Shp} (t0:2≤s.top) (t1:s.top≤7) (d0:1≤s.depth) (d1:s.depth≤3) (hs0:s.start=0) (hp:∀ n∈[s.piece,s.keep,s.lack,s.lost,s.back,s.late],0≤n∧n≤60) {k:Nat} (hk:k≤8) {w:Int} (w0:1≤w) (w1:w≤9) :
    ∃ (D S:List Int) (B:Int),atI (rowsOf s [List.replicate k 0++[w]]) 0=some (.tuple [lI (s.row (s.sms (List.replicate k 0++[w]) [])),.int B]) ∧
      mapT (lc2 (gSet 0) q_law_hump_1 [.un,.d (.int B),.d (lI (s.row (s.sms (List.replicate k 0++[w]) [])))]) (rngL 0 (s.top+s.depth))=.ret (D.map PyData.int)∧D.length=(s.top+s.depth).toNat∧(∀ v∈D,nb 25 v) ∧
      mapO (lci2 (gSet 0) p_law_hump_1 q_law_hump_2 [.un,.d (.list (D.map PyData.int))]) (rngL 0 (s.top+s.depth))=.ret (S.map PyData.int)∧S.length≤100∧∀ v∈S,0≤v∧nb 25 v:=by
  have hB:(0:Int) < 1 * (List.replicate k (0:Int)++[w]).sum:=by rw [sum_rep]; omega
  have hBf:fit (1 * (List.replicate k (0:Int)++[w]).sum)=true:=fitS (by rw [sum_rep]; omega) (by rw [sum_rep]; omega)
  have hg:Bd s 24 (s.sms (List.replicate k 0++[w]) []):=fun x x1 x2=>hump_nb (by omega) t1 (by omega) d1 hp hk w0 w1 x1 x2
  have hD:∀ z,0≤z→z < s.top+s.depth→atI (((rangeI 0 (s.top+s.depth - 0).toNat).map (dr s (s.sms (List.replicate k 0++[w]) []) (1 * (List.replicate k (0:Int)++[w]).sum))).map PyData.int) z=some (.int (dr s (s.sms (List.replicate k 0++[w]) []) (1 * (List.replicate k (0:Int)++[w]).sum) z)):=fun z z0 z1=>by
    refine atI_ge z0 ?_
    unfold rangeI
    rw [List.map_map,List.map_map,List.getElem?_map,List.getElem?_range (by omega)]
    show some (PyData.int (dr _ _ _ (0+(z.toNat:Int))))=_
    congr 3
    omega
  have hlen:((rangeI 0 (s.top+s.depth - 0).toNat).map (dr s (s.sms (List.replicate k 0++[w]) []) (1 * (List.replicate k (0:Int)++[w]).sum))).length=(s.top+s.depth).toNat:=by rw [List.length_map,rangeI_length]; omega
  obtain ⟨S,e1,e2,e3⟩:=mapO_of (h:=lci2 (gSet 0) p_law_hump_1 q_law_hump_2 [.un,.d (.list (((rangeI 0 (s.top+s.depth - 0).toNat).map (dr s (s.sms (List.replicate k 0++[w]) []) (1 * (List.replicate k (0:Int)++[w]).sum))).map PyData.int))]) (P:=fun v=>0≤v) (lo:=0) (hi:=s.top+s.depth) fun z z0 z1=>p_hump (f:=dr s (s.sms (List.replicate k 0++[w]) []) (1 * (List.replicate k (0:Int)++[w]).sum)) z0 (by rw [hlen]; omega) (hD z z0 z1)
  refine ⟨_,S,1 * (List.replicate k (0:Int)++[w]).sum,rfl,?_,hlen,fun v hv=>?_,e1,by omega,fun v hv=>?_⟩
  · rw [List.map_map]
    refine mapT_rng fun z z0 z1=>?_
    have:=q_hump (s:=s) (g:=s.sms (List.replicate k 0++[w]) []) hB hBf z0 z1
    simp_arith [this]
    rfl
  · obtain ⟨z,hz,rfl⟩:=List.mem_map.mp hv
    have:=rangeI_mem hz
    exact dr_nb hg hB (by omega) (by omega)
  · obtain ⟨h1,z,z0,z1,rfl⟩:=e3 v hv
    exact ⟨h1,dr_nb hg hB z0 z1⟩
theorem rows_last {s:Shp}:∀ (l:List (List Int)) (d:List Int),atI (rowsOf s (l++[d])) (-1)=atI (rowsOf s [d]) 0:=fun l d=>by
  have e1:(rowsOf s (l++[d]))[(rowsOf s (l++[d])).length - 1]?=(rowsOf s [d])[0]?:=by
    rw [rows_len]
    have ht:(l++[d])[(l++[d]).length - 1]?=some d:=by simp
    have:=rows_at s ht
    rw [this]
    have ed:(l++[d]).drop ((l++[d]).length - 1+1)=[]:=by
      rw [List.drop_eq_nil_iff]
      simp
    rw [ed]
    rfl
  have e2:(rowsOf s [d])[0]?=some (.tuple [lI (s.row (s.sms d [])),.int ((s.bk []).2 * d.sum)]):=rfl
  rw [at_last (e1.trans e2)]
  rfl
theorem s_hump {s:Shp} (h:s.Dr) {fs:List (List Int)} (hf:FB fs):Al (m_law_hump [.pen,.d s.d,.d (fD fs)]) 30 fun r=>∃ (s':Shp) (fs':List (List Int)),r=.own [s'.d,fD fs']∧s'.Ok∧FB fs'∧fs'.length=fs.length:=by
  have:=h.t0
  have:=h.d0
  have:=h.td
  simp_arith [m_law_hump,ev_drw]
  refine al_drw (n:=29) (by decide) (by decide) (by decide) fun u u0 u1=>?_
  try simp_arith [ev_drw]
  refine al_drw (n:=28) (by decide) (by decide) (by decide) fun l l0 l1=>?_
  try simp_arith [ev_drw]
  refine al_drw (n:=27) (by decide) (by decide) (by decide) fun pc pc0 pc1=>?_
  try simp_arith [ev_drw]
  refine al_drw (n:=26) (by decide) (by decide) (by decide) fun kp kp0 kp1=>?_
  try simp_arith [ev_drw]
  refine al_drw (n:=25) (by decide) (by decide) (by decide) fun lk lk0 lk1=>?_
  try simp_arith [ev_drw]
  refine al_drw (n:=24) (by decide) (by decide) (by decide) fun bk bk0 bk1=>?_
  try simp_arith [ev_drw]
  refine al_drw (n:=23) (by decide) (by decide) (by decide) fun lt lt0 lt1=>?_
  have hmn:2≤minI 3 (2+u)∧minI 3 (2+u)≤3:=by unfold minI; split <;> omega
  have hmx:2≤maxI (2+u) (minI 7 s.top)∧maxI (2+u) (minI 7 s.top)≤7:=by unfold maxI minI; split <;> split <;> omega
  try simp_arith [ev_drw]
  refine al_drw (n:=22) (by omega) (by omega) (by decide) fun dp dp0 dp1=>?_
  have hr:=rep_zero (n:=2+u) (by omega) (by omega)
  simp_arith [ev_drw,hr,sl_init]
  refine al_drw (n:=21) (by decide) (by decide) (by decide) fun w w0 w1=>?_
  have ha:=add_zero' (k:=(2+u).toNat) (w:=1+w) (by omega) (by omega)
  generalize hkk:(2+u).toNat=k at *
  have hk8:k≤8:=by omega
  have hd:=hump_day (k:=k) (w:=1+w) hk8 (by omega) (by omega)
  have hfl:=hf.last hd
  have hl6:=hf.l1
  have ea:=add_last (l:=fs.dropLast) (d:=List.replicate k 0++[1+w]) (by rw [List.length_dropLast]; omega)
  simp_arith [ev_drw,ha,ea,shp_of]
  generalize hS:(⟨maxI (2+u) (minI 7 s.top),1+dp,0,l+1+pc,kp,lk,l,bk,l+1+pc+lt⟩:Shp)=S1 at *
  have q1:S1.top=maxI (2+u) (minI 7 s.top):=by rw [← hS]
  have q2:S1.depth=1+dp:=by rw [← hS]
  have q3:S1.start=0:=by rw [← hS]
  have q4:∀ n∈[S1.piece,S1.keep,S1.lack,S1.lost,S1.back,S1.late],0≤n∧n≤60:=by
    rw [← hS]
    intro n hn
    simp only [List.mem_cons,List.not_mem_nil,or_false] at hn
    omega
  have hok:S1.Ok:=okOf (by omega) (by omega) (by omega) (by omega) fun n hn=>by
    rcases List.mem_cons.mp hn with rfl | hn
    · omega
    · have:=q4 n hn
      omega
  obtain ⟨D,T,B,b1,b2,b3,b4,b5,b6,b7⟩:=hump2 (s:=S1) (by omega) (by omega) (by omega) (by omega) q3 q4 hk8 (w:=1+w) (by omega) (by omega)
  have es:=e_law_sums hok hfl.B hfl.l1
  have el:=rows_last (s:=S1) fs.dropLast (List.replicate k 0++[1+w])
  rw [b1] at el
  have hn:=hok.n_eq
  have hrl:((S1.row (S1.sms (List.replicate k 0++[1+w]) [])).length:Int) - 1=S1.top+S1.depth:=by rw [row_len]; omega
  have r1:rng1 [.int (S1.top+S1.depth)]=.ret (rngL 0 (S1.top+S1.depth)):=ev_rg1 (inR_of (by omega) (by omega))
  have hs1:small (rngL 0 (S1.top+S1.depth)).length=true:=small_le (by unfold rngL; rw [List.length_map,rangeI_length]; omega)
  have hDl:((D.map PyData.int).length:Int)=S1.top+S1.depth:=by rw [List.length_map,b3]; omega
  have hDne:D≠[]:=fun e=>by rw [e] at b3; simp at b3; omega
  have mD:=max1_of D hDne
  have hs2:small ((T.map PyData.int).length+[PyData.int (maxI 0 (maxL D))].length)=true:=small_le (by rw [List.length_map]; simp; omega)
  have hmax:0≤maxI 0 (maxL D)∧maxI 0 (maxL D)≤33554432:=by
    have:=b4 _ (maxL_spec hDne).1
    unfold nb at this
    have:(maxL D).natAbs < 33554432:=this
    unfold maxI
    split <;> omega
  simp_arith [ev_drw,es,el,len_lI,hrl,r1,hs1,b2,hDl,b5,mD,ev_addL hs2]
  refine al_drw (n:=20) (by unfold maxI; split <;> omega) (by rw [List.length_map]; unfold maxI; split <;> omega) (by decide) fun r r0 r1'=>?_
  obtain ⟨st,hst,st0,st1⟩:=pickI (xs:=T.map PyData.int++[PyData.int (maxI 0 (maxL D))]) (lo:=0) (hi:=33554432) (r:=r) (fun x hx=>by
    rcases List.mem_append.mp hx with z | z
    · obtain ⟨v,hv,rfl⟩:=List.mem_map.mp z
      have:=b7 v hv
      have h2:v.natAbs < 33554432:=this.2
      exact ⟨v,rfl,by omega,by omega⟩
    · simp at z
      subst z
      exact ⟨_,rfl,by omega,by omega⟩) r0 (by
    rw [List.length_map] at r1'
    rw [List.length_append,List.length_map]
    unfold maxI at r1'
    simp
    split at r1' <;> omega)
  have hs9:small 2=true:=small_le (by decide)
  simp_arith [ev_drw,hst,sl_c2,sl_r3,shp_of]
  refine al_ret ⟨⟨S1.top,S1.depth,st,S1.piece,S1.keep,S1.lack,S1.lost,S1.back,S1.late⟩,fs.dropLast++[List.replicate k 0++[1+w]],rfl,?_,hfl,last_len hf _⟩
  have e1:=hok
  exact ⟨e1.t0,e1.d0,e1.td,st0,nb_mono (show nb 26 st from nb_of (by show -67108864 < st; omega) (by show st < 67108864; omega)) (by decide),e1.piece,e1.keep,e1.lack,e1.lost,e1.back,e1.late⟩
end My
set_option Elab.async false
set_option linter.all false
set_option maxRecDepth 100000
namespace My
open PySem PySem.Spec PyProof.Rows L2 Tw
noncomputable def cs (g:Int→Int) (K x y:Int):Int:=if x < y then g y+K else g y
theorem cs_le {g:Int→Int} {top K x y:Int} (hx:x≤y) (hy:y≤top):(pck g top K x).1≤cs g K x y:=by
  obtain ⟨h1,h2⟩:=pck_le (g:=g) (K:=K) (x:=x) (top:=top) (Int.le_trans hx hy)
  unfold cs
  by_cases c:x < y
  · rw [if_pos c,Int.add_comm]
    exact h2 y c hy
  · rw [if_neg c,Int.le_antisymm (Int.not_lt.mp c) hx]
    exact h1
theorem row_at' {g:Int→Int} {least:Int} {n:Nat} {l:Int} (l0:0≤l) (l1:l < n):atI (((rangeI least n).map g).map PyData.int) l=some (.int (g (least+l))):=by
  refine atI_ge l0 ?_
  obtain ⟨k,rfl⟩:=Int.eq_ofNat_of_zero_le l0
  unfold rangeI
  rw [List.map_map,List.map_map,List.getElem?_map,Int.toNat_natCast,List.getElem?_range (Int.ofNat_lt.mp l1)]
  rfl
theorem row_ln {g:Int→Int} {least:Int} {n:Nat}:(((rangeI least n).map g).map PyData.int).length=n:=by rw [List.length_map,List.length_map,rangeI_length]
theorem e_cost {g:Int→Int} {least K:Int} {n:Nat} (hK:fit K=true) {p l:Int} (l0:0≤l) (l1:l < n) :
    m_law_cost [.d (.list (((rangeI least n).map g).map PyData.int)),.d (.int K),.d (.int p),.d (.int l)]=.ret (.d (.int (cs g K (least+p) (least+l)))):=by
  have a1:=row_at' (g:=g) (least:=least) l0 l1
  have g0:fit 0=true:=fitS (by decide) (by decide)
  have g1:fit 1=true:=fitS (by decide) (by decide)
  unfold cs
  by_cases c:l > p
  · rw [if_pos (Int.add_lt_add_left c least)]
    simp_arith [m_law_cost,a1,decide_eq_true c,hK,g0,g1,if_true,Int.mul_one]
  · rw [if_neg (fun z=>c (Int.lt_of_add_lt_add_left z))]
    simp_arith [m_law_cost,a1,decide_eq_false c,hK,g0,g1,if_false,Bool.false_eq_true,Int.mul_zero,Int.add_zero]
theorem e_best {g:Int→Int} {least K top:Int} {n:Nat} (hn:n≤200) (ht:top=least+n - 1) (hK:fit K=true) {p:Int} (p0:0≤p) (p1:p < n) :
    m_law_best [.d (.list (((rangeI least n).map g).map PyData.int)),.d (.int K),.d (.int p)]=.ret (.d (.int (pck g top K (least+p)).1)):=by
  have r1:rng2 [.int p,.int ((((rangeI least n).map g).map PyData.int).length:Int)]=.ret (rngL p n):=by
    rw [row_ln]
    exact ev_rg2 (inR_of (by omega) (by omega)) (inR_of (by omega) (by omega))
  have hs1:small (rngL p n).length=true:=small_le (by rw [rngL_len]; omega)
  have e1:mapT (lc2 (gSet 0) q_law_best_1 [.un,.d (.list (((rangeI least n).map g).map PyData.int)),.d (.int K),.d (.int p)]) (rngL p n)=.ret (((rangeI p ((n:Int) - p).toNat).map fun l=>cs g K (least+p) (least+l)).map PyData.int):=by
    refine (mapT_rng (f:=fun l=>.int (cs g K (least+p) (least+l))) fun z z0 z1=>?_).trans (by rw [List.map_map (g:=PyData.int) (f:=fun l=>cs g K (least+p) (least+l))]; rfl)
    have:=e_cost (g:=g) (least:=least) hK (p:=p) (l:=z) (Int.le_trans p0 z0) z1
    simp_arith [q_law_best_1,this]
  have hin:(pck g top K (least+p)).1∈(rangeI p ((n:Int) - p).toNat).map fun l=>cs g K (least+p) (least+l):=by
    obtain ⟨q1,q2,q3⟩:=pck_is (g:=g) (K:=K) (x:=least+p) (top:=top) (by omega)
    refine List.mem_map.mpr ⟨(pck g top K (least+p)).2 - least,rangeI_in (by omega) (by omega),?_⟩
    rw [Int.add_comm least ((pck g top K (least+p)).2 - least),Int.sub_add_cancel]
    unfold cs
    rcases q3 with ⟨a,b⟩ | ⟨a,b,_⟩
    · rw [a,if_neg (Int.lt_irrefl _),b]
    · rw [if_pos a,b,Int.add_comm]
  have hm:minL ((rangeI p ((n:Int) - p).toNat).map fun l=>cs g K (least+p) (least+l))=(pck g top K (least+p)).1:=by
    refine minL_is hin fun y hy=>?_
    obtain ⟨l,hl,rfl⟩:=List.mem_map.mp hy
    have:=rangeI_mem hl
    exact cs_le (by omega) (by omega)
  have m1:=min1_of _ (List.ne_nil_of_mem hin)
  rw [hm] at m1
  simp_arith [m_law_best,r1,hs1,e1,m1]
noncomputable def pI:PyData→Int
  | .int n=>n
  | _=>0
noncomputable def lev (L G p:Int):Int:=if p < L then maxI p G else p
noncomputable def rg1 (g:Int→Int) (top K least L G p:Int):Bool:=decide (¬ cs g K (least+p) (least+lev L G p) > (pck g top K (least+p)).1)
noncomputable def rgt (g:Int→Int) (top K least:Int) (n:Nat) (L G:Int):Bool:=(rangeI 0 n).all (rg1 g top K least L G)
theorem find_all {q:Int→Bool} {r:Re} (l:List Int):(l.map PyData.int).findSome? (fun y=>if q (pI y)=true then none else some r)=if l.all q=true then none else some r:=by
  induction l with
  | nil=>rfl
  | cons x l ih =>
    rw [List.map_cons,List.findSome?_cons,List.all_cons]
    have e:pI (PyData.int x)=x:=rfl
    rw [e]
    cases h:q x with
    | true=>exact ih
    | false=>rfl
theorem e_are {g:Int→Int} {least K top:Int} {n:Nat} (hn:n≤200) (ht:top=least+n - 1) (hK:fit K=true) {L G:Int} (G0:0≤G) (G1:G < n) :
    m_law_are_right [.d (.list (((rangeI least n).map g).map PyData.int)),.d (.int K),.d (.int L),.d (.int G)]=.ret (.d (.bool (rgt g top K least n L G))):=by
  have r1:rng1 [.int ((((rangeI least n).map g).map PyData.int).length:Int)]=.ret (rngL 0 n):=by
    rw [row_ln]
    exact ev_rg1 (inR_of (by omega) (by omega))
  have kf:=for_find (g:=gSet 4) (s:=l_law_are_right_1) (f:=fun y=>if rg1 g top K least L G (pI y)=true then none else some (Re.d (.bool false)))
    (fun ρ=>∃ a b,ρ=[.d (.list (((rangeI least n).map g).map PyData.int)),.d (.int K),.d (.int L),.d (.int G),a,b]) (xs:=rngL 0 n) (ρ:=[.d (.list (((rangeI least n).map g).map PyData.int)),.d (.int K),.d (.int L),.d (.int G),.un,.un]) (fun y hy ρ hρ=>by
      obtain ⟨p,rfl,p0,p1⟩:=rngL_mem hy
      obtain ⟨a,b,rfl⟩:=hρ
      refine ⟨_,rfl,?_⟩
      have hv:0≤lev L G p∧lev L G p < n:=by
        unfold lev maxI
        split
        · split <;> omega
        · exact ⟨p0,p1⟩
      have eb:=e_best (g:=g) hn ht hK p0 p1
      have ec:=e_cost (g:=g) (least:=least) hK (p:=p) hv.1 hv.2
      show (∃ r,(if rg1 g top K least L G p=true then none else some (Re.d (.bool false)))=some r∧l_law_are_right_1 [.d (.list (((rangeI least n).map g).map PyData.int)),.d (.int K),.d (.int L),.d (.int G),.d (.int p),b]=_)∨_∧∃ ρ2,l_law_are_right_1 [.d (.list (((rangeI least n).map g).map PyData.int)),.d (.int K),.d (.int L),.d (.int G),.d (.int p),b]=_∧_
      unfold rg1
      unfold lev at *
      by_cases d:cs g K (least+p) (least+if p < L then maxI p G else p) > (pck g top K (least+p)).1
      · refine .inl ⟨_,by rw [if_neg (by simp [d])],?_⟩
        by_cases c:p < L
        · simp only [if_pos c] at d ec
          simp_arith [l_law_are_right_1,decide_eq_true c,ec,eb,decide_eq_true d]
        · simp only [if_neg c] at d ec
          simp_arith [l_law_are_right_1,decide_eq_false c,ec,eb,decide_eq_true d]
      · refine .inr ⟨if_pos (decide_eq_true d),?_⟩
        by_cases c:p < L
        · simp only [if_pos c] at d ec
          refine ⟨_,?_,.d (.int p),.d (.int (maxI p G)),rfl⟩
          simp_arith [l_law_are_right_1,decide_eq_true c,ec,eb,decide_eq_false d]
        · simp only [if_neg c] at d ec
          refine ⟨_,?_,.d (.int p),.d (.int p),rfl⟩
          simp_arith [l_law_are_right_1,decide_eq_false c,ec,eb,decide_eq_false d]) ⟨_,_,rfl⟩
  have ef:(rngL 0 (n:Int)).findSome? (fun y=>if rg1 g top K least L G (pI y)=true then none else some (Re.d (.bool false)))=if rgt g top K least n L G=true then none else some (Re.d (.bool false)):=by
    unfold rngL rgt
    rw [find_all,Int.sub_zero,Int.toNat_natCast]
  rw [ef] at kf
  cases h:rgt g top K least n L G with
  | true =>
    rw [h] at kf
    rcases kf with ⟨r,q1,q2⟩ | ⟨q1,ρ2,q2,a,b,rfl⟩
    · cases q1
    · simp_arith [m_law_are_right,r1,q2]
  | false =>
    rw [h] at kf
    rcases kf with ⟨r,q1,q2⟩ | ⟨q1,_⟩
    · cases q1
      simp_arith [m_law_are_right,r1,q2]
    · cases q1
theorem e_apart {g:Int→Int} {least K top:Int} {n:Nat} (hn:n≤200) (ht:top=least+n - 1) (hK:fit K=true) {k l:Int} (k0:0≤k) (kl:k < l) (ln:l < n) (hy:g (least+l)≠(pck g top K (least+l)).1)
    (hx:∀ v,l < v→v < n→g (least+v)+K=(pck g top K (least+l)).1→g (least+v)+K≠(pck g top K (least+k)).1) :
    m_law_apart [.d (.list (((rangeI least n).map g).map PyData.int)),.d (.int K),.d (.int k),.d (.int l)]=.ret (.d (.bool true)):=by
  have a1:=row_at' (g:=g) (least:=least) (l:=l) (Int.le_trans k0 (Int.le_of_lt kl)) ln
  have eb:=e_best (g:=g) hn ht hK (p:=l) (Int.le_trans k0 (Int.le_of_lt kl)) ln
  have ex:=e_best (g:=g) hn ht hK (p:=k) k0 (Int.lt_trans kl ln)
  have r1:rng2 [.int l,.int ((((rangeI least n).map g).map PyData.int).length:Int)]=.ret (rngL l n):=by
    rw [row_ln]
    exact ev_rg2 (inR_of (by omega) (by omega)) (inR_of (by omega) (by omega))
  have ch:aChain3 (cmpD fun i j=>decide (i≤j)) (cmpD fun i j=>decide (i < j)) (cmpD fun i j=>decide (i < j)) (aC (.int 0)) (aVar 2) (aVar 3) (aCB lenD (aCons (aVar 0) aNil)) [.d (.list (((rangeI least n).map g).map PyData.int)),.d (.int K),.d (.int k),.d (.int l),.un,.un]=.ret true:=by
    rw [chain3_eq (x:=0) (y:=k) (u:=l) (v:=(((rangeI least n).map g).map PyData.int).length) rfl rfl rfl rfl,row_ln,decide_eq_true k0,decide_eq_true kl,decide_eq_true ln]
    rfl
  have hy':(g (least+l) == (pck g top K (least+l)).1)=false:=beq_eq_false_iff_ne.mpr hy
  have kf:=for_find (g:=gSet 4) (s:=l_law_apart_1) (f:=fun _=>none)
    (fun ρ=>∃ a b,ρ=[.d (.list (((rangeI least n).map g).map PyData.int)),.d (.int K),.d (.int k),.d (.int l),a,b]) (xs:=rngL l n) (ρ:=[.d (.list (((rangeI least n).map g).map PyData.int)),.d (.int K),.d (.int k),.d (.int l),.un,.un]) (fun y hyy ρ hρ=>by
      obtain ⟨v,rfl,v0,v1⟩:=rngL_mem hyy
      obtain ⟨a,b,rfl⟩:=hρ
      refine ⟨_,rfl,.inr ⟨rfl,?_⟩⟩
      have e1:=e_cost (g:=g) (least:=least) hK (p:=l) (l:=v) (Int.le_trans k0 (Int.le_of_lt (Int.lt_of_lt_of_le kl v0))) v1
      have e2:=e_cost (g:=g) (least:=least) hK (p:=k) (l:=v) (Int.le_trans k0 (Int.le_of_lt (Int.lt_of_lt_of_le kl v0))) v1
      by_cases c:cs g K (least+l) (least+v)=(pck g top K (least+l)).1
      · have c2:cs g K (least+k) (least+v)≠(pck g top K (least+k)).1:=by
          unfold cs at c ⊢
          rw [if_pos (Int.add_lt_add_left (Int.lt_of_lt_of_le kl v0) least)]
          by_cases lv:l < v
          · rw [if_pos (Int.add_lt_add_left lv least)] at c
            exact hx v lv v1 c
          · rw [if_neg (fun z=>lv (Int.lt_of_add_lt_add_left z)),Int.le_antisymm (Int.not_lt.mp lv) v0] at c
            exact absurd c hy
        have c1':(cs g K (least+l) (least+v) == (pck g top K (least+l)).1)=true:=beq_iff_eq.mpr c
        have c2':(cs g K (least+k) (least+v) == (pck g top K (least+k)).1)=false:=beq_eq_false_iff_ne.mpr c2
        refine ⟨_,?_,.d (.int v),.d (.bool true),rfl⟩
        simp_arith [l_law_apart_1,e1,e2,eb,ex,c1',c2']
      · have c1':(cs g K (least+l) (least+v) == (pck g top K (least+l)).1)=false:=beq_eq_false_iff_ne.mpr c
        refine ⟨_,?_,.d (.int v),.d (.bool false),rfl⟩
        simp_arith [l_law_apart_1,e1,e2,eb,ex,c1']) ⟨_,_,rfl⟩
  rcases kf with ⟨r,q1,q2⟩ | ⟨q1,ρ2,q2,a,b,rfl⟩
  · have:∀ l:List PyData,l.findSome? (fun _=>(none:Option Re))=none:=fun l=>by
      induction l with
      | nil=>rfl
      | cons x l ih=>exact ih
    rw [this] at q1
    cases q1
  · simp_arith [m_law_apart,ch,Bool.not_true,a1,eb,hy',r1,q2]
end My
set_option Elab.async false
set_option linter.all false
set_option maxRecDepth 100000
namespace My
open PySem PySem.Spec PyProof.Rows L2 Tw
noncomputable def pr2 (a b:Int):PyData:=.tuple [.int a,.int b]
theorem pr2_sh (a b:Int):SeqAt.shaped (pr2 a b)=true:=rfl
theorem pr2_eq (a b:Int):PyData.eqv (pr2 a b) (pr2 a b)=true:=by
  simp [pr2,PyData.eqv,PyData.eqvAll]
theorem in_pr {xs:List PyData} (hs:∀ z∈xs,∃ a b,z=pr2 a b) {a b:Int} (h:pr2 a b∈xs):bin2 (inL false) (.tuple [.int a,.int b]) (.list xs)=.ret (.bool true):=by
  have e1:xs.all SeqAt.shaped=true:=List.all_eq_true.mpr fun z hz=>by
    obtain ⟨a,b,rfl⟩:=hs z hz
    exact pr2_sh a b
  have e2:xs.any (fun z=>PyData.eqv z (.tuple [.int a,.int b]))=true:=List.any_eq_true.mpr ⟨_,h,pr2_eq a b⟩
  show Tr.of (inL false (.tuple [.int a,.int b]) (.list xs))=_
  unfold inL
  dsimp only
  rw [show SeqAt.shaped (.tuple [.int a,.int b])=true from pr2_sh a b,e1,e2]
  rfl
theorem mapO_fil {h:PyData→Tr (Option PyData)} {p:Int→Bool} {F:Int→PyData} {lo hi:Int} (hx:∀ z,lo≤z→z < hi→h (.int z)=.ret (if p z=true then some (F z) else none)):mapO h (rngL lo hi)=.ret (((rangeI lo (hi - lo).toNat).filter p).map F):=by
  have key:∀ l:List Int,(∀ z∈l,lo≤z∧z < hi)→mapO h (l.map PyData.int)=.ret ((l.filter p).map F):=by
    intro l
    induction l with
    | nil=>intro _; rfl
    | cons z l ih =>
      intro hz
      have hh:=hz z (by simp)
      have e:=hx z hh.1 hh.2
      rw [List.map_cons,mapO,e,Tr.ret_bind,ih fun y hy=>hz y (List.mem_cons_of_mem _ hy),Tr.ret_bind,List.filter_cons]
      cases p z <;> rfl
  exact key _ fun z hz=>by
    have:=rangeI_mem hz
    omega
theorem rgt_iff {g:Int→Int} {top K least:Int} {n:Nat} {L G:Int}:rgt g top K least n L G=true ↔ ∀ p:Int,0≤p→p < n→cs g K (least+p) (least+lev L G p)≤(pck g top K (least+p)).1:=by
  unfold rgt
  rw [List.all_eq_true]
  constructor
  · intro h p p0 p1
    have:=of_decide_eq_true (h p (rangeI_in p0 (by omega)))
    exact Int.not_lt.mp this
  · intro h p hp
    have:=rangeI_mem hp
    exact decide_eq_true (Int.not_lt.mpr (h p (by omega) (by omega)))
theorem own_le {g:Int→Int} {top K least p:Int} (hp:least+p≤top) (ho:ownD g top K least p=true):cs g K (least+p) (least+p)≤(pck g top K (least+p)).1:=by
  unfold cs
  rw [if_neg (Int.lt_irrefl _)]
  exact Int.le_of_eq ((own_iff hp).mp (of_decide_eq_true ho))
theorem find_no {p:Int→Bool} {n:Nat} (h:(rangeI 0 n).reverse.find? p=none) {k:Int} (k0:0≤k) (k1:k < n):p k=false:=by
  have:=List.find?_eq_none.mp h k (List.mem_reverse.mpr (rangeI_in k0 (by omega)))
  cases e:p k with
  | true=>exact absurd e this
  | false=>rfl
theorem find_last {p:Int→Bool}:∀ {n:Nat} {l:Int},(rangeI 0 n).reverse.find? p=some l→∀ k,l < k→k < n→p k=false:=by
  intro n
  induction n with
  | zero =>
    intro l h k h1 h2
    have hl:=rangeI_mem (List.mem_reverse.mp (List.mem_of_find?_eq_some h))
    omega
  | succ n ih =>
    intro l h k h1 h2
    have hl:=rangeI_mem (List.mem_reverse.mp (List.mem_of_find?_eq_some h))
    rw [rangeI_snoc,List.reverse_append] at h
    show p k=false
    cases e:p (0+(n:Int)) with
    | true =>
      rw [show [0+(n:Int)].reverse=[0+(n:Int)] from rfl,List.singleton_append,List.find?_cons_of_pos (by exact e)] at h
      cases h
      omega
    | false =>
      rw [show [0+(n:Int)].reverse=[0+(n:Int)] from rfl,List.singleton_append,List.find?_cons_of_neg (by rw [e]; decide)] at h
      by_cases c:k < n
      · exact ih h k h1 c
      · rw [show k=0+(n:Int) by omega]
        exact e
theorem own_top {g:Int→Int} {top K least N:Int} (h:top=least+N):ownD g top K least N=true:=by
  unfold ownD
  rw [← h]
  unfold lvl
  rw [pck_top]
  exact decide_eq_true rfl
theorem not_own {g:Int→Int} {top K least l:Int} (hx:least+l≤top) (ho:ownD g top K least l=false):least+l < lvl g top K (least+l)∧lvl g top K (least+l)≤top∧(pck g top K (least+l)).1=K+g (lvl g top K (least+l))∧g (least+l)≠(pck g top K (least+l)).1:=by
  obtain ⟨p1,p2,p3⟩:=pck_is (g:=g) (K:=K) hx
  have:=of_decide_eq_false ho
  unfold lvl at *
  rcases p3 with ⟨a,_⟩ | ⟨a,b,c⟩
  · exact absurd a this
  · exact ⟨a,p2,b,fun z=>by rw [← z] at c; exact Int.lt_irrefl _ c⟩
theorem no_rgt {g:Int→Int} {top K least l k G L G':Int} (kl:k < l) (lt:least+l≤top) (gt:least+G'≤top) (o3:(pck g top K (least+l)).1=K+g G) (o4:g (least+l)≠(pck g top K (least+l)).1) (hc:¬ K+g G=(pck g top K (least+k)).1) (a:cs g K (least+l) (least+lev L G' l)≤(pck g top K (least+l)).1) (b:cs g K (least+k) (least+lev L G' k)≤(pck g top K (least+k)).1):False:=by
  have hp:=(pck_le (g:=g) (K:=K) (x:=least+l) (top:=top) lt).1
  have own:¬ g (least+l)≤(pck g top K (least+l)).1:=fun z=>o4 (Int.le_antisymm z hp)
  unfold lev at a b
  by_cases cl:l < L
  · rw [if_pos cl] at a
    rw [if_pos (Int.lt_trans kl cl)] at b
    unfold maxI at a b
    by_cases cg:G' > l
    · rw [if_pos cg] at a
      rw [if_pos (Int.lt_trans kl cg)] at b
      have i1:least+l < least+G':=Int.add_lt_add_left cg least
      have i2:least+k < least+G':=Int.add_lt_add_left (Int.lt_trans kl cg) least
      have d1:=cs_le (g:=g) (K:=K) (Int.le_of_lt i1) gt
      have d2:=cs_le (g:=g) (K:=K) (Int.le_of_lt i2) gt
      unfold cs at a b d1 d2
      rw [if_pos i1] at a d1
      rw [if_pos i2] at b d2
      exact hc (by rw [← Int.le_antisymm b d2,Int.le_antisymm a d1,o3])
    · rw [if_neg cg] at a
      unfold cs at a
      rw [if_neg (Int.lt_irrefl _)] at a
      exact own a
  · rw [if_neg cl] at a
    unfold cs at a
    rw [if_neg (Int.lt_irrefl _)] at a
    exact own a
theorem mk_is {g:Int→Int} {top K least:Int} {n:Nat} (n1:1≤n) (ht:top=least+n - 1) :
    (∃ L G:Int,mkD g top K least=mks (least+L) (least+G)∧0≤L∧L≤n∧0≤G∧G < n∧rgt g top K least n L G=true) ∨
    (∃ k l:Int,mkD g top K least=mkn (least+k) (least+l)∧0≤k∧k < l∧l < n∧(∀ L G:Int,0≤G→G < n→rgt g top K least n L G=false)∧g (least+l)≠(pck g top K (least+l)).1 ∧
      ∀ v:Int,l < v→v < n→g (least+v)+K=(pck g top K (least+l)).1→g (least+v)+K≠(pck g top K (least+k)).1):=by
  obtain ⟨N,rfl⟩:∃ N,n=N+1:=⟨n - 1,by omega⟩
  have hN:(top - least).toNat=N:=by omega
  have hT:top=least+N:=by omega
  unfold mkD
  rw [hN]
  cases hf:(rangeI 0 N).reverse.find? (fun k=>!ownD g top K least k) with
  | none =>
    refine .inl ⟨0,0,by rw [Int.add_zero],Int.le_refl _,by omega,Int.le_refl _,by omega,rgt_iff.mpr fun p p0 p1=>?_⟩
    unfold lev
    rw [if_neg (Int.not_lt.mpr p0)]
    refine own_le (by omega) ?_
    by_cases c:p < N
    · have:=find_no hf p0 c
      simpa using this
    · rw [show p=(N:Int) by omega]
      exact own_top hT
  | some l =>
    have hl:=rangeI_mem (List.mem_reverse.mp (List.mem_of_find?_eq_some hf))
    have ho:ownD g top K least l=false:=by
      have:=List.find?_some hf
      simpa using this
    have hlater:∀ p,l < p→p < (N:Int)+1→ownD g top K least p=true:=fun p p0 p1=>by
      by_cases c:p < N
      · have:=find_last hf p p0 c
        simpa using this
      · rw [show p=(N:Int) by omega]
        exact own_top hT
    have hl0:0≤l:=by omega
    have hlN:l < (N:Int):=by omega
    have hlt:least+l≤top:=by rw [hT]; exact Int.add_le_add_left (Int.le_of_lt hlN) least
    obtain ⟨o1,o2,o3,o4⟩:=not_own (g:=g) (K:=K) (top:=top) (least:=least) (l:=l) hlt ho
    dsimp only
    generalize hG:lvl g top K (least+l)=G at *
    cases hq:(rangeI 0 l.toNat).reverse.find? (fun k=>!chkD g top K G (least+k)) with
    | none =>
      refine .inl ⟨l+1,G - least,by rw [← Int.add_assoc,Int.add_comm least (G - least),Int.sub_add_cancel],by omega,by omega,by omega,by omega,rgt_iff.mpr fun p p0 p1=>?_⟩
      unfold lev
      by_cases c:p < l+1
      · have em:maxI p (G - least)=G - least:=by unfold maxI; rw [if_pos (by omega)]
        rw [if_pos c,em,Int.add_comm least (G - least),Int.sub_add_cancel]
        unfold cs
        rw [if_pos (by omega)]
        by_cases c2:p < l
        · have:=find_no hq p0 (by omega)
          have hk:chkD g top K G (least+p)=true:=by simpa using this
          have hk':=of_decide_eq_true hk
          exact Int.le_of_eq (by rw [Int.add_comm,hk'])
        · rw [Int.le_antisymm (Int.lt_add_one_iff.mp c) (Int.not_lt.mp c2)]
          exact Int.le_of_eq (by rw [Int.add_comm,o3])
      · rw [if_neg c]
        exact own_le (by omega) (hlater p (by omega) (by omega))
    | some k =>
      have hk:=rangeI_mem (List.mem_reverse.mp (List.mem_of_find?_eq_some hq))
      have hc:¬ K+g G=(pck g top K (least+k)).1:=by
        have:=List.find?_some hq
        have h2:chkD g top K G (least+k)=false:=by simpa using this
        exact of_decide_eq_false h2
      have hk0:0≤k:=by omega
      have hkl:k < l:=by omega
      refine .inr ⟨k,l,rfl,hk0,hkl,Int.lt_trans hlN (Int.lt_succ _),fun L G' g0 g1=>?_,o4,fun v v0 v1 e z=>?_⟩
      · cases hr:rgt g top K least (N+1) L G' with
        | false=>rfl
        | true =>
          have h:=rgt_iff.mp hr
          exact (no_rgt hkl hlt (by omega) o3 o4 hc (h l hl0 (Int.lt_trans hlN (Int.lt_succ _))) (h k hk0 (Int.lt_trans hkl (Int.lt_trans hlN (Int.lt_succ _))))).elim
      · exact hc (by rw [← z,e,o3])
end My
set_option Elab.async false
set_option linter.all false
set_option maxRecDepth 100000
namespace My
open PySem PySem.Spec PyProof.Rows L2 Tw
noncomputable def rl (g:Int→Int) (top K least:Int) (n:Nat) (L:Int):List PyData:=((rangeI 0 ((n:Int) - 0).toNat).filter (rgt g top K least n L)).map (pr2 L)
theorem rl_len {g:Int→Int} {top K least:Int} {n:Nat} {L:Int}:(rl g top K least n L).length≤n:=by
  unfold rl
  rw [List.length_map,Int.sub_zero,Int.toNat_natCast]
  have:=List.length_filter_le (rgt g top K least n L) (rangeI 0 n)
  rw [rangeI_length] at this
  exact this
theorem rl_mem {g:Int→Int} {top K least:Int} {n:Nat} {L:Int} {z:PyData}:z∈rl g top K least n L ↔ ∃ k:Int,0≤k∧k < n∧rgt g top K least n L k=true∧z=pr2 L k:=by
  unfold rl
  rw [List.mem_map,Int.sub_zero,Int.toNat_natCast]
  constructor
  · rintro ⟨k,hk,rfl⟩
    obtain ⟨h1,h2⟩:=List.mem_filter.mp hk
    have:=rangeI_mem h1
    exact ⟨k,by omega,by omega,h2,rfl⟩
  · rintro ⟨k,k0,k1,h,rfl⟩
    exact ⟨k,List.mem_filter.mpr ⟨rangeI_in k0 (by omega),h⟩,rfl⟩
noncomputable abbrev lE (W:Sl) (s:Shp) (fs:List (List Int)) (t R:PyData) (B bg K:Int) (w o p:PyData) (r L:Sl):List Sl:=[.un,.pen,W,.d s.d,.d (fD fs),.d t,.d R,.d (.int B),.d (.int bg),.d (.int K),.d w,.d o,.d p,r,L]
theorem lw {g:Int→Int} {least K top:Int} {n:Nat} (hn:n≤10) (ht:top=least+n - 1) (hK:fit K=true) {xs:List PyData} (hx:xs.length≤200) {L B bg:Int} {W:Sl} {s:Shp} {fs:List (List Int)} {t w o p:PyData} :
    l_law_1 (lE W s fs t (.list (((rangeI least n).map g).map PyData.int)) B bg K w o p (.own xs) (.d (.int L)))=.ret (.next (lE W s fs t (.list (((rangeI least n).map g).map PyData.int)) B bg K w o p (.own (xs++rl g top K least n L)) (.d (.int L)))):=by
  have r1:rng1 [.int ((((rangeI least n).map g).map PyData.int).length:Int)]=.ret (rngL 0 n):=by
    rw [row_ln]
    exact ev_rg1 (inR_of (by omega) (by omega))
  have hs1:small (rngL 0 (n:Int)).length=true:=small_le (by rw [rngL_len]; omega)
  have e1:mapO (lci2 (gSet 0) p_law_1 q_law_1 [.un,.d (.int L),.d (.list (((rangeI least n).map g).map PyData.int)),.d (.int K)]) (rngL 0 n)=.ret (rl g top K least n L):=mapO_fil fun z z0 z1=>by
    have ea:=e_are (g:=g) (L:=L) (by omega) ht hK z0 z1
    cases hr:rgt g top K least n L z with
    | true =>
      rw [hr] at ea
      simp_arith [p_law_1,q_law_1,ea,if_true]
      rfl
    | false =>
      rw [hr] at ea
      simp_arith [p_law_1,q_law_1,ea]
      rfl
  have hl:=rl_len (g:=g) (top:=top) (K:=K) (least:=least) (n:=n) (L:=L)
  have hs2:small (xs.length+(rl g top K least n L).length)=true:=small_le (by omega)
  simp_arith [l_law_1,lE,r1,hs1,e1,ev_ext2 hs2]
noncomputable def lawU:List Sl→Tr Ou :=
 (aSeq (aSetO 13 (aLo aNil))
 (aSeq (aFor (aRng1 (aCons (aBin addD (aCB lenD (aCons (aVar 6) aNil)) (aC (.int 1))) aNil)) (gSet 14) l_law_1)
 (aSeq (aIfS (aTest (aBin eqD (aVar 10) (aC (.str "marks"))))
  (aFz 13 (aRet (aBin (inL false) (aTup (aCons (aBin subD (aVar 11) (aVar 8)) (aCons (aBin subD (aVar 12) (aVar 8)) aNil))) (aVar 13))))
  aSkip)
 (aFz 13 (aRet (aAndV (aBin eqD (aVar 10) (aC (.str "none"))) (aAndV (aBin eqD (aVar 13) (aLst (aLo aNil))) (aRe (aCall m_law_apart (aaCons (aVar 6) (aaCons (aVar 9) (aaCons (aBin subD (aVar 11) (aVar 8)) (aaCons (aBin subD (aVar 12) (aVar 8)) aaNil)))))))))))))
noncomputable def lawT:List Sl→Tr Ou :=
 (aSeq (aAsg (gTupD (gsCons (gSet 6) (gsCons (gSet 7) gsNil))) (aBin ixD (aRe (aCall m_law_sums (aaCons (aVar 3) (aaCons (aVar 4) aaNil)))) (aVar 5)))
 (aSeq (aSet 8 (aBin subD (aBin ixD (aLst (aLo (aCons (aC (.int 0)) (aCons (aRe (aCall m_law_draw (aaPen 1 (aaCons (aCB lenD (aCons (aVar 6) aNil)) aaNil)))) aNil)))) (aRe (aCall m_law_draw (aaPen 1 (aaCons (aC (.int 2)) aaNil))))) (aBin ixD (aVar 3) (aC (.int 1)))))
 (aSeq (aSet 8 (aCB max2D (aCons (aVar 8) (aCons (aBin subD (aBin ixD (aVar 3) (aC (.int 0))) (aC (.int 9))) aNil))))
 (aSeq (aSet 6 (aSl (aVar 6) (aP1 (aBin addD (aVar 8) (aBin ixD (aVar 3) (aC (.int 1))))) aP0))
 (aSeq (aSet 9 (aBin mulD' (aBin ixD (aVar 3) (aC (.int 2))) (aVar 7)))
 (aSeq (aAsg (gTupD (gsCons (gSet 10) (gsCons (gSet 11) (gsCons (gSet 12) gsNil)))) (aRe (aCall m_marks (aaCons (aVar 3) (aaCons (aVar 4) (aaCons (aVar 5) (aaCons (aVar 8) aaNil)))))))
 lawU))))))
theorem upart {g:Int→Int} {least K top:Int} {n:Nat} (n1:1≤n) (hn:n≤10) (ht:top=least+n - 1) (hK:fit K=true) {B:Int} {W:Sl} {s:Shp} {fs:List (List Int)} {t w o p:PyData} (hm:mkD g top K least=.tuple [w,o,p]) :
    Al (lawU (lE W s fs t (.list (((rangeI least n).map g).map PyData.int)) B least K w o p .un .un)) 0 fun o=>o=.ret (.d (.bool true)):=by
  have r1:rng1 [.int (((((rangeI least n).map g).map PyData.int).length:Int)+1)]=.ret (rngL 0 ((n:Int)+1)):=by
    rw [row_ln]
    exact ev_rg1 (inR_of (by omega) (by omega))
  have hs0:small 0=true:=small_le (by decide)
  simp_arith only [lawU,lE,ev_drw,r1]
  refine al_bind (n:=0) (n':=0) (P:=fun o'=>∃ (xs:List PyData) (A:Sl),o'=.next (lE W s fs t (.list (((rangeI least n).map g).map PyData.int)) B least K w o p (.own xs) A)∧(∀ z∈xs,∃ a b,z=pr2 a b)∧∀ L k:Int,pr2 L k∈xs ↔ 0≤L∧L≤n∧0≤k∧k < n∧rgt g top K least n L k=true) ?_ (by decide) ?_
  · refine al_forQ (n:=0) (fun pre ρ=>∃ (xs:List PyData) (A:Sl),ρ=lE W s fs t (.list (((rangeI least n).map g).map PyData.int)) B least K w o p (.own xs) A∧xs.length≤10 * pre.length∧(∀ z∈xs,∃ a b,z=pr2 a b)∧∀ L k:Int,pr2 L k∈xs ↔ 0≤L∧L < pre.length∧0≤k∧k < n∧rgt g top K least n L k=true) ⟨[],.un,rfl,Nat.le_refl _,fun z hz=>(by cases hz),fun L k=>⟨fun h=>(by cases h),fun h=>(by have h1:=h.1; have h2:=h.2.1; simp at h2; omega)⟩⟩ (by simp) ?_ ?_
    · rintro pre x post ρ e ⟨xs,A,rfl,hl,hz,hi⟩
      obtain ⟨rfl,hpre⟩:=rngL_mid e
      refine ⟨_,rfl,al_of (lw (g:=g) (top:=top) hn ht hK (by omega)) ⟨_,rfl,_,_,rfl,?_,?_,?_⟩⟩
      · have:=rl_len (g:=g) (top:=top) (K:=K) (least:=least) (n:=n) (L:=0+(pre.length:Int))
        rw [List.length_append,List.length_append,List.length_singleton]
        omega
      · intro z hzz
        rcases List.mem_append.mp hzz with q | q
        · exact hz z q
        · obtain ⟨k,_,_,_,rfl⟩:=rl_mem.mp q
          exact ⟨_,_,rfl⟩
      · intro L k
        rw [List.mem_append,hi L k,rl_mem,List.length_append,List.length_singleton]
        constructor
        · rintro (⟨a,b,c,d,q⟩ | ⟨k',a,b,c,q⟩)
          · exact ⟨a,by omega,c,d,q⟩
          · unfold pr2 at q
            injection q with q
            injection q with q1 q2
            injection q1 with q1
            injection q2 with q2 _
            injection q2 with q2
            subst q1 q2
            exact ⟨by omega,by omega,a,b,c⟩
        · rintro ⟨a,b,c,d,q⟩
          by_cases c2:L < pre.length
          · exact .inl ⟨a,c2,c,d,q⟩
          · have eL:L=0+(pre.length:Int):=by omega
            rw [eL] at q ⊢
            exact .inr ⟨k,c,d,q,rfl⟩
    · rintro ρ ⟨xs,A,rfl,hl,hz,hi⟩
      refine ⟨xs,A,rfl,hz,fun L k=>?_⟩
      rw [hi L k,rngL_len]
      constructor
      · rintro ⟨a,b,c⟩
        exact ⟨a,by omega,c⟩
      · rintro ⟨a,b,c⟩
        exact ⟨a,by omega,c⟩
  · rintro _ ⟨xs,A,rfl,hz,hi⟩
    rcases mk_is (g:=g) (K:=K) n1 ht with ⟨L,G,em,l0,l1,g0,g1,hr⟩ | ⟨k,l,em,k0,kl,ln,hno,hy,hx⟩
    · rw [hm] at em
      unfold mks at em
      injection em with em
      injection em with em1 em
      injection em with em2 em
      injection em with em3 _
      subst em1 em2 em3
      have s1:least+L - least=L:=by omega
      have s2:least+G - least=G:=by omega
      have hin:=in_pr hz ((hi L G).mpr ⟨l0,l1,g0,g1,hr⟩)
      simp_arith only [lE,ev_drw,str_self,s1,s2,hin]
      exact al_ret rfl
    · rw [hm] at em
      unfold mkn at em
      injection em with em
      injection em with em1 em
      injection em with em2 em
      injection em with em3 _
      subst em1 em2 em3
      have s1:least+k - least=k:=by omega
      have s2:least+l - least=l:=by omega
      have hx0:xs=[]:=by
        cases xs with
        | nil=>rfl
        | cons z xs =>
          obtain ⟨a,b,rfl⟩:=hz z (by simp)
          obtain ⟨_,_,q1,q2,q3⟩:=(hi a b).mp (by simp)
          rw [hno a b q1 q2] at q3
          cases q3
      subst hx0
      have ea:=e_apart (g:=g) (by omega) ht hK k0 kl ln hy hx
      have hn0:bin2 eqD (.list []) (.list [])=.ret (.bool true):=eq_nil []
      have hsn:(Str.ofString "none" == Str.ofString "marks")=false:=by decide +kernel
      simp_arith only [lE,ev_drw,str_self,hsn,s1,s2,hn0,ea]
      exact al_ret rfl
end My
set_option Elab.async false
set_option linter.all false
set_option maxRecDepth 100000
namespace My
open PySem PySem.Spec PyProof.Rows L2 Tw
theorem row_cut {s:Shp} {g:Int→Int} {bg:Int} (b1:-s.depth≤bg) (b2:bg≤s.top):L2.cutD ((s.row g).map PyData.int) (some (bg+s.depth)) none=((rangeI bg (s.top+1 - bg).toNat).map g).map PyData.int:=by
  obtain ⟨a,ha⟩:=Int.eq_ofNat_of_zero_le (a:=bg+s.depth) (by omega)
  obtain ⟨b,hb⟩:=Int.eq_ofNat_of_zero_le (a:=s.top+1 - bg) (by omega)
  have hn:s.n=a+b:=by unfold Shp.n; omega
  rw [cut_from (by omega) (by rw [List.length_map,row_len,hn]; omega),← List.map_drop,ha,hb]
  have e:(s.row g).drop a=(rangeI bg b).map g:=by
    apply List.ext_getElem?
    intro i
    unfold Shp.row rangeI
    rw [List.map_map,List.map_map,List.getElem?_drop,List.getElem?_map,List.getElem?_map,hn]
    by_cases hi:i < b
    · rw [List.getElem?_range (Nat.add_lt_add_left hi a),List.getElem?_range hi]
      show some (g (-s.depth+((a+i:Nat):Int)))=some (g (bg+(i:Int)))
      rw [show -s.depth+((a+i:Nat):Int)=bg+(i:Int) by omega]
    · rw [List.getElem?_eq_none (by rw [List.length_range]; omega),List.getElem?_eq_none (by rw [List.length_range]; omega)]
      rfl
  exact congrArg (List.map PyData.int) e
theorem mk_tup {g:Int→Int} {top K least:Int} {n:Nat} (n1:1≤n) (ht:top=least+n - 1):∃ w o p,mkD g top K least=.tuple [w,o,p]:=by
  rcases mk_is (g:=g) (K:=K) n1 ht with ⟨L,G,em,_⟩ | ⟨k,l,em,_⟩
  · exact ⟨_,_,_,em⟩
  · exact ⟨_,_,_,em⟩
theorem tail {s:Shp} (hs:s.Ok) {fs:List (List Int)} (hf:FB fs) {t:Nat} (ht:t < fs.length) (W:Sl):Al (lawT [.un,.pen,W,.d s.d,.d (fD fs),.d (.int t),.un,.un,.un,.un,.un,.un,.un,.un,.un]) 50 fun o=>o=.ret (.d (.bool true)):=by
  have t0:=hs.t0
  have d0:=hs.d0
  have td:=hs.td
  have hn:=hs.n_eq
  obtain ⟨day,hday⟩:∃ day,fs[t]?=some day:=⟨fs[t],List.getElem?_eq_getElem ht⟩
  have es:=e_law_sums hs hf.B hf.l1
  have hat:atI (rowsOf s fs) (t:Int)=some (.tuple [lI (s.row (s.sms day (fs.drop (t+1)))),.int ((s.bk (fs.drop (t+1))).2 * day.sum)]):=atI_ge (Int.natCast_nonneg t) (by rw [Int.toNat_natCast]; exact rows_at s hday)
  have hd:DayB day:=hf.B day (List.mem_of_getElem? hday)
  obtain ⟨k1,k2⟩:=bk_nb hs (fs:=fs.drop (t+1)) fun l hl=>hf.B l (List.mem_of_mem_drop hl)
  have hlen:(fs.drop (t+1)).length≤6:=by have:=hf.l1; rw [List.length_drop]; omega
  have c2:=nb_mul k2 (sum_nbD hd)
  have em0:∀ bg:Int,-s.depth≤bg→bg≤s.top→_:=fun bg b1 b2=>e_marks hs hf.B hf.l1 hday (least:=bg) b1 b2
  generalize s.sms day (fs.drop (t+1))=g at *
  generalize (s.bk (fs.drop (t+1))).2 * day.sum=B at *
  have c3:=nb_mono c2 (show _≤3000 by omega)
  have g1:=nb_fit hs.start (by decide)
  have g2:=nb_fit c3 (by decide)
  have hK:fit (B * s.start)=true:=nb_fit (nb_mul c3 hs.start) (by decide)
  have hrl:((s.row g).length:Int)=s.top+s.depth+1:=by rw [row_len]; omega
  simp_arith [lawT,ev_drw,es,hat,len_lI,hrl]
  refine al_drw (n:=49) (by omega) (by omega) (by decide) fun r r0 r1=>?_
  try simp_arith [ev_drw]
  refine al_drw (n:=48) (by decide) (by decide) (by decide) fun v v0 v1=>?_
  obtain ⟨z,hz,z0,z1⟩:=pickI (xs:=[PyData.int 0,.int r]) (lo:=0) (hi:=s.top+s.depth) (by simp [intIn]; omega) v0 v1
  obtain ⟨bg,hbg⟩:∃ bg,bg=maxI (z - s.depth) (s.top - 9):=⟨_,rfl⟩
  have hb:-s.depth≤bg∧s.top - 9≤bg∧bg≤s.top:=by rw [hbg]; unfold maxI; split <;> omega
  have ecut:=row_cut (s:=s) (g:=g) hb.1 hb.2.2
  have em:=em0 bg hb.1 hb.2.2
  obtain ⟨n,hnn⟩:∃ n:Nat,s.top+1 - bg=n:=⟨(s.top+1 - bg).toNat,by omega⟩
  rw [hnn,Int.toNat_natCast] at ecut
  obtain ⟨w,o,p,hm⟩:=mk_tup (g:=g) (K:=B * s.start) (least:=bg) (n:=n) (top:=s.top) (by omega) (by omega)
  have hu:=upart (g:=g) (K:=B * s.start) (least:=bg) (n:=n) (top:=s.top) (B:=B) (W:=W) (s:=s) (fs:=fs) (t:=.int t) (by omega) (by omega) (by omega) hK hm
  rw [hm] at em
  simp_arith [ev_drw,hz,← hbg]
  simp_arith [lI,ev_drw,ecut,g1,g2,Int.mul_comm s.start B,em]
  exact al_mono hu (by decide) fun _ h=>h
noncomputable def lawV:List Sl→Tr Ou :=
 (aSeq (aIfS (aTest (aBin (cmpD fun i j=>decide (i > j)) (aVar 2) (aC (.int 1))))
  (aSet 5 (aBin ixD (aLst (aLo (aCons (aVar 5) (aCons (aBin subD (aCB lenD (aCons (aVar 4) aNil)) (aC (.int 1))) (aCons (aBin subD (aCB lenD (aCons (aVar 4) aNil)) (aC (.int 1))) aNil))))) (aRe (aCall m_law_draw (aaPen 1 (aaCons (aC (.int 3)) aaNil))))))
  aSkip) lawT)
theorem vpart {s:Shp} (hs:s.Ok) {fs:List (List Int)} (hf:FB fs) {t:Nat} (ht:t < fs.length) (u:Int):Al (lawV [.un,.pen,.d (.int u),.d s.d,.d (fD fs),.d (.int t),.un,.un,.un,.un,.un,.un,.un,.un,.un]) 60 fun o=>o=.ret (.d (.bool true)):=by
  by_cases hu:u > 1
  · have l0:=hf.l0
    simp_arith [lawV,ev_drw,decide_eq_true hu,len_fD]
    refine al_drw (n:=59) (by decide) (by decide) (by decide) fun v v0 v1=>?_
    obtain ⟨z,hz,z0,z1⟩:=pickI (xs:=[PyData.int t,.int ((fs.length:Int) - 1),.int ((fs.length:Int) - 1)]) (lo:=0) (hi:=(fs.length:Int) - 1) (by simp [intIn]; omega) v0 v1
    obtain ⟨k,rfl⟩:=Int.eq_ofNat_of_zero_le z0
    simp_arith [ev_drw,hz]
    exact al_mono (tail hs hf (by omega) _) (by decide) fun _ h=>h
  · simp_arith [lawV,ev_drw,decide_eq_false hu]
    exact al_mono (tail hs hf ht _) (by decide) fun _ h=>h
theorem law_is:m_law=(aSeq (aSet 2 (aRe (aCall m_law_draw (aaPen 1 (aaCons (aC (.int 4)) aaNil)))))
 (aSeq (aAsg (gLstD (gsCons (gSet 3) (gsCons (gSet 4) gsNil))) (aRe (aCall m_law_shop (aaPen 1 (aaCons (aBin eqD (aVar 2) (aC (.int 0))) aaNil)))))
 (aSeq (aIfS (aTest (aBin eqD (aVar 2) (aC (.int 1))))
  (aSet 3 (aRe (aCall m_law_odd (aaPen 1 (aaCons (aVar 3) aaNil)))))
  aSkip)
 (aSeq (aSet 5 (aRe (aCall m_law_draw (aaPen 1 (aaCons (aCB lenD (aCons (aVar 4) aNil)) aaNil)))))
 (aSeq (aIfS (aTest (aBin eqD (aVar 2) (aC (.int 2))))
  (aAsg (gLstD (gsCons (gSet 3) (gsCons (gSet 4) gsNil))) (aRe (aCall m_law_hump (aaPen 1 (aaCons (aVar 3) (aaCons (aVar 4) aaNil))))))
  aSkip)
 (aSeq (aIfS (aTest (aBin eqD (aVar 2) (aC (.int 3))))
  (aAsg (gLstD (gsCons (gSet 3) (gsCons (gSet 4) gsNil))) (aRe (aCall m_law_feet (aaPen 1 (aaCons (aVar 3) (aaCons (aVar 4) aaNil))))))
  aSkip) lawV)))))):=rfl
theorem law_true:Al (m_law law0) 2000 fun o=>o=.ret (.d (.bool true)):=by
  rw [law_is]
  simp_arith [law0,ev_drw]
  refine al_drw (n:=1999) (by decide) (by decide) (by decide) fun u u0 u1=>?_
  try simp_arith [ev_drw]
  refine al_bind (n:=300) (n':=1000) (s_shop _) (by decide) ?_
  rintro _ ⟨s,fs,rfl,hs,hf,_⟩
  have hF:FB fs:=⟨hf.B,hf.l0,hf.l1⟩
  have l0:=hf.l0
  have l1:=hf.l1
  have go:∀ {s:Shp} {fs:List (List Int)} {t:Nat},s.Ok→FB fs→t < fs.length→∀ N,Al (lawV [.un,.pen,.d (.int u),.d s.d,.d (fD fs),.d (.int t),.un,.un,.un,.un,.un,.un,.un,.un,.un]) (60+N) fun o=>o=.ret (.d (.bool true)):=fun h1 h2 h3 N=>al_mono (vpart h1 h2 h3 _) (by omega) fun _ h=>h
  by_cases c1:u=1
  · subst c1
    have e1:((1:Int) == 1)=true:=by decide
    have e2:((1:Int) == 2)=false:=by decide
    have e3:((1:Int) == 3)=false:=by decide
    simp_arith [ev_drw,e1,e2,e3]
    refine al_bind (n:=20) (n':=61) (s_odd hs) (by decide) ?_
    rintro _ ⟨s',rfl,h'⟩
    simp_arith [ev_drw,len_fD]
    refine al_drw (n:=60) (by omega) (by omega) (by decide) fun t t0 t1=>?_
    obtain ⟨k,rfl⟩:=Int.eq_ofNat_of_zero_le t0
    try simp_arith [ev_drw,e1,e2,e3]
    exact go h' hF (by omega) 0
  · have e1:(u == 1)=false:=beq_eq_false_iff_ne.mpr c1
    simp_arith [ev_drw,e1,len_fD]
    refine al_drw (n:=999) (by omega) (by omega) (by decide) fun t t0 t1=>?_
    obtain ⟨k,rfl⟩:=Int.eq_ofNat_of_zero_le t0
    by_cases c2:u=2
    · subst c2
      have e2:((2:Int) == 2)=true:=by decide
      have e3:((2:Int) == 3)=false:=by decide
      simp_arith [ev_drw,e2,e3]
      refine al_bind (n:=30) (n':=60) (s_hump hs hF) (by decide) ?_
      rintro _ ⟨s',fs',rfl,h',hF',hl⟩
      simp_arith [ev_drw,e2,e3]
      exact go h' hF' (by omega) 0
    · have e2:(u == 2)=false:=beq_eq_false_iff_ne.mpr c2
      by_cases c3:u=3
      · subst c3
        have e3:((3:Int) == 3)=true:=by decide
        simp_arith [ev_drw,e2,e3]
        refine al_bind (n:=20) (n':=60) (s_feet hs hF) (by decide) ?_
        rintro _ ⟨s',fs',rfl,h',hF',hl⟩
        simp_arith [ev_drw,e2,e3]
        exact go h' hF' (by omega) 0
      · have e3:(u == 3)=false:=beq_eq_false_iff_ne.mpr c3
        simp_arith [ev_drw,e2,e3]
        exact go hs.ok hF (by omega) 939
end My
set_option Elab.async false
set_option linter.all false
set_option maxRecDepth 100000
open PySem PySem.W PyProof.Rows L2
set_option maxRecDepth 100000 in
set_option maxHeartbeats 0 in
theorem PySem.Challenge.cw_twomarks_k34_whole_no_marks_at_all_holds : PySem.Challenge.rw_twomarks_k34_whole_no_marks_at_all.Holds := by
  w_on; o_law; k_head; (case hw=>w_witness2)
  k_fill
  refine L2.walk_ofK (l:=PySem.Challenge.rw_twomarks_k34_whole_no_marks_at_all) (n:=63) (k:=7) (x:="_law_script") (CX:=CX0) (sp:=L2.spLaw) rfl (by decide) rfl ⟨rfl,by decide,by decide,rfl⟩ (fun w h Y=>PySem.W.kIn_of Y) ?F ?S ?C
  case F =>
    intro w mg fa h KX G hmg
    have d_stocks:Def (L2.KOf KX) mg "stocks" My.s_stocks ["shop"]:=by
      dsimp only [L2.KOf]
      refine' L2.def_mk KX G ?a ?l ?c ?k ?b
      (case a=>k_is); (case l=>k_is); (case c=>k_is); (case k=>k_is)
      (case b=>intro _ _ _ _ _ _ us hl; obtain ⟨_,rfl⟩:=L2.len1 hl; rfl)
    have d_next_stock:Def (L2.KOf KX) mg "next_stock" My.s_next_stock ["shop","level","fall"]:=by
      dsimp only [L2.KOf]
      refine' L2.def_mk KX G ?a ?l ?c ?k ?b
      (case a=>k_is); (case l=>k_is); (case c=>k_is); (case k=>k_is)
      (case b=>intro _ _ _ _ _ _ us hl; obtain ⟨_,_,_,rfl⟩:=L2.len3 hl; rfl)
    have d_day_cost:Def (L2.KOf KX) mg "day_cost" My.s_day_cost ["shop","level","fall"]:=by
      dsimp only [L2.KOf]
      refine' L2.def_mk KX G ?a ?l ?c ?k ?b
      (case a=>k_is); (case l=>k_is); (case c=>k_is); (case k=>k_is)
      (case b=>intro _ _ _ _ _ _ us hl; obtain ⟨_,_,_,rfl⟩:=L2.len3 hl; rfl)
    have d_end_cost:Def (L2.KOf KX) mg "end_cost" My.s_end_cost ["shop","stock"]:=by
      dsimp only [L2.KOf]
      refine' L2.def_mk KX G ?a ?l ?c ?k ?b
      (case a=>k_is); (case l=>k_is); (case c=>k_is); (case k=>k_is)
      (case b=>intro _ _ _ _ _ _ us hl; obtain ⟨_,_,rfl⟩:=L2.len2 hl; rfl)
    have d_end_costs:Def (L2.KOf KX) mg "end_costs" My.s_end_costs ["shop"]:=by
      dsimp only [L2.KOf]
      refine' L2.def_mk KX G ?a ?l ?c ?k ?b
      (case a=>k_is); (case l=>k_is); (case c=>k_is); (case k=>k_is)
      (case b=>intro _ _ _ _ _ _ us hl; obtain ⟨_,rfl⟩:=L2.len1 hl; rfl)
    have d_weighed:Def (L2.KOf KX) mg "weighed" My.s_weighed ["shop","day","level","ahead","scale"]:=by
      dsimp only [L2.KOf]
      refine' L2.def_mk KX G ?a ?l ?c ?k ?b
      (case a=>k_is); (case l=>k_is); (case c=>k_is); (case k=>k_is)
      (case b=>intro _ _ _ _ _ _ us hl; obtain ⟨_,_,_,_,_,rfl⟩:=L2.len5 hl; rfl)
    have d_level_sums:Def (L2.KOf KX) mg "level_sums" My.s_level_sums ["shop","day","ahead","scale"]:=by
      dsimp only [L2.KOf]
      refine' L2.def_mk KX G ?a ?l ?c ?k ?b
      (case a=>k_is); (case l=>k_is); (case c=>k_is); (case k=>k_is)
      (case b=>intro _ _ _ _ _ _ us hl; obtain ⟨_,_,_,_,rfl⟩:=L2.len4 hl; rfl)
    have d_cheapest_from:Def (L2.KOf KX) mg "cheapest_from" My.s_cheapest_from ["shop","low","by_level","scale"]:=by
      dsimp only [L2.KOf]
      refine' L2.def_mk KX G ?a ?l ?c ?k ?b
      (case a=>k_is); (case l=>k_is); (case c=>k_is); (case k=>k_is)
      (case b=>intro _ _ _ _ _ _ us hl; obtain ⟨_,_,_,_,rfl⟩:=L2.len4 hl; rfl)
    have d_cheapest:Def (L2.KOf KX) mg "cheapest" My.s_cheapest ["shop","by_level","scale"]:=by
      dsimp only [L2.KOf]
      refine' L2.def_mk KX G ?a ?l ?c ?k ?b
      (case a=>k_is); (case l=>k_is); (case c=>k_is); (case k=>k_is)
      (case b=>intro _ _ _ _ _ _ us hl; obtain ⟨_,_,_,rfl⟩:=L2.len3 hl; rfl)
    have d_day_sums:Def (L2.KOf KX) mg "day_sums" My.s_day_sums ["shop","falls","t"]:=by
      dsimp only [L2.KOf]
      refine' L2.def_mk KX G ?a ?l ?c ?k ?b
      (case a=>k_is); (case l=>k_is); (case c=>k_is); (case k=>k_is)
      (case b=>intro _ _ _ _ _ _ us hl; obtain ⟨_,_,_,rfl⟩:=L2.len3 hl; rfl)
    have d_is_cheapest:Def (L2.KOf KX) mg "is_cheapest" My.s_is_cheapest ["shop","by_level","scale","stock","level"]:=by
      dsimp only [L2.KOf]
      refine' L2.def_mk KX G ?a ?l ?c ?k ?b
      (case a=>k_is); (case l=>k_is); (case c=>k_is); (case k=>k_is)
      (case b=>intro _ _ _ _ _ _ us hl; obtain ⟨_,_,_,_,_,rfl⟩:=L2.len5 hl; rfl)
    have d_marks_by:Def (L2.KOf KX) mg "marks_by" My.s_marks_by ["shop","by_level","scale","least"]:=by
      dsimp only [L2.KOf]
      refine' L2.def_mk KX G ?a ?l ?c ?k ?b
      (case a=>k_is); (case l=>k_is); (case c=>k_is); (case k=>k_is)
      (case b=>intro _ _ _ _ _ _ us hl; obtain ⟨_,_,_,_,rfl⟩:=L2.len4 hl; rfl)
    have d_marks:Def (L2.KOf KX) mg "marks" My.s_marks ["shop","falls","t","least"]:=by
      dsimp only [L2.KOf]
      refine' L2.def_mk KX G ?a ?l ?c ?k ?b
      (case a=>k_is); (case l=>k_is); (case c=>k_is); (case k=>k_is)
      (case b=>intro _ _ _ _ _ _ us hl; obtain ⟨_,_,_,_,rfl⟩:=L2.len4 hl; rfl)
    have d__law_pen:Def (L2.KOf KX) mg "_law_pen" My.s__law_pen ["_law_script"]:=by
      dsimp only [L2.KOf]
      refine' L2.def_mk KX G ?a ?l ?c ?k ?b
      (case a=>k_is); (case l=>k_is); (case c=>k_is); (case k=>k_is)
      (case b=>intro _ _ _ _ _ _ us hl; obtain ⟨_,rfl⟩:=L2.len1 hl; rfl)
    have d__law_draw:Def (L2.KOf KX) mg "_law_draw" My.s__law_draw ["_law_pen_here","_law_many"]:=by
      dsimp only [L2.KOf]
      refine' L2.def_mk KX G ?a ?l ?c ?k ?b
      (case a=>k_is); (case l=>k_is); (case c=>k_is); (case k=>k_is)
      (case b=>intro _ _ _ _ _ _ us hl; obtain ⟨_,_,rfl⟩:=L2.len2 hl; rfl)
    have d__law_prices:Def (L2.KOf KX) mg "_law_prices" My.s__law_prices ["_law_pen_here"]:=by
      dsimp only [L2.KOf]
      refine' L2.def_mk KX G ?a ?l ?c ?k ?b
      (case a=>k_is); (case l=>k_is); (case c=>k_is); (case k=>k_is)
      (case b=>intro _ _ _ _ _ _ us hl; obtain ⟨_,rfl⟩:=L2.len1 hl; rfl)
    have d__law_falls:Def (L2.KOf KX) mg "_law_falls" My.s__law_falls ["_law_pen_here","_law_days","_law_most"]:=by
      dsimp only [L2.KOf]
      refine' L2.def_mk KX G ?a ?l ?c ?k ?b
      (case a=>k_is); (case l=>k_is); (case c=>k_is); (case k=>k_is)
      (case b=>intro _ _ _ _ _ _ us hl; obtain ⟨_,_,_,rfl⟩:=L2.len3 hl; rfl)
    have d__law_reach:Def (L2.KOf KX) mg "_law_reach" My.s__law_reach ["_law_falls_here"]:=by
      dsimp only [L2.KOf]
      refine' L2.def_mk KX G ?a ?l ?c ?k ?b
      (case a=>k_is); (case l=>k_is); (case c=>k_is); (case k=>k_is)
      (case b=>intro _ _ _ _ _ _ us hl; obtain ⟨_,rfl⟩:=L2.len1 hl; rfl)
    have d__law_shop:Def (L2.KOf KX) mg "_law_shop" My.s__law_shop ["_law_pen_here","_law_is_free"]:=by
      dsimp only [L2.KOf]
      refine' L2.def_mk KX G ?a ?l ?c ?k ?b
      (case a=>k_is); (case l=>k_is); (case c=>k_is); (case k=>k_is)
      (case b=>intro _ _ _ _ _ _ us hl; obtain ⟨_,_,rfl⟩:=L2.len2 hl; rfl)
    have d__law_costs:Def (L2.KOf KX) mg "_law_costs" My.s__law_costs ["_law_row","_law_bottom","_law_shop_here"]:=by
      dsimp only [L2.KOf]
      refine' L2.def_mk KX G ?a ?l ?c ?k ?b
      (case a=>k_is); (case l=>k_is); (case c=>k_is); (case k=>k_is)
      (case b=>intro _ _ _ _ _ _ us hl; obtain ⟨_,_,_,rfl⟩:=L2.len3 hl; rfl)
    have d__law_sums:Def (L2.KOf KX) mg "_law_sums" My.s__law_sums ["_law_shop_here","_law_falls_here"]:=by
      dsimp only [L2.KOf]
      refine' L2.def_mk KX G ?a ?l ?c ?k ?b
      (case a=>k_is); (case l=>k_is); (case c=>k_is); (case k=>k_is)
      (case b=>intro _ _ _ _ _ _ us hl; obtain ⟨_,_,rfl⟩:=L2.len2 hl; rfl)
    have d__law_odd:Def (L2.KOf KX) mg "_law_odd" My.s__law_odd ["_law_pen_here","_law_shop_here"]:=by
      dsimp only [L2.KOf]
      refine' L2.def_mk KX G ?a ?l ?c ?k ?b
      (case a=>k_is); (case l=>k_is); (case c=>k_is); (case k=>k_is)
      (case b=>intro _ _ _ _ _ _ us hl; obtain ⟨_,_,rfl⟩:=L2.len2 hl; rfl)
    have d__law_feet:Def (L2.KOf KX) mg "_law_feet" My.s__law_feet ["_law_pen_here","_law_shop_here","_law_falls_here"]:=by
      dsimp only [L2.KOf]
      refine' L2.def_mk KX G ?a ?l ?c ?k ?b
      (case a=>k_is); (case l=>k_is); (case c=>k_is); (case k=>k_is)
      (case b=>intro _ _ _ _ _ _ us hl; obtain ⟨_,_,_,rfl⟩:=L2.len3 hl; rfl)
    have d__law_hump:Def (L2.KOf KX) mg "_law_hump" My.s__law_hump ["_law_pen_here","_law_shop_here","_law_falls_here"]:=by
      dsimp only [L2.KOf]
      refine' L2.def_mk KX G ?a ?l ?c ?k ?b
      (case a=>k_is); (case l=>k_is); (case c=>k_is); (case k=>k_is)
      (case b=>intro _ _ _ _ _ _ us hl; obtain ⟨_,_,_,rfl⟩:=L2.len3 hl; rfl)
    have d__law_cost:Def (L2.KOf KX) mg "_law_cost" My.s__law_cost ["_law_row","_law_start","_law_place","_law_level"]:=by
      dsimp only [L2.KOf]
      refine' L2.def_mk KX G ?a ?l ?c ?k ?b
      (case a=>k_is); (case l=>k_is); (case c=>k_is); (case k=>k_is)
      (case b=>intro _ _ _ _ _ _ us hl; obtain ⟨_,_,_,_,rfl⟩:=L2.len4 hl; rfl)
    have d__law_best:Def (L2.KOf KX) mg "_law_best" My.s__law_best ["_law_row","_law_start","_law_place"]:=by
      dsimp only [L2.KOf]
      refine' L2.def_mk KX G ?a ?l ?c ?k ?b
      (case a=>k_is); (case l=>k_is); (case c=>k_is); (case k=>k_is)
      (case b=>intro _ _ _ _ _ _ us hl; obtain ⟨_,_,_,rfl⟩:=L2.len3 hl; rfl)
    have d__law_are_right:Def (L2.KOf KX) mg "_law_are_right" My.s__law_are_right ["_law_row","_law_start","_law_lesser","_law_greater"]:=by
      dsimp only [L2.KOf]
      refine' L2.def_mk KX G ?a ?l ?c ?k ?b
      (case a=>k_is); (case l=>k_is); (case c=>k_is); (case k=>k_is)
      (case b=>intro _ _ _ _ _ _ us hl; obtain ⟨_,_,_,_,rfl⟩:=L2.len4 hl; rfl)
    have d__law_apart:Def (L2.KOf KX) mg "_law_apart" My.s__law_apart ["_law_row","_law_start","_law_x","_law_y"]:=by
      dsimp only [L2.KOf]
      refine' L2.def_mk KX G ?a ?l ?c ?k ?b
      (case a=>k_is); (case l=>k_is); (case c=>k_is); (case k=>k_is)
      (case b=>intro _ _ _ _ _ _ us hl; obtain ⟨_,_,_,_,rfl⟩:=L2.len4 hl; rfl)
    have d_law:Def (L2.KOf KX) mg "law" My.s_law ["_law_script"]:=by
      dsimp only [L2.KOf]
      refine' L2.def_mk KX G ?a ?l ?c ?k ?b
      (case a=>k_is); (case l=>k_is); (case c=>k_is); (case k=>k_is)
      (case b=>intro _ _ _ _ _ _ us hl; obtain ⟨_,rfl⟩:=L2.len1 hl; rfl)
    have T:My.Txt (L2.KOf KX) mg:=by
      dsimp only [L2.KOf] at *
      refine' My.txt_mk KX G ?z_len ?z_abs ?z_max ?z_min ?z_int ?z_tuple ?z_range ?z_sorted ?z_sum ?z_enumerate ?z_reversed ?z_TOP ?z_DEPTH ?z_START ?z_PIECE ?z_KEEP ?z_LACK ?z_LOST ?z_BACK ?z_LATE d_stocks d_next_stock d_day_cost d_end_cost d_end_costs d_weighed d_level_sums d_cheapest_from d_cheapest d_day_sums d_is_cheapest d_marks_by d_marks d__law_pen d__law_draw d__law_prices d__law_falls d__law_reach d__law_shop d__law_costs d__law_sums d__law_odd d__law_feet d__law_hump d__law_cost d__law_best d__law_are_right d__law_apart d_law
      (case z_len=>k_is)
      (case z_abs=>k_is)
      (case z_max=>k_is)
      (case z_min=>k_is)
      (case z_int=>k_is)
      (case z_tuple=>k_is)
      (case z_range=>k_is)
      (case z_sorted=>k_is)
      (case z_sum=>k_is)
      (case z_enumerate=>k_is)
      (case z_reversed=>k_is)
      (case z_TOP=>k_is)
      (case z_DEPTH=>k_is)
      (case z_START=>k_is)
      (case z_PIECE=>k_is)
      (case z_KEEP=>k_is)
      (case z_LACK=>k_is)
      (case z_LOST=>k_is)
      (case z_BACK=>k_is)
      (case z_LATE=>k_is)
    obtain ⟨f,fd,F,hm,_⟩:=T.d_law.ex
    have e0:=hmg.symm.trans hm
    cases e0
    refine ⟨fd,?_,fun base _ _=>My.ok_law T F (L2.Tr.ok_mono (L2.Tr.all_ok My.law_true.out (by decide)) fun _ _ h=>h.2)⟩
    obtain ⟨oc,od,kV,doc,pm,an,cdv,ct,osl,rfl,lk,hcd⟩:=F.ex
    exact fun s u=>.of_eq rfl
  case S=>exact fun K H a ns hl _ hS=>⟨a,ns,rfl,hS,hl,fun _=>rfl⟩
  case C=>exact fun _ _ _ _ z=>z

