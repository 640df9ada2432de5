import PyProof.Rows.All
import Wide.All
import OpenK.AllK
import Wide.FinOn
import Lean
import PyProof.EqAt
import PyProof.EqKinds
import PyProof.TupleCall
import PySem.Challenge.RW_twomarks_k46_double_falls_known
set_option Elab.async false
set_option linter.all false
set_option maxRecDepth 100000
set_option maxHeartbeats 0
noncomputable abbrev My.vw : PySem.Program := PySem.W.view
  PySem.Challenge.rw_twomarks_k46_double_falls_known.row.prog [1, 2, 3, 5, 6, 7, 8, 9, 11, 12, 13, 14, 15, 16, 17, 18, 19, 20, 21, 22, 23]
local macro_rules
  | `(tactic| o_head $H:term) => `(tactic| (
    refine PySem.W.holds_open (q := My.vw) (loose := [])
      (Xt := fun s => PySem.W.xlAt My.vw [] s && PySem.W.recOk
        (PySem.W.RowW.records PySem.Challenge.rw_twomarks_k46_double_falls_known.row.toRowW) s)
      (XP := PySem.W.XL My.vw []) (Yf := ($H).obs)
      (Ya := ($H).val) (YP := ($H).says) (N := 20000) ?hl
      ($H).of ($H).keeps (fun s e => PySem.W.xl_of s
        (Bool.and_eq_true_iff.mp e).1) PySem.W.XL.keeps
      (by rfl) (by rfl) (by rfl)
      (fun s e => PySem.W.recFacts_of
        (Bool.and_eq_true_iff.mp e).2)
      (by rfl) (by assumption) (by decide +kernel)
      ⟨rfl, rfl, rfl, rfl, rfl, by decide +kernel⟩ ?hw ?hc
    (case hl => intro w; kernel_rfl)))
open_top My.hd for PySem.Challenge.rw_twomarks_k46_double_falls_known
set_option maxHeartbeats 200000
set_option Elab.async false
set_option linter.all false
set_option maxRecDepth 100000
namespace L2
open PySem PySem.Spec PyProof.Rows
noncomputable abbrev Key:=Sum Int Str
noncomputable def keyIs:Key→Value→Bool
  | .inl k,v=>Value.isInt k v
  | .inr x,v=>Value.isStrOf x v
noncomputable def keyH (w:World):Key→Int
  | .inl k=>hashInt k
  | .inr x=>hashStr w x
theorem keyIs_shape:∀ {k:Key} {v:Value},keyIs k v=true→(∃ i t,k=Sum.inl i∧v=Value.int i t)∨(∃ x t,k=Sum.inr x∧v=Value.str x t)
  | .inl i,v,h=>by
    obtain ⟨t,e⟩:=Value.isInt_shape (k:=i) (v:=v) h
    exact .inl ⟨i,t,rfl,e⟩
  | .inr x,v,h=>by
    obtain ⟨t,e⟩:=Value.isStrOf_shape (x:=x) (v:=v) h
    exact .inr ⟨x,t,rfl,e⟩
theorem key_ll (a b:Int):decide ((Sum.inl a:Key)=Sum.inl b)=(a == b):=by
  by_cases e:a=b
  · subst e; simp
  · have h:¬ (Sum.inl a:Key)=Sum.inl b:=fun q=>e (Sum.inl.inj q)
    rw [decide_eq_false h]
    exact (beq_eq_false_iff_ne.mpr e).symm
theorem key_rr (a b:Str):decide ((Sum.inr a:Key)=Sum.inr b)=decide (a=b):=by
  by_cases e:a=b
  · subst e; simp
  · have h:¬ (Sum.inr a:Key)=Sum.inr b:=fun q=>e (Sum.inr.inj q)
    rw [decide_eq_false h,decide_eq_false e]
theorem key_lr (a:Int) (b:Str):decide ((Sum.inl a:Key)=Sum.inr b)=false:=decide_eq_false (fun q=>nomatch q)
theorem key_rl (a:Str) (b:Int):decide ((Sum.inr a:Key)=Sum.inl b)=false:=decide_eq_false (fun q=>nomatch q)

noncomputable def mixKind (prog:Program) (w:World):PySem.KeyKind prog w Key where
  is:=keyIs
  hash:=keyH w
  inj:=fun v a b ha hb=>by
    rcases keyIs_shape ha with ⟨i,t,rfl,rfl⟩ | ⟨x,t,rfl,rfl⟩
    · rcases keyIs_shape hb with ⟨j,u,rfl,e⟩ | ⟨y,u,rfl,e⟩
      · injection e with e1 _; rw [e1]
      · exact nomatch e
    · rcases keyIs_shape hb with ⟨j,u,rfl,e⟩ | ⟨y,u,rfl,e⟩
      · exact nomatch e
      · injection e with e1 _; rw [e1]
  byValue:=fun k v h=>by
    rcases keyIs_shape h with ⟨i,t,rfl,rfl⟩ | ⟨x,t,rfl,rfl⟩ <;> rfl
  pyHash:=fun hv h=>by
    rcases keyIs_shape hv with ⟨i,t,rfl,rfl⟩ | ⟨x,t,rfl,rfl⟩
    · exact wpAny_pyHash_int h
    · exact wpAny_pyHash_str h
  eqBool:=fun hu hv h=>by
    rcases keyIs_shape hu with ⟨i,t,rfl,rfl⟩ | ⟨x,t,rfl,rfl⟩
    · rcases keyIs_shape hv with ⟨j,u,rfl,rfl⟩ | ⟨y,u,rfl,rfl⟩
      · rw [key_ll] at h; exact wpAny_eqBool_int h
      · rw [key_lr] at h; exact SeqAt.EqAt.int_str i t y u _ _ _ _ h
    · rcases keyIs_shape hv with ⟨j,u,rfl,rfl⟩ | ⟨y,u,rfl,rfl⟩
      · rw [key_rl] at h; exact SeqAt.EqAt.str_int x t j u _ _ _ _ h
      · rw [key_rr] at h; exact wpAny_eqBool_str h
  «strs»:=fun k x t v h=>by
    rcases keyIs_shape h with ⟨i,u,rfl,e⟩ | ⟨y,u,rfl,e⟩
    · exact nomatch e
    · injection e with e1 _
      subst e1
      cases v <;> rfl

end L2
namespace L2
open PySem PySem.Spec PyProof.Rows
inductive V where
  | non | bl (b:Bool) | int (i:Int) | str (x:Str) | byt (b:Array UInt8) | flt (b:UInt64) | ref (a:Addr) | ty (n:String)
  deriving DecidableEq

noncomputable def RelV:V→Value→Prop
  | .non,u=>u=Value.none
  | .bl b,u=>u=Value.bool b
  | .int i,u=>∃ t,u=Value.int i t
  | .str x,u=>∃ t,u=Value.str x t
  | .byt b,u=>∃ t,u=Value.bytes b t
  | .flt b,u=>∃ t,u=Value.float b t
  | .ref a,u=>u=Value.ref a
  | .ty n,u=>u=Value.type n

noncomputable abbrev Vals:List V→List Value→Prop:=Paired RelV
theorem Vals.length {xs:List V} {us:List Value} (r:Vals xs us):xs.length=us.length:=Paired.length r
theorem Vals.get {xs:List V} {us:List Value} {i:Nat} {x:V} (h:Vals xs us) (e:xs[i]?=some x):∃ u,us[i]?=some u∧RelV x u:=by
  induction h generalizing i with
  | nil=>cases e
  | cons r t ih=>cases i with | zero=>cases e; exact ⟨_,rfl,r⟩ | succ i=>exact ih (i:=i) e
theorem Vals.set {x:V} {u:Value} (r:RelV x u) {xs:List V} {us:List Value} (i:Nat) (h:Vals xs us):Vals (xs.set i x) (us.set i u):=by
  induction h generalizing i with
  | nil=>exact .nil
  | cons q t ih=>cases i with | zero=>exact .cons r t | succ i=>exact .cons q (ih i)
theorem Vals.append {xs ys:List V} {us ws:List Value} (h:Vals xs us) (s:Vals ys ws):Vals (xs++ys) (us++ws):=by
  induction h with
  | nil=>exact s
  | cons r t ih=>exact .cons r ih
theorem Vals.take {xs:List V} {us:List Value} (n:Nat) (h:Vals xs us):Vals (xs.take n) (us.take n):=by
  induction h generalizing n with
  | nil=>rw [List.take_nil,List.take_nil]; exact .nil
  | cons r t ih=>cases n with | zero=>exact .nil | succ n=>exact .cons r (ih n)
theorem Vals.drop {xs:List V} {us:List Value} (n:Nat) (h:Vals xs us):Vals (xs.drop n) (us.drop n):=by
  induction h generalizing n with
  | nil=>rw [List.drop_nil,List.drop_nil]; exact .nil
  | cons r t ih=>cases n with | zero=>exact .cons r t | succ n=>exact ih n
noncomputable def RelO:Option V→Option Value→Prop
  | some v,some u=>RelV v u
  | none,none=>True
  | _,_=>False
noncomputable def KV {κ:Type}:List (κ×V)→List (κ×Value)→Prop:=Paired fun (p:κ×V) (q:κ×Value)=>p.1=q.1∧RelV p.2 q.2

noncomputable def kV:Key→V
  | .inl i=>.int i
  | .inr x=>.str x

inductive HO where
  /-- a list -/
  | lst (xs:List V)
  /-- a tuple (never changes) -/
  | tup (xs:List V)
  /-- a dict whose keys are ints and texts; one whose keys are tuples of ints and texts (the empty one is both) -/
  | dK (kvs:List (Key×V)) | dT (kvs:List (List Key×V))
  /-- a set of ints: its members,its size -/
  | set (S:Int→Bool) (n:Nat)
  /-- an instance of the class at C,its dict at dx,its attributes -/
  | ins (C dx:Addr) (fs:List (Str×V))
  /-- the dict of the instance at x -/
  | own (x:Addr)
  /-- the dict of an exception -/
  | xd (fs:List (Str×V))
  /-- a bound method,f of x -/
  | met (f x:Addr)
  /-- a range object lo,lo+1,.. below hi -/
  | rng (lo hi:Int)
  /-- a thing that is known to the object (the script; a dict while a loop walks it): read,never written while it is so -/
  | frz (o:Obj) (u:HO)
  /-- a code object's table -/
  | tbl (ps:Array Value)
  /-- any other thing,by what is true of its one object (a def of one's own: SetO a S n:=HO.ext fun h=>..) -/
  | ext (φ:Heap→Prop)

noncomputable abbrev Hp:=Addr→Option HO
noncomputable def upd (H:Hp) (a:Addr) (o:HO):Hp:=fun b=>if b=a then some o else H b
theorem upd_same {H:Hp} {a:Addr} {o:HO}:upd H a o a=some o:=by unfold upd; rw [if_pos rfl]
theorem upd_ne {H:Hp} {a b:Addr} {o:HO} (h:b≠a):upd H a o b=H b:=by unfold upd; rw [if_neg h]
theorem ne_of_none {H:Hp} {a b:Addr} {o:HO} (h:H a=some o) (h':H b=none):a≠b:=by
  intro e; subst e; rw [h] at h'; cases h'

section
variable (P:Program) (w:World)
noncomputable def ObjOk (H:Hp) (h:Heap) (a:Addr):HO→Prop
  | .lst xs=>xs.length≤sizeLine∧∃ (its:List Value) (n:Nat),Vals xs its∧h.get? a=some { cls:=.type "list",data:=.seq its.toArray n }
  | .tup xs=>xs.length≤sizeLine∧∃ its:List Value,Vals xs its∧IsTup h a its.toArray
  | .dK kvs=>kvs.length≤sizeLine∧(a == sysModules)=false∧∃ vs,KV kvs vs∧h.DictOf (mixKind P w) a vs
  | .dT kvs=>kvs.length≤sizeLine∧(a == sysModules)=false∧∃ xs:List (List Key×Addr×Value),
      Paired (fun (p:List Key×V) (q:List Key×Addr×Value)=>p.1=q.1∧H q.2.1=some (.tup (p.1.map kV))∧RelV p.2 q.2.2) kvs xs ∧
      ∃ o es ep,h.get? a=some o∧o.ExactDict∧o.data=.dict es ep∧es.toList=xs.map (entryOfKey (tupleKind (mixKind P w)))∧(xs.map (·.1)).Nodup
  | .set S n=>h.SetOf (intKind P w) a S n
  | .ins C dx fs=>H dx=some (.own a)∧fs.length≤1000∧dx≠a∧h.get? a=some (PySem.W.instObj C dx) ∧
      ∃ mA,h.Ns1 dx mA∧(∀ f,RelO (fs.lookup f) (mA f))∧PySem.Within mA (fs.map (·.1))
  | .own _=>∃ o,h.get? a=some o
  | .xd fs=>∃ mA,h.Ns1 a mA∧∀ f,RelO (fs.lookup f) (mA f)
  | .rng lo hi=>∃ t u v,h.get? a=some { cls:=.type "range",data:=.fields #[.int lo t,.int hi u,.int 1 v] }
  | .frz o u=>h.get? a=some o∧ObjOk H h a u
  | .tbl ps=>h.get? a=some { cls:=.none,data:=.fields ps }
  | .met f x=>h.get? a=some (PySem.W.methodObj (.ref f) (.ref x))
  | .ext φ=>φ h∧(∃ o,h.get? a=some o)∧∀ h1 h2:Heap,φ h1→(∀ o,h1.get? a=some o→h2.get? a=some o)→φ h2
noncomputable def HOk (H:Hp) (h:Heap):Prop:=∀ a o,H a=some o→ObjOk P w H h a o
end
section
variable {P:Program} {w:World} {H H':Hp} {h h':Heap} {a:Addr} {o:HO}
theorem ObjOk.lt (x:ObjOk P w H h a o):a < h.objs.size:=by
  cases o with
  | lst xs=>obtain ⟨_,_,_,_,e⟩:=x; exact Heap.lt_size e
  | tup xs=>obtain ⟨_,_,_,p⟩:=x; exact p.lt
  | dK kvs=>obtain ⟨_,_,_,_,o,_,_,e,_⟩:=x; exact Heap.lt_size e
  | dT kvs=>obtain ⟨_,_,_,_,o,_,_,e,_⟩:=x; exact Heap.lt_size e
  | set S n=>obtain ⟨o,_,_,_,e,_⟩:=x; exact Heap.lt_size e
  | ins C dx fs=>obtain ⟨_,_,_,e,_⟩:=x; exact Heap.lt_size e
  | own y=>obtain ⟨_,e⟩:=x; exact Heap.lt_size e
  | xd fs=>obtain ⟨_,⟨_,_,_,e,_⟩,_⟩:=x; exact Heap.lt_size e
  | rng lo hi=>obtain ⟨_,_,_,e⟩:=x; exact Heap.lt_size e
  | frz ob u=>obtain ⟨e,_⟩:=x; exact Heap.lt_size e
  | tbl ps=>exact Heap.lt_size (show h.get? a=some _ from x)
  | met f y=>exact Heap.lt_size (show h.get? a=some _ from x)
  | ext φ=>obtain ⟨_,⟨_,e⟩,_⟩:=x; exact Heap.lt_size e
theorem Paired.mapP {α β:Type} {F G:α→β→Prop} {l₁:List α} {l₂:List β} (h:Paired F l₁ l₂) (f:∀ a b,F a b→G a b):Paired G l₁ l₂:=by
  induction h with
  | nil=>exact .nil
  | cons r t ih=>exact .cons (f _ _ r) ih
theorem ObjOk.stay (x:ObjOk P w H h a o) (k:∀ b u,(b=a∨H b=some (.own a))→h.get? b=some u→h'.get? b=some u)
    (ho:∀ b,H b=some (.own a)→H' b=some (.own a)) (ht:∀ b xs,H b=some (.tup xs)→H' b=some (.tup xs)):ObjOk P w H' h' a o:=by
  induction o with
  | lst xs=>obtain ⟨z,its,n,r,e⟩:=x; exact ⟨z,its,n,r,k _ _ (.inl rfl) e⟩
  | tup xs=>obtain ⟨z,its,r,ob,e,c⟩:=x; exact ⟨z,its,r,ob,k _ _ (.inl rfl) e,c⟩
  | dK kvs=>obtain ⟨z,y,vs,r,ob,es,ep,e,c⟩:=x; exact ⟨z,y,vs,r,ob,es,ep,k _ _ (.inl rfl) e,c⟩
  | dT kvs =>
    obtain ⟨z,y,xs,r,ob,es,ep,e,c⟩:=x
    exact ⟨z,y,xs,Paired.mapP r fun p q z=>⟨z.1,ht _ _ z.2.1,z.2.2⟩,ob,es,ep,k _ _ (.inl rfl) e,c⟩
  | set S n=>obtain ⟨ob,es,ep,t,e,c⟩:=x; exact ⟨ob,es,ep,t,k _ _ (.inl rfl) e,c⟩
  | ins C dx fs =>
    obtain ⟨d,z,ne,e,mA,⟨od,es,ep,e2,c⟩,r⟩:=x
    exact ⟨ho _ d,z,ne,k _ _ (.inl rfl) e,mA,⟨od,es,ep,k _ _ (.inr d) e2,c⟩,r⟩
  | own y=>obtain ⟨ob,e⟩:=x; exact ⟨ob,k _ _ (.inl rfl) e⟩
  | xd fs=>obtain ⟨mA,⟨od,es,ep,e,c⟩,r⟩:=x; exact ⟨mA,⟨od,es,ep,k _ _ (.inl rfl) e,c⟩,r⟩
  | rng lo hi=>obtain ⟨t,u,v,e⟩:=x; exact ⟨t,u,v,k _ _ (.inl rfl) e⟩
  | frz ob u ih=>obtain ⟨e,q⟩:=x; exact ⟨k _ _ (.inl rfl) e,ih q⟩
  | tbl ps =>
    have e:h.get? a=some { cls:=.none,data:=.fields ps }:=x
    show h'.get? a=some { cls:=.none,data:=.fields ps }
    exact k a _ (.inl rfl) e
  | met f y =>
    have e:h.get? a=some (PySem.W.methodObj (.ref f) (.ref y)):=x
    show h'.get? a=some (PySem.W.methodObj (.ref f) (.ref y))
    exact k a _ (.inl rfl) e
  | ext φ=>obtain ⟨p,⟨o,e⟩,st⟩:=x; exact ⟨st _ _ p fun o q=>k _ _ (.inl rfl) q,⟨o,k _ _ (.inl rfl) e⟩,st⟩
theorem HOk.lt (x:HOk P w H h) (e:H a=some o):a < h.objs.size:=(x a o e).lt
theorem HOk.fresh (x:HOk P w H h) (e:h.objs.size≤a):H a=none:=by
  cases q:H a with
  | none=>rfl
  | some u=>exact absurd (Nat.lt_of_lt_of_le (x.lt q) e) (Nat.lt_irrefl _)
theorem HOk.kept (x:HOk P w H h) (k:∀ b u,h.get? b=some u→h'.get? b=some u):HOk P w H h':=fun a o e =>
  (x a o e).stay (fun b u _ q=>k b u q) (fun _ q=>q) fun _ _ q=>q
theorem HOk.laid (x:HOk P w H h) (k:∀ b u,h.get? b=some u→h'.get? b=some u) (hp:h.objs.size≤a) (new:ObjOk P w (upd H a o) h' a o):HOk P w (upd H a o) h':=fun b u e=>by
  have hn:=x.fresh hp
  by_cases hb:b=a
  · subst hb; rw [upd_same] at e; cases e; exact new
  · rw [upd_ne hb] at e
    exact (x b u e).stay (fun c v _ q=>k c v q) (fun c q=>by rw [upd_ne (ne_of_none q hn)]; exact q) fun c xs q=>by rw [upd_ne (ne_of_none q hn)]; exact q
end
noncomputable def Rd (H:Hp) (a:Addr) (u:HO):Prop:=H a=some u∨∃ o,H a=some (.frz o u)
theorem Rd.ok {P:Program} {w:World} {H:Hp} {h:Heap} {a:Addr} {u:HO} (r:Rd H a u) (x:HOk P w H h):ObjOk P w H h a u:=by
  rcases r with r | ⟨o,r⟩
  · exact x a u r
  · obtain ⟨_,q⟩:=x a _ r
    exact q
noncomputable def Mut:Option HO→Prop
  | some (.lst _)=>True
  | some (.dK _)=>True
  | some (.dT _)=>True
  | some (.set _ _)=>True
  | some (.ins _ _ _)=>True
  | some (.ext _)=>True
  | _=>False
section
variable {P:Program} {w:World} {H:Hp} {h h':Heap} {x e:Addr} {o':HO}
theorem HOk.write (ok:HOk P w H h) (mu:Mut (H x)) (he:e=x∨H e=some (.own x)) (k:∀ b u,b≠e→h.get? b=some u→h'.get? b=some u) (heo:∃ u,h'.get? e=some u)
    (new:ObjOk P w (upd H x o') h' x o'):HOk P w (upd H x o') h':=fun b u q=>by
  have nown:∀ c y,H c=some (.own y)→c≠x:=fun c y r z=>by subst z; rw [r] at mu; exact mu
  have ntup:∀ c xs,H c=some (.tup xs)→c≠x:=fun c xs r z=>by subst z; rw [r] at mu; exact mu
  by_cases hb:b=x
  · subst hb; rw [upd_same] at q; cases q; exact new
  · rw [upd_ne hb] at q
    by_cases hbe:b=e
    · have q':H b=some (.own x):=by
        rcases he with z | z
        · exact absurd (hbe.trans z) hb
        · rw [hbe]; exact z
      rw [q] at q'; cases q'
      obtain ⟨v,hv⟩:=heo
      exact ⟨v,by rw [hbe]; exact hv⟩
    · refine (ok b u q).stay (fun c v hc r=>k c v ?_ r) (fun c r=>by rw [upd_ne (nown c b r)]; exact r) fun c xs r=>by rw [upd_ne (ntup c xs r)]; exact r
      rcases hc with rfl | hc
      · exact hbe
      · rintro rfl
        rcases he with z | z
        · exact nown c b hc z
        · rw [hc] at z; cases z; exact hb rfl
end
structure Un (fs ex:List Addr) (H H':Hp) (h h':Heap):Prop where
  keep:∀ b o,h.get? b=some o→H b=none→b ∉ fs→b ∉ ex→h'.get? b=some o
  slot:∀ b o,h.get? b=some o→H b=none→b∈fs→b ∉ ex→∃ sl,h'.get? b=some { o with slots:=sl }
  free:∀ b o,h.get? b=some o→H b=none→b ∉ ex→H' b=none
  there:∀ b o,h.get? b=some o→b ∉ ex→∃ o',h'.get? b=some o'
  tups:∀ b xs,H b=some (.tup xs)→H' b=some (.tup xs)
  frzs:∀ b o u,H b=some (.frz o u)→H' b=some (.frz o u)
  tbls:∀ b ps,H b=some (.tbl ps)→∃ more,H' b=some (.tbl (ps++more))
section
variable {fs fs' ex ex':List Addr} {H H1 H2:Hp} {h h1 h2 h':Heap} {a x e:Addr} {o:HO}
theorem Un.any (u:Un fs ex H H1 h h1) {b:Addr} {ob:Obj} (q:h.get? b=some ob) (n:H b=none) (hx:b ∉ ex):∃ sl,h1.get? b=some { ob with slots:=sl }:=by
  by_cases hb:b∈fs
  · exact u.slot b ob q n hb hx
  · exact ⟨ob.slots,u.keep b ob q n hb hx⟩
theorem Un.kept (k:∀ b u,h.get? b=some u→h'.get? b=some u):Un fs ex H H h h' :=
  ⟨fun b ob q _ _ _=>k b ob q,fun b ob q _ _ _=>⟨ob.slots,k b ob q⟩,fun _ _ _ n _=>n,fun b ob q _=>⟨ob,k b ob q⟩,fun _ _ q=>q,fun _ _ _ q=>q,fun _ ps q=>⟨#[],by rw [q]; simp⟩⟩
theorem Un.refl:Un fs ex H H h h:=Un.kept fun _ _ q=>q
theorem Un.laid (k:∀ b u,h.get? b=some u→h'.get? b=some u) (hp:h.objs.size≤a) (hn:H a=none):Un fs ex H (upd H a o) h h' where
  keep:=fun b u q _ _ _=>k b u q
  slot:=fun b u q _ _ _=>⟨u.slots,k b u q⟩
  free:=fun b u q n _=>by rw [upd_ne (Nat.ne_of_lt (Nat.lt_of_lt_of_le (Heap.lt_size q) hp))]; exact n
  there:=fun b u q _=>⟨u,k b u q⟩
  tups:=fun b xs q=>by rw [upd_ne (ne_of_none q hn)]; exact q
  frzs:=fun b u xs q=>by rw [upd_ne (ne_of_none q hn)]; exact q
  tbls:=fun b ps q=>⟨#[],by rw [upd_ne (ne_of_none q hn),q]; simp⟩
theorem Un.write (mu:Mut (H x)) (he:e=x∨H e=some (.own x)) (k:∀ b u,b≠e→h.get? b=some u→h'.get? b=some u) (heo:∃ u,h'.get? e=some u):Un fs ex H (upd H x o) h h':=by
  have hx:∀ b,H b=none→b≠x:=fun b n z=>by subst z; rw [n] at mu; exact mu
  have hb:∀ b,H b=none→b≠e:=fun b n z=>by
    subst z
    rcases he with r | r
    · exact hx b n r
    · rw [n] at r; cases r
  have hm:∀ b u,H b=some u→¬ Mut (some u)→b≠x:=fun b u q nm z=>by subst z; rw [q] at mu; exact nm mu
  refine ⟨fun b u q n _ _=>k b u (hb b n) q,fun b u q n _ _=>⟨u.slots,k b u (hb b n) q⟩,fun b u q n _=>by rw [upd_ne (hx b n)]; exact n,fun b u q _=>?_,
    fun b xs q=>by rw [upd_ne (hm b _ q fun z=>z)]; exact q,fun b u xs q=>by rw [upd_ne (hm b _ q fun z=>z)]; exact q,fun b ps q=>⟨#[],by rw [upd_ne (hm b _ q fun z=>z),q]; simp⟩⟩
  by_cases hbe:b=e
  · subst hbe; exact heo
  · exact ⟨u,k b u hbe q⟩
end
noncomputable def trk (h:Heap) (H:Hp):List Addr:=(List.range h.objs.size).filter fun a=>(H a).isSome
noncomputable def hidT (h:Heap) (H:Hp):Heap:=PySem.W.hideAll h (trk h H)
theorem hidT_size (h:Heap) (H:Hp):(hidT h H).objs.size=h.objs.size:=PySem.W.hideAll_size _ _
theorem hidT_get {h:Heap} {H:Hp} {b:Addr} {o:Obj} (e:h.get? b=some o) (n:H b=none):(hidT h H).get? b=some o :=
  PySem.W.hideAll_get _ e fun hm=>by
    have q:(H b).isSome=true:=(List.mem_filter.mp hm).2
    rw [n] at q; simp at q
theorem of_hidT {h:Heap} {H:Hp} {b:Addr} {o:Obj} (e:(hidT h H).get? b=some o):h.get? b=some o∧H b=none:=by
  have e':h.get? b=some o:=PySem.W.of_hideAll (trk h H) e
  refine ⟨e',?_⟩
  cases q:H b with
  | none=>rfl
  | some x =>
    have hm:b∈trk h H:=List.mem_filter.mpr ⟨List.mem_range.mpr (Heap.lt_size e'),by simp [q]⟩
    have z:(hidT h H).get? b=none:=PySem.W.hideAll_none (trk h H) hm
    rw [z] at e; cases e

noncomputable def allNews (g h:Heap) (L:Addr):List (Addr×Obj):=(List.range h.objs.size).filterMap fun a=>if a=L∨(g.get? a).isSome=true then none else (h.get? a).map fun o=>(a,o)
noncomputable def rest (g h:Heap) (L d:Addr):List (Addr×Obj):=(allNews g h L).filter fun p=>decide (p.1≠d)
end L2
namespace L2
open PySem PySem.Spec PyProof.Rows
structure Mod (K:PySem.W.Frag) (mg:Str→Option Value) (base:Heap):Prop where
  kin:K.In base
  glob:base.Ns mainGlobals mg
  blt:∃ mb,base.Ns builtinsNs mb∧∀ x:Str,x≠"__name__"→mb x=bootBuiltins x
  nolimit:base.NoLimit
  nodig:base.NoDigits

structure Cx where
  prog:Program
  w:World
  K:PySem.W.Frag
  mg:Str→Option Value
  base:Heap
  A:Around
  N:List Str
  s₀:Shared
  H₀:Hp
  env:Env
  outer:List Env
  stack:List Env
  ex:List Addr
  fn:Str→Bool
  calm:Bool
  pn:List (Addr×Obj)
  xe:Value→Shared→Prop
noncomputable def frs (l:List Env):List Addr:=l.filterMap (·.frame)
noncomputable abbrev Cx.fs (X:Cx):List Addr:=frs X.outer

noncomputable def Vis (sc:Scope) (x:Str):Prop:=sc.names.lookup x=some .local∨sc.names.lookup x=some .cell∨sc.names.lookup x=some .free
noncomputable def Loc (sc:Scope) (x:Str):Prop:=sc.names.lookup x=some .local∨sc.names.lookup x=some .cell
noncomputable def Look (env:Env) (h:Heap) (m:Str→Option Value) (x:Str) (u:Value):Prop :=
  (env.kindOf x=some .local∧m x=some u)∨((env.kindOf x=some .cell∨env.kindOf x=some .free)∧∃ c,env.cells.lookup x=some c∧h.IsCell c (some u))

structure Cx.Ok (X:Cx):Prop where
  mod:Mod X.K X.mg X.base
  kind:X.env.scope.kind=.function
  glob:X.env.globals=mainGlobals
  blt:X.env.builtins=builtinsNs
  above:X.s₀.heap.objs.size≤X.env.locals
  inj:∀ x y c,X.env.cells.lookup x=some c→X.env.cells.lookup y=some c→x=y
  has:∀ x,(X.env.kindOf x=some .cell∨X.env.kindOf x=some .free)→∃ c,X.env.cells.lookup x=some c
  cab:∀ x c,X.fn x=true→X.env.cells.lookup x=some c→X.s₀.heap.objs.size≤c
  hd:X.calm=true→X.A.handled=none
  frames:X.A.frames=some X.stack
  stk:X.stack=X.outer∨(X.stack=X.env::X.outer∧X.env.frame=some X.env.locals)
  exf:∀ b∈X.ex,b≠X.env.locals∧∀ x c,X.env.cells.lookup x=some c→c≠b
  bs:∀ b o,X.base.get? b=some o→X.s₀.heap.get? b=some o∧X.H₀ b=none
  bsz:X.base.objs.size≤X.s₀.heap.objs.size
  noex:∀ b o,X.base.get? b=some o→b ∉ X.ex
  exfs:∀ b∈X.ex,b ∉ X.fs
  funs:X.s₀.heap.FunFrames X.base X.outer
  frf:∀ b∈X.fs,X.H₀ b=none

structure Inv (X:Cx) (pins:List (Addr×Obj)) (σ:List (Option V)) (H:Hp) (s:Shared):Prop where
  ok:X.Ok
  os:s.os=X.s₀.os
  bare:AllBare s.gens
  base:Un X.fs X.ex X.H₀ H X.s₀.heap s.heap
  loc:∃ m,s.heap.Ns X.env.locals m∧∀ (i:Nat) (x:Str) (v:V),X.N[i]?=some x→σ[i]?=some (some v)→Vis X.env.scope x→∃ u,RelV v u∧Look X.env s.heap m x u
  cell:∀ x c,X.env.cells.lookup x=some c→∃ v,s.heap.IsCell c v
  free:H X.env.locals=none
  freeC:∀ x c,X.env.cells.lookup x=some c→H c=none
  pin:∀ p∈X.pn++pins,s.heap.get? p.1=some p.2∧H p.1=none∧p.1≠X.env.locals∧p.1 ∉ X.fs∧∀ v,p.2.data≠.cell v
  hok:HOk X.prog X.w H s.heap
  len:σ.length=X.N.length

section
variable {X:Cx} {pins:List (Addr×Obj)} {σ:List (Option V)} {H H':Hp} {s:Shared} {h':Heap}
theorem Cx.Ok.nofr (ok:X.Ok) {b:Addr} {o:Obj} (e:X.base.get? b=some o):b ∉ X.fs:=fun hb=>by
  have:=(ok.funs.mem hb).1
  rw [e] at this; cases this
theorem Inv.bs (I:Inv X pins σ H s):∀ b o,X.base.get? b=some o→s.heap.get? b=some o∧H b=none:=fun b o e =>
  ⟨I.base.keep b o (I.ok.bs b o e).1 (I.ok.bs b o e).2 (I.ok.nofr e) (I.ok.noex b o e),I.base.free b o (I.ok.bs b o e).1 (I.ok.bs b o e).2 (I.ok.noex b o e)⟩
theorem Inv.bk (I:Inv X pins σ H s):∀ b o,X.base.get? b=some o→s.heap.get? b=some o:=fun b o e=>(I.bs b o e).1
theorem Inv.mod (I:Inv X pins σ H s):Mod X.K X.mg X.base:=I.ok.mod
theorem Inv.kIn (I:Inv X pins σ H s):X.K.In s.heap:=I.ok.mod.kin.keeps I.bk
theorem Inv.lt (I:Inv X pins σ H s):X.env.locals < s.heap.objs.size:=let ⟨_,hn,_⟩:=I.loc; hn.lt
theorem Inv.sz (I:Inv X pins σ H s):X.s₀.heap.objs.size≤s.heap.objs.size:=Nat.le_trans I.ok.above (Nat.le_of_lt I.lt)
theorem Inv.nofs (I:Inv X pins σ H s) {a:Addr} (h:s.heap.objs.size≤a):a ∉ X.fs:=fun hb=>by
  obtain ⟨_,o,ho,_⟩:=I.ok.funs.mem hb
  exact absurd (Nat.lt_of_lt_of_le (Heap.lt_size ho) (Nat.le_trans I.sz h)) (Nat.lt_irrefl _)
theorem Inv.cne (I:Inv X pins σ H s):∀ x c,X.env.cells.lookup x=some c→c≠X.env.locals:=fun x c e z=>by
  obtain ⟨v,o,ho,hd⟩:=I.cell x c e
  obtain ⟨m,⟨o',es,ep,ho',hd',_⟩,_⟩:=I.loc
  rw [z,ho'] at ho; cases ho; rw [hd'] at hd; cases hd
theorem Inv.funs (I:Inv X pins σ H s):s.heap.FunFrames X.base X.outer:=by
  have all:∀ (l:List Env),(∀ b∈frs l,b∈X.fs)→X.s₀.heap.FunFrames X.base l→s.heap.FunFrames X.base l:=by
    intro l
    induction l with
    | nil=>intro _ _; trivial
    | cons env r ih =>
      intro hs hl
      obtain ⟨hk,⟨L,o,hf,hn,ho,hd⟩,hr⟩:=hl
      have hL:L∈X.fs:=hs L (by unfold frs; rw [List.filterMap_cons,hf]; exact List.mem_cons_self)
      obtain ⟨sl,e⟩:=I.base.slot L o ho (I.ok.frf L hL) hL fun z=>I.ok.exfs L z hL
      exact ⟨hk,⟨L,_,hf,hn,e,hd⟩,ih (fun b hb=>hs b (by unfold frs; rw [List.filterMap_cons,hf]; exact List.mem_cons_of_mem _ hb)) hr⟩
  exact all X.outer (fun _ hb=>hb) I.ok.funs

theorem Inv.stack (I:Inv X pins σ H s):s.heap.FunFrames X.base X.stack:=by
  rcases I.ok.stk with e | ⟨e,hf⟩
  · rw [e]; exact I.funs
  · rw [e]
    obtain ⟨m,hn,_⟩:=I.loc
    refine .cons (by rw [I.ok.kind]; decide) hf hn ?_ I.funs
    exact Heap.get?_none_of_le (Nat.le_trans I.ok.bsz I.ok.above)
theorem Inv.stkSub (I:Inv X pins σ H s):∀ b∈frs X.stack,b∈X.env.locals::X.fs:=fun b hb=>by
  rcases I.ok.stk with e | ⟨e,hf⟩
  · rw [e] at hb; exact List.mem_cons_of_mem _ hb
  · rw [e] at hb
    unfold frs at hb
    rw [List.filterMap_cons,hf] at hb
    exact hb
theorem Inv.stkFree (I:Inv X pins σ H s):∀ b∈frs X.stack,H b=none:=fun b hb=>by
  rcases List.mem_cons.mp (I.stkSub b hb) with e | hb
  · rw [e]; exact I.free
  · obtain ⟨_,o,ho,_⟩:=I.ok.funs.mem hb
    exact I.base.free b o ho (I.ok.frf b hb) fun z=>I.ok.exfs b z hb

theorem Inv.step {g':Array GenState} {t':Nat} {d':Drawn} {ch:List Addr} (I:Inv X pins σ H s)
    (hch:∀ b∈ch,(b∈X.ex∨X.s₀.heap.objs.size≤b)∧b≠X.env.locals∧(∀ x c,X.env.cells.lookup x=some c→c≠b)∧∀ p∈X.pn++pins,p.1≠b)
    (keep:∀ b o,b≠X.env.locals→b ∉ X.fs→b ∉ ch→s.heap.get? b=some o→H b=none→h'.get? b=some o)
    (slot:∀ b o,b≠X.env.locals→b∈X.fs→b ∉ ch→s.heap.get? b=some o→H b=none→∃ sl,h'.get? b=some { o with slots:=sl }) (free:∀ b o,b ∉ ch→s.heap.get? b=some o→H b=none→H' b=none)
    (there:∀ b o,b ∉ ch→s.heap.get? b=some o→∃ o',h'.get? b=some o')
    (tups:∀ b xs,H b=some (.tup xs)→H' b=some (.tup xs)) (frzs:∀ b o u,H b=some (.frz o u)→H' b=some (.frz o u)) (tbls:∀ b ps,H b=some (.tbl ps)→∃ more,H' b=some (.tbl (ps++more)))
    (ns:∀ m,s.heap.Ns X.env.locals m→h'.Ns X.env.locals m) (hok:HOk X.prog X.w H' h') (hg:AllBare g') :
    Inv X pins σ H' { s with heap:=h',gens:=g',drawn:=d',toks:=t' }:=by
  have neL:∀ b o,X.s₀.heap.get? b=some o→b≠X.env.locals:=fun b o e=>Nat.ne_of_lt (Nat.lt_of_lt_of_le (Heap.lt_size e) I.ok.above)
  have neC:∀ b o,X.s₀.heap.get? b=some o→b ∉ X.ex→b ∉ ch:=fun b o e hx hb=>by
    rcases (hch b hb).1 with z | z
    · exact hx z
    · exact absurd (Nat.lt_of_lt_of_le (Heap.lt_size e) z) (Nat.lt_irrefl _)
  have cellK:∀ x c,X.env.cells.lookup x=some c→∀ v,s.heap.IsCell c v→h'.IsCell c v:=fun x c e v hz0=>by
    obtain ⟨o,ho,hd⟩:=hz0
    have nch:c ∉ ch:=fun z=>(hch c z).2.2.1 x c e rfl
    by_cases hc:c∈X.fs
    · obtain ⟨sl,q⟩:=slot c o (I.cne x c e) hc nch ho (I.freeC x c e)
      exact ⟨_,q,hd⟩
    · exact ⟨o,keep c o (I.cne x c e) hc nch ho (I.freeC x c e),hd⟩
  refine ⟨I.ok,I.os,hg,⟨fun b o e n hb hx=>?_,fun b o e n hb hx=>?_,fun b o e n hx=>?_,fun b o e hx=>?_,fun b xs e=>tups b xs (I.base.tups b xs e),fun b o xs e=>frzs b o xs (I.base.frzs b o xs e),fun b ps e=>?_⟩,?_,fun x c e=>?_,?_,fun x c e=>?_,fun p hp=>?_,hok,I.len⟩
  · exact keep b o (neL b o e) hb (neC b o e hx) (I.base.keep b o e n hb hx) (I.base.free b o e n hx)
  · obtain ⟨sl,e1⟩:=I.base.slot b o e n hb hx
    obtain ⟨sl',e2⟩:=slot b _ (neL b o e) hb (neC b o e hx) e1 (I.base.free b o e n hx)
    exact ⟨sl',e2⟩
  · obtain ⟨o',e1⟩:=I.base.there b o e hx
    exact free b o' (neC b o e hx) e1 (I.base.free b o e n hx)
  · obtain ⟨o',e1⟩:=I.base.there b o e hx
    exact there b o' (neC b o e hx) e1
  · obtain ⟨m1,e1⟩:=I.base.tbls b ps e
    obtain ⟨m2,e2⟩:=tbls b _ e1
    exact ⟨m1++m2,by rw [e2,Array.append_assoc]⟩
  · obtain ⟨m,hn,hl⟩:=I.loc
    refine ⟨m,ns m hn,fun i x v e1 e2 e3=>?_⟩
    obtain ⟨u,r,l⟩:=hl i x v e1 e2 e3
    refine ⟨u,r,?_⟩
    rcases l with l | ⟨k,c,e,z⟩
    · exact .inl l
    · exact .inr ⟨k,c,e,cellK x c e _ z⟩
  · obtain ⟨v,z⟩:=I.cell x c e
    exact ⟨v,cellK x c e v z⟩
  · obtain ⟨m,⟨o,_,_,ho,_⟩,_⟩:=I.loc
    exact free _ o (fun z=>(hch _ z).2.1 rfl) ho I.free
  · obtain ⟨v,o,ho,hd⟩:=I.cell x c e
    exact free c o (fun z=>(hch c z).2.2.1 x c e rfl) ho (I.freeC x c e)
  · obtain ⟨e,n,ne,nf,d⟩:=I.pin p hp
    have nch:p.1 ∉ ch:=fun z=>(hch p.1 z).2.2.2 p hp rfl
    exact ⟨keep p.1 p.2 ne nf nch e n,free p.1 p.2 nch e n,ne,nf,d⟩
theorem Inv.un {t':Nat} (I:Inv X pins σ H s) (u:Un X.fs [] H H' s.heap h') (hok:HOk X.prog X.w H' h'):Inv X pins σ H' { s with heap:=h',toks:=t' }:=by
  obtain ⟨m,⟨o,es,ep,ho,r⟩,_⟩:=id I.loc
  obtain ⟨sl,hL⟩:=u.any ho I.free (by simp)
  exact I.step (g':=s.gens) (d':=s.drawn) (ch:=[]) (fun _ z=>nomatch z) (fun b o _ hb _ e n=>u.keep b o e n hb (by simp)) (fun b o _ hb _ e n=>u.slot b o e n hb (by simp)) (fun b o _ e n=>u.free b o e n (by simp)) (fun b o _ e=>u.there b o e (by simp)) u.tups u.frzs u.tbls (fun m' hm=>by
    obtain ⟨o',es',ep',ho',r'⟩:=hm
    rw [ho] at ho'; cases ho'
    exact ⟨_,es',ep',hL,r'⟩) hok I.bare
theorem Inv.call {g':Array GenState} {t':Nat} {d':Drawn} {ch:List Addr} (I:Inv X pins σ H s) (u:Un (frs X.stack) ch H H' s.heap h') (hok:HOk X.prog X.w H' h') (hg:AllBare g')
    (hch:∀ b∈ch,(b∈X.ex∨X.s₀.heap.objs.size≤b)∧b≠X.env.locals∧(∀ x c,X.env.cells.lookup x=some c→c≠b)∧∀ p∈X.pn++pins,p.1≠b) :
    Inv X pins σ H' { s with heap:=h',gens:=g',drawn:=d',toks:=t' }:=by
  obtain ⟨m,⟨o,es,ep,ho,r⟩,_⟩:=id I.loc
  obtain ⟨sl,hL⟩:=u.any ho I.free fun z=>(hch _ z).2.1 rfl
  exact I.step (ch:=ch) hch (fun b o hL hb hc e n=>u.keep b o e n (fun z=>(List.mem_cons.mp (I.stkSub b z)).elim hL hb) hc) (fun b o _ _ hc e n=>u.any e n hc) (fun b o hc e n=>u.free b o e n hc) (fun b o hc e=>u.there b o e hc) u.tups u.frzs u.tbls (fun m' hm=>by
    obtain ⟨o',es',ep',ho',r'⟩:=hm
    rw [ho] at ho'; cases ho'
    exact ⟨_,es',ep',hL,r'⟩) hok hg
theorem Inv.turned {t':Nat} {it:Addr} (I:Inv X pins σ H s) (k:∀ b o,b≠it→s.heap.get? b=some o→h'.get? b=some o) (hn:H it=none) (hL:it≠X.env.locals)
    (h1:it∈X.ex∨X.s₀.heap.objs.size≤it) (h2:∀ x c,X.env.cells.lookup x=some c→c≠it) (h3:∀ p∈X.pn++pins,p.1≠it):Inv X pins σ H { s with heap:=h',toks:=t' }:=by
  have nit:∀ b u,H b=some u→b≠it:=fun b u e z=>by rw [z,hn] at e; cases e
  refine I.step (g':=s.gens) (d':=s.drawn) (ch:=[it]) (fun b hb=>?_) (fun b o _ _ hc e _=>k b o (fun z=>hc (by simp [z])) e) (fun b o _ _ hc e _=>⟨o.slots,k b o (fun z=>hc (by simp [z])) e⟩) (fun _ _ _ _ n=>n)
    (fun b o hc e=>⟨o,k b o (fun z=>hc (by simp [z])) e⟩) (fun _ _ e=>e) (fun _ _ _ e=>e) (fun b ps e=>⟨#[],by rw [e]; simp⟩) (fun m hm=>?_) (fun b u e=>?_) I.bare
  · have e:b=it:=by simpa using hb
    subst e
    exact ⟨h1,hL,h2,h3⟩
  · obtain ⟨o,es,ep,ho,r⟩:=hm
    exact ⟨o,es,ep,k _ o (Ne.symm hL) ho,r⟩
  · refine (I.hok b u e).stay (fun c v hc q=>k c v ?_ q) (fun _ q=>q) fun _ _ q=>q
    rcases hc with z | z
    · rw [z]; exact nit b u e
    · exact nit c _ z
theorem Inv.tok (I:Inv X pins σ H s) (t:Nat):Inv X pins σ H { s with toks:=t }:=I.un (h':=s.heap) (t':=t) Un.refl I.hok
theorem Inv.kept {t':Nat} (I:Inv X pins σ H s) (k:∀ b u,s.heap.get? b=some u→h'.get? b=some u):Inv X pins σ H { s with heap:=h',toks:=t' }:=I.un (Un.kept k) (I.hok.kept k)
theorem Inv.laid {a:Addr} {o:HO} {t':Nat} (I:Inv X pins σ H s) (k:∀ b u,s.heap.get? b=some u→h'.get? b=some u) (hp:s.heap.objs.size≤a) (new:ObjOk X.prog X.w (upd H a o) h' a o) :
    Inv X pins σ (upd H a o) { s with heap:=h',toks:=t' }:=I.un (Un.laid k hp (I.hok.fresh hp)) (I.hok.laid k hp new)
theorem Inv.write {x e:Addr} {o:HO} {t':Nat} (I:Inv X pins σ H s) (mu:Mut (H x)) (he:e=x∨H e=some (.own x)) (k:∀ b u,b≠e→s.heap.get? b=some u→h'.get? b=some u) (heo:∃ u,h'.get? e=some u)
    (new:ObjOk X.prog X.w (upd H x o) h' x o):Inv X pins σ (upd H x o) { s with heap:=h',toks:=t' }:=I.un (Un.write mu he k heo) (I.hok.write mu he k heo new)
theorem Inv.pins_of {pins':List (Addr×Obj)} (I:Inv X pins σ H s) (h:∀ p∈pins',s.heap.get? p.1=some p.2∧H p.1=none∧p.1≠X.env.locals∧p.1 ∉ X.fs∧∀ v,p.2.data≠.cell v):Inv X pins' σ H s :=
  ⟨I.ok,I.os,I.bare,I.base,I.loc,I.cell,I.free,I.freeC,fun p hp=>(List.mem_append.mp hp).elim (fun z=>I.pin p (List.mem_append_left _ z)) (h p),I.hok,I.len⟩

theorem nodup_ix {N:List Str} (hN:N.Nodup) {i j:Nat} {x:Str} (a:N[i]?=some x) (b:N[j]?=some x):i=j:=by
  obtain ⟨h1,e1⟩:=List.getElem?_eq_some_iff.mp a
  obtain ⟨h2,e2⟩:=List.getElem?_eq_some_iff.mp b
  exact (List.getElem_inj hN).mp (e1.trans e2.symm)

theorem store_ok2 {M:Model} {A:Around} {E:Value→Shared→Prop} {i:Nat} {x:Str} {v:V} {u:Value} {Q:Unit→Shared→Prop} (I:Inv X pins σ H s) (hN:X.N.Nodup) (hi:X.N[i]?=some x) (hx:Loc X.env.scope x) (r:RelV v u)
    (h:∀ s',Inv X pins (σ.set i (some v)) H s'→(∃ a,Heap.SameBut a s.heap s'.heap∧(a=X.env.locals∨X.env.cells.lookup x=some a))→Q () s') (hf:X.fn x=true∨X.env.scope.names.lookup x=some .local:=by first | exact .inl rfl | exact .inr rfl | assumption):wpAny M A (storeName X.env x u) Q E s:=by
  obtain ⟨m,hn,hl⟩:=id I.loc
  have hcls:(X.env.scope.kind == .class || (X.env.scope.kind == .module && X.env.locals != X.env.globals))=false:=by rw [I.ok.kind]; rfl
  have hiσ:i < σ.length:=by rw [I.len]; exact (List.getElem?_eq_some_iff.mp hi).1
  have cne:=I.cne
  have tracked:∀ {a:Addr} {h':Heap},(∃ o,s.heap.get? a=some o∧H a=none)→Heap.SameBut a s.heap h'→HOk X.prog X.w H h':=fun {a h'} ha hs b ob e=>by
    obtain ⟨_,_,hfree⟩:=ha
    refine (I.hok b ob e).stay (fun c w' hc q=>(hs.2 c ?_).trans q) (fun _ q=>q) fun _ _ q=>q
    rintro rfl
    rcases hc with rfl | hc
    · rw [hfree] at e; cases e
    · rw [hfree] at hc; cases hc
  rcases hx with hk | hk
  · refine wpAny_storeName_local hk hn (fun h' hn' hs=>?_) hcls
    obtain ⟨oL,_,_,hoL,_⟩:=id hn
    refine h _ ⟨I.ok,I.os,I.bare,⟨fun b o e n hb hx=>?_,fun b o e n hb hx=>?_,I.base.free,fun b o e hx=>?_,I.base.tups,I.base.frzs,I.base.tbls⟩,⟨_,hn',fun j y v' e1 e2 e3=>?_⟩,fun y c e=>?_,I.free,I.freeC,fun p hp=>?_,tracked ⟨oL,hoL,I.free⟩ hs,by simpa using I.len⟩ ⟨_,hs,.inl rfl⟩
    · exact (hs.2 b (Nat.ne_of_lt (Nat.lt_of_lt_of_le (Heap.lt_size e) I.ok.above))).trans (I.base.keep b o e n hb hx)
    · obtain ⟨sl,e1⟩:=I.base.slot b o e n hb hx
      exact ⟨sl,(hs.2 b (Nat.ne_of_lt (Nat.lt_of_lt_of_le (Heap.lt_size e) I.ok.above))).trans e1⟩
    · obtain ⟨o',e1⟩:=I.base.there b o e hx
      exact ⟨o',(hs.2 b (Nat.ne_of_lt (Nat.lt_of_lt_of_le (Heap.lt_size e) I.ok.above))).trans e1⟩
    · by_cases hj:j=i
      · subst hj
        rw [hi] at e1; cases e1
        rw [List.getElem?_set_self hiσ] at e2
        cases e2
        exact ⟨u,r,.inl ⟨hk,by simp⟩⟩
      · rw [List.getElem?_set_ne (Ne.symm hj)] at e2
        obtain ⟨u',r',q⟩:=hl j y v' e1 e2 e3
        refine ⟨u',r',?_⟩
        rcases q with ⟨k,e⟩ | ⟨k,c,e,z⟩
        · refine .inl ⟨k,?_⟩
          have:y≠x:=fun e=>hj (nodup_ix hN e1 (e ▸ hi))
          simp [this,e]
        · exact .inr ⟨k,c,e,z.sameBut hs (cne y c e)⟩
    · obtain ⟨w',z⟩:=I.cell y c e
      exact ⟨w',z.sameBut hs (cne y c e)⟩
    · obtain ⟨e,n,ne,nf,d⟩:=I.pin p hp
      exact ⟨(hs.2 p.1 ne).trans e,n,ne,nf,d⟩
  · have hfn:X.fn x=true:=by
      rcases hf with z | z
      · exact z
      · rw [z] at hk; cases hk
    obtain ⟨c,hc⟩:=I.ok.has x (.inl hk)
    obtain ⟨w',z⟩:=I.cell x c hc
    refine wpAny_storeName_cell I.ok.kind hk hc z (fun h' hc' hs=>?_)
    obtain ⟨oc,hoc,hocd⟩:=id z
    refine h { s with heap:=h' } ⟨I.ok,I.os,I.bare,⟨fun b o e n hb hx=>?_,fun b o e n hb hx=>?_,I.base.free,fun b o e hx=>?_,I.base.tups,I.base.frzs,I.base.tbls⟩,⟨m,hn.sameBut hs (Ne.symm (cne x c hc)),fun j y v' e1 e2 e3=>?_⟩,fun y c' e=>?_,I.free,I.freeC,fun p hp=>?_,tracked ⟨oc,hoc,I.freeC x c hc⟩ hs,by simpa using I.len⟩ ⟨c,hs,.inr hc⟩
    · exact (hs.2 b (Nat.ne_of_lt (Nat.lt_of_lt_of_le (Heap.lt_size e) (I.ok.cab x c hfn hc)))).trans (I.base.keep b o e n hb hx)
    · obtain ⟨sl,e1⟩:=I.base.slot b o e n hb hx
      exact ⟨sl,(hs.2 b (Nat.ne_of_lt (Nat.lt_of_lt_of_le (Heap.lt_size e) (I.ok.cab x c hfn hc)))).trans e1⟩
    · obtain ⟨o',e1⟩:=I.base.there b o e hx
      exact ⟨o',(hs.2 b (Nat.ne_of_lt (Nat.lt_of_lt_of_le (Heap.lt_size e) (I.ok.cab x c hfn hc)))).trans e1⟩
    · by_cases hj:j=i
      · subst hj
        rw [hi] at e1; cases e1
        rw [List.getElem?_set_self hiσ] at e2
        cases e2
        exact ⟨u,r,.inr ⟨.inl hk,c,hc,hc'⟩⟩
      · rw [List.getElem?_set_ne (Ne.symm hj)] at e2
        obtain ⟨u',r',q⟩:=hl j y v' e1 e2 e3
        refine ⟨u',r',?_⟩
        rcases q with q | ⟨k,c',e,z'⟩
        · exact .inl q
        · refine .inr ⟨k,c',e,z'.sameBut hs ?_⟩
          rintro rfl
          exact hj (nodup_ix hN e1 (I.ok.inj _ _ _ e hc ▸ hi))
    · by_cases hcc:c'=c
      · subst hcc; exact ⟨_,hc'⟩
      · obtain ⟨w2,z2⟩:=I.cell y c' e
        exact ⟨w2,z2.sameBut hs hcc⟩
    · obtain ⟨e,n,ne,nf,d⟩:=I.pin p hp
      refine ⟨(hs.2 p.1 ?_).trans e,n,ne,nf,d⟩
      intro q
      rw [q,hoc] at e
      have q':oc=p.2:=Option.some.inj e
      exact d w' (by rw [← q']; exact hocd)
theorem store_ok {M:Model} {A:Around} {E:Value→Shared→Prop} {i:Nat} {x:Str} {v:V} {u:Value} {Q:Unit→Shared→Prop} (I:Inv X pins σ H s) (hN:X.N.Nodup) (hi:X.N[i]?=some x) (hx:Loc X.env.scope x) (r:RelV v u)
    (h:∀ s',Inv X pins (σ.set i (some v)) H s'→Q () s') (hf:X.fn x=true∨X.env.scope.names.lookup x=some .local:=by first | exact .inl rfl | exact .inr rfl | assumption):wpAny M A (storeName X.env x u) Q E s :=
  store_ok2 I hN hi hx r (fun s' I' _=>h s' I') hf
theorem Inv.call' {s':Shared} {ch:List Addr} (I:Inv X pins σ H s) (ho:s'.os=s.os) (u:Un (frs X.stack) ch H H' s.heap s'.heap) (hok:HOk X.prog X.w H' s'.heap) (hg:AllBare s'.gens)
    (hch:∀ b∈ch,(b∈X.ex∨X.s₀.heap.objs.size≤b)∧b≠X.env.locals∧(∀ x c,X.env.cells.lookup x=some c→c≠b)∧∀ p∈X.pn++pins,p.1≠b):Inv X pins σ H' s':=by
  obtain ⟨h',g',d',t',o'⟩:=s'
  have e:o'=s.os:=ho
  subst e
  exact I.call (g':=g') (t':=t') (d':=d') u hok hg hch
end
noncomputable abbrev XK:=Value→Option Addr→Hp→Prop
noncomputable abbrev St:=List (Option V)
noncomputable abbrev VK:=V→Hp→Prop
noncomputable abbrev TE:=St→Hp→VK→Prop
noncomputable abbrev TT:=St→Hp→(Bool→Hp→Prop)→Prop
noncomputable abbrev TA:=St→Hp→(List V→Hp→Prop)→Prop
structure Ends where
  nx:St→Hp→Prop
  rt:VK
  bk:St→Hp→Prop:=fun _ _=>False
  ct:St→Hp→Prop:=fun _ _=>False
noncomputable abbrev TS:=Ends→St→Hp→Prop

noncomputable def EP (X:Cx) (pins:List (Addr×Obj)) (σ:St) (Q:VK) (u:Value) (s':Shared):Prop:=∃ v H',Inv X pins σ H' s'∧RelV v u∧Q v H'
noncomputable def TP (X:Cx) (pins:List (Addr×Obj)) (σ:St) (Q:Bool→Hp→Prop) (b:Bool) (s':Shared):Prop:=∃ H',Inv X pins σ H' s'∧Q b H'
noncomputable def AP (X:Cx) (pins:List (Addr×Obj)) (σ:St) (Q:List V→Hp→Prop) (us:List Value) (s':Shared):Prop:=∃ vs H',Inv X pins σ H' s'∧Vals vs us∧Q vs H'
noncomputable def SP (X:Cx) (pins:List (Addr×Obj)) (D:Ends) (f:Flow) (s':Shared):Prop :=
  match f with
  | .next=>∃ σ' H',Inv X pins σ' H' s'∧D.nx σ' H'
  | .brk=>∃ σ' H',Inv X pins σ' H' s'∧D.bk σ' H'
  | .cont=>∃ σ' H',Inv X pins σ' H' s'∧D.ct σ' H'
  | .ret u=>∃ v σ' H',Inv X pins σ' H' s'∧RelV v u∧D.rt v H'

noncomputable def PE (X:Cx) (e:Expr) (t:TE):Prop :=
  ∀ (pins:List (Addr×Obj)) (s:Shared) (σ:St) (H:Hp) (Q:VK),Inv X pins σ H s→t σ H Q→wpAny (model X.prog X.w) X.A (eval e X.env) (EP X pins σ Q) X.xe s
noncomputable def PT (X:Cx) (e:Expr) (t:TT):Prop :=
  ∀ (pins:List (Addr×Obj)) (s:Shared) (σ:St) (H:Hp) (Q:Bool→Hp→Prop),Inv X pins σ H s→t σ H Q→wpAny (model X.prog X.w) X.A (isTrue e X.env (eval e X.env)) (TP X pins σ Q) X.xe s
noncomputable def PW (X:Cx) (e:Expr) (t:TT):Prop :=
  ∀ (whole:Sem Value) (pins:List (Addr×Obj)) (s:Shared) (σ:St) (H:Hp) (Q:Bool→Hp→Prop),Inv X pins σ H s→t σ H Q→wpAny (model X.prog X.w) X.A (isTrue e X.env whole) (TP X pins σ Q) X.xe s
theorem PW.pt {X:Cx} {e:Expr} {t:TT} (h:PW X e t):PT X e t:=h _
noncomputable def PA (X:Cx) (es:List Expr) (t:TA):Prop :=
  ∀ (pos:Pos) (pins:List (Addr×Obj)) (s:Shared) (σ:St) (H:Hp) (Q:List V→Hp→Prop),Inv X pins σ H s→t σ H Q→wpAny (model X.prog X.w) X.A (spliced (backTo pos (starEach es X.env))) (AP X pins σ Q) X.xe s
noncomputable def PS (X:Cx) (st:Stmt) (t:TS):Prop :=
  ∀ (pins:List (Addr×Obj)) (s:Shared) (σ:St) (H:Hp) (D:Ends),Inv X pins σ H s→t D σ H→wpAny (model X.prog X.w) X.A (exec st X.env) (SP X pins D) X.xe s
noncomputable def PSs (X:Cx) (st:List Stmt) (t:TS):Prop :=
  ∀ (pins:List (Addr×Obj)) (s:Shared) (σ:St) (H:Hp) (D:Ends),Inv X pins σ H s→t D σ H→wpAny (model X.prog X.w) X.A (execs st X.env) (SP X pins D) X.xe s
theorem thn {α:Type} {t:Sem α} {Q Q':α→Shared→Prop} {M:Model} {A:Around} {E:Value→Shared→Prop} {s:Shared} (h:wpAny M A t Q E s) (hQ:∀ a s,Q a s→Q' a s):wpAny M A t Q' E s:=wpAny_mono h hQ fun _ _ x=>x
end L2
namespace L2
open PySem PySem.Spec PyProof.Rows
section
variable {X:Cx}
noncomputable def tVar (i:Nat):TE:=fun σ H Q=>∃ v,σ[i]?=some (some v)∧Q v H
noncomputable def tC (v:V):TE:=fun _ H Q=>Q v H
theorem pe_var {i:Nat} {x:Str} {pos:Pos} (hN:X.N[i]?=some x) (hv:Vis X.env.scope x) (hd:(x == ("__debug__":Str))=false:=by decide) (hcd:(x == ("__classdict__":Str))=false:=by decide):PE X (.Name x pos) (tVar i):=by
  intro pins s σ H Q I h
  obtain ⟨v,e,h⟩:=h
  obtain ⟨m,hn,hl⟩:=I.loc
  obtain ⟨u,r,l⟩:=hl i x v hN e hv
  have fin:EP X pins σ Q u s:=⟨v,H,I,r,h⟩
  rcases l with ⟨hk,hm⟩ | ⟨hk,c,hc,hcell⟩
  · exact wpAny_Name (wpAny_loadName_local I.ok.kind hk hn hm fin) hd
  · rcases hk with hk | hk
    · exact wpAny_Name (wpAny_loadName_cell I.ok.kind hk hc hcell fin) hd
    · exact wpAny_Name (wpAny_loadName_free I.ok.kind hk hc hcell fin hcd) hd
theorem pe_int {i j pos}:PE X (.Constant (.int i) j pos) (tC (.int i)):=fun _ _ _ H _ I h=>wpAny_Constant_int ⟨.int i,H,I.tok _,⟨_,rfl⟩,h⟩
theorem pe_bl {b j pos}:PE X (.Constant (.bool b) j pos) (tC (.bl b)):=fun _ _ _ H _ I h=>Constant_bool ⟨.bl b,H,I,rfl,h⟩
theorem pe_non {j pos}:PE X (.Constant .none j pos) (tC .non):=fun _ _ _ H _ I h=>Constant_none ⟨.non,H,I,rfl,h⟩
theorem pe_str {x j pos}:PE X (.Constant (.str x) j pos) (tC (.str x)):=fun _ _ _ H _ I h=>Calls.Constant_str ⟨.str x,H,I.tok _,⟨_,rfl⟩,h⟩

noncomputable def Gl (X:Cx) (x:Str):Prop:=X.env.kindOf x=some .globalImplicit
theorem ld_glob {E:Value→Shared→Prop} {pins:List (Addr×Obj)} {s:Shared} {σ:St} {H:Hp} {x:Str} {u:Value} {pos:Pos} {Q:Value→Shared→Prop} (I:Inv X pins σ H s) (hg:Gl X x) (hm:X.mg x=some u) (h:Q u s)
    (hd:(x == ("__debug__":Str))=false:=by decide):wpAny (model X.prog X.w) X.A (eval (.Name x pos) X.env) Q E s :=
  Calls.Name_function_global I.ok.kind hg (Calls.loadGlobal_global (by rw [I.ok.glob]; exact I.mod.glob.keeps I.bk) hm h) hd
theorem ld_blt {E:Value→Shared→Prop} {pins:List (Addr×Obj)} {s:Shared} {σ:St} {H:Hp} {x:Str} {u:Value} {pos:Pos} {Q:Value→Shared→Prop} (I:Inv X pins σ H s) (hg:Gl X x) (hm:X.mg x=none) (hv:bootBuiltins x=some u) (h:Q u s)
    (hn:x≠"__name__":=by decide) (hd:(x == ("__debug__":Str))=false:=by decide):wpAny (model X.prog X.w) X.A (eval (.Name x pos) X.env) Q E s:=by
  obtain ⟨mb,h1,h2⟩:=I.mod.blt
  exact Calls.Name_function_global I.ok.kind hg (Calls.loadGlobal_builtin (by rw [I.ok.glob]; exact I.mod.glob.keeps I.bk) hm (by rw [I.ok.blt]; exact h1.keeps I.bk) ((h2 x hn).trans hv) h) hd
theorem pe_glob {x:Str} {v:V} {u:Value} {pos:Pos} (hg:Gl X x) (hm:X.mg x=some u) (r:RelV v u) (hd:(x == ("__debug__":Str))=false:=by decide):PE X (.Name x pos) (tC v) :=
  fun _ _ _ H _ I h=>ld_glob I hg hm ⟨v,H,I,r,h⟩ hd
theorem pe_bltn {x:Str} {v:V} {u:Value} {pos:Pos} (hg:Gl X x) (hm:X.mg x=none) (hv:bootBuiltins x=some u) (r:RelV v u) (hn:x≠"__name__":=by decide) (hd:(x == ("__debug__":Str))=false:=by decide):PE X (.Name x pos) (tC v) :=
  fun _ _ _ H _ I h=>ld_blt I hg hm hv ⟨v,H,I,r,h⟩ hn hd

variable {a b:Expr} {ta tb:TE} {pos:Pos}
variable {tA tB':TT} {rest:List Expr}
noncomputable def tAnd (t u:TT):TT:=fun σ H Q=>t σ H fun c H1=>if c=true then u σ H1 Q else Q false H1
noncomputable def tOr (t u:TT):TT:=fun σ H Q=>t σ H fun c H1=>if c=true then Q true H1 else u σ H1 Q
noncomputable def tNot (t:TT):TT:=fun σ H Q=>t σ H fun c H1=>Q (!c) H1
theorem pw_and1 (ha:PT X a tA):PW X (.BoolOp .And [a] pos) tA:=by
  intro wh pins s σ H Q I h
  refine isTrue_and (thn (ha pins s σ H Q I h) fun c s1 e=>?_)
  cases c with
  | true=>exact isTrue_and_nil e
  | false=>exact e
theorem pw_or1 (ha:PT X a tA):PW X (.BoolOp .Or [a] pos) tA:=by
  intro wh pins s σ H Q I h
  refine isTrue_or (thn (ha pins s σ H Q I h) fun c s1 e=>?_)
  cases c with
  | false=>exact isTrue_or_nil e
  | true=>exact e
theorem pw_and (ha:PT X a tA) (hb:PW X (.BoolOp .And (b::rest) pos) tB'):PW X (.BoolOp .And (a::b::rest) pos) (tAnd tA tB'):=by
  intro wh pins s σ H Q I h
  refine isTrue_and (thn (ha pins s σ H _ I h) fun c s1 hz0=>?_)
  obtain ⟨H1,I1,q1⟩:=hz0
  cases c with
  | true=>exact hb wh pins s1 σ H1 Q I1 q1
  | false=>exact ⟨H1,I1,q1⟩
theorem pw_or (ha:PT X a tA) (hb:PW X (.BoolOp .Or (b::rest) pos) tB'):PW X (.BoolOp .Or (a::b::rest) pos) (tOr tA tB'):=by
  intro wh pins s σ H Q I h
  refine isTrue_or (thn (ha pins s σ H _ I h) fun c s1 hz0=>?_)
  obtain ⟨H1,I1,q1⟩:=hz0
  cases c with
  | true=>exact ⟨H1,I1,q1⟩
  | false=>exact hb wh pins s1 σ H1 Q I1 q1
theorem pt_not (ha:PT X a tA):PT X (.UnaryOp .Not a pos) (tNot tA):=by
  intro pins s σ H Q I h
  exact isTrue_not (ha pins s σ H (fun c H1=>Q (!c) H1) I h)
noncomputable def tAndV (ta tb:TE):TE:=fun σ H Q=>ta σ H fun x H1=>∃ c,x=.bl c∧if c=true then tb σ H1 Q else Q (.bl false) H1
noncomputable def tNotV (ta:TE):TE:=fun σ H Q=>ta σ H fun x H1=>∃ c,x=.bl c∧Q (.bl (!c)) H1
theorem pe_one {op} {t:TE} (h:PE X a t):PE X (.BoolOp op [a] pos) t:=fun pins s σ H Q I hw=>BoolOp_one (h pins s σ H Q I hw)
theorem pe_and (ha:PE X a ta) (hb:PE X (.BoolOp .And (b::rest) pos) tb):PE X (.BoolOp .And (a::b::rest) pos) (tAndV ta tb):=by
  intro pins s σ H Q I h
  refine BoolOp_and (thn (ha pins s σ H _ I h) fun v s1 hz0=>?_)
  obtain ⟨x,H1,I1,r1,q1⟩:=hz0
  obtain ⟨c,rfl,q1⟩:=q1
  cases r1
  refine wpAny_truthy_bool ?_
  cases c with
  | true=>exact hb pins s1 σ H1 Q I1 q1
  | false=>exact ⟨.bl false,H1,I1,rfl,q1⟩
theorem pe_not (ha:PE X a ta):PE X (.UnaryOp .Not a pos) (tNotV ta):=by
  intro pins s σ H Q I h
  refine UnaryOp_ (thn (ha pins s σ H _ I h) fun v s1 hz0=>?_)
  obtain ⟨x,H1,I1,r1,q1⟩:=hz0
  obtain ⟨c,rfl,q1⟩:=q1
  cases r1
  exact not_of (wpAny_truthy_bool ⟨.bl (!c),H1,I1,rfl,q1⟩)
end
end L2
namespace L2
open PySem PySem.Spec PyProof.Rows
noncomputable def SqL (K:PySem.W.Frag) (H:Hp) (a:Addr) (xs:List V):Prop :=
  Rd H a (.lst xs) ∨
    ∃ (o:Obj) (its:Array Value) (n:Nat),K.lookup a=some o∧o.cls=.type "list"∧o.dict=none∧o.data=.seq its n∧its.size≤sizeLine∧Vals xs its.toList
noncomputable def SqT (K:PySem.W.Frag) (H:Hp) (a:Addr) (xs:List V):Prop :=
  Rd H a (.tup xs) ∨
    ∃ (o:Obj) (its:Array Value) (n:Nat),K.lookup a=some o∧o.cls=.type "tuple"∧o.data=.seq its n∧its.size≤sizeLine∧Vals xs its.toList
noncomputable def absV:Value→Option V
  | .none=>some .non
  | .bool b=>some (.bl b)
  | .int i _=>some (.int i)
  | .str x _=>some (.str x)
  | .bytes b _=>some (.byt b)
  | .float b _=>some (.flt b)
  | .ref a=>some (.ref a)
  | .type n=>some (.ty n)
  | _=>none
theorem RelV.abs {x:V} {u:Value} (r:RelV x u):absV u=some x:=by
  cases x with
  | non=>cases r; rfl
  | bl _=>cases r; rfl
  | int _=>obtain ⟨t,rfl⟩:=r; rfl
  | str _=>obtain ⟨t,rfl⟩:=r; rfl
  | byt _=>obtain ⟨t,rfl⟩:=r; rfl
  | flt _=>obtain ⟨t,rfl⟩:=r; rfl
  | ref _=>cases r; rfl
  | ty _=>cases r; rfl
theorem RelV.inj {x y:V} {u:Value} (r:RelV x u) (q:RelV y u):x=y:=Option.some.inj (r.abs.symm.trans q.abs)
theorem Vals.inj {xs ys:List V} {us:List Value} (h:Vals xs us) (h':Vals ys us):xs=ys:=by
  induction h generalizing ys with
  | nil=>cases h'; rfl
  | cons r t ih=>cases h' with | cons r' t'=>rw [r.inj r',ih t']
section
variable {X:Cx} {pins:List (Addr×Obj)} {σ:St} {H:Hp} {s:Shared} {a:Addr} {xs ys:List V}
theorem SqL.of {K:PySem.W.Frag} (h:H a=some (.lst xs)):SqL K H a xs:=.inl (.inl h)
theorem SqT.of {K:PySem.W.Frag} (h:H a=some (.tup xs)):SqT K H a xs:=.inl (.inl h)
theorem Inv.list (I:Inv X pins σ H s) (h:SqL X.K H a xs):∃ its:List Value,Vals xs its∧PlainL s.heap a its.toArray∧xs.length≤sizeLine:=by
  rcases h with h | ⟨o,its,n,hk,hc,hd,hs,hz,r⟩
  · obtain ⟨z,its,n,r,e⟩:=h.ok I.hok
    exact ⟨its,r,⟨_,n,e,rfl,rfl,rfl⟩,z⟩
  · refine ⟨its.toList,r,⟨o,n,I.kIn a o hk,hc,hd,by simpa using hs⟩,?_⟩
    have e:=r.length
    simp only [Array.length_toList] at e
    omega
theorem Inv.tuple (I:Inv X pins σ H s) (h:SqT X.K H a xs):∃ its:List Value,Vals xs its∧IsTup s.heap a its.toArray∧xs.length≤sizeLine:=by
  rcases h with h | ⟨o,its,n,hk,hc,hs,hz,r⟩
  · obtain ⟨z,its,r,p⟩:=h.ok I.hok
    exact ⟨its,r,p,z⟩
  · refine ⟨its.toList,r,⟨o,I.kIn a o hk,hc,n,by simpa using hs⟩,?_⟩
    have e:=r.length
    simp only [Array.length_toList] at e
    omega
theorem Inv.list_inj (I:Inv X pins σ H s) (h:SqL X.K H a xs) (h':SqL X.K H a ys):xs=ys:=by
  obtain ⟨its,r,⟨o,n,e,_,_,d⟩,_⟩:=I.list h
  obtain ⟨its',r',⟨o',n',e',_,_,d'⟩,_⟩:=I.list h'
  rw [e] at e'; cases e'
  rw [d] at d'
  injection d' with d1 _
  have:its=its':=by simpa using congrArg Array.toList d1
  subst this
  exact r.inj r'
theorem Inv.tuple_inj (I:Inv X pins σ H s) (h:SqT X.K H a xs) (h':SqT X.K H a ys):xs=ys:=by
  obtain ⟨its,r,⟨o,e,_,n,d⟩,_⟩:=I.tuple h
  obtain ⟨its',r',⟨o',e',_,n',d'⟩,_⟩:=I.tuple h'
  rw [e] at e'; cases e'
  rw [d] at d'
  injection d' with d1 _
  have:its=its':=by simpa using congrArg Array.toList d1
  subst this
  exact r.inj r'
end
noncomputable abbrev Cx.wish (X:Cx) (E:Value→Shared→Prop):Cx:={ X with xe:=E }
noncomputable abbrev Cx.nox (X:Cx):Cx:=X.wish fun _ _=>False
theorem Cx.Ok.wish {X:Cx} (ok:X.Ok) (E:Value→Shared→Prop):(X.wish E).Ok :=
  ⟨ok.mod,ok.kind,ok.glob,ok.blt,ok.above,ok.inj,ok.has,ok.cab,ok.hd,ok.frames,ok.stk,ok.exf,ok.bs,ok.bsz,ok.noex,ok.exfs,ok.funs,ok.frf⟩
theorem Cx.Ok.unwish {X:Cx} {E:Value→Shared→Prop} (ok:(X.wish E).Ok):X.Ok :=
  ⟨ok.mod,ok.kind,ok.glob,ok.blt,ok.above,ok.inj,ok.has,ok.cab,ok.hd,ok.frames,ok.stk,ok.exf,ok.bs,ok.bsz,ok.noex,ok.exfs,ok.funs,ok.frf⟩
section
variable {X:Cx} {pins:List (Addr×Obj)} {σ:St} {H:Hp} {s:Shared} {E:Value→Shared→Prop}
theorem Inv.wish (I:Inv X pins σ H s) (E:Value→Shared→Prop):Inv (X.wish E) pins σ H s:=⟨I.ok.wish E,I.os,I.bare,I.base,I.loc,I.cell,I.free,I.freeC,I.pin,I.hok,I.len⟩
theorem Inv.unwish (I:Inv (X.wish E) pins σ H s):Inv X pins σ H s:=⟨I.ok.unwish,I.os,I.bare,I.base,I.loc,I.cell,I.free,I.freeC,I.pin,I.hok,I.len⟩
theorem SP.unwish {D:Ends} {f:Flow} {s':Shared} (h:SP (X.wish E) pins D f s'):SP X pins D f s':=by
  cases f with
  | next=>obtain ⟨σ',H',I,q⟩:=h; exact ⟨σ',H',I.unwish,q⟩
  | brk=>obtain ⟨σ',H',I,q⟩:=h; exact ⟨σ',H',I.unwish,q⟩
  | cont=>obtain ⟨σ',H',I,q⟩:=h; exact ⟨σ',H',I.unwish,q⟩
  | ret u=>obtain ⟨v,σ',H',I,r,q⟩:=h; exact ⟨v,σ',H',I.unwish,r,q⟩
theorem PSs.nox {st:List Stmt} {t:TS} (h:PSs X.nox st t):PSs X st t:=fun pins s σ H D I hw =>
  wpAny_mono (h pins s σ H D (I.wish _) hw) (fun _ _ q=>q.unwish) fun _ _ z=>False.elim z
end
section
variable {X:Cx} {st:Stmt} {rest:List Stmt} {t u:TS} {e:Expr} {te:TE} {pos:Pos}
noncomputable def tNext:TS:=fun D σ H=>D.nx σ H
noncomputable def tSeq (t u:TS):TS:=fun D σ H=>t { D with nx:=u D } σ H
theorem pss_nil:PSs X [] tNext:=fun _ _ σ H _ I h=>wpAny_execs_nil ⟨σ,H,I,h⟩
theorem pss_cons (h1:PS X st t) (h2:PSs X rest u):PSs X (st::rest) (tSeq t u):=by
  intro pins s σ H D I h
  refine wpAny_execs_cons (thn (h1 pins s σ H { D with nx:=u D } I h) fun f s1 q=>?_)
  cases f with
  | next =>
    obtain ⟨σ',H',I',q⟩:=q
    exact h2 pins s1 σ' H' D I' q
  | ret v=>exact q
  | brk=>exact q
  | cont=>exact q
theorem pss_one (h1:PS X st t):PSs X [st] t:=by
  intro pins s σ H D I h
  refine wpAny_execs_cons (thn (h1 pins s σ H D I h) fun f s1 q=>?_)
  cases f with
  | next=>exact wpAny_execs_nil q
  | ret v=>exact q
  | brk=>exact q
  | cont=>exact q
noncomputable def tRet (te:TE):TS:=fun D σ H=>te σ H D.rt
theorem ps_ret (he:PE X e te):PS X (.Return (some e) pos) (tRet te):=by
  intro pins s σ H D I h
  exact wpAny_Return_some (thn (he pins s σ H _ I h) fun v s1 ⟨x,H1,I1,r1,q1⟩=>⟨x,σ,H1,I1,r1,q1⟩)
noncomputable def tIfS (c:TT) (t u:TS):TS:=fun D σ H=>c σ H fun b H1=>if b=true then t D σ H1 else u D σ H1
theorem ps_if {c:Expr} {a b:List Stmt} {tc:TT} (hc:PT X c tc) (ha:PSs X a t) (hb:PSs X b u):PS X (.If c a b pos) (tIfS tc t u):=by
  intro pins s σ H D I h
  refine wpAny_If (thn (hc pins s σ H _ I h) fun d s1 hz0=>?_)
  obtain ⟨H1,I1,q1⟩:=hz0
  cases d with
  | true=>exact ha pins s1 σ H1 D I1 q1
  | false=>exact hb pins s1 σ H1 D I1 q1
end
noncomputable abbrev TG:=V→St→Hp→(St→Hp→Prop)→Prop
noncomputable def PG (X:Cx) (target:Expr) (t:TG):Prop :=
  ∀ (pins:List (Addr×Obj)) (s:Shared) (σ:St) (H:Hp) (v:V) (u:Value) (Q:St→Hp→Prop),Inv X pins σ H s→RelV v u→t v σ H Q →
    wpAny (model X.prog X.w) X.A (assign target X.env u) (fun _ s'=>∃ σ' H',Inv X pins σ' H' s'∧Q σ' H') X.xe s
noncomputable abbrev TSet:=V→V→V→Hp→(Hp→Prop)→Prop
noncomputable def PSet (X:Cx) (t:TSet):Prop :=
  ∀ (pins:List (Addr×Obj)) (s:Shared) (σ:St) (H:Hp) (o i v:V) (ov iv u:Value) (Q:Hp→Prop),Inv X pins σ H s→RelV o ov→RelV i iv→RelV v u→t o i v H Q →
    wpAny (model X.prog X.w) X.A (setItem ov iv u) (fun _ s'=>∃ H',Inv X pins σ H' s'∧Q H') X.xe s
section
variable {X:Cx} {pos:Pos}
noncomputable def gName (i:Nat):TG:=fun v σ H Q=>Q (σ.set i (some v)) H
theorem pg_name {i:Nat} {x:Str} (hN:X.N.Nodup) (hi:X.N[i]?=some x) (hx:Loc X.env.scope x) (hf:X.fn x=true∨X.env.scope.names.lookup x=some .local:=by first | exact .inl rfl | exact .inr rfl | assumption):PG X (.Name x pos) (gName i):=by
  intro pins s σ H v u Q I r h
  exact wpAny_assign_Name (store_ok I hN hi hx r (fun s' I'=>⟨_,H,I',h⟩) hf)
noncomputable def gSub (to ti:TE) (t:TSet):TG:=fun v σ H Q=>to σ H fun o H1=>ti σ H1 fun i H2=>t o i v H2 fun H3=>Q σ H3
theorem pg_sub {o i:Expr} {to ti:TE} {t:TSet} (ho:PE X o to) (hi:PE X i ti) (hs:PSet X t)
    (ha:∀ v,assign (.Subscript o i pos) X.env v=(do
      let ov ← holding [v] (eval o X.env)
      let iv ← holding [v,ov] (eval i X.env)
      standAt pos
      holding [v,ov,iv] (setItem ov iv v)
      release [v,ov,iv] []):=by intro _; rfl):PG X (.Subscript o i pos) (gSub to ti t):=by
  intro pins s σ H v u Q I r h
  rw [ha]
  refine wpAny_bind (wpAny_holding (thn (ho pins s σ H _ I h) fun ov s1 hz0=>?_))
  obtain ⟨x,H1,I1,r1,q1⟩:=hz0
  refine wpAny_bind (wpAny_holding (thn (hi pins s1 σ H1 _ I1 q1) fun iv s2 hz0=>?_))
  obtain ⟨y,H2,I2,r2,q2⟩:=hz0
  refine wpAny_bind (wpAny_standAt (wpAny_bind (wpAny_holding (thn (hs pins s2 σ H2 x y v ov iv u _ I2 r1 r2 r q2) fun _ s3 hz0=>?_))))
  obtain ⟨H3,I3,q3⟩:=hz0
  exact wpAny_release ⟨σ,H3,I3,q3⟩
noncomputable def tAsg (te:TE) (g:TG):TS:=fun D σ H=>te σ H fun x H1=>g x σ H1 D.nx
theorem ps_asg {tg e:Expr} {te:TE} {g:TG} (he:PE X e te) (hg:PG X tg g) (hs:swapsWithSole [tg] e pos.line X.env=pure false:=by rfl) (hw:swappedStores [tg] e X.env=pure none:=by rfl)
    (h1:(assignEach [tg] X.env).map (·.2)=[assign tg X.env]:=by rfl):PS X (.Assign [tg] e pos) (tAsg te g):=by
  intro pins s σ H D I h
  refine wpAny_Assign_stores (thn (he pins s σ H _ I h) fun v s1 hz0=>?_) hs hw
  obtain ⟨x,H1,I1,r1,q1⟩:=hz0
  rw [h1]
  exact thn (hg pins s1 σ H1 x v _ I1 r1 q1) fun _ s2 q=>q
theorem ps_set {i:Nat} {x:Str} {e:Expr} {te:TE} {pos':Pos} (hN:X.N.Nodup) (hi:X.N[i]?=some x) (hx:Loc X.env.scope x) (he:PE X e te) (hs:swapsWith e (some (.Name x pos')) pos.line X.env=pure false:=by rfl) (hf:X.fn x=true∨X.env.scope.names.lookup x=some .local:=by first | exact .inl rfl | exact .inr rfl | assumption) :
    PS X (.Assign [.Name x pos'] e pos) (tAsg te (gName i)):=by
  intro pins s σ H D I h
  refine wpAny_Assign_Name (thn (he pins s σ H _ I h) fun v s1 hz0=>?_) hs
  obtain ⟨y,H1,I1,r1,q1⟩:=hz0
  exact store_ok I1 hN hi hx r1 (fun s2 I2=>⟨_,H1,I2,q1⟩) hf
end
section
variable {X:Cx} {pos:Pos}
end
structure It where
  go:Nat→Hp→Prop
  yld:Nat→Hp→V→Hp→Prop
  stop:Nat→Hp→Prop
noncomputable def FpOk (X:Cx) (pins:List (Addr×Obj)) (H:Hp) (b:Addr):Prop :=
  H b=none∧b≠X.env.locals∧b ∉ X.fs∧(b∈X.ex∨X.s₀.heap.objs.size≤b)∧(∀ x c,X.env.cells.lookup x=some c→c≠b)∧∀ p∈X.pn++pins,p.1≠b
theorem Inv.fpOk {X:Cx} {pins:List (Addr×Obj)} {σ:St} {H H':Hp} {s:Shared} {b:Addr} (I:Inv X pins σ H s) (hb:s.heap.objs.size≤b) (hn:H' b=none):FpOk X pins H' b:=by
  refine ⟨hn,Nat.ne_of_gt (Nat.lt_of_lt_of_le I.lt hb),I.nofs hb,.inr (Nat.le_trans I.sz hb),fun x c e z=>?_,fun p hp z=>?_⟩
  · obtain ⟨v,q⟩:=I.cell x c e
    exact absurd (Nat.lt_of_lt_of_le q.lt (by rw [z]; exact hb)) (Nat.lt_irrefl _)
  · exact absurd (Nat.lt_of_lt_of_le (Heap.lt_size (I.pin p hp).1) (by rw [z]; exact hb)) (Nat.lt_irrefl _)
structure Turn (P:Program) (w:World) (K:PySem.W.Frag) (tg:Expr) (J:It) (fp:List Addr) (it:Addr) (tn:Nat→Heap→Prop):Prop where
  mem:it∈fp
  obj:∀ i h,tn i h→∀ b∈fp,∃ o,h.get? b=some o∧∀ v,o.data≠.cell v
  keep:∀ i h h',tn i h→(∀ b∈fp,∀ o,h.get? b=some o→h'.get? b=some o)→tn i h'
  item:∀ (X:Cx),X.prog=P→X.w=w→X.K=K→X.calm=true→∀ (i:Nat) (pins:List (Addr×Obj)) (s:Shared) (σ:St) (H:Hp) (E:Value→Shared→Prop),Inv X pins σ H s→(∀ b∈fp,FpOk X pins H b)→tn i s.heap→J.go i H →
    wpAny (model P w) X.A (pyNext (.ref it)) (fun r s1=>∃ u,r=some u ∧
      wpAny (model P w) X.A (letOwnedTupleGo tg (.ref it) u) (fun _ s2=>∃ x H',Inv X pins σ H' s2∧RelV x u∧J.yld i H x H'∧tn (i+1) s2.heap∧∀ b∈fp,H' b=none) E s1) E s
  done:∀ (X:Cx),X.prog=P→X.w=w→X.K=K→X.calm=true→∀ (i:Nat) (pins:List (Addr×Obj)) (s:Shared) (σ:St) (H:Hp) (E:Value→Shared→Prop),Inv X pins σ H s→(∀ b∈fp,FpOk X pins H b)→tn i s.heap→J.stop i H →
    wpAny (model P w) X.A (pyNext (.ref it)) (fun r s1=>r=none∧Inv X pins σ H s1) E s
  self:∀ (A:Around) (i:Nat) (s:Shared) (Q:Value→Shared→Prop) (E:Value→Shared→Prop),tn i s.heap→Q (.ref it) s→wpAny (model P w) A (pyIter (.ref it)) Q E s
noncomputable abbrev TI:=St→Hp→(It→Hp→Prop)→Prop
noncomputable def PIE (X:Cx) (pins:List (Addr×Obj)) (σ:St) (tg:Expr) (R:It→Hp→Prop) (itv:Value) (s2:Shared):Prop :=
  ∃ (it:Addr) (fp:List Addr) (tn:Nat→Heap→Prop) (J:It) (H':Hp),itv=.ref it∧Inv X pins σ H' s2∧Turn X.prog X.w X.K tg J fp it tn∧tn 0 s2.heap∧(∀ b∈fp,FpOk X pins H' b)∧R J H'
noncomputable def PI (X:Cx) (tg iter:Expr) (wi:TI):Prop :=
  ∀ (pins:List (Addr×Obj)) (s:Shared) (σ:St) (H:Hp) (R:It→Hp→Prop),Inv X pins σ H s→wi σ H R →
    wpAny (model X.prog X.w) X.A (eval iter X.env) (fun v s1=>wpAny (model X.prog X.w) X.A (pyIter v) (PIE X pins σ tg R) X.xe s1) X.xe s

theorem go_of {M:Model} {A:Around} {E:Value→Shared→Prop} {s:Shared} {tg:Expr} {it:Addr} {u:Value} {o:Obj} {n:String} {vs:Array Value} {Q:Unit→Shared→Prop} (ho:s.heap.get? it=some o) (hc:o.cls=.type n) (hd:o.data=.fields vs)
    (hn:["enumerate","zip","dict_itemiterator","dict_reverseitemiterator","odict_iterator","itertools.zip_longest","itertools.pairwise"].contains n=false) (hQ:Q () s):wpAny M A (letOwnedTupleGo tg (.ref it) u) Q E s:=by
  unfold letOwnedTupleGo
  cases tg <;> first
    | exact wpAny_pure hQ
    | (cases u <;> first
        | exact wpAny_pure hQ
        | (refine wpAny_bind (wpAny_load ho ?_)
           rw [hc,hd]
           show wpAny M A (if (["enumerate","zip","dict_itemiterator","dict_reverseitemiterator","odict_iterator","itertools.zip_longest","itertools.pairwise"].contains n && vs[0]? == some (rawInt _))=true then _ else _) Q E s
           rw [if_neg (by intro h; rw [hn,Bool.false_and] at h; cases h)]
           exact wpAny_pure hQ))

noncomputable def Itl (K:PySem.W.Frag) (a:Addr):It :=
  ⟨fun i H=>∃ xs x,SqL K H a xs∧xs[i]?=some x,fun i H x H'=>H'=H∧∀ xs,SqL K H a xs→xs[i]?=some x,fun i H=>∃ xs,SqL K H a xs∧xs.length≤i⟩
noncomputable def Itt (K:PySem.W.Frag) (a:Addr):It :=
  ⟨fun i H=>∃ xs x,SqT K H a xs∧xs[i]?=some x,fun i H x H'=>H'=H∧∀ xs,SqT K H a xs→xs[i]?=some x,fun i H=>∃ xs,SqT K H a xs∧xs.length≤i⟩
noncomputable def Itr (lo:Int) (n:Nat):It:=⟨fun i _=>i < n,fun i H x H'=>H'=H∧x=.int (lo+i),fun i _=>n≤i⟩
theorem turn_list {P:Program} {w:World} {K:PySem.W.Frag} {tg:Expr} (a it:Addr):Turn P w K tg (Itl K a) [it] it (fun i h=>h.IsListIter it a i) where
  mem:=by simp
  obj:=fun i h st b hb=>by
    have e:b=it:=by simpa using hb
    subst e
    obtain ⟨o,e,c,d⟩:=st
    exact ⟨o,e,fun v z=>by rw [d] at z; cases z⟩
  keep:=fun i h h' st k=>st.at fun o e=>k it (by simp) o e
  item:=by
    intro X hP hw hK hc i pins s σ H E I hf st hg
    subst hP hw hK
    obtain ⟨xs,x,hq,hx⟩:=hg
    obtain ⟨its,rv,p,hz⟩:=I.list hq
    obtain ⟨u,hu,ru⟩:=rv.get hx
    obtain ⟨f0,f1,f2,f3,f4,f5⟩:=hf it (by simp)
    refine wpAny_pyNext_list_item st p.isList (x:=u) (by simpa using hu) fun h' st' sb=>?_
    have I1:Inv X pins σ H { s with heap:=h' }:=I.turned (t':=s.toks) (fun b o hb e=>(sb.2 b hb).trans e) f0 f1 f3 f4 f5
    obtain ⟨o,e,c,d⟩:=id st'
    exact ⟨u,rfl,go_of (s:={ s with heap:=h' }) e c d (by decide) ⟨x,H,I1,ru,⟨rfl,fun ys hy=>by rw [I.list_inj hy hq]; exact hx⟩,st',fun b hb=>(hf b hb).1⟩⟩
  done:=by
    intro X hP hw hK hc i pins s σ H E I hf st hg
    subst hP hw hK
    obtain ⟨xs,hq,hx⟩:=hg
    obtain ⟨its,rv,p,hz⟩:=I.list hq
    obtain ⟨f0,f1,f2,f3,f4,f5⟩:=hf it (by simp)
    have hl:=rv.length
    exact wpAny_pyNext_list_end (I.ok.hd hc) st p.isList (by simp; omega) fun h' eb=>⟨rfl,I.turned (t':=s.toks) (fun b o hb e=>eb b o hb e) f0 f1 f3 f4 f5⟩
  self:=fun _ _ _ _ _ st h=>wpAny_pyIter_listiter st h
theorem turn_tuple {P:Program} {w:World} {K:PySem.W.Frag} {tg:Expr} (a it:Addr):Turn P w K tg (Itt K a) [it] it (fun i h=>h.IsTupleIter it a i) where
  mem:=by simp
  obj:=fun i h st b hb=>by
    have e:b=it:=by simpa using hb
    subst e
    obtain ⟨o,e,c,d⟩:=st
    exact ⟨o,e,fun v z=>by rw [d] at z; cases z⟩
  keep:=fun i h h' st k=>st.at fun o e=>k it (by simp) o e
  item:=by
    intro X hP hw hK hc i pins s σ H E I hf st hg
    subst hP hw hK
    obtain ⟨xs,x,hq,hx⟩:=hg
    obtain ⟨its,rv,p,hz⟩:=I.tuple hq
    obtain ⟨u,hu,ru⟩:=rv.get hx
    obtain ⟨f0,f1,f2,f3,f4,f5⟩:=hf it (by simp)
    refine wpAny_pyNext_tuple_item st (show s.heap.IsTuple a its.toArray from p) (x:=u) (by simpa using hu) fun h' st' sb=>?_
    have I1:Inv X pins σ H { s with heap:=h' }:=I.turned (t':=s.toks) (fun b o hb e=>(sb.2 b hb).trans e) f0 f1 f3 f4 f5
    obtain ⟨o,e,c,d⟩:=id st'
    exact ⟨u,rfl,go_of (s:={ s with heap:=h' }) e c d (by decide) ⟨x,H,I1,ru,⟨rfl,fun ys hy=>by rw [I.tuple_inj hy hq]; exact hx⟩,st',fun b hb=>(hf b hb).1⟩⟩
  done:=by
    intro X hP hw hK hc i pins s σ H E I hf st hg
    subst hP hw hK
    obtain ⟨xs,hq,hx⟩:=hg
    obtain ⟨its,rv,p,hz⟩:=I.tuple hq
    obtain ⟨f0,f1,f2,f3,f4,f5⟩:=hf it (by simp)
    have hl:=rv.length
    exact wpAny_pyNext_tuple_end (I.ok.hd hc) st (show s.heap.IsTuple a its.toArray from p) (by simp; omega) fun h' eb=>⟨rfl,I.turned (t':=s.toks) (fun b o hb e=>eb b o hb e) f0 f1 f3 f4 f5⟩
  self:=fun _ _ _ _ _ st h=>wpAny_pyIter_tupleiter st h
theorem turn_range {P:Program} {w:World} {K:PySem.W.Frag} {tg:Expr} (it:Addr) (lo:Int) (n:Nat):Turn P w K tg (Itr lo n) [it] it (fun i h=>IsRangeIter h it (lo+(i:Nat) * 1) ((n:Int) - (i:Nat)) 1) where
  mem:=by simp
  obj:=fun i h st b hb=>by
    have e:b=it:=by simpa using hb
    subst e
    exact ⟨_,st,fun v z=>by
      have z':Data.fields _=Data.cell v:=z
      cases z'⟩
  keep:=fun i h h' st k=>k it (by simp) _ st
  item:=by
    intro X hP hw hK hc i pins s σ H E I hf st hg
    subst hP hw hK
    obtain ⟨f0,f1,f2,f3,f4,f5⟩:=hf it (by simp)
    have W:=Walks.range (prog:=X.prog) (w:=X.w) (I.ok.hd hc) it lo 1 n
    refine W.item i s _ _ hg st fun v h' tk hv st' kk=>?_
    obtain ⟨t,rfl⟩:=hv
    have I1:Inv X pins σ H { s with heap:=h',toks:=tk }:=I.turned (fun b o hb e=>kk b o (by simpa using hb) e) f0 f1 f3 f4 f5
    refine ⟨_,rfl,go_of (s:={ s with heap:=h',toks:=tk }) (n:="range_iterator") st' rfl rfl (by decide) ⟨.int (lo+i),H,I1,⟨t,?_⟩,⟨rfl,rfl⟩,st',fun b hb=>(hf b hb).1⟩⟩
    rw [Int.mul_one]
  done:=by
    intro X hP hw hK hc i pins s σ H E I hf st hg
    subst hP hw hK
    obtain ⟨f0,f1,f2,f3,f4,f5⟩:=hf it (by simp)
    exact wpAny_pyNext_range_end (I.ok.hd hc) st (by have:n≤i:=hg; omega) fun h' eb=>⟨rfl,I.turned (t':=s.toks) (fun b o hb e=>eb b o hb e) f0 f1 f3 f4 f5⟩
  self:=fun _ _ _ _ _ st h=>wpAny_pyIter_rangeiter st h
end L2
namespace L2
open PySem PySem.Spec PyProof.Rows
section
variable {X:Cx} {tg:Expr}
theorem range_it {pins:List (Addr×Obj)} {σ:St} {H:Hp} {s:Shared} {R:It→Hp→Prop} {E:Value→Shared→Prop} {lo hi:Int} {t u v:Tok} {tk:Nat} (I:Inv X pins σ H s) (h1:-(2 ^ 62)≤lo) (h2:lo < 2 ^ 62) (h3:-(2 ^ 62)≤hi) (h4:hi < 2 ^ 62)
    (q:R (Itr lo (hi - lo).toNat) H):wpAny (model X.prog X.w) X.A (pyIter (.ref s.heap.objs.size)) (PIE X pins σ tg R) E { s with heap:=s.heap.push { cls:=.type "range",data:=.fields #[.int lo t,.int hi u,.int 1 v] },toks:=tk }:=by
  refine wpAny_pyIter_range (IsRange.new ..) (small_one h1 h2 h3 h4) ?_
  have I1:Inv X pins σ H { s with heap:=s.heap.push { cls:=.type "range",data:=.fields #[.int lo t,.int hi u,.int 1 v] },toks:=tk }:=I.kept fun b o e=>Heap.get?_push_of_some _ e
  refine ⟨(s.heap.push { cls:=.type "range",data:=.fields #[.int lo t,.int hi u,.int 1 v] }).objs.size,[(s.heap.push { cls:=.type "range",data:=.fields #[.int lo t,.int hi u,.int 1 v] }).objs.size],_,_,H,rfl,
    I1.kept (t':=tk) fun b o e=>Heap.get?_push_of_some _ e,turn_range _ lo (hi - lo).toNat,?_,fun b hb=>?_,q⟩
  · have e1:lo+((0:Nat):Int) * 1=lo:=by simp
    have e2:(((hi - lo).toNat:Nat):Int) - ((0:Nat):Int)=Builtin.Range.rangeSize lo hi 1:=by rw [rangeSize_one]; split <;> omega
    show IsRangeIter _ _ (lo+((0:Nat):Int) * 1) ((((hi - lo).toNat:Nat):Int) - ((0:Nat):Int)) 1
    rw [e1,e2]
    exact Heap.get?_push_size _ rfl
  · have e:b=(s.heap.push { cls:=.type "range",data:=.fields #[.int lo t,.int hi u,.int 1 v] }).objs.size:=by simpa using hb
    subst e
    exact I1.fpOk (Nat.le_refl _) (I1.hok.fresh (Nat.le_refl _))
noncomputable def iRng1 (ta:TA):TI:=fun σ H R=>ta σ H fun vs H1=>∃ j:Int,vs=[.int j]∧-(2 ^ 62)≤j∧j < 2 ^ 62∧R (Itr 0 j.toNat) H1
theorem pi_range1 {a:Expr} {ta:TA} {p pos:Pos} (hg:Gl X "range") (hm:X.mg "range"=none) (ha:PA X [a] ta) (hs:starEach [a] X.env=[(false,eval a X.env)]:=by rfl):PI X tg (.Call (.Name "range" p) [a] [] pos) (iRng1 ta):=by
  intro pins s σ H R I h
  refine Call_ (ld_blt I hg hm boot_range (PyProof.Rows.callWith_type1 (thn (ha pos pins s σ H _ I h) fun us s1 hz0=>?_) hs rfl))
  obtain ⟨vs,H1,I1,r1,q1⟩:=hz0
  obtain ⟨j,e,q1,q2,q⟩:=q1
  subst e
  cases r1 with
  | cons r rr =>
    cases rr
    obtain ⟨t,rfl⟩:=r
    exact call_range_1 (range_it I1 (by omega) (by omega) q1 q2 (by simpa using q))
noncomputable def tFor (wi:TI) (g:TG) (tb:TS):TS:=fun D σ H=>wi σ H fun J H1=>∃ W:Nat→Nat→St→Hp→Prop,(∃ m,W 0 m σ H1)∧∀ i m σ H,W i m σ H →
  (J.stop i H∧D.nx σ H)∨(J.go i H∧∃ N:St→Hp→Prop,(∀ σ' H',N σ' H'→∃ m',m' < m∧W (i+1) m' σ' H')∧∀ x H',J.yld i H x H'→g x σ H' fun σ2 H2=>tb { D with nx:=N,ct:=N,bk:=D.nx } σ2 H2)
noncomputable def pinsAt (fp:List Addr) (h:Heap):List (Addr×Obj):=fp.filterMap fun b=>(h.get? b).map fun o=>(b,o)
theorem mem_pinsAt {fp:List Addr} {h:Heap} {b:Addr} {o:Obj} (hb:b∈fp) (e:h.get? b=some o):(b,o)∈pinsAt fp h:=List.mem_filterMap.mpr ⟨b,hb,by rw [e]; rfl⟩
theorem of_pinsAt {fp:List Addr} {h:Heap} {p:Addr×Obj} (hp:p∈pinsAt fp h):p.1∈fp∧h.get? p.1=some p.2:=by
  obtain ⟨b,hb,e⟩:=List.mem_filterMap.mp hp
  cases q:h.get? b with
  | none=>rw [q] at e; cases e
  | some o =>
    rw [q] at e
    have e':(b,o)=p:=Option.some.inj e
    subst e'
    exact ⟨hb,q⟩
theorem Inv.pinned {pins:List (Addr×Obj)} {σ:St} {H:Hp} {s:Shared} {fp:List Addr} (I:Inv X pins σ H s) (hf:∀ b∈fp,FpOk X pins H b) (ho:∀ b∈fp,∃ o,s.heap.get? b=some o∧∀ v,o.data≠.cell v):Inv X (pins++pinsAt fp s.heap) σ H s :=
  I.pins_of fun p hp=>(List.mem_append.mp hp).elim (fun z=>I.pin p (List.mem_append_right _ z)) fun z=>by
    obtain ⟨hb,e⟩:=of_pinsAt z
    obtain ⟨f0,f1,f2,_⟩:=hf p.1 hb
    obtain ⟨o,e',d⟩:=ho p.1 hb
    rw [e] at e'; cases e'
    exact ⟨e,f0,f1,f2,d⟩
theorem Inv.unpinned {pins pl:List (Addr×Obj)} {σ:St} {H:Hp} {s:Shared} (I:Inv X (pins++pl) σ H s):Inv X pins σ H s:=I.pins_of fun p hp=>I.pin p (List.mem_append_right _ (List.mem_append_left _ hp))
theorem ps_for {iter:Expr} {body:List Stmt} {wi:TI} {g:TG} {tb:TS} {pos:Pos} (hp:PassesOwn (model X.prog X.w) X.A X.env X.xe) (hc:X.calm=true) (hi:PI X tg iter wi) (hg:PG X tg g) (hb:PSs X body tb)
    (hs:∀ x,foldedSetIterable iter X.env x=pure x:=by intro _; rfl):PS X (.For tg iter body [] pos) (tFor wi g tb):=by
  intro pins s σ H D I h
  refine wpAny_For (thn (hi pins s σ H _ I h) fun v s1 h1=>thn h1 fun itv s2 h2=>?_) hs
  obtain ⟨it,fp,tn,J,H2,e,I2,T,st2,f2,W,⟨m0,w0⟩,turn⟩:=h2
  subst e
  -- what stays true of the iterator's objects through the loop
  have stat:∀ {H':Hp},(∀ b∈fp,H' b=none)→∀ b∈fp,FpOk X pins H' b:=fun hn b hb=>⟨hn b hb,(f2 b hb).2⟩
  refine codeAny_forLoop_any (fun n s'=>∃ i σ' H',Inv X pins σ' H' s'∧tn i s'.heap∧(∀ b∈fp,H' b=none)∧W i n σ' H') ?_ m0 ⟨0,σ,H2,I2,st2,fun b hb=>(f2 b hb).1,w0⟩
  rintro n s3 ⟨i,σ3,H3,I3,st3,fr3,w3⟩
  rcases turn i n σ3 H3 w3 with ⟨stop,qn⟩ | ⟨go,N,hN,step⟩
  · refine wpAny_passesOwn hp (thn (T.done X rfl rfl rfl hc i pins s3 σ3 H3 X.xe I3 (stat fr3) st3 stop) fun r s4 hz0=>?_)
    obtain ⟨hr,I4⟩:=hz0
    subst hr
    exact wpAny_execs_nil ⟨σ3,H3,I4,qn⟩
  · refine wpAny_passesOwn hp (thn (T.item X rfl rfl rfl hc i pins s3 σ3 H3 X.xe I3 (stat fr3) st3 go) fun r s4 hz0=>?_)
    obtain ⟨u,hr,h4⟩:=hz0
    subst hr
    refine wpAny_passesOwn hp (thn h4 fun _ s5 hz0=>?_)
    obtain ⟨x,H5,I5,r5,y5,st5,fr5⟩:=hz0
    have I5':=I5.pinned (stat fr5) (T.obj _ _ st5)
    refine wpAny_passesOwn hp (thn (hg _ s5 σ3 H5 x u _ I5' r5 (step x H5 y5)) fun _ s6 hz0=>?_)
    obtain ⟨σ6,H6,I6,q6⟩:=hz0
    refine wpAny_passesOwn hp (thn (hb _ s6 σ6 H6 _ I6 q6) fun f s7 q7=>?_)
    have again:∀ {σ7:St} {H7:Hp},Inv X (pins++pinsAt fp s5.heap) σ7 H7 s7→N σ7 H7→∃ m,m < n∧∃ i σ' H',Inv X pins σ' H' s7∧tn i s7.heap∧(∀ b∈fp,H' b=none)∧W i m σ' H':=fun {σ7 H7} I7 n7=>by
      obtain ⟨m',hm,w7⟩:=hN σ7 H7 n7
      refine ⟨m',hm,i+1,σ7,H7,I7.unpinned,T.keep _ _ _ st5 fun b hb o e=>(I7.pin (b,o) (List.mem_append_right _ (List.mem_append_right _ (mem_pinsAt hb e)))).1,fun b hb=>?_,w7⟩
      obtain ⟨o,e,d⟩:=T.obj _ _ st5 b hb
      exact (I7.pin (b,o) (List.mem_append_right _ (List.mem_append_right _ (mem_pinsAt hb e)))).2.1
    cases f with
    | next=>obtain ⟨σ7,H7,I7,n7⟩:=q7; exact again I7 n7
    | cont=>obtain ⟨σ7,H7,I7,n7⟩:=q7; exact again I7 n7
    | brk=>obtain ⟨σ7,H7,I7,q7⟩:=q7; exact ⟨σ7,H7,I7.unpinned,q7⟩
    | ret v=>obtain ⟨x7,σ7,H7,I7,r7,q7⟩:=q7; exact ⟨x7,σ7,H7,I7.unpinned,r7,q7⟩
end
end L2
namespace L2
open PySem PySem.Spec PyProof.Rows
noncomputable abbrev R2:=V→V→Hp→VK→Prop
noncomputable def OpR (X:Cx) (f:Value→Value→Sem Value) (r:R2):Prop :=
  ∀ (pins:List (Addr×Obj)) (s:Shared) (σ:St) (H:Hp) (x y:V) (v u:Value) (Q:VK),Inv X pins σ H s→RelV x v→RelV y u→r x y H Q →
    wpAny (model X.prog X.w) X.A (f v u) (EP X pins σ Q) X.xe s
noncomputable def UnR (X:Cx) (f:Value→Sem Value) (r:V→Hp→VK→Prop):Prop :=
  ∀ (pins:List (Addr×Obj)) (s:Shared) (σ:St) (H:Hp) (x:V) (v:Value) (Q:VK),Inv X pins σ H s→RelV x v→r x H Q →
    wpAny (model X.prog X.w) X.A (f v) (EP X pins σ Q) X.xe s
noncomputable def CallR (X:Cx) (f:Value) (r:List V→Hp→VK→Prop):Prop :=
  ∀ (pins:List (Addr×Obj)) (s:Shared) (σ:St) (H:Hp) (xs:List V) (us:List Value) (Q:VK),Inv X pins σ H s→Vals xs us→r xs H Q →
    wpAny (model X.prog X.w) X.A (call f us) (EP X pins σ Q) X.xe s
noncomputable def TruR (X:Cx) (r:V→Hp→(Bool→Hp→Prop)→Prop):Prop :=
  ∀ (pins:List (Addr×Obj)) (s:Shared) (σ:St) (H:Hp) (x:V) (v:Value) (Q:Bool→Hp→Prop),Inv X pins σ H s→RelV x v→r x H Q →
    wpAny (model X.prog X.w) X.A (truthy v) (TP X pins σ Q) X.xe s

noncomputable def tOp (r:R2) (ta tb:TE):TE:=fun σ H Q=>ta σ H fun x H1=>tb σ H1 fun y H2=>r x y H2 Q
noncomputable def tUn (r:V→Hp→VK→Prop) (ta:TE):TE:=fun σ H Q=>ta σ H fun x H1=>r x H1 Q
noncomputable def rI (C:Int→Int→Prop) (g:Int→Int→V):R2:=fun x y H Q=>∃ i j,x=.int i∧y=.int j∧C i j∧Q (g i j) H
noncomputable def rI0 (g:Int→Int→V):R2:=fun x y H Q=>∃ i j,x=.int i∧y=.int j∧Q (g i j) H
noncomputable def rU (g:Int→V):V→Hp→VK→Prop:=fun x H Q=>∃ i,x=.int i∧Q (g i) H

section
variable {X:Cx} {a b c:Expr} {ta tb tc:TE} {pos:Pos}
theorem binT (ha:PE X a ta) (hb:PE X b tb) {pins:List (Addr×Obj)} {s:Shared} {σ:St} {H:Hp} {R:V→V→Hp→Prop} (I:Inv X pins σ H s)
    (h:ta σ H fun x H1=>tb σ H1 fun y H2=>R x y H2) {Q:Value→Shared→Prop} {f:Value→Value→Sem Value}
    (hf:∀ v u s2 x y H2,Inv X pins σ H2 s2→RelV x v→RelV y u→R x y H2→wpAny (model X.prog X.w) X.A (f v u) Q X.xe s2) :
    wpAny (model X.prog X.w) X.A (eval a X.env) (fun v s₁=>wpAny (model X.prog X.w) X.A (eval b X.env) (fun u s₂=>wpAny (model X.prog X.w) X.A (f v u) Q X.xe s₂) X.xe s₁) X.xe s:=by
  refine thn (ha pins s σ H _ I h) fun v s1 hz0=>?_
  obtain ⟨x,H1,I1,r1,q1⟩:=hz0
  refine thn (hb pins s1 σ H1 _ I1 q1) fun u s2 hz0=>?_
  obtain ⟨y,H2,I2,r2,q2⟩:=hz0
  exact hf v u s2 x y H2 I2 r1 r2 q2

theorem pe_op {op:Operator} {r:R2} (ho:OpR X (binaryOp op) r) (ha:PE X a ta) (hb:PE X b tb):PE X (.BinOp a op b pos) (tOp r ta tb):=by
  intro pins s σ H Q I h
  exact wpAny_BinOp (binT ha hb I h fun v u s2 x y H2 I2 rx ry q=>ho pins s2 σ H2 x y v u Q I2 rx ry q)
theorem pe_un {op:UnaryOp} {r:V→Hp→VK→Prop} (ho:UnR X (unaryOp op) r) (ha:PE X a ta):PE X (.UnaryOp op a pos) (tUn r ta):=by
  intro pins s σ H Q I h
  exact UnaryOp_ (thn (ha pins s σ H _ I h) fun v s1 ⟨x,H1,I1,r1,q1⟩=>ho pins s1 σ H1 x v Q I1 r1 q1)
theorem opI {f:Value→Value→Sem Value} {C:Int→Int→Prop} {g:Int→Int→Int}
    (rule:∀ (i j:Int) (t u:Tok) (s:Shared) (Q:Value→Shared→Prop) (E:Value→Shared→Prop),C i j→Q (.int (g i j) s.toks) { s with toks:=s.toks+1 }→wpAny (model X.prog X.w) X.A (f (.int i t) (.int j u)) Q E s) :
    OpR X f (rI C fun i j=>.int (g i j)):=by
  intro pins s σ H x y v u Q I rx ry h
  obtain ⟨i,j,rfl,rfl,hc,q⟩:=h
  obtain ⟨t,rfl⟩:=rx
  obtain ⟨t',rfl⟩:=ry
  exact rule i j t t' s _ _ hc ⟨.int (g i j),H,I.tok _,⟨_,rfl⟩,q⟩
theorem opI0 {f:Value→Value→Sem Value} {g:Int→Int→Int}
    (rule:∀ (i j:Int) (t u:Tok) (s:Shared) (Q:Value→Shared→Prop) (E:Value→Shared→Prop),Q (.int (g i j) s.toks) { s with toks:=s.toks+1 }→wpAny (model X.prog X.w) X.A (f (.int i t) (.int j u)) Q E s) :
    OpR X f (rI0 fun i j=>.int (g i j)):=by
  intro pins s σ H x y v u Q I rx ry h
  obtain ⟨i,j,rfl,rfl,q⟩:=h
  obtain ⟨t,rfl⟩:=rx
  obtain ⟨t',rfl⟩:=ry
  exact rule i j t t' s _ _ ⟨.int (g i j),H,I.tok _,⟨_,rfl⟩,q⟩
theorem opB0 {f:Value→Value→Sem Value} {g:Int→Int→Bool}
    (rule:∀ (i j:Int) (t u:Tok) (s:Shared) (Q:Value→Shared→Prop) (E:Value→Shared→Prop),Q (.bool (g i j)) s→wpAny (model X.prog X.w) X.A (f (.int i t) (.int j u)) Q E s) :
    OpR X f (rI0 fun i j=>.bl (g i j)):=by
  intro pins s σ H x y v u Q I rx ry h
  obtain ⟨i,j,rfl,rfl,q⟩:=h
  obtain ⟨t,rfl⟩:=rx
  obtain ⟨t',rfl⟩:=ry
  exact rule i j t t' s _ _ ⟨.bl (g i j),H,I,rfl,q⟩

noncomputable def CDiv (i j:Int):Prop:=0 < j∧j < 1073741824
noncomputable def CPow (i j:Int):Prop:=0≤j∧j≤1000000∧i.natAbs < 2 ^ 64
noncomputable def CMul (i j:Int):Prop:=(-(2 ^ 64) < i∧i < 2 ^ 64)∨(-(2 ^ 64) < j∧j < 2 ^ 64)
theorem CMul.ok {i j:Int} (h:CMul i j):IntMulOk i j:=by
  rcases h with ⟨h1,h2⟩ | ⟨h1,h2⟩
  · exact .of_left (intBits_le_64 h1 h2)
  · exact .of_right (intBits_le_64 h1 h2)
theorem op_add:OpR X (binaryOp .Add) (rI0 fun i j=>.int (i+j)):=opI0 fun _ _ _ _ _ _ _ q=>add_int q
theorem op_sub:OpR X (binaryOp .Sub) (rI0 fun i j=>.int (i - j)):=opI0 fun _ _ _ _ _ _ _ q=>sub_int q
theorem op_mul:OpR X (binaryOp .Mult) (rI CMul fun i j=>.int (i * j)):=opI fun _ _ _ _ _ _ _ hc q=>mul_int q hc.ok
theorem op_fdiv:OpR X (binaryOp .FloorDiv) (rI CDiv fun i j=>.int (i / j)):=opI fun i j _ _ _ _ _ hc q=>by
  have h1:(0:Int) < j:=hc.1
  have h2:j < 1073741824:=hc.2
  exact floordiv_int (by omega) (by rw [Int.fdiv_eq_ediv_of_nonneg i (by omega)]; exact q) (.inl (PyProof.noPylong_small (by omega)))
theorem op_mod:OpR X (binaryOp .Mod) (rI (fun _ j=>0 < j) fun i j=>.int (i % j)):=opI fun i j _ _ _ _ _ hc q=>by
  have h1:(0:Int) < j:=hc
  exact mod_int' (by omega) (by rw [Int.fmod_eq_emod_of_nonneg i (by omega)]; exact q)
theorem op_pow:OpR X (binaryOp .Pow) (rI CPow fun i j=>.int (i ^ j.toNat)):=opI fun _ _ _ _ _ _ _ hc q=>pow_int_small hc.1 hc.2.1 hc.2.2 q
theorem unI {f:Value→Sem Value} {g:Int→Int}
    (rule:∀ (i:Int) (t:Tok) (s:Shared) (Q:Value→Shared→Prop) (E:Value→Shared→Prop),Q (.int (g i) s.toks) { s with toks:=s.toks+1 }→wpAny (model X.prog X.w) X.A (f (.int i t)) Q E s) :
    UnR X f (rU fun i=>.int (g i)):=by
  intro pins s σ H x v Q I rx h
  obtain ⟨i,rfl,q⟩:=h
  obtain ⟨t,rfl⟩:=rx
  exact rule i t s _ _ ⟨.int (g i),H,I.tok _,⟨_,rfl⟩,q⟩
theorem un_neg:UnR X (unaryOp .USub) (rU fun i=>.int (-i)):=unI fun _ _ _ _ _ q=>neg_int q
end
noncomputable def scal:V→V→Bool
  | .non,.non=>true | .non,.int _=>true | .int _,.non=>true | .non,.bl _=>true | .bl _,.non=>true | .non,.str _=>true | .str _,.non=>true
  | .int _,.int _=>true | .bl _,.bl _=>true | .str _,.str _=>true | .byt _,.byt _=>true
  | .int _,.str _=>true | .str _,.int _=>true | .bl _,.str _=>true | .str _,.bl _=>true
  | _,_=>false
noncomputable def rEq:R2:=fun x y H Q=>scal x y=true∧Q (.bl (decide (x=y))) H
noncomputable def rNe:R2:=fun x y H Q=>scal x y=true∧Q (.bl (!decide (x=y))) H

theorem dec_int {i j:Int}:decide (V.int i=V.int j)=(i == j):=by
  rw [Bool.eq_iff_iff]
  simp
theorem dec_bl {i j:Bool}:decide (V.bl i=V.bl j)=(i == j):=by
  rw [Bool.eq_iff_iff]
  simp
theorem dec_str {i j:Str}:decide (V.str i=V.str j)=(i == j):=by
  rw [Bool.eq_iff_iff]
  simp
theorem dec_byt {i j:Array UInt8}:decide (V.byt i=V.byt j)=(i.toList == j.toList):=by
  rw [Bool.eq_iff_iff]
  cases i
  cases j
  simp

section
variable {X:Cx} {a b c:Expr} {ta tb tc:TE} {pos:Pos}
theorem fin_bl {pins:List (Addr×Obj)} {σ:St} {H:Hp} {s:Shared} {Q:VK} {k k':Bool} (I:Inv X pins σ H s) (q:Q (.bl k) H) (e:k=k'):EP X pins σ Q (.bool k') s:=by
  subst e
  exact ⟨.bl k,H,I,rfl,q⟩
theorem op_eq:OpR X (compareOp .Eq) rEq:=by
  intro pins s σ H x y v u Q I rx ry h
  obtain ⟨hs,q⟩:=h
  cases x with
  | non =>
    cases rx
    cases y with
    | non=>cases ry; exact PySem.EqNone.eq_none_none (fin_bl I q (by simp))
    | bl j=>cases ry; exact PySem.EqNone.eq_none_bool (fin_bl I q (by simp))
    | int j=>obtain ⟨t',rfl⟩:=ry; exact PySem.EqNone.eq_none_int (fin_bl I q (by simp))
    | str j=>obtain ⟨t',rfl⟩:=ry; exact PySem.EqNone.eq_none_str (fin_bl I q (by simp))
    | _=>exact absurd (show false=true from hs) Bool.false_ne_true
  | bl i =>
    cases rx
    cases y with
    | non=>cases ry; exact PySem.EqNone.eq_bool_none (fin_bl I q (by simp))
    | bl j=>cases ry; exact eq_bool (fin_bl I q dec_bl)
    | str j=>obtain ⟨t',rfl⟩:=ry; exact PySem.EqMixed.eq_bool_str (fin_bl I q (by simp))
    | _=>exact absurd (show false=true from hs) Bool.false_ne_true
  | int i =>
    obtain ⟨t,rfl⟩:=rx
    cases y with
    | non=>cases ry; exact PySem.EqNone.eq_int_none (fin_bl I q (by simp))
    | int j=>obtain ⟨t',rfl⟩:=ry; exact eq_int (fin_bl I q dec_int)
    | str j=>obtain ⟨t',rfl⟩:=ry; exact PySem.EqMixed.eq_int_str (fin_bl I q (by simp))
    | _=>exact absurd (show false=true from hs) Bool.false_ne_true
  | str i =>
    obtain ⟨t,rfl⟩:=rx
    cases y with
    | non=>cases ry; exact PySem.EqNone.eq_str_none (fin_bl I q (by simp))
    | bl j=>cases ry; exact PySem.EqMixed.eq_str_bool (fin_bl I q (by simp))
    | int j=>obtain ⟨t',rfl⟩:=ry; exact PySem.EqMixed.eq_str_int (fin_bl I q (by simp))
    | str j=>obtain ⟨t',rfl⟩:=ry; exact eq_str (fin_bl I q dec_str)
    | _=>exact absurd (show false=true from hs) Bool.false_ne_true
  | byt i =>
    obtain ⟨t,rfl⟩:=rx
    cases y with
    | byt j=>obtain ⟨t',rfl⟩:=ry; exact PySem.W.eq_bytes (fin_bl I q dec_byt)
    | _=>exact absurd (show false=true from hs) Bool.false_ne_true
  | _=>cases y <;> exact absurd (show false=true from hs) Bool.false_ne_true
theorem op_ne:OpR X (compareOp .NotEq) rNe:=by
  intro pins s σ H x y v u Q I rx ry h
  obtain ⟨hs,q⟩:=h
  cases x with
  | non =>
    cases rx
    cases y with
    | non=>cases ry; exact PySem.EqNone.ne_none_none (fin_bl I q (by simp))
    | bl j=>cases ry; exact PySem.EqNone.ne_none_bool (fin_bl I q (by simp))
    | int j=>obtain ⟨t',rfl⟩:=ry; exact PySem.EqNone.ne_none_int (fin_bl I q (by simp))
    | str j=>obtain ⟨t',rfl⟩:=ry; exact PySem.EqNone.ne_none_str (fin_bl I q (by simp))
    | _=>exact absurd (show false=true from hs) Bool.false_ne_true
  | bl i =>
    cases rx
    cases y with
    | non=>cases ry; exact PySem.EqNone.ne_bool_none (fin_bl I q (by simp))
    | bl j=>cases ry; exact ne_bool (fin_bl I q (congrArg not dec_bl))
    | str j=>obtain ⟨t',rfl⟩:=ry; exact PySem.EqMixed.ne_bool_str (fin_bl I q (by simp))
    | _=>exact absurd (show false=true from hs) Bool.false_ne_true
  | int i =>
    obtain ⟨t,rfl⟩:=rx
    cases y with
    | non=>cases ry; exact PySem.EqNone.ne_int_none (fin_bl I q (by simp))
    | int j=>obtain ⟨t',rfl⟩:=ry; exact ne_int (fin_bl I q (congrArg not dec_int))
    | str j=>obtain ⟨t',rfl⟩:=ry; exact PySem.EqMixed.ne_int_str (fin_bl I q (by simp))
    | _=>exact absurd (show false=true from hs) Bool.false_ne_true
  | str i =>
    obtain ⟨t,rfl⟩:=rx
    cases y with
    | non=>cases ry; exact PySem.EqNone.ne_str_none (fin_bl I q (by simp))
    | bl j=>cases ry; exact PySem.EqMixed.ne_str_bool (fin_bl I q (by simp))
    | int j=>obtain ⟨t',rfl⟩:=ry; exact PySem.EqMixed.ne_str_int (fin_bl I q (by simp))
    | str j=>obtain ⟨t',rfl⟩:=ry; exact ne_str (fin_bl I q (congrArg not dec_str))
    | _=>exact absurd (show false=true from hs) Bool.false_ne_true
  | byt i =>
    obtain ⟨t,rfl⟩:=rx
    cases y with
    | byt j=>obtain ⟨t',rfl⟩:=ry; exact PySem.W.ne_bytes (fin_bl I q (congrArg not dec_byt))
    | _=>exact absurd (show false=true from hs) Bool.false_ne_true
  | _=>cases y <;> exact absurd (show false=true from hs) Bool.false_ne_true

theorem op_lt:OpR X (compareOp .Lt) (rI0 fun i j=>.bl (decide (i < j))):=opB0 fun _ _ _ _ _ _ _ q=>lt_int q
theorem op_le:OpR X (compareOp .LtE) (rI0 fun i j=>.bl (decide (i≤j))):=opB0 fun _ _ _ _ _ _ _ q=>le_int q
theorem op_gt:OpR X (compareOp .Gt) (rI0 fun i j=>.bl (decide (j < i))):=opB0 fun _ _ _ _ _ _ _ q=>gt_int q
theorem op_ge:OpR X (compareOp .GtE) (rI0 fun i j=>.bl (decide (j≤i))):=opB0 fun _ _ _ _ _ _ _ q=>ge_int q
theorem OpR.or {f:Value→Value→Sem Value} {r r':R2} (h:OpR X f r) (h':OpR X f r'):OpR X f (fun x y H Q=>r x y H Q∨r' x y H Q):=by
  intro pins s σ H x y v u Q I rx ry q
  rcases q with q | q
  · exact h pins s σ H x y v u Q I rx ry q
  · exact h' pins s σ H x y v u Q I rx ry q

theorem nomark (b:Expr) {op:CmpOp} (h:op≠.In:=by decide) (h2:op≠.NotIn:=by decide):behindInMarks op b=false:=by
  have e1:(op == CmpOp.In)=false:=by cases op <;> first | rfl | exact absurd rfl h
  have e2:(op == CmpOp.NotIn)=false:=by cases op <;> first | rfl | exact absurd rfl h2
  cases b <;> first | rfl | (show (_ && (op == CmpOp.In || op == CmpOp.NotIn) && _)=false; rw [e1,e2,Bool.or_false,Bool.and_false,Bool.false_and])
theorem pe_cmpR {op:CmpOp} {r:R2} (ho:OpR X (compareOp op) r) (ha:PE X a ta) (hb:PE X b tb) (hm:behindInMarks op b=false):PE X (.Compare a [op] [b] pos) (tOp r ta tb):=by
  intro pins s σ H Q I h
  exact wpAny_Compare1 (binT ha hb I h fun v u s2 x y H2 I2 rx ry q=>ho pins s2 σ H2 x y v u Q I2 rx ry q) hm
noncomputable def tTest (t:TE):TT:=fun σ H Q=>t σ H fun x H'=>∃ k,x=.bl k∧Q k H'
theorem pt_cmpR {op:CmpOp} {r:R2} (ho:OpR X (compareOp op) r) (ha:PE X a ta) (hb:PE X b tb) (hm:behindInMarks op b=false):PT X (.Compare a [op] [b] pos) (tTest (tOp r ta tb)):=by
  intro pins s σ H Q I h
  refine wpAny_isTrue_Compare1 (thn (ha pins s σ H _ I h) fun v s1 ⟨x,H1,I1,r1,q1⟩=>thn (hb pins s1 σ H1 _ I1 q1) fun u s2 ⟨y,H2,I2,r2,q2⟩ =>
    thn (ho pins s2 σ H2 x y v u _ I2 r1 r2 q2) fun c s3 ⟨z,H3,I3,r3,k,e,q3⟩=>?_) hm
  subst e
  cases r3
  exact wpAny_truthy_bool ⟨H3,I3,q3⟩
noncomputable def tChain (r r':R2) (ta tb tc:TE):TE:=fun σ H Q=>ta σ H fun x H1=>tb σ H1 fun y H2=>r x y H2 fun z H3=>∃ k,z=.bl k ∧
  (if k=true then tc σ H3 fun w' H4=>r' y w' H4 Q else Q (.bl false) H3)
theorem pe_chain {op op':CmpOp} {r r':R2} (ho:OpR X (compareOp op) r) (ho':OpR X (compareOp op') r') (ha:PE X a ta) (hb:PE X b tb) (hc:PE X c tc)
    (hm:lastMarks [op,op'] [b,c]=false:=by with_unfolding_all rfl):PE X (.Compare a [op,op'] [b,c] pos) (tChain r r' ta tb tc):=by
  intro pins s σ H Q I h
  refine Compare_chain (thn (ha pins s σ H _ I h) fun v s1 ⟨x,H1,I1,r1,q1⟩=>chain_link (thn (hb pins s1 σ H1 _ I1 q1) fun u s2 ⟨y,H2,I2,r2,q2⟩ =>
    thn (ho pins s2 σ H2 x y v u _ I2 r1 r2 q2) fun d s3 ⟨z,H3,I3,r3,k,e,q3⟩=>?_)) hm
  subst e
  cases r3
  refine wpAny_truthy_bool ?_
  cases k with
  | false=>exact ite_ff ⟨.bl false,H3,I3,rfl,q3⟩
  | true=>exact ite_tt (chain_last (thn (hc pins s3 σ H3 _ I3 q3) fun w' s4 ⟨z',H4,I4,r4,q4⟩=>ho' pins s4 σ H4 y z' u w' Q I4 r2 r4 q4))
theorem pt_chain {op op':CmpOp} {r r':R2} (ho:OpR X (compareOp op) r) (ho':OpR X (compareOp op') r') (ha:PE X a ta) (hb:PE X b tb) (hc:PE X c tc)
    (hm:lastMarks [op,op'] [b,c]=false:=by with_unfolding_all rfl):PT X (.Compare a [op,op'] [b,c] pos) (tTest (tChain r r' ta tb tc)):=by
  intro pins s σ H Q I h
  refine isTrue_chain (thn (ha pins s σ H _ I h) fun v s1 ⟨x,H1,I1,r1,q1⟩=>test_link (thn (hb pins s1 σ H1 _ I1 q1) fun u s2 ⟨y,H2,I2,r2,q2⟩ =>
    thn (ho pins s2 σ H2 x y v u _ I2 r1 r2 q2) fun d s3 ⟨z,H3,I3,r3,k,e,q3⟩=>?_)) hm
  subst e
  cases r3
  refine wpAny_truthy_bool ?_
  cases k with
  | false =>
    obtain ⟨k',e',q'⟩:=q3
    cases e'
    exact ite_ff ⟨H3,I3,q'⟩
  | true =>
    refine ite_tt (test_last (thn (hc pins s3 σ H3 _ I3 q3) fun w' s4 ⟨z',H4,I4,r4,q4⟩=>thn (ho' pins s4 σ H4 y z' u w' _ I4 r2 r4 q4) fun d' s5 hz0=>?_))
    obtain ⟨z2,H5,I5,r5,k2,e2,q5⟩:=hz0
    subst e2
    cases r5
    exact wpAny_truthy_bool ⟨H5,I5,q5⟩

noncomputable def TruV (K:PySem.W.Frag) (x:V) (H:Hp) (k:Bool):Prop :=
  match x with
  | .non=>k=false
  | .bl b=>k=b
  | .int i=>k=(i != 0)
  | .str y=>y.length≤sizeLine∧k=((y.length:Int) != 0)
  | .byt y=>y.size≤sizeLine∧k=((y.size:Int) != 0)
  | .ref p=>(∃ xs,SqL K H p xs∧k=!xs.isEmpty)∨(∃ xs,SqT K H p xs∧k=!xs.isEmpty)∨∃ kvs,H p=some (.dK kvs)∧k=!kvs.isEmpty
  | _=>False
theorem isEmpty_kv {κ:Type} {kvs:List (κ×V)} {vs:List (κ×Value)} (r:KV kvs vs):(!vs.isEmpty)=!kvs.isEmpty:=by
  cases r <;> rfl
theorem isEmpty_of {xs:List V} {its:List Value} (r:Vals xs its):(!its.toArray.isEmpty)=!xs.isEmpty:=by
  cases r <;> simp
theorem line63:(sizeLine:Nat) < 2 ^ 63:=by rw [sizeLine_eq]; decide
theorem tru_ok:TruR X (fun x H Q=>∃ k,TruV X.K x H k∧Q k H):=by
  intro pins s σ H x v Q I rx h
  obtain ⟨k,e,q⟩:=h
  have hl:=line63
  have hs:sizeLine=16777216:=sizeLine_eq
  cases x with
  | non =>
    cases rx
    have e':k=false:=e
    subst e'
    exact truthy_none ⟨H,I,q⟩
  | bl b =>
    cases rx
    have e':k=b:=e
    subst e'
    exact wpAny_truthy_bool ⟨H,I,q⟩
  | int i =>
    obtain ⟨t,rfl⟩:=rx
    have e':k=(i != 0):=e
    subst e'
    exact PySem.P.truthy_int ⟨H,I,q⟩
  | str y =>
    obtain ⟨t,rfl⟩:=rx
    obtain ⟨hy,e'⟩:y.length≤sizeLine∧k=((y.length:Int) != 0):=e
    subst e'
    exact PySem.P.truthy_str (by omega) ⟨H,I.tok _,q⟩
  | byt y =>
    obtain ⟨t,rfl⟩:=rx
    obtain ⟨hy,e'⟩:y.size≤sizeLine∧k=((y.size:Int) != 0):=e
    subst e'
    exact PySem.W.truthy_bytes (by omega) ⟨H,I.tok _,q⟩
  | ref p =>
    cases rx
    have e':(∃ xs,SqL X.K H p xs∧k=!xs.isEmpty)∨(∃ xs,SqT X.K H p xs∧k=!xs.isEmpty)∨∃ kvs,H p=some (.dK kvs)∧k=!kvs.isEmpty:=e
    rcases e' with ⟨xs,hx,e'⟩ | ⟨xs,hx,e'⟩ | ⟨kvs,hx,e'⟩
    · subst e'
      obtain ⟨its,r,pl,hz⟩:=I.list hx
      have hlen:=r.length
      exact wpAny_truthy_list pl.isList (by simp only [List.size_toArray]; omega) ⟨H,I.tok _,by rw [isEmpty_of r]; exact q⟩
    · subst e'
      obtain ⟨its,r,pl,hz⟩:=I.tuple hx
      have hlen:=r.length
      exact truthy_tuple pl (by simp only [List.size_toArray]; omega) ⟨H,I.tok _,by rw [isEmpty_of r]; exact q⟩
    · subst e'
      obtain ⟨hz,hS,vs,r,m⟩:kvs.length≤sizeLine∧(p == sysModules)=false∧∃ vs,KV kvs vs∧s.heap.DictOf (mixKind X.prog X.w) p vs:=I.hok p _ hx
      have hlen:kvs.length=vs.length:=Paired.length r
      exact wpAny_truthy_dict hS m (by omega) ⟨H,I.tok _,by rw [isEmpty_kv r]; exact q⟩
  | _=>exact (show False from e).elim
theorem pt_truth (ha:PE X a ta) (he:∀ whole,isTrue a X.env whole=(do let v ← whole; standAt a.pos; holding [v] (truthy v))) :
    PT X a (fun σ H Q=>ta σ H fun x H'=>∃ k,TruV X.K x H' k∧Q k H'):=by
  intro pins s σ H Q I h
  exact isTrue_plain (thn (ha pins s σ H _ I h) fun v s1 ⟨x,H1,I1,r1,q1⟩=>tru_ok pins s1 σ H1 x v Q I1 r1 q1) (he _)

theorem vals1 {x:V} {us:List Value} (r:Vals [x] us):∃ u,us=[u]∧RelV x u:=by
  cases r with
  | cons r1 r2=>cases r2; exact ⟨_,rfl,r1⟩
theorem vals2 {x y:V} {us:List Value} (r:Vals [x,y] us):∃ u w',us=[u,w']∧RelV x u∧RelV y w':=by
  cases r with
  | cons r1 r2 =>
    cases r2 with
    | cons r3 r4=>cases r4; exact ⟨_,_,rfl,r1,r3⟩
theorem call_abs:CallR X (.builtin "abs") (fun xs H Q=>∃ i,xs=[.int i]∧Q (.int (if i < 0 then -i else i)) H):=by
  intro pins s σ H xs us Q I r h
  obtain ⟨i,rfl,q⟩:=h
  obtain ⟨u,rfl,t,rfl⟩:=vals1 r
  exact call_abs_int fun u tk=>⟨.int (if i < 0 then -i else i),H,I.tok _,⟨_,rfl⟩,q⟩
theorem call_str_int:CallR X (.type "str") (fun xs H Q=>∃ i,xs=[.int i]∧i.natAbs.log2 < 1920∧Q (.str (toString i)) H):=by
  intro pins s σ H xs us Q I r h
  obtain ⟨i,rfl,hz,q⟩:=h
  obtain ⟨u,rfl,t,rfl⟩:=vals1 r
  exact PySem.P.str_of_int hz ⟨.str _,H,I.tok _,⟨_,rfl⟩,q⟩
end
end L2
namespace L2
open PySem PySem.Spec PyProof.Rows
structure ObjM (h:Heap) (x dx C:Addr) (mA:Str→Option Value):Prop where
  obj:h.get? x=some (PySem.W.instObj C dx)
  ns:h.Ns1 dx mA
  ne:dx≠x

theorem lookIn_ns {h:Heap} {dx:Addr} {mA:Str→Option Value} (n:h.Ns1 dx mA):∃ od,h.get? dx=some od∧∀ name,PySem.W.lookIn name od=some (mA name):=by
  obtain ⟨o,es,ep,ho,hd,hk,_,hm⟩:=n
  refine ⟨o,ho,fun name=>?_⟩
  have e:=hm name
  unfold nsFind findBy at e
  rw [← Array.find?_toList] at e
  unfold PySem.W.lookIn
  rw [hd]
  dsimp only
  split
  · rename_i y q
    rw [q] at e
    exact congrArg some e
  · rename_i q
    rw [q] at e
    have a:es.toList.any (·.refKey)=false:=by
      rw [List.any_eq_false]
      intro y hy
      obtain ⟨z,t,hkey⟩:=hk y (Array.mem_toList_iff.mp hy)
      simp [DictEntry.refKey,hkey]
    have a':¬ es.toList.any (·.refKey)=true:=by rw [a]; exact Bool.false_ne_true
    rw [if_neg a']
    exact congrArg some e

theorem ObjM.look {h:Heap} {x dx C:Addr} {mA:Str→Option Value} (I:ObjM h x dx C mA):∃ od,PySem.W.InstAt h x (PySem.W.instObj C dx) C (some od)∧∀ name,PySem.W.lookIn name od=some (mA name) :=
  let ⟨od,ho,hl⟩:=lookIn_ns I.ns
  ⟨od,⟨I.obj,rfl,rfl,ho⟩,hl⟩

section
variable {prog:Program} {w:World} {A:Around} {E:Value→Shared→Prop} {s:Shared} {K:PySem.W.Frag} {x dx C f:Addr} {mA:Str→Option Value} {name:Str} {v:Value}
end
section
variable {P:Program} {w:World} {H H':Hp} {h h':Heap} {a C dx:Addr} {fs fs':List (Str×V)}
theorem ins_get (hok:HOk P w H h) (e:H a=some (.ins C dx fs)):∃ mA,ObjM h a dx C mA∧(∀ f,RelO (fs.lookup f) (mA f))∧PySem.Within mA (fs.map (·.1))∧fs.length≤1000∧H dx=some (.own a):=by
  obtain ⟨d,z,ne,ob,mA,n,r,q⟩:=(show ObjOk P w H h a (.ins C dx fs) from hok a _ e)
  exact ⟨mA,⟨ob,n,ne⟩,r,q,z,d⟩
end
structure Cls (K:PySem.W.Frag) (C:Addr):Prop where
  pg:PySem.W.plainGet K C Str.empty=true
  hd:PySem.W.hasDictIn K C=true
  po:PySem.W.plainOver K C=true
  sa:PySem.W.findIn K (.ref C) "__setattr__"=some (some (.builtin "object.__setattr__"))
theorem Cls.get {K:PySem.W.Frag} {C:Addr} (c:Cls K C) (f:Str):PySem.W.plainGet K C f=true:=c.pg
section
variable {X:Cx} {pins:List (Addr×Obj)} {σ:St} {H:Hp} {s:Shared} {a C dx:Addr} {fs:List (Str×V)} {f:Str} {v:V} {A:Around} {E:Value→Shared→Prop}
end
section
variable {X:Cx} {o e value:Expr} {f:Str} {pos pos' tpos:Pos} {ta tv:TE}
end
section
variable {X:Cx} {pins:List (Addr×Obj)} {σ:St} {H:Hp} {s:Shared} {A:Around} {E:Value→Shared→Prop} {Q:Value→Shared→Prop} {c:Value} {b:Bool}
inductive TyOf (K:PySem.W.Frag) (H:Hp):V→Value→Prop where
  | non:TyOf K H .non (.type "NoneType")
  | bl (x:Bool):TyOf K H (.bl x) (.type "bool")
  | int (i:Int):TyOf K H (.int i) (.type "int")
  | str (x:Str):TyOf K H (.str x) (.type "str")
  | flt (x:UInt64):TyOf K H (.flt x) (.type "float")
  | lst {a:Addr} {xs:List V} (e:H a=some (.lst xs)):TyOf K H (.ref a) (.type "list")
  | frz {a:Addr} {o:Obj} {xs:List V} (e:H a=some (.frz o (.lst xs))):TyOf K H (.ref a) (.type "list")
  | tup {a:Addr} {xs:List V} (e:H a=some (.tup xs)):TyOf K H (.ref a) (.type "tuple")
  | dK {a:Addr} {kvs:List (Key×V)} (e:H a=some (.dK kvs)):TyOf K H (.ref a) (.type "dict")
  | dT {a:Addr} {kvs:List (List Key×V)} (e:H a=some (.dT kvs)):TyOf K H (.ref a) (.type "dict")
  | ins {a C dx:Addr} {fs:List (Str×V)} (e:H a=some (.ins C dx fs)) (cl:Cls K C) (ha:PySem.W.findIn K (.ref C) "__class__"=some (some (.builtin "object.__class__")))
      (hn:PySem.W.specialIn K (.builtin "object.__class__") "__get__"=some (some (.builtin "getset_descriptor.__get__"))) (htk:PySem.W.takesIn K (.builtin "object.__class__")=some true)
      (hm:PySem.W.mroIn K C (.type "object")=some true):TyOf K H (.ref a) (.ref C)
theorem isinst_ok {x:V} {u t:Value} (I:Inv X pins σ H s) (rx:RelV x u) (ty:TyOf X.K H x t) (e:PySem.W.kitOne X.K t c=some b) (h:∀ tk,Q (.bool b) { s with toks:=tk }) :
    wpAny (model X.prog X.w) A (call (.builtin "isinstance") [u,c]) Q E s:=by
  cases ty with
  | non=>cases (show u=Value.none from rx); exact PySem.W.kia_one PySem.W.kitx_none I.kIn True.intro e (fun z=>nomatch z) h
  | bl y=>cases (show u=Value.bool y from rx); exact PySem.W.kia_one PySem.W.kitx_bool I.kIn True.intro e (fun z=>nomatch z) h
  | int i=>obtain ⟨t,q⟩:=(show ∃ t,u=Value.int i t from rx); cases q; exact PySem.W.kia_one PySem.W.kitx_int I.kIn True.intro e (fun z=>nomatch z) h
  | str y=>obtain ⟨t,q⟩:=(show ∃ t,u=Value.str y t from rx); cases q; exact PySem.W.kia_one PySem.W.kitx_str I.kIn True.intro e (fun z=>nomatch z) h
  | flt y=>obtain ⟨t,q⟩:=(show ∃ t,u=Value.float y t from rx); cases q; exact PySem.W.kia_one PySem.W.kitx_float I.kIn True.intro e (fun z=>nomatch z) h
  | @lst a xs ea =>
    cases (show u=Value.ref a from rx)
    obtain ⟨_,_,n,_,h1⟩:=(show ObjOk X.prog X.w H s.heap a (.lst xs) from I.hok a _ ea)
    exact PySem.W.kia_one PySem.W.kitx_list I.kIn ⟨_,h1,rfl⟩ e (fun z=>nomatch z) h
  | @frz a ob xs ea =>
    cases (show u=Value.ref a from rx)
    obtain ⟨_,_,_,n,_,h1⟩:=(show ObjOk X.prog X.w H s.heap a (.frz ob (.lst xs)) from I.hok a _ ea)
    exact PySem.W.kia_one PySem.W.kitx_list I.kIn ⟨_,h1,rfl⟩ e (fun z=>nomatch z) h
  | @tup a xs ea =>
    cases (show u=Value.ref a from rx)
    obtain ⟨_,_,_,p⟩:=(show ObjOk X.prog X.w H s.heap a (.tup xs) from I.hok a _ ea)
    obtain ⟨o,h1,h2,_⟩:=p
    exact PySem.W.kia_one PySem.W.kitx_tuple I.kIn ⟨o,h1,h2⟩ e (fun z=>nomatch z) h
  | @dK a kvs ea =>
    cases (show u=Value.ref a from rx)
    obtain ⟨_,_,vs,_,p⟩:=(show ObjOk X.prog X.w H s.heap a (.dK kvs) from I.hok a _ ea)
    obtain ⟨o,es,ep,h1,h2,_⟩:=p
    exact PySem.W.kia_one PySem.W.kitx_dict I.kIn ⟨o,h1,h2.1⟩ e (fun z=>nomatch z) h
  | @dT a kvs ea =>
    cases (show u=Value.ref a from rx)
    obtain ⟨_,_,xs,_,o,es,ep,h1,h2,_⟩:=(show ObjOk X.prog X.w H s.heap a (.dT kvs) from I.hok a _ ea)
    exact PySem.W.kia_one PySem.W.kitx_dict I.kIn ⟨o,h1,h2.1⟩ e (fun z=>nomatch z) h
  | @ins a C dx fs ea cl ha hn htk hm =>
    cases (show u=Value.ref a from rx)
    obtain ⟨mA,O,_⟩:=ins_get I.hok ea
    obtain ⟨od,J,_⟩:=O.look
    exact PySem.W.kia_one (PySem.W.kitx_own (cl.get _) cl.hd ha hn htk hm) I.kIn J e (fun z=>nomatch z) h
end
end L2
namespace L2
open PySem PySem.Spec PyProof.Rows
structure Room (k:Nat) (A:Around):Prop where
  hd:A.handled=none
  dp:A.depth+3 * k+5 < recursionLimit
  un:A.units+16 * k+200 < cLine
  gd:A.guards=some []
theorem Room.mono {j k:Nat} {A:Around} (r:Room k A) (h:j≤k):Room j A:=⟨r.hd,by have:=r.dp; omega,by have:=r.un; omega,r.gd⟩
theorem Room.deeper {k:Nat} {A:Around} (r:Room (k+1) A) (env:Env):Room k (A.deeper env) :=
  ⟨r.hd,by have:=r.dp; show A.depth+1+3 * k+5 < _; omega,by have:=r.un; show A.units+3+16 * k+200 < _; omega,r.gd⟩
theorem Room.depth {k:Nat} {A:Around} (r:Room k A):A.depth < recursionLimit:=by have:=r.dp; omega
theorem Room.units {k:Nat} {A:Around} (r:Room k A):A.units+64 < cLine:=by have:=r.un; omega
noncomputable def tNil:TA:=fun _ H Q=>Q [] H
noncomputable def tCons (ta:TE) (tr:TA):TA:=fun σ H Q=>ta σ H fun x H1=>tr σ H1 fun xs H2=>Q (x::xs) H2
section
variable {X:Cx} {e:Expr} {es:List Expr} {te:TE} {t:TA} {pos:Pos}
theorem pa_nil:PA X [] tNil:=fun _ _ _ _ H Q I h=>Calls.spliced_nil ⟨[],H,I,.nil,h⟩
theorem pa_cons (ha:PE X e te) (hr:PA X es t) (hs:starEach (e::es) X.env=(false,eval e X.env)::starEach es X.env:=by rfl):PA X (e::es) (tCons te t):=by
  intro pos pins s σ H Q I h
  rw [hs]
  show wpAny _ _ (spliced ((false,eval e X.env)::backTo pos (starEach es X.env))) _ _ s
  refine Calls.spliced_cons (thn (ha pins s σ H _ I h) fun u s1 hz0=>?_)
  obtain ⟨x,H1,I1,r1,q1⟩:=hz0
  exact thn (hr pos pins s1 σ H1 _ I1 q1) fun us s2 hz0=>by
    obtain ⟨xs,H2,I2,r2,q2⟩:=hz0
    exact ⟨x::xs,H2,I2,.cons r1 r2,q2⟩

noncomputable def tTup (t:TA):TE:=fun σ H Q=>t σ H fun xs H1=>xs.length≤sizeLine∧∀ p,H1 p=none→Q (.ref p) (upd H1 p (.tup xs))
noncomputable def tLst (t:TA):TE:=fun σ H Q=>t σ H fun xs H1=>xs.length≤sizeLine∧∀ p,H1 p=none→Q (.ref p) (upd H1 p (.lst xs))
theorem pe_tup {x1} (h:PA X es t):PE X (.Tuple es x1 pos) (tTup t):=by
  intro pins s σ H Q I hq
  refine wpAny_Tuple_spliced (thn (h pos pins s σ H _ I hq) fun us s1 ⟨xs,H1,I1,r,z,q⟩=>⟨by rw [← r.length]; exact z,?_⟩)
  have hf:H1 s1.heap.objs.size=none:=I1.hok.fresh (Nat.le_refl _)
  refine ⟨.ref s1.heap.objs.size,upd H1 s1.heap.objs.size (.tup xs),I1.laid (t':=s1.toks) (fun b u e=>Heap.get?_push_of_some _ e) (Nat.le_refl _) ?_,rfl,q _ hf⟩
  exact ⟨z,us,r,⟨_,Heap.get?_push_size _ rfl,rfl,_,rfl⟩⟩
theorem pe_lst (h:PA X es t):PE X (.List es pos) (tLst t):=by
  intro pins s σ H Q I hq
  refine wpAny_List_spliced (thn (h pos pins s σ H _ I hq) fun us s1 ⟨xs,H1,I1,r,z,q⟩=>⟨by rw [← r.length]; exact z,?_⟩)
  have hf:H1 s1.heap.objs.size=none:=I1.hok.fresh (Nat.le_refl _)
  refine ⟨.ref s1.heap.objs.size,upd H1 s1.heap.objs.size (.lst xs),I1.laid (t':=s1.toks) (fun b u e=>Heap.get?_push_of_some _ e) (Nat.le_refl _) ?_,rfl,q _ hf⟩
  exact ⟨z,us,0,r,Heap.get?_push_size _ rfl⟩
end
noncomputable abbrev Sp:=List V→Hp→VK→XK→Prop
noncomputable abbrev CXT:=List Env→Hp→Shared→XK→Value→Shared→Prop

structure Env0 (P:Program) (w:World) (K:PySem.W.Frag) (mg:Str→Option Value) (base:Heap) (A:Around) (outer:List Env) (s:Shared) (H:Hp):Prop where
  frames:A.frames=some outer
  mod:Mod K mg base
  bs:∀ b o,base.get? b=some o→s.heap.get? b=some o∧H b=none
  bsz:base.objs.size≤s.heap.objs.size
  funs:s.heap.FunFrames base outer
  frf:∀ b∈frs outer,H b=none
  hok:HOk P w H s.heap
  bare:AllBare s.gens
noncomputable def CE (outer:List Env) (P:Program) (w:World) (H:Hp) (s:Shared) (Q:VK) (u:Value) (s':Shared):Prop :=
  ∃ v H',s'.os=s.os∧AllBare s'.gens∧Un (frs outer) [] H H' s.heap s'.heap∧HOk P w H' s'.heap∧RelV v u∧Q v H'
noncomputable def CR (CX:CXT) (outer:List Env) (P:Program) (w:World) (H:Hp) (s:Shared) (Q:VK) (E:XK) (r:Result) (s':Shared):Prop :=
  match r with
  | .ok (.ret u)=>CE outer P w H s Q u s'
  | .ok _=>False
  | .error e=>CX outer H s E e s'
structure FnOk (P:Program) (w:World) (K:PySem.W.Frag) (mg:Str→Option Value) (base:Heap) (CX:CXT) (k:Nat) (f:Addr) (fd:FuncData) (ps:List Str) (sp:Sp):Prop where
  len:∀ vs H Q E,sp vs H Q E→vs.length=ps.length
  run:∀ (A:Around) (outer:List Env) (s:Shared) (H:Hp) (args:Args) (us:List Value) (vs:List V) (Q:VK) (E:XK),Room k A→Env0 P w K mg base A outer s H→BindsTo s fd args (ps.zip us)→Vals vs us→sp vs H Q E →
    codeAny (model P w) A (.call (.ref f) args) (CR CX outer P w H s Q E) s
theorem FnOk.imp {P:Program} {w:World} {K:PySem.W.Frag} {mg:Str→Option Value} {base:Heap} {CX:CXT} {k:Nat} {f:Addr} {fd:FuncData} {ps:List Str} {sp sp':Sp} (F:FnOk P w K mg base CX k f fd ps sp)
    (h:∀ vs H Q E,sp' vs H Q E→sp vs H Q E):FnOk P w K mg base CX k f fd ps sp' :=
  ⟨fun vs H Q E q=>F.len vs H Q E (h _ _ _ _ q),fun A outer s H args us vs Q E hr he hb hv hs=>F.run A outer s H args us vs Q E hr he hb hv (h _ _ _ _ hs)⟩

section
variable {X:Cx} {pins:List (Addr×Obj)} {σ:St} {H:Hp} {s s':Shared}
theorem Inv.env0 (I:Inv X pins σ H s):Env0 X.prog X.w X.K X.mg X.base X.A X.stack s H :=
  ⟨I.ok.frames,I.ok.mod,I.bs,Nat.le_trans I.ok.bsz I.sz,I.stack,I.stkFree,I.hok,I.bare⟩
theorem Inv.after {Q:VK} {u:Value} (I:Inv X pins σ H s) (h:CE X.stack X.prog X.w H s Q u s'):EP X pins σ Q u s':=by
  obtain ⟨v,H',os,bare,un,hok,r,q⟩:=h
  obtain ⟨hh,g,d,t,os'⟩:=s'
  obtain rfl:os'=s.os:=os
  exact ⟨v,H',I.call (h':=hh) (g':=g) (d':=d) (t':=t) (ch:=[]) un hok bare (fun b z=>absurd z (by simp)),r,q⟩
end
noncomputable def tCall (sp:Sp) (dvs:List V) (E:XK) (t:TA):TE:=fun σ H Q=>t σ H fun vs H1=>sp (vs++dvs) H1 Q E
noncomputable def Binds (K:PySem.W.Frag) (fd:FuncData) (ps:List Str) (ds:List Value):Prop :=
  ∀ (s:Shared) (us:List Value),K.In s.heap→(us++ds).length=ps.length→BindsTo s fd ⟨us,[]⟩ (ps.zip (us++ds))
theorem Binds.all {K:PySem.W.Frag} {fd:FuncData} {ps:List Str} (h:∀ us:List Value,us.length=ps.length→bindArgs fd ⟨us,[]⟩=pure (ps.zip us)):Binds K fd ps []:=fun s us _ hl=>by
  rw [List.append_nil] at hl ⊢
  exact .of_eq (h us hl)

noncomputable def Passes (CX:CXT) (X:Cx) (E:XK):Prop:=∀ (pins:List (Addr×Obj)) (σ:St) (H:Hp) (s:Shared) (e:Value) (s':Shared),Inv X pins σ H s→CX X.stack H s E e s'→X.xe e s'

section
variable {X:Cx} {CX:CXT} {k:Nat} {f C:Addr} {fd:FuncData} {ps:List Str} {sp:Sp} {dvs:List V} {ds:List Value} {E:XK} {x m:Str} {p pos apos:Pos} {e o:Expr} {es:List Expr} {ta:TE} {t:TA}
theorem run_fn {pins:List (Addr×Obj)} {σ:St} {H:Hp} {s:Shared} {Q:VK} {us:List Value} {vs:List V} (F:FnOk X.prog X.w X.K X.mg X.base CX k f fd ps sp) (hr:Room k X.A) (hb:Binds X.K fd ps ds) (hd:Vals dvs ds) (hx:Passes CX X E)
    (I:Inv X pins σ H s) (r:Vals vs us) (h:sp (vs++dvs) H Q E):wpAny (model X.prog X.w) X.A (call (.ref f) us) (EP X pins σ Q) X.xe s:=by
  have r2:Vals (vs++dvs) (us++ds):=r.append hd
  have hl:(us++ds).length=ps.length:=by rw [← r2.length]; exact F.len _ _ _ _ h
  refine wpAny_call (codeAny_mono (F.run X.A X.stack s H ⟨us,[]⟩ (us++ds) (vs++dvs) Q E hr I.env0 (hb s us I.kIn hl) r2 h) fun r s' hq=>?_)
  cases r with
  | error e=>exact hx pins σ H s e s' I hq
  | ok fl =>
    cases fl with
    | ret u=>exact I.after hq
    | next=>exact False.elim hq
    | brk=>exact False.elim hq
    | cont=>exact False.elim hq

theorem pe_call (F:FnOk X.prog X.w X.K X.mg X.base CX k f fd ps sp) (hr:Room k X.A) (hg:Gl X x) (hm:X.mg x=some (.ref f)) (hk:PySem.W.keepIn X.K (.ref f)=true) (hb:Binds X.K fd ps ds) (hd:Vals dvs ds) (hx:Passes CX X E)
    (ha:PA X (e::es) t) (hdb:(x == ("__debug__":Str))=false:=by decide) (he:starEach (e::es) X.env=(false,eval e X.env)::starEach es X.env:=by rfl) (hpl:(backTo pos (starEach es X.env)).any (·.1)=false:=by rfl) :
    PE X (.Call (.Name x p) (e::es) [] pos) (tCall sp dvs E t):=by
  intro pins s σ H Q I h
  refine wpAny_Call_Name_kw (ld_glob I hg hm ?_ hdb)
  refine PySem.W.callWith_K (h₀:=X.base) I.ok.mod.kin hk (thn (ha pos pins s σ H _ I h) fun us s1 ⟨vs,H1,I1,r,q⟩=>⟨I1.kIn,?_⟩) he hpl
  exact run_fn F hr hb hd hx I1 r q
end
noncomputable def PK (X:Cx) (kws:List Keyword) (t:TA):Prop :=
  ∀ (pos:Pos) (pins:List (Addr×Obj)) (s:Shared) (σ:St) (H:Hp) (Q:List V→Hp→Prop),Inv X pins σ H s→t σ H Q→wpAny (model X.prog X.w) X.A (evalAll ((backToKw pos (keywordEach kws X.env)).map (·.2))) (AP X pins σ Q) X.xe s
section
variable {X:Cx} {CX:CXT} {k:Nat} {f C:Addr} {fd:FuncData} {ps ks:List Str} {sp:Sp} {E:XK} {x m:Str} {p pos apos kpos:Pos} {e o:Expr} {es:List Expr} {kws:List Keyword} {te ta:TE} {t tk:TA} {nm:Option Str}
variable {g:List Value→List Value→List Value} {gV:List V→List V→List V}
end
structure FnScope (N P:List Str) (sc:Scope):Prop where
  kind:sc.kind=.function
  co:sc.isCoroutine=false
  gen:sc.isGenerator=false
  nd:N.Nodup
  pre:N.take P.length=P
  par:∀ x∈P,sc.names.lookup x=some .local∨sc.names.lookup x=some .cell
  nofree:∀ y∈sc.names,y.2≠.free

theorem bindL_out {kindOf:Str→Option NameKind} {x:Str}:∀ {binds:List (Str×Value)} {m:Str→Option Value},(∀ v,(x,v) ∉ binds)→bindL kindOf binds m x=m x
  | [],_,_=>rfl
  | (n,v)::r,m,h=>by
    unfold bindL
    rw [bindL_out fun w hw=>h w (List.mem_cons_of_mem _ hw)]
    split
    · have:x≠n:=by rintro rfl; exact h v List.mem_cons_self
      simp [this]
    · rfl
theorem bindC_out {kindOf:Str→Option NameKind} {x:Str}:∀ {binds:List (Str×Value)} {m:Str→Option Value},(∀ v,(x,v) ∉ binds)→bindC kindOf binds m x=m x
  | [],_,_=>rfl
  | (n,v)::r,m,h=>by
    unfold bindC
    rw [bindC_out fun w hw=>h w (List.mem_cons_of_mem _ hw)]
    split
    · rfl
    · have:x≠n:=by rintro rfl; exact h v List.mem_cons_self
      simp [this]
theorem bindL_get {kindOf:Str→Option NameKind} {x:Str} {v:Value}:∀ {P:List Str} {vs:List Value} {i:Nat} {m:Str→Option Value},P.Nodup→P[i]?=some x→vs[i]?=some v→kindOf x=some .local →
    bindL kindOf (P.zip vs) m x=some v
  | [],_,_,_,_,h,_,_=>by simp at h
  | _::_,[],_,_,_,_,h,_=>by simp at h
  | p::P,w::vs,0,m,nd,h1,h2,hk=>by
    simp at h1 h2; subst h1; subst h2
    show bindL kindOf ((p,w)::P.zip vs) m p=_
    unfold bindL
    rw [bindL_out fun v hv=>(List.nodup_cons.mp nd).1 (List.of_mem_zip hv).1,if_pos hk]
    simp
  | p::P,w::vs,i+1,m,nd,h1,h2,hk=>by
    show bindL kindOf ((p,w)::P.zip vs) m x=_
    unfold bindL
    exact bindL_get (i:=i) (List.nodup_cons.mp nd).2 (by simpa using h1) (by simpa using h2) hk
theorem bindC_get {kindOf:Str→Option NameKind} {x:Str} {v:Value}:∀ {P:List Str} {vs:List Value} {i:Nat} {m:Str→Option Value},P.Nodup→P[i]?=some x→vs[i]?=some v→kindOf x≠some .local →
    bindC kindOf (P.zip vs) m x=some v
  | [],_,_,_,_,h,_,_=>by simp at h
  | _::_,[],_,_,_,_,h,_=>by simp at h
  | p::P,w::vs,0,m,nd,h1,h2,hk=>by
    simp at h1 h2; subst h1; subst h2
    show bindC kindOf ((p,w)::P.zip vs) m p=_
    unfold bindC
    rw [bindC_out fun v hv=>(List.nodup_cons.mp nd).1 (List.of_mem_zip hv).1,if_neg hk]
    simp
  | p::P,w::vs,i+1,m,nd,h1,h2,hk=>by
    show bindC kindOf ((p,w)::P.zip vs) m x=_
    unfold bindC
    exact bindC_get (i:=i) (List.nodup_cons.mp nd).2 (by simpa using h1) (by simpa using h2) hk

noncomputable def start (N:List Str) (vs:List V):St:=vs.map some++List.replicate (N.length - vs.length) none

noncomputable def cxOf (CX:CXT) (P:Program) (w:World) (K:PySem.W.Frag) (mg:Str→Option Value) (base:Heap) (N:List Str) (qual:Str) (scope:Scope) (f:Addr) (cd:Value) (A:Around) (outer:List Env) (s:Shared) (H:Hp) (E:XK):Cx where
  prog:=P
  w:=w
  K:=K
  mg:=mg
  base:=base
  A:=A.deeper (envOfC qual scope s.heap.objs.size f cd)
  N:=N
  s₀:=s
  H₀:=H
  env:=envOfC qual scope s.heap.objs.size f cd
  outer:=outer
  stack:=envOfC qual scope s.heap.objs.size f cd::outer
  ex:=[]
  calm:=true
  fn:=fun _=>true
  pn:=[]
  xe:=fun e s'=>wpAny (model P w) (A.deeper (envOfC qual scope s.heap.objs.size f cd)) (leaving (envOfC qual scope s.heap.objs.size f cd) e) (fun _ s''=>CX outer H s E e s'') (fun e' s''=>CX outer H s E e' s'') s'

theorem cell_has {sc:Scope} {n:Nat} {x:Str} (h:sc.names.lookup x=some .cell):∃ c,(cellsFrom n sc.names []).lookup x=some c:=by
  have q:=PySem.W.cellsFrom_some sc.names n [] (.inl h)
  exact Option.isSome_iff_exists.mp q

theorem inv_start {CX:CXT} {P:Program} {w:World} {K:PySem.W.Frag} {mg:Str→Option Value} {base:Heap} {N ps:List Str} {qual:Str} {scope:Scope} {f:Addr} {cd:Value} {A:Around} {outer:List Env} {s s1:Shared} {H:Hp} {E:XK} {us:List Value} {vs:List V}
    (S:FnScope N ps scope) (hd:A.handled=none) (e0:Env0 P w K mg base A outer s H) (hl:vs.length=ps.length) (r:Vals vs us)
    (x:InCallC s s.heap.objs.size (bindL (envOfC qual scope s.heap.objs.size f cd).kindOf (ps.zip us) fun _=>none) (cellsFrom (s.heap.objs.size+1) scope.names []) (bindC (envOfC qual scope s.heap.objs.size f cd).kindOf (ps.zip us) fun _=>none) s1) :
    Inv (cxOf CX P w K mg base N qual scope f cd A outer s H E) [] (start N vs) H s1:=by
  have hpl:ps.length≤N.length:=by have:=congrArg List.length S.pre; rw [List.length_take] at this; omega
  obtain ⟨h1,tk,rfl,hk⟩:=x.done
  have noA:∀ b:Addr,b ∉ (cxOf CX P w K mg base N qual scope f cd A outer s H E).ex:=fun b z=>absurd (show b∈([]:List Addr) from z) (by simp)
  refine ⟨⟨e0.mod,S.kind,rfl,rfl,Nat.le_refl _,fun y z c h1 h2=>?_,fun y hy=>?_,fun y c _ h=>?_,fun _=>hd,Around.frames_deeper e0.frames,.inr ⟨rfl,rfl⟩,fun b z=>absurd z (noA b),e0.bs,e0.bsz,fun b _ _=>noA b,fun b z=>absurd z (noA b),e0.funs,e0.frf⟩,
    rfl,e0.bare,Un.kept hk,⟨_,x.toInCall.ns,fun i y v h1 h2 h3=>?_⟩,fun y c h=>⟨_,x.cell y c h⟩,e0.hok.fresh (Nat.le_refl _),fun y c h=>?_,fun p hp=>absurd (show p∈([]:List (Addr×Obj)) from hp) (by simp),e0.hok.kept hk,?_⟩
  · exact name_of_addr x.apart (PySem.mem_of_lookup h1) (PySem.mem_of_lookup h2)
  · have hy:scope.names.lookup y=some .cell∨scope.names.lookup y=some .free:=hy
    rcases hy with hy | hy
    · exact cell_has hy
    · exact absurd rfl (S.nofree _ (PySem.mem_of_lookup hy))
  · exact Nat.le_of_lt (x.above y c (PySem.mem_of_lookup h))
  · have hi:i < vs.length:=by
      unfold start at h2
      by_cases hi:i < vs.length
      · exact hi
      · rw [List.getElem?_append_right (by simpa using hi)] at h2
        rw [List.getElem?_replicate] at h2
        split at h2 <;> cases h2
    have ha:vs[i]?=some v:=by
      unfold start at h2
      rw [List.getElem?_append_left (by simpa using hi),List.getElem?_map] at h2
      cases e:vs[i]? with
      | none=>rw [e] at h2; cases h2
      | some a=>rw [e] at h2; cases h2; rfl
    obtain ⟨u,hu,rv⟩:=r.get ha
    have hp:ps[i]?=some y:=by
      rw [← S.pre,List.getElem?_take_of_lt (by omega)]; exact h1
    have ndP:ps.Nodup:=by rw [← S.pre]; exact S.nd.sublist (List.take_sublist _ _)
    refine ⟨u,rv,?_⟩
    rcases S.par y (List.mem_of_getElem? hp) with k | k
    · exact .inl ⟨k,bindL_get ndP hp hu k⟩
    · obtain ⟨c,e⟩:=cell_has (n:=s.heap.objs.size+1) k
      refine .inr ⟨.inl k,c,e,?_⟩
      have q:=x.cell y c e
      rw [bindC_get ndP hp hu (by show scope.names.lookup y≠_; rw [k]; decide)] at q
      exact q
  · exact e0.hok.fresh (Nat.le_of_lt (x.above y c (PySem.mem_of_lookup h)))
  · unfold start
    show _=N.length
    rw [List.length_append,List.length_map,List.length_replicate]
    omega

theorem fn_of {CX:CXT} {P:Program} {w:World} {K:PySem.W.Frag} {mg:Str→Option Value} {base:Heap} {k:Nat} {f:Addr} {name qual:Str} {params:Arguments} {body:List Stmt} {scope:Scope} {dV kV doc pm cdv ct oc:Value} {an od:Option Addr}
    {osl:Array (Option Value)} {N ps:List Str} {sp:Sp} (lk:K.lookup f=some ⟨oc,od,.func (PySem.W.fnOf name qual params body scope dV kV doc pm an cdv ct),osl⟩) (hcd:PySem.W.codeIn K cdv qual=true) (S:FnScope N ps scope)
    (len:∀ vs H Q E,sp vs H Q E→vs.length=ps.length)
    (hbody:∀ (A:Around) (outer:List Env) (s:Shared) (H:Hp) (vs:List V) (Q:VK) (E:XK),Room k (A.deeper (envOfC qual scope s.heap.objs.size f cdv))→sp vs H Q E →
      ∃ t,PSs (cxOf CX P w K mg base N qual scope f cdv A outer s H E) body t∧t { nx:=fun _ H'=>Q .non H',rt:=Q } (start N vs) H) :
    FnOk P w K mg base CX (k+1) f (PySem.W.fnOf name qual params body scope dV kV doc pm an cdv ct) ps sp:=by
  refine ⟨len,fun A outer s H args us vs Q E hr e0 hb r hsp=>?_⟩
  have hl:=len _ _ _ _ hsp
  have KX:K.In s.heap:=e0.mod.kin.keeps fun b o e=>(e0.bs b o e).1
  have lim:s.heap.NoLimit:=e0.mod.nolimit.keeps fun b o e=>(e0.bs b o e).1
  have hkind:∀ y∈ps.zip us,scope.names.lookup y.1=some .local∨(scope.names.lookup y.1=some .cell∧((cellsFrom (s.heap.objs.size+1) scope.names []).lookup y.1).isSome=true):=fun ⟨n,v⟩ hy=>by
    rcases S.par n (List.of_mem_zip hy).1 with q | q
    · exact .inl q
    · exact .inr ⟨q,PySem.W.cellsFrom_some _ _ _ (.inl q)⟩
  refine codeAny_call_function hr.depth (KX _ _ lk) rfl S.co S.gen rfl (PySem.W.codeRec_of KX hcd) (hb _ _ _ _ ?_)
  refine wpAny_newFunctionEnv_cells S.kind hkind fun env he s1 x=>?_
  subst he
  refine ⟨lim.keeps x.toInCall.keep,codeAny_func ?_⟩
  obtain ⟨t,ht,hq⟩:=hbody A outer s H vs Q E (hr.deeper _) hsp
  have I:Inv (cxOf CX P w K mg base N qual scope f cdv A outer s H E) [] (start N vs) H s1:=inv_start S hr.hd e0 hl r x
  refine wpAny_mono (ht [] s1 (start N vs) H _ I hq) (fun fl s' hs=>?_) fun e s' hs=>hs
  have fin:∀ {σ':St} {H':Hp} {v:V} {u:Value},Inv (cxOf CX P w K mg base N qual scope f cdv A outer s H E) [] σ' H' s'→RelV v u→Q v H'→CE outer P w H s Q u s' :=
    fun {σ' H' v u} J rv q=>⟨v,H',J.os,J.bare,J.base,J.hok,rv,q⟩
  cases fl with
  | ret u =>
    obtain ⟨v,σ',H',J,rv,q⟩:=hs
    exact fin J rv q
  | next =>
    obtain ⟨σ',H',J,q⟩:=hs
    exact fin (v:=V.non) (u:=Value.none) J rfl q
  | brk =>
    obtain ⟨_,_,_,q⟩:=hs
    exact False.elim q
  | cont =>
    obtain ⟨_,_,_,q⟩:=hs
    exact False.elim q
end L2
namespace L2
open PySem PySem.Spec PyProof.Rows
section
variable {X:Cx} {x:Str} {p pos:Pos} {e:Expr} {es:List Expr} {t:TA} {id T:String} {r:List V→Hp→VK→Prop}
noncomputable def tCB (r:List V→Hp→VK→Prop) (t:TA):TE:=fun σ H Q=>t σ H fun vs H1=>r vs H1 Q
theorem pe_callB (hc:CallR X (.builtin id) r) (hg:Gl X x) (hm:X.mg x=none) (hv:bootBuiltins x=some (.builtin id)) (ha:PA X (e::es) t) (hn:x≠"__name__":=by decide) (hdb:(x == ("__debug__":Str))=false:=by decide)
    (he:starEach (e::es) X.env=(false,eval e X.env)::starEach es X.env:=by rfl) (hpl:(backTo pos (starEach es X.env)).any (·.1)=false:=by rfl):PE X (.Call (.Name x p) (e::es) [] pos) (tCB r t):=by
  intro pins s σ H Q I h
  refine wpAny_Call_Name_kw (ld_blt I hg hm hv ?_ hn hdb)
  exact PyProof.Rows.callWith_builtin1 (thn (ha pos pins s σ H _ I h) fun us s1 ⟨vs,H1,I1,r1,q1⟩=>hc pins s1 σ H1 vs us Q I1 r1 q1) he hpl
theorem pe_callTy (hc:CallR X (.type T) r) (hg:Gl X x) (hm:X.mg x=none) (hv:bootBuiltins x=some (.type T)) (ha:PA X (e::es) t) (hn:x≠"__name__":=by decide) (hdb:(x == ("__debug__":Str))=false:=by decide)
    (he:starEach (e::es) X.env=(false,eval e X.env)::starEach es X.env:=by rfl) (hpl:(backTo pos (starEach es X.env)).any (·.1)=false:=by rfl):PE X (.Call (.Name x p) (e::es) [] pos) (tCB r t):=by
  intro pins s σ H Q I h
  refine wpAny_Call_Name_kw (ld_blt I hg hm hv ?_ hn hdb)
  exact PyProof.Rows.callWith_type1 (thn (ha pos pins s σ H _ I h) fun us s1 ⟨vs,H1,I1,r1,q1⟩=>hc pins s1 σ H1 vs us Q I1 r1 q1) he hpl
end
end L2
namespace HT
open PySem PyProof.Rows
section
open PySem.SeqAt
open PySem.AutoSeq1 (wpAny_loadPart')
open PySem.MeetsSeq PySem.MeetsSeq2 PySem.MeetsSeq3
end
section
variable {prog:Program} {w:World} {A:Around} {E:Value→Shared→Prop} {s:Shared}
theorem cat_tup {t b:Addr} {vs ws:List Value} {Q:Value→Shared→Prop} (ht:IsTup s.heap t vs.toArray) (hb:IsTup s.heap b ws.toArray) (hv:vs≠[])
    (h1:ws=[]→Q (.ref t) s) (h2:ws≠[]→Q (.ref s.heap.objs.size) { s with heap:=s.heap.push { cls:=.type "tuple",data:=.seq (vs++ws).toArray } })
    (hsz:vs.length+ws.length≤sizeLine):wpAny (model prog w) A (binaryOp .Add (.ref t) (.ref b)) Q E s:=by
  obtain ⟨⟨cls,dd,data,sl⟩,ho,hc,n,hd⟩:=id ht
  obtain ⟨⟨cls2,dd2,data2,sl2⟩,ho2,hc2,n2,hd2⟩:=id hb
  simp only at hc hd hc2 hd2
  subst hc hd hc2 hd2
  have e:vs.toArray++ws.toArray=(vs++ws).toArray:=by simp
  by_cases hw:ws=[]
  · exact concat_meets ⟨_,ho,rfl⟩ ⟨_,ho2,rfl⟩ noFill_tuple_add seq_tuple_add PySem.F.slot_tuple_add PySem.F.entry_tuple_add (PySem.F.args_tuple_add_2 _ _)
      (tuple_addW1 t b vs.toArray ws.toArray n n2 dd dd2 sl sl2 (by simpa using hv) (by simp [hw])) ⟨ho,ho2,h1 hw⟩
  · refine concat_meets ⟨_,ho,rfl⟩ ⟨_,ho2,rfl⟩ noFill_tuple_add seq_tuple_add PySem.F.slot_tuple_add PySem.F.entry_tuple_add (PySem.F.args_tuple_add_2 _ _)
      (tuple_addW2 t b vs.toArray ws.toArray n n2 dd dd2 sl sl2 (by simpa using hv) (by simpa using hw) (by rw [List.size_toArray,List.size_toArray]; exact hsz)) ⟨ho,ho2,?_⟩
    rw [e]
    exact h2 hw

noncomputable def sIx (n d:Nat):Option Int→Nat
  | none=>d
  | some v=>if v < 0 then (v+(n:Int)).toNat else min v.toNat n
theorem sIx_none (n d:Nat):sIx n d none=d:=rfl
theorem sIx_nat (n d k:Nat):sIx n d (some (k:Int))=min k n:=by
  show (if (k:Int) < 0 then ((k:Int)+(n:Int)).toNat else min (k:Int).toNat n)=min k n
  rw [if_neg (by omega),Int.toNat_natCast]
theorem sIx_le (n d:Nat) (hd:d≤n) (o:Option Int):sIx n d o≤n:=by
  cases o with
  | none=>exact hd
  | some v =>
    show (if v < 0 then (v+(n:Int)).toNat else min v.toNat n)≤n
    by_cases hv:v < 0
    · rw [if_pos hv]; omega
    · rw [if_neg hv]; exact Nat.min_le_right _ _
theorem clip_eq (v:Int) (n d:Nat):(if v < 0 then max (v+(n:Int)) 0 else min v (n:Int))=((sIx n d (some v):Nat):Int):=by
  show (if v < 0 then max (v+(n:Int)) 0 else min v (n:Int))=(((if v < 0 then (v+(n:Int)).toNat else min v.toNat n):Nat):Int)
  by_cases hv:v < 0
  · rw [if_pos hv,if_pos hv,Int.ofNat_toNat]
  · rw [if_neg hv,if_neg hv]
    obtain ⟨k,rfl⟩:=Int.eq_ofNat_of_zero_le (Int.not_lt.mp hv)
    rw [Int.toNat_natCast,← Lean.Omega.Int.ofNat_min]
theorem adjust_gen (lo hi:Option Int) (n:Nat):Builtin.Slice.sliceAdjust lo hi 1 (n:Int)=(((sIx n 0 lo:Nat):Int),((sIx n n hi:Nat):Int)):=by
  have h1:¬ ((1:Int) < 0):=by omega
  unfold Builtin.Slice.sliceAdjust
  simp only [h1,if_false]
  refine Prod.ext ?_ ?_
  · cases lo with
    | none=>rfl
    | some v=>exact clip_eq v n 0
  · cases hi with
    | none=>rfl
    | some v=>exact clip_eq v n n
theorem places_gen (i j:Nat):Builtin.Slice.slicePlaces (i:Int) (j:Int) 1=j - i:=by
  unfold Builtin.Slice.slicePlaces
  have h1:(1:Int) > 0:=by omega
  simp only [h1,if_true,Int.ediv_one]
  split <;> omega
theorem slicePart_ {v:Value} {o:Option Int} {Q:Option Int→Shared→Prop} (p:IsPart v o) (h:Q o s):wpAny (model prog w) A (Builtin.Slice.slicePartIndex v) Q E s:=by
  cases p with
  | none=>exact slicePart_none h
  | int i t=>exact slicePart_int h
theorem sliceApplied_gen {sl:Addr} {vl vu:Value} {lo hi:Option Int} {n:Nat} {Q:Int×Int×Nat→Shared→Prop} (hs:s.heap.IsSliceOf sl vl vu .none) (pl:IsPart vl lo) (pu:IsPart vu hi)
    (h:Q (((sIx n 0 lo:Nat):Int),1,sIx n n hi - sIx n 0 lo) s):wpAny (model prog w) A (Builtin.Slice.sliceApplied (.ref sl) (pure (n:Int))) Q E s:=by
  obtain ⟨os,hos,hcs,hds⟩:=id hs
  unfold Builtin.Slice.sliceApplied Builtin.Slice.sliceFields
  refine wpAny_bind (wpAny_bind (wpAny_field hos hds (x:=vl) rfl (wpAny_bind (wpAny_field hos hds (x:=vu) rfl (wpAny_bind (wpAny_field hos hds (x:=.none) rfl (wpAny_pure ?_)))))))
  refine wpAny_bind (slicePart_none ?_)
  show wpAny _ _ (if ((1:Int) == 0)=true then _ else _) _ _ s
  rw [if_neg (by decide)]
  refine wpAny_bind (slicePart_ pl (wpAny_bind (slicePart_ pu (wpAny_bind (wpAny_pure ?_)))))
  show wpAny _ _ (match Builtin.Slice.sliceAdjust lo hi 1 (n:Int) with | (lo,hi)=>pure (lo,(1:Int),Builtin.Slice.slicePlaces lo hi 1)) _ _ s
  rw [adjust_gen lo hi n]
  show wpAny _ _ (pure (((sIx n 0 lo:Nat):Int),(1:Int),Builtin.Slice.slicePlaces ((sIx n 0 lo:Nat):Int) ((sIx n n hi:Nat):Int) 1)) _ _ s
  rw [places_gen]
  exact wpAny_pure h
theorem pick_gen (xs:Array Value) (i k:Nat):((List.range k).filterMap fun (m:Nat)=>xs[((i:Int)+(m:Int) * 1).toNat]?).toArray=((xs.toList.drop i).take k).toArray:=by
  have e:(fun (m:Nat)=>xs[((i:Int)+(m:Int) * 1).toNat]?)=fun m=>xs[i+m]?:=by
    funext m
    have:((i:Int)+(m:Int) * 1).toNat=i+m:=by omega
    rw [this]
  rw [e]
  have:=pick_run xs i k
  rw [List.filterMap_map] at this
  have e2:((fun x=>xs[x]?) ∘ fun x=>i+x)=fun m=>xs[i+m]?:=rfl
  rw [e2] at this
  rw [this]

theorem getItem_tuple_cut {t sl:Addr} {items:Array Value} {vl vu:Value} {lo hi:Option Int} {Q:Value→Shared→Prop} (ht:IsTup s.heap t items) (hs:s.heap.IsSliceOf sl vl vu .none) (pl:IsPart vl lo) (pu:IsPart vu hi)
    (hw:¬ (sIx items.size 0 lo=0∧sIx items.size items.size hi=items.size))
    (h:Q (.ref s.heap.objs.size) { s with heap:=s.heap.push { cls:=.type "tuple",data:=.seq ((items.toList.drop (sIx items.size 0 lo)).take (sIx items.size items.size hi - sIx items.size 0 lo)).toArray } })
    (hsz:items.size≤sizeLine):wpAny (model prog w) A (getItem (.ref t) (.ref sl)) Q E s:=by
  have htake:sizeOk (.seq ((items.toList.drop (sIx items.size 0 lo)).take (sIx items.size items.size hi - sIx items.size 0 lo)).toArray):=by
    show ((items.toList.drop (sIx items.size 0 lo)).take (sIx items.size items.size hi - sIx items.size 0 lo)).toArray.size≤sizeLine
    rw [List.size_toArray,List.length_take,List.length_drop,Array.length_toList]
    exact Nat.le_trans (Nat.min_le_right _ _) (Nat.le_trans (Nat.sub_le _ _) hsz)
  have hj:sIx items.size items.size hi≤items.size:=sIx_le _ _ (Nat.le_refl _) hi
  obtain ⟨os,hos,hcs,hds⟩:=id hs
  have hTs:s.TypeIs (.ref sl) "slice":=⟨os,hos,hcs⟩
  unfold getItem
  try with_reducible refine wpAny_holding ?_
  first | refine wpAny_bind (wpAny_pure ?_) | skip
  refine wpAny_bind (wpAny_sequenceKey ht.typeIs (by decide) ?_)
  refine wpAny_bind (wpAny_callSpecial?_slot (name:=Str.ofString "__getitem__") ht.typeIs PyProof.Rows.slot_tuple_getitem
    (wpAny_call_entry PyProof.Rows.slot_tuple_getitem ht.typeIs entry_tuple_getitem ?_ (args_tuple_getitem _ _)))
  show wpAny _ _ (Builtin.Tuple.tupleItemsOf (.ref t) >>= _) _ _ s
  refine wpAny_bind (tupleItemsOf_ ht ?_)
  refine wpAny_bind (wpAny_typeOf hTs ?_)
  rw [if_pos (by decide)]
  refine wpAny_bind (sliceApplied_gen hs pl pu ?_)
  have hno:¬ ((((sIx items.size 0 lo:Nat):Int) == 0 && (1:Int) == 1 && (sIx items.size items.size hi - sIx items.size 0 lo) == items.size)=true):=by
    intro q
    rw [Bool.and_eq_true,Bool.and_eq_true] at q
    have q1:((sIx items.size 0 lo:Nat):Int)=0:=eq_of_beq q.1.1
    have q2:sIx items.size items.size hi - sIx items.size 0 lo=items.size:=eq_of_beq q.2
    exact hw ⟨by omega,by omega⟩
  show wpAny _ _ (if (((sIx items.size 0 lo:Nat):Int) == 0 && (1:Int) == 1 && (sIx items.size items.size hi - sIx items.size 0 lo) == items.size)=true then _ else _) _ _ s
  rw [if_neg hno,pick_gen]
  first
    | exact wpAny_bind (m:=Builtin.Tuple.tupleExact _) (wpAny_newObj_type (wpAny_pure ⟨_,rfl,wpAny_pure h⟩) htake)
    | exact wpAny_bind (m:=Builtin.Tuple.tupleExact _) (wpAny_newObj_type (wpAny_bind (wpAny_pure (wpAny_pure ⟨_,rfl,wpAny_pure h⟩))) htake)
    | exact wpAny_bind (wpAny_bind (m:=Builtin.Tuple.tupleExact _) (wpAny_newObj_type (wpAny_pure (wpAny_pure ⟨_,rfl,wpAny_pure h⟩)) htake))
    | exact wpAny_bind (wpAny_bind (m:=Builtin.Tuple.tupleExact _) (wpAny_newObj_type (wpAny_pure ⟨_,rfl,wpAny_pure h⟩) htake))
end
end HT
namespace L2
open PySem PySem.Spec PyProof.Rows
noncomputable abbrev TO:=St→Hp→(Option Int→Hp→Prop)→Prop
noncomputable def PO (X:Cx) (e:Option Expr) (t:TO):Prop :=
  ∀ (pins:List (Addr×Obj)) (s:Shared) (σ:St) (H:Hp) (Q:Option Int→Hp→Prop),Inv X pins σ H s→t σ H Q →
    wpAny (model X.prog X.w) X.A (evalPart e X.env) (fun u s'=>∃ o H',Inv X pins σ H' s'∧IsPart u o∧Q o H') X.xe s
noncomputable def tNoPart:TO:=fun _ H Q=>Q none H
noncomputable def tPart (t:TE):TO:=fun σ H Q=>t σ H fun x H1=>∃ i,x=.int i∧Q (some i) H1

section
variable {X:Cx} {e:Expr} {te:TE} {lo hi:Option Expr} {tl th:TO} {pos p2:Pos}
theorem po_none:PO X none tNoPart:=by
  intro pins s σ H Q I h
  rw [evalPart_none]
  exact wpAny_pure ⟨none,H,I,.none,h⟩
theorem po_some (h:PE X e te):PO X (some e) (tPart te):=by
  intro pins s σ H Q I hw
  rw [evalPart_some]
  refine thn (h pins s σ H _ I hw) fun u s1 hz0=>?_
  obtain ⟨x,H1,I1,r1,q1⟩:=hz0
  obtain ⟨i,rfl,q⟩:=q1
  obtain ⟨t,rfl⟩:=r1
  exact ⟨some i,H1,I1,.int i t,q⟩

noncomputable def SlR (X:Cx) (r:V→Option Int→Option Int→Hp→VK→Prop):Prop :=
  ∀ (pins:List (Addr×Obj)) (s:Shared) (σ:St) (H:Hp) (x:V) (v vl vu:Value) (lo hi:Option Int) (sl:Addr) (Q:VK),Inv X pins σ H s→RelV x v→s.heap.IsSliceOf sl vl vu .none→IsPart vl lo→IsPart vu hi→r x lo hi H Q →
    ∃ T id,typeLookup (.type T) "__getitem__"=pure (some (.builtin id))∧s.TypeIs v T∧wpAny (model X.prog X.w) X.A (getItem v (.ref sl)) (EP X pins σ Q) X.xe s
theorem SlR.or {r r':V→Option Int→Option Int→Hp→VK→Prop} (h:SlR X r) (h':SlR X r'):SlR X (fun x lo hi H Q=>r x lo hi H Q∨r' x lo hi H Q):=by
  intro pins s σ H x v vl vu lo hi sl Q I rx hs pl pu q
  rcases q with q | q
  · exact h pins s σ H x v vl vu lo hi sl Q I rx hs pl pu q
  · exact h' pins s σ H x v vl vu lo hi sl Q I rx hs pl pu q
noncomputable def tSl (r:V→Option Int→Option Int→Hp→VK→Prop) (te:TE) (tl th:TO):TE:=fun σ H Q=>te σ H fun x H1=>tl σ H1 fun l H2=>th σ H2 fun u H3=>r x l u H3 Q
theorem pe_slice {r:V→Option Int→Option Int→Hp→VK→Prop} (hr:SlR X r) (he:PE X e te) (hl:PO X lo tl) (hu:PO X hi th):PE X (.Subscript e (.Slice lo hi none p2) pos) (tSl r te tl th):=by
  intro pins s σ H Q I h
  refine Subscript_ (thn (he pins s σ H _ I h) fun v s1 hz0=>?_)
  obtain ⟨x,H1,I1,r1,q1⟩:=hz0
  refine wpAny_Slice (thn (hl pins s1 σ H1 _ I1 q1) fun vl s2 ⟨l,H2,I2,pl,q2⟩=>thn (hu pins s2 σ H2 _ I2 q2) fun vu s3 hz0=>?_)
  obtain ⟨u,H3,I3,pu,q3⟩:=hz0
  rw [evalPart_none]
  refine wpAny_pure ?_
  have I4:Inv X pins σ H3 { s3 with heap:=s3.heap.push { cls:=.type "slice",data:=.fields #[vl,vu,.none] } }:=I3.kept (t':=s3.toks) fun b ob q=>Heap.get?_push_of_some _ q
  obtain ⟨T,id,hT,ht,hg⟩:=hr pins { s3 with heap:=s3.heap.push { cls:=.type "slice",data:=.fields #[vl,vu,.none] } } σ H3 x v vl vu l u s3.heap.objs.size Q I4 r1 (Heap.IsSliceOf.new ..) pl pu q3
  show wpAny (model X.prog X.w) X.A (subscriptTail e (.Slice lo hi none p2) v (.ref s3.heap.objs.size)) (EP X pins σ Q) X.xe { s3 with heap:=s3.heap.push { cls:=.type "slice",data:=.fields #[vl,vu,.none] } }
  exact tail_any (ops:=[.ref s3.heap.objs.size,v]) ht hT hg (by with_unfolding_all rfl)

noncomputable def cutV (xs:List V) (lo hi:Option Int):List V:=(xs.drop (HT.sIx xs.length 0 lo)).take (HT.sIx xs.length xs.length hi - HT.sIx xs.length 0 lo)
theorem cutV_length (xs:List V) (lo hi:Option Int):(cutV xs lo hi).length≤xs.length:=by
  unfold cutV
  rw [List.length_take,List.length_drop]
  exact Nat.le_trans (Nat.min_le_right _ _) (Nat.sub_le _ _)
noncomputable def rSlT (K:PySem.W.Frag):V→Option Int→Option Int→Hp→VK→Prop:=fun x lo hi H Q=>∃ a xs,x=.ref a∧SqT K H a xs ∧
  ¬ (HT.sIx xs.length 0 lo=0∧HT.sIx xs.length xs.length hi=xs.length)∧∀ p,H p=none→Q (.ref p) (upd H p (.tup (cutV xs lo hi)))
theorem sl_tup:SlR X (rSlT X.K):=by
  intro pins s σ H x v vl vu lo hi sl Q I rx hs pl pu h
  obtain ⟨a,xs,rfl,hx,hw,q⟩:=h
  cases rx
  obtain ⟨its,r,ht,hz⟩:=I.tuple hx
  have hlen:its.toArray.size=xs.length:=by rw [List.size_toArray]; exact r.length.symm
  refine ⟨"tuple",_,PyProof.Rows.slot_tuple_getitem.lookup,ht.typeIs,?_⟩
  refine HT.getItem_tuple_cut ht hs pl pu (by rw [hlen]; exact hw) ?_ (by rw [hlen]; exact hz)
  rw [hlen]
  refine ⟨.ref s.heap.objs.size,_,I.laid (t':=s.toks) (o:=.tup (cutV xs lo hi)) (fun b ob q=>Heap.get?_push_of_some _ q) (Nat.le_refl _) ?_,rfl,q _ (I.hok.fresh (Nat.le_refl _))⟩
  exact ⟨Nat.le_trans (cutV_length xs lo hi) hz,_,(r.drop (HT.sIx xs.length 0 lo)).take (HT.sIx xs.length xs.length hi - HT.sIx xs.length 0 lo),IsTup.new _ _⟩

noncomputable def rCatT (K:PySem.W.Frag):R2:=fun x y H Q=>∃ a b xs ys,x=.ref a∧y=.ref b∧SqT K H a xs∧SqT K H b ys∧xs≠[]∧xs.length+ys.length≤sizeLine ∧
  (ys=[]→Q (.ref a) H)∧(ys≠[]→∀ p,H p=none→Q (.ref p) (upd H p (.tup (xs++ys))))
theorem Vals.nil_iff {xs:List V} {us:List Value} (r:Vals xs us):us=[] ↔ xs=[]:=by
  cases r with
  | nil=>simp
  | cons _ _=>simp
theorem op_catT:OpR X (binaryOp .Add) (rCatT X.K):=by
  intro pins s σ H x y v u Q I rx ry h
  obtain ⟨a,b,xs,ys,rfl,rfl,ha,hb,hx,hz,q1,q2⟩:=h
  cases rx
  cases ry
  obtain ⟨its,r1,p1,_⟩:=I.tuple ha
  obtain ⟨its2,r2,p2,_⟩:=I.tuple hb
  refine HT.cat_tup p1 p2 (fun z=>hx (r1.nil_iff.mp z)) (fun z=>⟨.ref a,H,I,rfl,q1 (r2.nil_iff.mp z)⟩) (fun z=>?_) (by rw [← r1.length,← r2.length]; exact hz)
  refine ⟨.ref s.heap.objs.size,_,I.laid (t':=s.toks) (o:=.tup (xs++ys)) (fun b ob q=>Heap.get?_push_of_some _ q) (Nat.le_refl _) ?_,rfl,q2 (fun w=>z (r2.nil_iff.mpr w)) _ (I.hok.fresh (Nat.le_refl _))⟩
  exact ⟨by rw [List.length_append]; exact hz,_,r1.append r2,IsTup.new _ _⟩
end
end L2
namespace L2
open PySem PySem.Spec PyProof.Rows
noncomputable def ixN (n:Nat) (i:Int):Option Nat:=if 0≤i then (if i < n then some i.toNat else none) else if -(n:Int)≤i then some (i+n).toNat else none
noncomputable def atI {α:Type} (xs:List α) (i:Int):Option α:=(ixN xs.length i).bind fun j=>xs[j]?
theorem ixN_seq {n:Nat} {i:Int} {j:Nat} (h:ixN n i=some j):seqIndex? i n=some j∧j < n∧-(n:Int)≤i∧i < n:=by
  unfold ixN at h
  by_cases h0:0≤i
  · rw [if_pos h0] at h
    by_cases h1:i < n
    · rw [if_pos h1] at h
      have e:i.toNat=j:=Option.some.inj h
      exact ⟨by rw [seqIndex_of h0 h1,e],by omega,by omega,h1⟩
    · rw [if_neg h1] at h; cases h
  · rw [if_neg h0] at h
    by_cases h1:-(n:Int)≤i
    · rw [if_pos h1] at h
      have e:(i+n).toNat=j:=Option.some.inj h
      exact ⟨by rw [seqIndex_neg (by omega) h1,e],by omega,h1,by omega⟩
    · rw [if_neg h1] at h; cases h
theorem atI_get {α:Type} {xs:List α} {i:Int} {v:α} (h:atI xs i=some v):∃ j,seqIndex? i xs.length=some j∧xs[j]?=some v∧j < xs.length∧-(xs.length:Int)≤i∧i < xs.length:=by
  unfold atI at h
  cases e:ixN xs.length i with
  | none=>rw [e] at h; cases h
  | some j =>
    rw [e] at h
    obtain ⟨h1,h2,h3,h4⟩:=ixN_seq e
    exact ⟨j,h1,h,h2,h3,h4⟩
theorem atI_nat {α:Type} {xs:List α} {j:Nat} {v:α} (h:xs[j]?=some v):atI xs (j:Int)=some v:=by
  have hj:j < xs.length:=(List.getElem?_eq_some_iff.mp h).1
  have e:ixN xs.length (j:Int)=some j:=by
    unfold ixN
    rw [if_pos (by omega),if_pos (by omega)]; simp
  unfold atI; rw [e]; exact h
noncomputable def PlainIx (b:Expr):Prop:=∀ o i,subscripted b false o i=operate [o,i] (getItem o i)
noncomputable def IxR (X:Cx) (r:R2):Prop :=
  ∀ (value slice:Expr) (pins:List (Addr×Obj)) (s:Shared) (σ:St) (H:Hp) (x y:V) (v u:Value) (Q:VK),Inv X pins σ H s→RelV x v→RelV y u→r x y H Q →
    subscripted slice false v u=operate [v,u] (getItem v u)→wpAny (model X.prog X.w) X.A (subscriptTail value slice v u) (EP X pins σ Q) X.xe s
section
variable {X:Cx} {a b:Expr} {ta tb:TE} {pos:Pos}
theorem IxR.or {r r':R2} (h:IxR X r) (h':IxR X r'):IxR X (fun x y H Q=>r x y H Q∨r' x y H Q):=by
  intro value slice pins s σ H x y v u Q I rx ry q hs
  rcases q with q | q
  · exact h value slice pins s σ H x y v u Q I rx ry q hs
  · exact h' value slice pins s σ H x y v u Q I rx ry q hs
theorem pe_ix {r:R2} (hr:IxR X r) (ha:PE X a ta) (hb:PE X b tb) (hs:PlainIx b):PE X (.Subscript a b pos) (tOp r ta tb):=by
  intro pins s σ H Q I h
  exact Subscript_ (binT ha hb I h fun v u s2 x y H2 I2 rx ry q=>hr a b pins s2 σ H2 x y v u Q I2 rx ry q (hs _ _))

noncomputable def rIxL (K:PySem.W.Frag):R2:=fun x y H Q=>∃ p xs i v,x=.ref p∧y=.int i∧SqL K H p xs∧atI xs i=some v∧Q v H
noncomputable def rIxT (K:PySem.W.Frag):R2:=fun x y H Q=>∃ p xs i v,x=.ref p∧y=.int i∧SqT K H p xs∧atI xs i=some v∧Q v H
noncomputable def rIxS:R2:=fun x y H Q=>∃ z i c,x=.str z∧y=.int i∧z.length≤sizeLine∧atI z.cps.toList i=some c∧Q (.str ⟨#[c]⟩) H
theorem ix_list:IxR X (rIxL X.K):=by
  intro value slice pins s σ H x y v u Q I rx ry h hs
  obtain ⟨p,xs,i,z,rfl,rfl,hq,he,q⟩:=h
  cases rx
  obtain ⟨t,rfl⟩:=ry
  obtain ⟨its,r,pl,hz⟩:=I.list hq
  obtain ⟨j,h1,h2,h3,h4,h5⟩:=atI_get he
  obtain ⟨w,ew,rw'⟩:=r.get h2
  have hl:=r.length
  have hn:=line63
  have fin:EP X pins σ Q w s:=⟨z,H,I,rw',q⟩
  by_cases h0:0≤i
  · have hj:i.toNat=j:=by
      rw [seqIndex_of h0 h5] at h1
      exact Option.some.inj h1
    exact item_listR pl.isList h0 (by omega) (by rw [hj]; simpa using ew) fin hs
  · have hj:(i+(its.toArray.size:Int)).toNat=j:=by
      rw [seqIndex_neg (by omega) h4] at h1
      rw [List.size_toArray,← hl]
      exact Option.some.inj h1
    exact subscriptTail_builtinR (x:=w) pl.isList.typeIs slot_list_getitem.lookup
      (wpAny_getItem_list_neg (Q:=fun r s'=>r=w∧EP X pins σ Q r s') pl.isList (by omega) (by rw [List.size_toArray] <;> omega) (by omega) (by rw [hj]; simpa using ew) ⟨rfl,fin⟩) hs
theorem ix_tup:IxR X (rIxT X.K):=by
  intro value slice pins s σ H x y v u Q I rx ry h hs
  obtain ⟨p,xs,i,z,rfl,rfl,hq,he,q⟩:=h
  cases rx
  obtain ⟨t,rfl⟩:=ry
  obtain ⟨its,r,pl,hz⟩:=I.tuple hq
  obtain ⟨j,h1,h2,h3,h4,h5⟩:=atI_get he
  obtain ⟨w,ew,rw'⟩:=r.get h2
  have hl:=r.length
  have hn:=line63
  have fin:EP X pins σ Q w s:=⟨z,H,I,rw',q⟩
  exact subscriptTail_builtinR (x:=w) pl.typeIs slot_tuple_getitem.lookup
    (getItem_tuple (j:=j) (Q:=fun r s'=>r=w∧EP X pins σ Q r s') pl (by omega) (by omega) (by rw [List.size_toArray,← hl]; exact h1) (by simpa using ew) ⟨rfl,fin⟩) hs
theorem ix_str:IxR X rIxS:=by
  intro value slice pins s σ H x y v u Q I rx ry h hs
  obtain ⟨z,i,c,rfl,rfl,hz,he,q⟩:=h
  obtain ⟨t,rfl⟩:=rx
  obtain ⟨t',rfl⟩:=ry
  obtain ⟨j,h1,h2,h3,h4,h5⟩:=atI_get he
  have hl:z.cps.toList.length=z.length:=by simp [Str.length]
  rw [hl] at h1 h4 h5
  have hn:=line63
  exact tail_any (typeIs_str s z t) slot_str_getitem.lookup (getItem_str (c:=c) (by
    have e1:decide (i < -(2 ^ 63:Int))=false:=decide_eq_false (by omega)
    have e2:decide (i ≥ 2 ^ 63)=false:=decide_eq_false (by omega)
    rw [e1,e2,Bool.or_false]) (by rw [h1]; simpa using h2) ⟨.str ⟨#[c]⟩,H,I.tok _,⟨_,rfl⟩,q⟩) hs
noncomputable def rIx (K:PySem.W.Frag):R2:=fun x y H Q=>rIxL K x y H Q∨rIxT K x y H Q∨rIxS x y H Q
theorem ix_seq:IxR X (rIx X.K):=ix_list.or (ix_tup.or ix_str)

theorem mapSeq_set (its:List Value) (n j:Nat) (u:Value):Obj.mapSeq (·.setIfInBounds j u) { cls:=.type "list",data:=.seq its.toArray n }={ cls:=.type "list",data:=.seq (its.set j u).toArray n }:=by
  simp [Obj.mapSeq]
theorem Inv.lst {pins:List (Addr×Obj)} {σ:St} {H:Hp} {s:Shared} {p:Addr} {xs:List V} (I:Inv X pins σ H s) (h:H p=some (.lst xs)) :
    ∃ (its:List Value) (n:Nat),Vals xs its∧s.heap.get? p=some { cls:=.type "list",data:=.seq its.toArray n }∧xs.length≤sizeLine:=by
  obtain ⟨z,its,n,r,e⟩:=I.hok p _ h
  exact ⟨its,n,r,e,z⟩
theorem Inv.lstUpd {pins:List (Addr×Obj)} {σ:St} {H:Hp} {s:Shared} {p:Addr} {xs ys:List V} {its its':List Value} {n n':Nat} {f:Obj→Obj} (I:Inv X pins σ H s) (h:H p=some (.lst xs))
    (ho:s.heap.get? p=some { cls:=.type "list",data:=.seq its.toArray n }) (hf:f { cls:=.type "list",data:=.seq its.toArray n }={ cls:=.type "list",data:=.seq its'.toArray n' }) (r:Vals ys its') (hz:ys.length≤sizeLine) (t:Nat) :
    Inv X pins σ (upd H p (.lst ys)) { s with heap:=s.heap.update p f,toks:=t }:=by
  have e:(s.heap.update p f).get? p=some { cls:=.type "list",data:=.seq its'.toArray n' }:=by
    rw [Heap.get?_update_self f ho (by rw [hf] <;> rfl),hf]
  refine I.write (x:=p) (e:=p) (by rw [h]; trivial) (.inl rfl) (fun b u hb q=>(Heap.get?_update_other _ _ (Ne.symm hb)).trans q) ⟨_,e⟩ ?_
  exact ⟨hz,its',n',r,e⟩
noncomputable def rSetL:V→V→V→Hp→(Hp→Prop)→Prop:=fun o i v H Q=>∃ p xs k j,o=.ref p∧i=.int k∧H p=some (.lst xs)∧ixN xs.length k=some j∧Q (upd H p (.lst (xs.set j v)))
theorem set_list:PSet X rSetL:=by
  intro pins s σ H o i v ov iv u Q I ro ri rv h
  obtain ⟨p,xs,k,j,rfl,rfl,hp,hj,q⟩:=h
  cases ro
  obtain ⟨t,rfl⟩:=ri
  obtain ⟨its,n,r,ho,hz⟩:=I.lst hp
  obtain ⟨h1,h2,h3,h4⟩:=ixN_seq hj
  have hl:=r.length
  have hn:=line63
  have I':Inv X pins σ (upd H p (.lst (xs.set j v))) { s with heap:=s.heap.update p (Obj.mapSeq (·.setIfInBounds j u)) } :=
    I.lstUpd hp ho (mapSeq_set its n j u) (r.set rv j) (by rw [List.length_set]; exact hz) s.toks
  by_cases h0:0≤k
  · have hk:k.toNat=j:=by
      rw [seqIndex_of h0 h4] at h1
      exact Option.some.inj h1
    exact PySem.W.ki_setAt ho h0 (by omega) (by rw [List.size_toArray,← hl]; exact h4) (by rw [hk]; exact ⟨_,I',q⟩)
  · have hk:(k+(its.toArray.size:Int)).toNat=j:=by
      rw [seqIndex_neg (by omega) h3] at h1
      rw [List.size_toArray,← hl]
      exact Option.some.inj h1
    exact PySem.W.ki_setBack ho (by omega) (by rw [List.size_toArray,← hl]; exact h3) (by omega) (by rw [hk]; exact ⟨_,I',q⟩)

theorem cut_lo {n:Nat} {i:Int} (h:i < 0):max 0 (min (i+(n:Int)) n)=(((i+n).toNat:Nat):Int):=by
  rw [Int.min_eq_left (by omega),Int.ofNat_toNat,Int.max_comm]
theorem cut_hi {n:Nat} {i:Int} (h:¬ i < 0):max 0 (min i (n:Int))=((min i.toNat n:Nat):Int):=by
  obtain ⟨k,rfl⟩:=Int.eq_ofNat_of_zero_le (Int.not_lt.mp h)
  rw [Int.toNat_natCast,← Lean.Omega.Int.ofNat_min]
  exact Int.max_eq_right (Int.natCast_nonneg _)
theorem slice_bounds (lo hi:Option Int) (n:Nat):(sliceBounds lo hi none n).1=((HT.sIx n 0 lo:Nat):Int)∧(sliceBounds lo hi none n).2.1=((HT.sIx n n hi:Nat):Int)∧(sliceBounds lo hi none n).2.2=1:=by
  refine ⟨?_,?_,rfl⟩
  · cases lo with
    | none=>simp [sliceBounds,HT.sIx]
    | some i =>
      simp only [sliceBounds,HT.sIx,Option.getD_none,show (1:Int) > 0 by decide,if_true]
      by_cases h:i < 0
      · simp only [h,if_true]
        exact cut_lo h
      · simp only [h,if_false]
        exact cut_hi h
  · cases hi with
    | none=>simp [sliceBounds,HT.sIx]
    | some i =>
      simp only [sliceBounds,HT.sIx,Option.getD_none,show (1:Int) > 0 by decide,if_true]
      by_cases h:i < 0
      · simp only [h,if_true]
        exact cut_lo h
      · simp only [h,if_false]
        exact cut_hi h
theorem slicePick_cut (its:List Value) (lo hi:Option Int):slicePick its.toArray lo hi none=((its.drop (HT.sIx its.length 0 lo)).take (HT.sIx its.length its.length hi - HT.sIx its.length 0 lo)).toArray:=by
  obtain ⟨h1,h2,h3⟩:=slice_bounds lo hi its.toArray.size
  unfold slicePick
  rw [h1,h2,h3]
  simp only [sliceRange_one,pick_run,List.size_toArray] <;> rfl
noncomputable def rSlL (K:PySem.W.Frag):V→Option Int→Option Int→Hp→VK→Prop:=fun x lo hi H Q=>∃ a xs,x=.ref a∧SqL K H a xs∧∀ p,H p=none→Q (.ref p) (upd H p (.lst (cutV xs lo hi)))
theorem sl_list:SlR X (rSlL X.K):=by
  intro pins s σ H x v vl vu lo hi sl Q I rx hs pl pu h
  obtain ⟨a,xs,rfl,hx,q⟩:=h
  cases rx
  obtain ⟨its,r,ht,hz⟩:=I.list hx
  have hlen:=r.length
  refine ⟨"list",_,slot_list_getitem.lookup,ht.isList.typeIs,?_⟩
  refine wpAny_getItem_list_slice ht.isList hs pl pu .none (by simp) ?_ (by rw [List.size_toArray] <;> omega)
  rw [slicePick_cut,← hlen]
  refine ⟨.ref s.heap.objs.size,_,I.laid (t':=s.toks) (o:=.lst (cutV xs lo hi)) (fun b ob q=>Heap.get?_push_of_some _ q) (Nat.le_refl _) ?_,rfl,q _ (I.hok.fresh (Nat.le_refl _))⟩
  exact ⟨Nat.le_trans (cutV_length xs lo hi) hz,_,0,(r.drop (HT.sIx xs.length 0 lo)).take (HT.sIx xs.length xs.length hi - HT.sIx xs.length 0 lo),Heap.get?_push_size _ rfl⟩

noncomputable def flatV:V→Bool
  | .non=>true
  | .bl _=>true
  | .int _=>true
  | .str _=>true
  | _=>false
noncomputable def eqV:V→V→Bool
  | .non,.non=>true
  | .bl a,.bl b=>a == b
  | .bl a,.int b=>(if a then 1 else 0) == b
  | .int a,.bl b=>a == (if b then 1 else 0)
  | .int a,.int b=>a == b
  | .str a,.str b=>a == b
  | _,_=>false
theorem eqAt_V {A:Around} {s:Shared} {y x:V} {u v:Value} (ry:RelV y u) (rx:RelV x v) (fy:flatV y=true) (fx:flatV x=true):SeqAt.EqAt A s u v (eqV y x):=by
  cases y with
  | non =>
    cases ry
    cases x with
    | non=>cases rx; exact SeqAt.EqAt.same _
    | bl b=>cases rx; exact SeqAt.EqAt.none_bool b
    | int b=>obtain ⟨t,rfl⟩:=rx; exact SeqAt.EqAt.none_int b t
    | str b=>obtain ⟨t,rfl⟩:=rx; exact SeqAt.EqAt.none_str b t
    | _=>exact absurd (show false=true from fx) Bool.false_ne_true
  | bl a =>
    cases ry
    cases x with
    | non=>cases rx; exact SeqAt.EqAt.bool_none a
    | bl b=>cases rx; exact SeqAt.EqAt.bool_bool a b
    | int b=>obtain ⟨t,rfl⟩:=rx; exact SeqAt.EqAt.bool_int a b t
    | str b=>obtain ⟨t,rfl⟩:=rx; exact SeqAt.EqAt.bool_str a b t
    | _=>exact absurd (show false=true from fx) Bool.false_ne_true
  | int a =>
    obtain ⟨t',rfl⟩:=ry
    cases x with
    | non=>cases rx; exact SeqAt.EqAt.int_none a t'
    | bl b=>cases rx; exact SeqAt.EqAt.int_bool a t' b
    | int b=>obtain ⟨t,rfl⟩:=rx; exact SeqAt.EqAt.int_int a t' b t
    | str b=>obtain ⟨t,rfl⟩:=rx; exact SeqAt.EqAt.int_str a t' b t
    | _=>exact absurd (show false=true from fx) Bool.false_ne_true
  | str a =>
    obtain ⟨t',rfl⟩:=ry
    cases x with
    | non=>cases rx; exact SeqAt.EqAt.str_none a t'
    | bl b=>cases rx; exact SeqAt.EqAt.str_bool a t' b
    | int b=>obtain ⟨t,rfl⟩:=rx; exact SeqAt.EqAt.str_int a t' b t
    | str b=>obtain ⟨t,rfl⟩:=rx; exact SeqAt.EqAt.str_str a t' b t
    | _=>exact absurd (show false=true from fx) Bool.false_ne_true
  | _=>exact absurd (show false=true from fy) Bool.false_ne_true
noncomputable def eqU (x:V) (u:Value):Bool:=match u with
  | .none=>eqV .non x
  | .bool b=>eqV (.bl b) x
  | .int i _=>eqV (.int i) x
  | .str z _=>eqV (.str z) x
  | _=>false
theorem eqU_of {x y:V} {u:Value} (r:RelV y u) (f:flatV y=true):eqU x u=eqV y x:=by
  cases y with
  | non=>cases r; rfl
  | bl b=>cases r; rfl
  | int i=>obtain ⟨t,rfl⟩:=r; rfl
  | str z=>obtain ⟨t,rfl⟩:=r; rfl
  | _=>exact absurd (show false=true from f) Bool.false_ne_true
theorem any_eqU {x:V}:∀ {xs:List V} {us:List Value},Vals xs us→xs.all flatV=true→us.any (eqU x)=xs.any fun y=>eqV y x
  | _,_,.nil,_=>rfl
  | y::xs,u::us,.cons r t,f=>by
    rw [List.all_cons,Bool.and_eq_true] at f
    rw [List.any_cons,List.any_cons,eqU_of r f.1,any_eqU t f.2]
theorem mem_eqAt {A:Around} {s:Shared} {x:V} {v:Value} (rx:RelV x v) (fx:flatV x=true):∀ {xs:List V} {us:List Value},Vals xs us→xs.all flatV=true→∀ u∈us,SeqAt.EqAt A s u v (eqU x u)
  | _,_,.nil,_=>fun u hu=>by cases hu
  | y::xs,u::us,.cons r t,f=>fun u' hu=>by
    rw [List.all_cons,Bool.and_eq_true] at f
    rcases List.mem_cons.mp hu with rfl | hu
    · rw [eqU_of r f.1]; exact eqAt_V r rx f.1 fx
    · exact mem_eqAt rx fx t f.2 u' hu
noncomputable def inV (x:V) (xs:List V):Bool:=xs.any fun y=>eqV y x
noncomputable def rIn (K:PySem.W.Frag) (neg:Bool):R2:=fun x y H Q=>∃ p xs,y=.ref p∧(SqL K H p xs∨SqT K H p xs)∧flatV x=true∧xs.all flatV=true∧Q (.bl (if neg then !inV x xs else inV x xs)) H
theorem op_notIn_seq:OpR X (compareOp .NotIn) (rIn X.K true):=by
  intro pins s σ H x y v u Q I rx ry h
  obtain ⟨p,xs,rfl,hq,fx,fs,q⟩:=h
  cases ry
  rcases hq with hq | hq
  · obtain ⟨its,r,pl,hz⟩:=I.list hq
    refine SeqAt.notIn_listAt (eqU x) pl.isList (fun w hw=>mem_eqAt rx fx r fs w (by simpa using hw)) ⟨.bl _,H,I,rfl,?_⟩
    rw [show its.toArray.any (eqU x)=its.any (eqU x) by simp,any_eqU r fs]
    exact q
  · obtain ⟨its,r,pl,hz⟩:=I.tuple hq
    refine SeqAt.notIn_tupleAt (eqU x) pl (fun w hw=>mem_eqAt rx fx r fs w (by simpa using hw)) ⟨.bl _,H,I,rfl,?_⟩
    rw [show its.toArray.any (eqU x)=its.any (eqU x) by simp,any_eqU r fs]
    exact q
theorem call_len_seq:CallR X (.builtin "len") (fun xs H Q=>∃ p ys,xs=[.ref p]∧(SqL X.K H p ys∨SqT X.K H p ys)∧Q (.int ys.length) H):=by
  intro pins s σ H xs us Q I r h
  obtain ⟨p,ys,rfl,hq,q⟩:=h
  obtain ⟨u,rfl,rx⟩:=vals1 r
  cases rx
  have hn:=line63
  rcases hq with hq | hq
  · obtain ⟨its,r',pl,hz⟩:=I.list hq
    have hlen:=r'.length
    exact Calls.call_len_list pl.isList (by simp only [List.size_toArray] <;> omega) ⟨.int ys.length,H,I.tok _,⟨s.toks+1,by rw [List.size_toArray,hlen]⟩,q⟩
  · obtain ⟨its,r',pl,hz⟩:=I.tuple hq
    have hlen:=r'.length
    exact len_tuple pl (by simp only [List.size_toArray] <;> omega) ⟨.int ys.length,H,I.tok _,⟨s.toks+1,by rw [List.size_toArray,hlen]⟩,q⟩
theorem call_list_of:CallR X (.type "list") (fun xs H Q=>∃ p ys,xs=[.ref p]∧(SqL X.K H p ys∨SqT X.K H p ys)∧∀ l,H l=none→Q (.ref l) (upd H l (.lst ys))):=by
  intro pins s σ H xs us Q I r h
  obtain ⟨p,ys,rfl,hq,q⟩:=h
  obtain ⟨u,rfl,rx⟩:=vals1 r
  cases rx
  have fin:∀ (its:List Value),Vals ys its→ys.length≤sizeLine→∀ (h':Heap) (c':Nat),(∀ b o',s.heap.get? b=some o'→h'.get? b=some o') →
      h'.get? s.heap.objs.size=some { cls:=.type "list",dict:=none,data:=.seq its.toArray c',slots:=#[] }→EP X pins σ Q (.ref s.heap.objs.size) { s with heap:=h' }:=fun its r' hz h' c' kp e =>
    ⟨.ref s.heap.objs.size,_,I.laid (t':=s.toks) kp (Nat.le_refl _) (show ObjOk X.prog X.w _ h' _ (.lst ys) from ⟨hz,its,c',r',e⟩),rfl,q _ (I.hok.fresh (Nat.le_refl _))⟩
  rcases hq with hq | hq
  · obtain ⟨its,r',pl,hz⟩:=I.list hq
    have hlen:=r'.length
    obtain ⟨o,ho,hc,n,hd⟩:=pl.isList
    exact call_list_seq p (.inl rfl) ho hc hd (fun h' c' kp e=>fin its r' hz h' c' kp e) (by simp only [List.size_toArray] <;> omega)
  · obtain ⟨its,r',pl,hz⟩:=I.tuple hq
    have hlen:=r'.length
    obtain ⟨o,ho,hc,n,hd⟩:=pl
    exact call_list_seq p (.inr rfl) ho hc hd (fun h' c' kp e=>fin its r' hz h' c' kp e) (by simp only [List.size_toArray] <;> omega)
theorem call_tuple_of:CallR X (.type "tuple") (fun xs H Q=>∃ p ys,xs=[.ref p]∧((SqL X.K H p ys∧∀ l,H l=none→Q (.ref l) (upd H l (.tup ys)))∨(SqT X.K H p ys∧Q (.ref p) H))):=by
  intro pins s σ H xs us Q I r h
  obtain ⟨p,ys,rfl,h⟩:=h
  obtain ⟨u,rfl,rx⟩:=vals1 r
  cases rx
  rcases h with ⟨hq,q⟩ | ⟨hq,q⟩
  · obtain ⟨its,r',pl,hz⟩:=I.list hq
    have hlen:=r'.length
    refine call_tuple_list pl.isList (fun h' kp=>?_) (by simp only [List.size_toArray] <;> omega)
    have I1:Inv X pins σ H { s with heap:=h' }:=I.kept (t':=s.toks) kp
    have I2:Inv X pins σ (upd H h'.objs.size (.tup ys)) { s with heap:=h'.push { cls:=.type "tuple",data:=.seq its.toArray } } :=
      I1.laid (t':=s.toks) (fun b o e=>Heap.get?_push_of_some _ e) (Nat.le_refl _) (show ObjOk X.prog X.w _ _ _ (.tup ys) from ⟨hz,its,r',IsTup.new _ _⟩)
    exact ⟨.ref h'.objs.size,_,I2,rfl,q _ (I1.hok.fresh (Nat.le_refl _))⟩
  · obtain ⟨its,r',pl,hz⟩:=I.tuple hq
    exact call_tuple_same pl ⟨.ref p,H,I,rfl,q⟩

variable {o e:Expr} {es:List Expr} {to:TE} {t:TA} {name:Str} {apos cpos:Pos} {T id:String} {r:V→List V→Hp→VK→Prop}
end
end L2
namespace L2
open PySem PySem.Spec PyProof.Rows
section
variable {X:Cx} {pins:List (Addr×Obj)} {σ:St} {H:Hp} {s:Shared} {l b:Addr} {xs ys zs:List V}
theorem Inv.lnew {its:List Value} {t':Nat} (I:Inv X pins σ H s) (hv:Vals ys its) (hz:ys.length≤sizeLine) :
    Inv X pins σ (upd H s.heap.objs.size (.lst ys)) { s with heap:=s.heap.push { cls:=.type "list",data:=.seq its.toArray },toks:=t' } :=
  I.laid (fun _ _ q=>Heap.get?_push_of_some _ q) (Nat.le_refl _) ⟨hz,its,0,hv,Heap.get?_push_size _ rfl⟩
theorem Inv.fresh (I:Inv X pins σ H s):H s.heap.objs.size=none:=I.hok.fresh (Nat.le_refl _)
theorem Inv.lstM (I:Inv X pins σ H s) (hH:H l=some (.lst xs)):xs.length≤sizeLine∧∃ (its:List Value) (n:Nat),Vals xs its∧xs.length=its.length∧s.heap.get? l=some { cls:=.type "list",data:=.seq its.toArray n }:=by
  obtain ⟨z,its,n,r,e⟩:=I.hok l _ hH
  exact ⟨z,its,n,r,r.length,e⟩

end
section
variable {X:Cx}
noncomputable def rCat:R2:=fun x y H Q=>∃ l b xs zs,x=.ref l∧y=.ref b∧H l=some (.lst xs)∧H b=some (.lst zs)∧xs.length+zs.length≤sizeLine∧∀ p,H p=none→Q (.ref p) (upd H p (.lst (xs++zs)))
theorem op_cat:OpR X (binaryOp .Add) rCat:=by
  intro pins s σ H x y v u Q I rx ry h
  obtain ⟨l,b,xs,zs,rfl,rfl,hH,hB,hz,q⟩:=h
  cases rx
  cases ry
  obtain ⟨z,its,n,r,hl,e⟩:=I.lstM hH
  obtain ⟨z2,its2,n2,r2,hl2,e2⟩:=I.lstM hB
  refine PySem.P.add_list e e2 ?_ (by rw [List.size_toArray,List.size_toArray]; omega)
  have ea:its.toArray++its2.toArray=(its++its2).toArray:=by simp
  rw [ea]
  exact ⟨.ref _,_,I.lnew (t':=s.toks) (r.append r2) (by rw [List.length_append]; omega),rfl,q _ I.fresh⟩
end
section
variable {prog:Program} {w:World} {A:Around} {E:Value→Shared→Prop} {s:Shared}
end
section
variable {X:Cx}
end
end L2
namespace L2
open PySem PySem.Spec PyProof.Rows
section
variable {κ:Type} [DecidableEq κ]
end
section
variable {P:Program} {w:World} {H:Hp} {h:Heap} {a:Addr}
end
section
variable {X:Cx} {pins:List (Addr×Obj)} {σ:St} {H:Hp} {s:Shared} {a:Addr} {y v:V} {u r:Value} {o:Option V} {A:Around} {E:Value→Shared→Prop}
theorem Inv.big (I:Inv X pins σ H s):sysModules < s.heap.objs.size:=by
  have h:mainGlobals < s.heap.objs.size:=(I.mod.glob.keeps I.bk).lt
  exact Nat.lt_trans (by decide) h

end
section
variable {X:Cx} {pins:List (Addr×Obj)} {σ:St} {H:Hp} {s:Shared} {a:Addr} {kvs:List (Key×V)} {k:Key} {u:Value} {A:Around} {E:Value→Shared→Prop}
end
section
variable {X:Cx} {o i e value:Expr} {pos pos' tpos:Pos} {td ty tv:TE}
end
theorem dk_empty {P:Program} {w:World} {H:Hp} (h:Heap) (hb:sysModules < h.objs.size):ObjOk P w H (h.push { cls:=.type "dict",data:=.dict #[] }) h.objs.size (.dK []) :=
  ⟨Nat.zero_le _,beq_eq_false_iff_ne.mpr (Ne.symm (Nat.ne_of_lt hb)),[],.nil,Heap.DictOf.new h⟩
noncomputable def tDNewK:TE:=fun _ H Q=>∀ p,H p=none→Q (.ref p) (upd H p (.dK []))
section
variable {X:Cx} {pos:Pos}
theorem pe_dnewK:PE X (.Dict [] [] pos) tDNewK:=fun pins s σ H Q I h =>
  wpAny_Dict_empty ⟨.ref s.heap.objs.size,_,I.laid (a:=s.heap.objs.size) (o:=.dK []) (t':=s.toks) (fun _ _ q=>Heap.get?_push_of_some _ q) (Nat.le_refl _) (dk_empty s.heap I.big),rfl,h _ (I.hok.fresh (Nat.le_refl _))⟩
end
section
variable {X:Cx} {pins:List (Addr×Obj)} {σ:St} {H:Hp} {s:Shared} {a:Addr} {y d:V} {u r:Value} {o:Option V} {A:Around} {E:Value→Shared→Prop}
end
section
variable {X:Cx} {o e f:Expr} {apos cpos:Pos} {td ty tx:TE}
end
section
variable {X:Cx} {pins:List (Addr×Obj)} {σ:St} {H:Hp} {s:Shared} {a:Addr} {kvs:List (Key×V)} {A:Around} {E:Value→Shared→Prop}
end
section
variable {X:Cx} {pins:List (Addr×Obj)} {σ:St} {H:Hp} {s:Shared} {a:Addr} {y:V} {u:Value} {A:Around} {E:Value→Shared→Prop}
end
end L2
namespace Att
open PySem PySem.W PySem.Calls PyProof.Rows
theorem ints_of_wellAll {P:Params} {h:Heap}:∀ (ns:List Int) (vs:List Value),WellAll P h vs (ns.map WData.int)→IntsAre vs ns:=by
  intro ns
  induction ns with
  | nil =>
    intro vs w
    rw [List.map_nil] at w
    cases w
    exact .nil
  | cons n ns ih =>
    intro vs w
    rw [List.map_cons] at w
    cases w with
    | cons a b =>
      cases a
      exact .cons _ _ (ih _ b)

theorem script_of {l:OpenLaw} {n:Nat} (hn:l.most=some n) {P:Params} {h:Heap} {args:List WData} {vals:List Value}
    (hpre:l.row.toRowW.claim.pre args=true) (hwl:WellAll P h vals args) :
    ∃ a vs ns,vals=[Value.ref a]∧args=[WData.list (ns.map WData.int)]∧h.get? a=some { cls:=.type "list",data:=.seq vs.toArray }∧IntsAre vs ns∧ns.length≤n:=by
  have hsh:WShape.hasAll [] args [.list .int]=true:=(pre_splitW hpre).1
  have hc:l.pre.holds [] { args:=args }=true:=(pre_splitW hpre).2
  obtain ⟨d,r,rfl,h1,h2⟩:=hasAllW_cons hsh
  obtain rfl:=hasAllW_nil h2
  obtain ⟨xs,rfl,h3⟩:=hasW_list h1
  obtain ⟨ns,rfl⟩:=items_int h3
  have hlen:ns.length≤n:=by
    unfold OpenLaw.pre at hc
    have h4:(WTm.not (.lt (.lit (.int (n:Int))) (.len (.arg 0)))).holds [] { args:=[.list (ns.map .int)] }=true:=by
      have h4:=(holds_andW hc).1
      rw [hn] at h4
      exact h4
    have h5:=condW_of h4 (w_not (w_lt w_lit (w_len_list (w_arg rfl))))
    rw [List.length_map] at h5
    refine Nat.le_of_not_lt fun q=>?_
    have q':(n:Int) < ((ns.length:Nat):Int):=by omega
    first
      | (rw [decide_eq_true q'] at h5; exact absurd h5 (by decide))
      | (simp at h5; omega)
  cases hwl with
  | cons w1 w2 =>
    cases w2
    cases w1 with
    | list ho hall=>exact ⟨_,_,ns,rfl,rfl,ho,ints_of_wellAll ns _ hall,hlen⟩

theorem post_true (l:OpenLaw) (args:List WData):l.row.toRowW.claim.post args (.bool true) args=true :=
  postW_of (r:=l.row.toRowW) (X:=(true == true))
    (show WShape.has [] (.bool true) .bool=true by first | rfl | decide | simp [WShape.has,WShape.arms,WShape.armsAll])
    (show (WTm.eq .res (.lit (.bool true))).value [] { args:=args,res:=some (.bool true),after:=args }=some (.bool (true == true)) from w_eq_bool (w_res rfl) w_lit) rfl

theorem attach_call {l:OpenLaw} {n:Nat} {q:Program} {loose:List Str} {XP:(Str→Option Value)→Heap→Prop} {YP:World→Heap→Prop} {d:DefRec}
    (hn:l.most=some n) (hdf:d.params.defaults=[])
    (call:∀ (w:World) (s₀ s₁:Shared) (mg mb:Str→Option Value) (fa:Addr) (o:Obj) (pm cd doc:Value) (a:Addr) (vs:List Value) (ns:List Int),
      Ground q loose [] XP w s₀ mg mb s₁.heap→YP w s₁.heap →
      s₁.heap.get? fa=some o→o.data=.func (docDef d.name d.params d.body d.scope pm cd doc)→s₁.heap.CodeRec cd d.name→mg d.name=some (.ref fa) →
      s₁.heap.get? a=some { cls:=.type "list",data:=.seq vs.toArray }→IntsAre vs ns→ns.length≤n→s₁.gens=#[] →
      codeAny (model l.prog w) callerA (.call (.ref fa) ⟨[.ref a],[]⟩) (fun r s'=>r=.ok (.ret (.bool true))∧OldK s₁.heap s'.heap∧s'.os=s₁.os∧AllBare s'.gens) s₁) :
    WalkO q loose XP YP l.row.toRowW d [] (fun f vs=>PySem.call f vs):=by
  intro w s₀ s₁ mg mb G Y fa o pm cd doc dV kV ho hd hcd hD hmg hg args vals as hpre hlay hrd hwl hlo
  obtain rfl:dV=.none:=Dflts.none hD hdf
  obtain rfl:kV=.none:=Dflts.noKw hD
  obtain ⟨a,vs,ns,rfl,rfl,hobj,hints,hlen⟩:=script_of hn hpre hwl
  refine enter_call (codeAny_mono (call w s₀ s₁ mg mb fa o pm cd doc a vs ns G Y ho (fd_plain hd) hcd hmg hobj hints hlen hg) fun r s' hq=>?_)
  obtain ⟨rfl,h2,h3,h4⟩:=hq
  exact ⟨.inl ⟨.bool true,.bool true,[],rfl,fun _=>rfl,.bool true,post_true l _,fun _=>⟨List.Pairwise.nil,fun _ hm=>(nomatch hm)⟩⟩,h2,h3,h4⟩

section
variable {prog:Program} {w:World} {A:Around} {E:Value→Shared→Prop} {s:Shared} {K:Frag}
end
end Att
namespace L2
open PySem PySem.Spec PyProof.Rows
theorem vals_ints {vs:List Value} {ns:List Int} (h:IntsAre vs ns):Vals (ns.map V.int) vs:=by
  induction h with
  | nil=>exact .nil
  | cons n t h ih=>exact .cons ⟨t,rfl⟩ ih

noncomputable def Only (H:Hp):Prop:=∀ b,H b=none∨∃ o xs,H b=some (.frz o (.lst xs))

theorem law_call {P:Program} {w:World} {K:PySem.W.Frag} {mg mb:Str→Option Value} {CX:CXT} {k:Nat} {fa a:Addr} {fd:FuncData} {x:Str} {sp:Sp} {s₁:Shared} {vs:List Value} {ns:List Int}
    (KX:K.In s₁.heap) (hns:s₁.heap.Ns mainGlobals mg) (hb:s₁.heap.Ns builtinsNs mb) (hbb:∀ x:Str,x≠"__name__"→mb x=bootBuiltins x) (hlim:s₁.heap.NoLimit) (hdig:s₁.heap.NoDigits) (hg:s₁.gens=#[])
    (ha:s₁.heap.get? a=some { cls:=.type "list",data:=.seq vs.toArray }) (hi:IntsAre vs ns) (hl:ns.length≤sizeLine) (hr:Room k callerA)
    (F:∀ base:Heap,K.In base→base.Ns mainGlobals mg→FnOk P w K mg base CX k fa fd [x] sp) (hbind:∀ (s:Shared) (u:Value),BindsTo s fd ⟨[u],[]⟩ [(x,u)])
    (hsp:∀ H:Hp,Only H→SqL K H a (ns.map V.int)→sp [.ref a] H (fun v _=>v=.bl true) fun _ _ _=>False)
    (hCX:∀ H e s',CX [] H s₁ (fun _ _ _=>False) e s'→False) :
    codeAny (model P w) callerA (.call (.ref fa) ⟨[.ref a],[]⟩) (fun r s'=>r=.ok (.ret (.bool true))∧OldK s₁.heap s'.heap∧s'.os=s₁.os∧AllBare s'.gens) s₁:=by
  have rv:=vals_ints hi
  have lenV:=hi.length
  -- from an abstract heap in which nothing but the script may be tracked
  have core:∀ H:Hp,Only H→SqL K H a (ns.map V.int)→HOk P w H s₁.heap→(∀ b,H b≠none→b=a)→(H a≠none→K.lookup a=none) →
      codeAny (model P w) callerA (.call (.ref fa) ⟨[.ref a],[]⟩) (fun r s'=>r=.ok (.ret (.bool true))∧OldK s₁.heap s'.heap∧s'.os=s₁.os∧AllBare s'.gens) s₁:=by
    intro H hO hS hok hA hK
    have base_of:∀ {b:Addr} {o:Obj},s₁.heap.get? b=some o→H b=none→(hidT s₁.heap H).get? b=some o:=fun e n=>hidT_get e n
    have noA:∀ {b:Addr} {o:Obj} {es:Array DictEntry} {ep:Nat},s₁.heap.get? b=some o→o.data=.dict es ep→H b=none:=fun {b o es ep} e d=>by
      cases q:H b with
      | none=>rfl
      | some u =>
        have e':b=a:=hA b (by rw [q]; simp)
        subst e'
        rw [ha] at e; cases e
        have d':Data.seq vs.toArray _=Data.dict es ep:=d
        cases d'
    have nsK:∀ {b:Addr} {m:Str→Option Value},s₁.heap.Ns b m→(hidT s₁.heap H).Ns b m:=fun {b m} hz0=>by
      obtain ⟨o,es,ep,e,d,r⟩:=hz0
      exact ⟨o,es,ep,base_of e (noA e d),d,r⟩
    have hKb:K.In (hidT s₁.heap H):=fun b o e=>base_of (KX b o e) (by
      cases q:H b with
      | none=>rfl
      | some u =>
        have e':b=a:=hA b (by rw [q]; simp)
        subst e'
        rw [hK (by rw [q]; simp)] at e; cases e)
    have hM:Mod K mg (hidT s₁.heap H):=⟨hKb,nsK hns,⟨mb,nsK hb,hbb⟩,let ⟨mc,h1,h2⟩:=hlim; ⟨mc,nsK h1,h2⟩,let ⟨mc,h1,h2⟩:=hdig; ⟨mc,nsK h1,h2⟩⟩
    have e0:Env0 P w K mg (hidT s₁.heap H) callerA [] s₁ H:=⟨rfl,hM,fun b o e=>of_hidT e,Nat.le_of_eq (hidT_size _ _),trivial,fun b hb=>absurd (show b∈([]:List Addr) from hb) (by simp),hok,.of_eq hg⟩
    refine codeAny_mono ((F _ hKb (nsK hns)).run callerA [] s₁ H ⟨[.ref a],[]⟩ [.ref a] [.ref a] _ _ hr e0 (hbind s₁ (.ref a)) (.cons rfl .nil) (hsp H hO hS)) fun r s' h=>?_
    cases r with
    | error e=>exact (hCX H e s' h).elim
    | ok fl =>
      cases fl with
      | next=>exact False.elim h
      | brk=>exact False.elim h
      | cont=>exact False.elim h
      | ret u =>
        obtain ⟨v,H',os,bare,un,hok',r',q⟩:=h
        have q':v=.bl true:=q
        subst q'
        obtain rfl:u=Value.bool true:=r'
        refine ⟨rfl,OldK.of_keep fun b o e=>?_,os,bare⟩
        cases q:H b with
        | none=>exact un.keep b o e q (by intro z; exact absurd (show b∈([]:List Addr) from z) (by simp)) (by simp)
        | some u =>
          rcases hO b with z | ⟨ob,xs,z⟩
          · rw [q] at z; cases z
          · have z2:=un.frzs b ob _ z
            obtain ⟨e1,_⟩:=hok b _ z
            obtain ⟨e2,_⟩:=hok' b _ z2
            rw [e] at e1; cases e1
            exact e2
  cases hk:K.lookup a with
  | some o =>
    -- the script is one of the module's own objects
    have e:=KX a o hk
    rw [ha] at e
    cases e
    refine core (fun _=>none) (fun _=>.inl rfl) (.inr ⟨_,vs.toArray,_,hk,rfl,rfl,rfl,by rw [List.size_toArray,lenV]; exact hl,by simpa using rv⟩) (fun b u z=>by have z':(none:Option HO)=some u:=z; cases z') (fun b z=>absurd rfl z) fun z=>absurd rfl z
  | none =>
    refine core (fun b=>if b=a then some (.frz { cls:=.type "list",data:=.seq vs.toArray } (.lst (ns.map V.int))) else none) (fun b=>?_) (.inl (.inr ⟨{ cls:=.type "list",data:=.seq vs.toArray },if_pos rfl⟩)) (fun b u z=>?_) (fun b z=>?_) fun _=>hk
    · by_cases hb:b=a
      · exact .inr ⟨_,_,if_pos hb⟩
      · exact .inl (if_neg hb)
    · by_cases hb:b=a
      · have z':=(if_pos hb).symm.trans z
        cases z'
        subst hb
        exact ⟨ha,by rw [List.length_map]; exact hl,vs,_,rv,ha⟩
      · have z':=(if_neg hb).symm.trans z
        cases z'
    · by_cases hb:b=a
      · exact hb
      · exact absurd (if_neg hb) z
end L2
namespace L2
open PySem PySem.Spec PyProof.Rows
noncomputable abbrev KOf {K:PySem.W.Frag} {h:Heap} (_:K.In h):PySem.W.Frag:=K

theorem walk_of {l:PySem.W.OpenLaw} {n k:Nat} {q:Program} {loose:List Str} {XP:(Str→Option Value)→Heap→Prop} {YP:World→Heap→Prop} {d:DefRec} {K:Params→PySem.W.Frag} {CX:World→CXT} {sp:World→Sp} {x:Str}
    (hn:l.most=some n) (hn2:n≤sizeLine) (hdf:d.params.defaults=[]) (hr:Room k callerA)
    (hY:∀ (w:World) (h:Heap),YP w h→(K w.params).In h)
    (F:∀ (w:World) (mg:Str→Option Value) (fa:Addr) (h:Heap),(K w.params).In h→h.Ns mainGlobals mg→mg d.name=some (.ref fa) →
      ∃ fd:FuncData,(∀ (s:Shared) (u:Value),BindsTo s fd ⟨[u],[]⟩ [(x,u)]) ∧
        ∀ base:Heap,(K w.params).In base→base.Ns mainGlobals mg→FnOk l.prog w (K w.params) mg base (CX w) k fa fd [x] (sp w))
    (hsp:∀ (w:World) (H:Hp) (a:Addr) (ns:List Int),ns.length≤n→Only H→SqL (K w.params) H a (ns.map V.int)→sp w [.ref a] H (fun v _=>v=.bl true) fun _ _ _=>False)
    (hCX:∀ (w:World) (H:Hp) (s:Shared) (e:Value) (s':Shared),CX w [] H s (fun _ _ _=>False) e s'→False) :
    PySem.W.WalkO q loose XP YP l.row.toRowW d [] (fun f vs=>PySem.call f vs):=by
  refine Att.attach_call hn hdf fun w s₀ s₁ mg mb fa o pm cd doc a vs ns G Y ho hd hcd hmg hobj hints hlen hg=>?_
  have KX:=hY w _ Y
  obtain ⟨fd,hb,hF⟩:=F w mg fa _ KX G.T.g hmg
  exact law_call KX G.T.g G.T.b G.T.builtins G.T.nolimit G.T.nodigits hg hobj hints (Nat.le_trans hlen hn2) hr hF hb (fun H hO hS=>hsp w H a ns hlen hO hS) fun H e s'=>hCX w H s₁ e s'
theorem walk_ofK {l:PySem.W.OpenLaw} {n k:Nat} {q:Program} {loose:List Str} {XP:(Str→Option Value)→Heap→Prop} {YP:World→Heap→Prop} {d:DefRec} {K:Params→PySem.W.Frag} {CX:CXT} {sp:PySem.W.Frag→Sp} {x:Str}
    (hn:l.most=some n) (hn2:n≤sizeLine) (hdf:d.params.defaults=[]) (hr:Room k callerA)
    (hY:∀ (w:World) (h:Heap),YP w h→(K w.params).In h)
    (F:∀ (w:World) (mg:Str→Option Value) (fa:Addr) (h:Heap),(K w.params).In h→h.Ns mainGlobals mg→mg d.name=some (.ref fa) →
      ∃ fd:FuncData,(∀ (s:Shared) (u:Value),BindsTo s fd ⟨[u],[]⟩ [(x,u)]) ∧
        ∀ base:Heap,(K w.params).In base→base.Ns mainGlobals mg→FnOk l.prog w (K w.params) mg base CX k fa fd [x] (sp (K w.params)))
    (hsp:∀ (K:PySem.W.Frag) (H:Hp) (a:Addr) (ns:List Int),ns.length≤n→Only H→SqL K H a (ns.map V.int)→sp K [.ref a] H (fun v _=>v=.bl true) fun _ _ _=>False)
    (hCX:∀ (H:Hp) (s:Shared) (e:Value) (s':Shared),CX [] H s (fun _ _ _=>False) e s'→False) :
    PySem.W.WalkO q loose XP YP l.row.toRowW d [] (fun f vs=>PySem.call f vs) :=
  walk_of (K:=K) (CX:=fun _=>CX) (sp:=fun w=>sp (K w.params)) hn hn2 hdf hr hY F (fun w H a ns h1 h2 h3=>hsp (K w.params) H a ns h1 h2 h3) fun _ H s e s'=>hCX H s e s'
end L2
namespace L2
open PySem PySem.Spec PyProof.Rows
noncomputable def defArgs (s:Stmt):Arguments:=match s with
  | .FunctionDef _ a _ _ _ _ _ _ _ _=>a
  | _=>{ posonlyargs:=[],args:=[],vararg:=none,kwonlyargs:=[],kw_defaults:=[],kwarg:=none,defaults:=[] }
noncomputable def defBody (s:Stmt):List Stmt:=match s with
  | .FunctionDef _ _ b _ _ _ _ _ _ _=>b
  | _=>[]
noncomputable def defScope (s:Stmt):Scope:=match s with
  | .FunctionDef _ _ _ _ _ _ sc _ _ _=>sc
  | _=>{ kind:=.function,names:=[],isGenerator:=false,isCoroutine:=false }

noncomputable abbrev CX0:CXT:=fun _ _ _ _ _ _=>False
noncomputable abbrev E0:XK:=fun _ _ _=>False
theorem pass0 {X:Cx}:Passes CX0 X E0:=fun _ _ _ _ _ _ _ h=>h.elim

structure Fun (K:PySem.W.Frag) (x qual:Str) (st:Stmt) (f:Addr) (fd:FuncData):Prop where
  ex:∃ (oc:Value) (od:Option Addr) (kV doc pm:Value) (an:Option Addr) (cdv ct:Value) (osl:Array (Option Value)),
    fd=PySem.W.fnOf x qual (defArgs st) (defBody st) (defScope st) .none kV doc pm an cdv ct∧K.lookup f=some ⟨oc,od,.func fd,osl⟩∧PySem.W.codeIn K cdv qual=true
  kp:PySem.W.keepIn K (.ref f)=true
section
variable {P:Program} {w:World} {K:PySem.W.Frag} {mg:Str→Option Value} {base:Heap}
theorem Fun.ok {x qual:Str} {st:Stmt} {f:Addr} {fd:FuncData} {N ps:List Str} {k:Nat} {sp:Sp} (F:Fun K x qual st f fd) (S:FnScope N ps (defScope st)) (len:∀ vs H Q E,sp vs H Q E→vs.length=ps.length)
    (hbody:∀ (cdv:Value) (A:Around) (outer:List Env) (s:Shared) (H:Hp) (vs:List V) (Q:VK) (E:XK),Room k (A.deeper (envOfC qual (defScope st) s.heap.objs.size f cdv))→sp vs H Q E →
      ∃ t,PSs (cxOf CX0 P w K mg base N qual (defScope st) f cdv A outer s H E).nox (defBody st) t∧t { nx:=fun _ H'=>Q .non H',rt:=Q } (start N vs) H):FnOk P w K mg base CX0 (k+1) f fd ps sp:=by
  obtain ⟨oc,od,kV,doc,pm,an,cdv,ct,osl,rfl,lk,hcd⟩:=F.ex
  refine fn_of lk hcd S len fun A outer s H vs Q E hr hsp=>?_
  obtain ⟨t,h,q⟩:=hbody cdv A outer s H vs Q E hr hsp
  exact ⟨t,h.nox,q⟩
theorem Fun.binds {x qual:Str} {st:Stmt} {f:Addr} {fd:FuncData} {ps:List Str} (F:Fun K x qual st f fd)
    (h:∀ (kV doc pm:Value) (an:Option Addr) (cdv ct:Value) (us:List Value),us.length=ps.length→bindArgs (PySem.W.fnOf x qual (defArgs st) (defBody st) (defScope st) .none kV doc pm an cdv ct) ⟨us,[]⟩=pure (ps.zip us)):Binds K fd ps []:=by
  obtain ⟨oc,od,kV,doc,pm,an,cdv,ct,osl,rfl,lk,hcd⟩:=F.ex
  exact .all (h kV doc pm an cdv ct)
theorem fun_mk {x qual:Str} {st:Stmt} {f:Addr} {oc:Value} {od an:Option Addr} {osl:Array (Option Value)} {kV doc pm cdv ct:Value} (l:K.lookup f=some ⟨oc,od,.func (PySem.W.fnOf x qual (defArgs st) (defBody st) (defScope st) .none kV doc pm an cdv ct),osl⟩)
    (c:PySem.W.codeIn K cdv qual=true) (k:PySem.W.keepIn K (.ref f)=true):Fun K x qual st f (PySem.W.fnOf x qual (defArgs st) (defBody st) (defScope st) .none kV doc pm an cdv ct):=⟨⟨oc,od,kV,doc,pm,an,cdv,ct,osl,rfl,l,c⟩,k⟩
end
theorem hu_of {A:Around} {k:Nat} (hr:Room k A):A.units+1 < cLine:=Nat.lt_of_le_of_lt (Nat.add_le_add_left (by decide:1≤64) _) hr.units
section
variable {X:Cx}
theorem pv (i:Nat) {x:Str} {pos:Pos} (hN:X.N[i]?=some x:=by rfl) (hv:Vis X.env.scope x:=by first | exact Or.inl rfl | exact Or.inr (Or.inl rfl) | exact Or.inr (Or.inr rfl)) (hd:(x == ("__debug__":Str))=false:=by decide)
    (hcd:(x == ("__classdict__":Str))=false:=by decide):PE X (.Name x pos) (tVar i):=pe_var hN hv hd hcd
end
theorem ite2 {c A B:Prop} [Decidable c] (h1:c→A) (h2:¬ c→B):if c then A else B:=by
  by_cases h:c
  · rw [if_pos h]
    exact h1 h
  · rw [if_neg h]
    exact h2 h
noncomputable def Same (H H':Hp):Prop:=∀ b o,H b=some o→H' b=some o
theorem Same.refl (H:Hp):Same H H:=fun _ _ h=>h
theorem Same.free {H H':Hp} (e:Same H H') {l:Addr} (h:H' l=Option.none):H l=Option.none:=by
  cases q:H l with
  | none=>rfl
  | some o =>
    rw [e l o q] at h
    cases h
end L2
set_option Elab.async false
set_option linter.all false
set_option maxRecDepth 100000
namespace L2
open PySem PySem.Spec PyProof.Rows
structure Blk where
  cl:List (Str×Addr)
  C:Addr
  s:Shared
  H:Hp
  fp:List Addr
  pn:List (Addr×Obj)

noncomputable def cxC (X:Cx) (N:List Str) (scope:Scope) (b:Blk):Cx where
  prog:=X.prog
  w:=X.w
  K:=X.K
  mg:=X.mg
  base:=X.base
  A:=X.A
  N:=N
  s₀:=b.s
  H₀:=b.H
  env:=compEnvC scope b.cl b.C X.env
  outer:=X.stack
  stack:=X.stack
  ex:=b.fp
  fn:=fun x=>scope.names.lookup x == some .cell
  calm:=X.calm
  pn:=b.pn
  xe:=fun _ _=>False

noncomputable def bN (Nx ts:List Str) (ix:List Nat):List Str:=ts++ix.map fun j=>(Nx[j]?).getD Str.empty
noncomputable def bSt (n:Nat) (ix:List Nat) (σ:St):St:=List.replicate n none++ix.map fun j=>(σ[j]?).getD none

structure BlkOk (Nx:List Str) (sc scope:Scope) (ix:List Nat):Prop where
  kind:scope.kind=.function
  cells:∀ y∈scope.names,y.2=.cell→scope.names.lookup y.1=some .cell
  locs:∀ y∈scope.names,y.2=.local→scope.names.lookup y.1=some .local
  frees:∀ y∈scope.names,y.2=.free→sc.names.lookup y.1=some .cell∨sc.names.lookup y.1=some .free
  caps:∀ j∈ix,j < Nx.length∧scope.names.lookup ((Nx[j]?).getD Str.empty)=some .free

theorem forIn_frees {env:Env} {f:Str×NameKind→List (Str×Addr)→Sem (ForInStep (List (Str×Addr)))}
    (h1:∀ n k r,k≠NameKind.free→f (n,k) r=pure (.yield r)) (h2:∀ n r c,env.cells.lookup n=some c→f (n,NameKind.free) r=pure (.yield ((n,c)::r))) :
    ∀ (names:List (Str×NameKind)) (acc:List (Str×Addr)),(∀ y∈names,y.2=.free→∃ c,env.cells.lookup y.1=some c)→(∀ x c,acc.lookup x=some c→env.cells.lookup x=some c) →
      ∃ cl,forIn names acc f=pure cl∧(∀ x c,cl.lookup x=some c→env.cells.lookup x=some c)∧(∀ y∈names,y.2=.free→∃ c,cl.lookup y.1=some c)∧∀ x c,acc.lookup x=some c→∃ c',cl.lookup x=some c'
  | [],acc,_,ha=>⟨acc,rfl,ha,(fun _ h=>nomatch h),fun x c h=>⟨c,h⟩⟩
  | (n,k)::names,acc,hn,ha=>by
    have hn':∀ y∈names,y.2=.free→∃ c,env.cells.lookup y.1=some c:=fun y hy=>hn y (List.mem_cons_of_mem _ hy)
    by_cases hk:k=.free
    · subst hk
      obtain ⟨c,hc⟩:=hn (n,.free) List.mem_cons_self rfl
      have ha':∀ x d,((n,c)::acc).lookup x=some d→env.cells.lookup x=some d:=fun x d e=>by
        rw [List.lookup_cons] at e
        cases hx:x == n with
        | true =>
          rw [hx] at e
          have hxn:x=n:=by simpa using hx
          subst hxn
          cases e
          exact hc
        | false =>
          rw [hx] at e
          exact ha x d e
      obtain ⟨cl,e,p1,p2,p3⟩:=forIn_frees h1 h2 names ((n,c)::acc) hn' ha'
      refine ⟨cl,?_,p1,fun y hy hf=>?_,fun x d hx=>?_⟩
      · rw [List.forIn_cons,h2 n acc c hc,pure_bind]
        exact e
      · rcases List.mem_cons.mp hy with rfl | hy
        · exact p3 n c (by simp)
        · exact p2 y hy hf
      · by_cases e1:x=n
        · subst e1
          exact p3 x c (by simp)
        · exact p3 x d (by rw [List.lookup_cons,beq_false_of_ne e1]; exact hx)
    · obtain ⟨cl,e,p1,p2,p3⟩:=forIn_frees h1 h2 names acc hn' ha
      refine ⟨cl,?_,p1,fun y hy hf=>?_,p3⟩
      · rw [List.forIn_cons,h1 n k acc hk,pure_bind]
        exact e
      · rcases List.mem_cons.mp hy with rfl | hy
        · exact absurd hf hk
        · exact p2 y hy hf

theorem closure_of {scope:Scope} {env:Env} (hn:∀ y∈scope.names,y.2=.free→∃ c,env.cells.lookup y.1=some c) :
    ∃ cl,closureFor scope env=pure cl∧(∀ x c,cl.lookup x=some c→env.cells.lookup x=some c)∧∀ y∈scope.names,y.2=.free→∃ c,cl.lookup y.1=some c:=by
  unfold closureFor
  have key:=forIn_frees (env:=env) (f:=fun (x:Str×NameKind) (r:List (Str×Addr))=>match x with
    | (name,kind)=>if (kind == NameKind.free)=true then (do let a ← cellOf env name; pure (ForInStep.yield ((name,a)::r))) else pure (ForInStep.yield r))
    (fun n k r hk=>by
      have hb:(k == NameKind.free)=false:=by simpa using hk
      show (if (k == NameKind.free)=true then _ else _)=_
      rw [hb]
      rfl)
    (fun n r c hc=>by
      show (do let a ← cellOf env n; pure (ForInStep.yield ((n,a)::r)))=_
      unfold cellOf
      rw [hc]
      rfl) scope.names [] hn (fun x c h=>by simp at h)
  obtain ⟨cl,e,p1,p2,_⟩:=key
  refine ⟨cl,?_,p1,p2⟩
  show (forIn scope.names [] _ >>= fun r=>pure r)=pure cl
  exact (congrArg (fun t=>t >>= fun r=>pure r) e).trans (pure_bind _ _)

section
variable {X:Cx} {pins:List (Addr×Obj)} {σ:St} {H:Hp} {s:Shared}
theorem relabel_free {scope:Scope} {env:Env} {x:Str} (h:scope.names.lookup x=some .free):(relabel scope env).names.lookup x=some .cell∨(relabel scope env).names.lookup x=some .free:=by
  unfold relabel
  show List.lookup x (scope.names.map _)=_∨List.lookup x (scope.names.map _)=_
  generalize scope.names=l at h
  induction l with
  | nil=>simp at h
  | cons p r ih =>
    obtain ⟨n,k⟩:=p
    rw [List.map_cons]
    cases hx:x == n with
    | true =>
      rw [List.lookup_cons,hx] at h
      have hk:k=.free:=by simpa using h
      subst hk
      by_cases hc:(NameKind.free == NameKind.free && env.scope.kind == .function && env.kindOf n == some .cell)=true
      · refine .inl ?_
        show List.lookup x ((if (NameKind.free == NameKind.free && env.scope.kind == .function && env.kindOf n == some .cell)=true then (n,NameKind.cell) else (n,NameKind.free))::_)=_
        rw [if_pos hc,List.lookup_cons,hx]
      · refine .inr ?_
        show List.lookup x ((if (NameKind.free == NameKind.free && env.scope.kind == .function && env.kindOf n == some .cell)=true then (n,NameKind.cell) else (n,NameKind.free))::_)=_
        rw [if_neg hc,List.lookup_cons,hx]
    | false =>
      rw [List.lookup_cons,hx] at h
      have key:∀ q:Str×NameKind,(q=(n,NameKind.cell)∨q=(n,k))→∀ l',List.lookup x (q::l')=List.lookup x l':=fun q hq l'=>by
        rcases hq with rfl | rfl <;> rw [List.lookup_cons,hx]
      have hq:(if (k == NameKind.free && env.scope.kind == .function && env.kindOf n == some .cell)=true then (n,NameKind.cell) else (n,k))=(n,NameKind.cell)∨(if (k == NameKind.free && env.scope.kind == .function && env.kindOf n == some .cell)=true then (n,NameKind.cell) else (n,k))=(n,k):=by
        split
        · exact .inl rfl
        · exact .inr rfl
      rcases ih h with z | z
      · exact .inl ((key _ hq _).trans z)
      · exact .inr ((key _ hq _).trans z)

theorem relabel_cell {scope:Scope} {env:Env} {x:Str} (h:(relabel scope env).names.lookup x=some .cell∨(relabel scope env).names.lookup x=some .free):∃ y∈scope.names,y.1=x∧(y.2=.free∨y.2=.cell):=by
  unfold relabel at h
  have h':List.lookup x (scope.names.map fun (n,k)=>if (k == .free && env.scope.kind == .function && env.kindOf n == some .cell) then (n,NameKind.cell) else (n,k))=some .cell∨List.lookup x (scope.names.map fun (n,k)=>if (k == .free && env.scope.kind == .function && env.kindOf n == some .cell) then (n,NameKind.cell) else (n,k))=some .free:=h
  clear h
  generalize scope.names=l at h'
  induction l with
  | nil=>simp at h'
  | cons p r ih =>
    obtain ⟨n,k⟩:=p
    rw [List.map_cons] at h'
    cases hx:x == n with
    | true =>
      have hxn:x=n:=by simpa using hx
      by_cases hk:k=.free
      · exact ⟨(n,k),List.mem_cons_self,hxn.symm,.inl hk⟩
      ·
        have hb:(k == NameKind.free)=false:=by simpa using hk
        have e:(if (k == NameKind.free && env.scope.kind == .function && env.kindOf n == some .cell)=true then (n,NameKind.cell) else (n,k))=(n,k):=by
          rw [hb]
          rfl
        have h2:List.lookup x ((n,k)::r.map fun (n,k)=>if (k == .free && env.scope.kind == .function && env.kindOf n == some .cell) then (n,NameKind.cell) else (n,k))=some .cell∨List.lookup x ((n,k)::r.map fun (n,k)=>if (k == .free && env.scope.kind == .function && env.kindOf n == some .cell) then (n,NameKind.cell) else (n,k))=some .free:=by
          rw [← e]
          exact h'
        rw [List.lookup_cons,hx] at h2
        rcases h2 with z | z
        · exact ⟨(n,k),List.mem_cons_self,hxn.symm,.inr (Option.some.inj z)⟩
        · exact absurd (Option.some.inj z) hk
    | false =>
      have hq:∀ q:Str×NameKind,(q=(n,NameKind.cell)∨q=(n,k))→∀ l',List.lookup x (q::l')=List.lookup x l':=fun q hq l'=>by
        rcases hq with rfl | rfl <;> rw [List.lookup_cons,hx]
      have hqq:(if (k == NameKind.free && env.scope.kind == .function && env.kindOf n == some .cell)=true then (n,NameKind.cell) else (n,k))=(n,NameKind.cell)∨(if (k == NameKind.free && env.scope.kind == .function && env.kindOf n == some .cell)=true then (n,NameKind.cell) else (n,k))=(n,k):=by
        split
        · exact .inl rfl
        · exact .inr rfl
      obtain ⟨y,hy,e⟩:=ih (by
        rcases h' with z | z
        · exact .inl ((hq _ hqq _).symm.trans z)
        · exact .inr ((hq _ hqq _).symm.trans z))
      exact ⟨y,List.mem_cons_of_mem _ hy,e⟩

theorem cells_spec:∀ (names:List (Str×NameKind)) (h:Heap) (acc:List (Str×Addr)),
    (∀ x c,(cellsFrom h.objs.size names acc).lookup x=some c→acc.lookup x=some c∨(h.objs.size≤c∧(pushCells h names).IsCell c none∧(x,NameKind.cell)∈names)) ∧
    (∀ x,((x,NameKind.cell)∈names∨∃ c,acc.lookup x=some c)→∃ c,(cellsFrom h.objs.size names acc).lookup x=some c) ∧
    (∀ x c,(x,NameKind.cell)∈names→(cellsFrom h.objs.size names acc).lookup x=some c→h.objs.size≤c) ∧
    ((∀ x c,acc.lookup x=some c→c < h.objs.size)→(∀ x y c,acc.lookup x=some c→acc.lookup y=some c→x=y)→∀ x y c,(cellsFrom h.objs.size names acc).lookup x=some c→(cellsFrom h.objs.size names acc).lookup y=some c→x=y):=by
  intro names
  induction names with
  | nil=>intro h acc; exact ⟨fun x c e=>.inl e,fun x e=>by rcases e with e | e; cases e; exact e,fun x c e=>(by cases e),fun _ i=>i⟩
  | cons p r ih =>
    obtain ⟨name,kind⟩:=p
    intro h acc
    unfold cellsFrom pushCells
    by_cases hk:kind=.cell
    · subst hk
      have hk':((NameKind.cell == NameKind.cell)=true):=rfl
      rw [if_pos hk',if_pos hk']
      have ih':=ih (h.push { cls:=.type "cell",data:=.cell none }) ((name,h.objs.size)::acc)
      rw [Heap.size_push] at ih'
      obtain ⟨i1,i2,i4,i3⟩:=ih'
      refine ⟨fun x c e=>?_,fun x e=>?_,fun x c e1 e2=>?_,fun hb hi=>i3 (fun x c e=>?_) fun x y c e1 e2=>?_⟩
      · rcases i1 x c e with z | ⟨z1,z2,z3⟩
        · rw [List.lookup_cons] at z
          cases hx:x == name with
          | true =>
            rw [hx] at z
            have hxn:x=name:=by simpa using hx
            cases z
            exact .inr ⟨Nat.le_refl _,⟨_,pushCells_keeps _ _ _ _ (Heap.get?_push_size _ rfl),rfl⟩,by rw [hxn]; exact List.mem_cons_self⟩
          | false=>rw [hx] at z; exact .inl z
        · exact .inr ⟨by omega,z2,List.mem_cons_of_mem _ z3⟩
      · refine i2 x ?_
        by_cases hx:x=name
        · exact .inr ⟨h.objs.size,by rw [List.lookup_cons,hx]; simp⟩
        · rcases e with e | ⟨c,e⟩
          · rcases List.mem_cons.mp e with q | q
            · exact absurd (congrArg Prod.fst q) hx
            · exact .inl q
          · exact .inr ⟨c,by rw [List.lookup_cons,beq_false_of_ne hx]; exact e⟩
      · rcases i1 x c e2 with z | ⟨z,_,_⟩
        · rw [List.lookup_cons] at z
          cases hx:x == name with
          | true=>rw [hx] at z; cases z; exact Nat.le_refl _
          | false =>
            have hxn:x≠name:=by simpa using hx
            rcases List.mem_cons.mp e1 with q | q
            · exact absurd (congrArg Prod.fst q) hxn
            · exact Nat.le_of_succ_le (i4 x c q e2)
        · exact Nat.le_of_succ_le z
      · rw [List.lookup_cons] at e
        cases hx:x == name with
        | true=>rw [hx] at e; cases e; exact Nat.lt_succ_self _
        | false=>rw [hx] at e; exact Nat.lt_succ_of_lt (hb x c e)
      · rw [List.lookup_cons] at e1 e2
        cases hx:x == name with
        | true =>
          have hxn:x=name:=by simpa using hx
          rw [hx] at e1
          cases e1
          cases hy:y == name with
          | true =>
            have hyn:y=name:=by simpa using hy
            rw [hxn,hyn]
          | false=>rw [hy] at e2; exact absurd (hb y _ e2) (Nat.lt_irrefl _)
        | false =>
          rw [hx] at e1
          cases hy:y == name with
          | true=>rw [hy] at e2; cases e2; exact absurd (hb x _ e1) (Nat.lt_irrefl _)
          | false=>rw [hy] at e2; exact hi x y c e1 e2
    · have hk':¬ ((kind == NameKind.cell)=true):=by simpa using hk
      rw [if_neg hk',if_neg hk']
      obtain ⟨i1,i2,i4,i3⟩:=ih h acc
      refine ⟨fun x c e=>?_,fun x e=>i2 x ?_,fun x c e1 e2=>?_,i3⟩
      · rcases i1 x c e with z | ⟨z1,z2,z3⟩
        · exact .inl z
        · exact .inr ⟨z1,z2,List.mem_cons_of_mem _ z3⟩
      · rcases e with e | e
        · rcases List.mem_cons.mp e with q | q
          · exact absurd (congrArg Prod.snd q).symm hk
          · exact .inl q
        · exact .inr e
      · rcases List.mem_cons.mp e1 with q | q
        · exact absurd (congrArg Prod.snd q).symm hk
        · exact i4 x c q e2

theorem wpAny_compEnv {M:Model} {A:Around} {E:Value→Shared→Prop} {s:Shared} {scope:Scope} {globals:Addr} {cl:List (Str×Addr)} {qual:Str} {outer:Env} {Q:Env→Shared→Prop}
    (h:Q { scope:=scope,locals:=s.heap.objs.size,globals:=globals,cells:=cellsFrom (s.heap.objs.size+1) scope.names cl,qual:=qual,func:=none,code:=outer.code,frame:=outer.frame,builtins:=outer.builtins } { s with heap:=pushCells (s.heap.push { cls:=.type "dict",data:=.dict #[] }) scope.names }) :
    wpAny M A (newFunctionEnv scope globals cl [] qual none .none (some outer)) Q E s:=by
  simp only [newFunctionEnv,Option.isSome_some,if_true]
  refine wpAny_bind (wpAny_alloc ?_)
  refine wpAny_bind (wpAny_layCells _ (fun name kind cells=>by cases hkc:kind == NameKind.cell <;> simp [hkc]) _ _ _ _ ?_)
  rw [show ({ s with heap:=s.heap.push { cls:=.type "dict",data:=.dict #[] } }:Shared).heap.objs.size=s.heap.objs.size+1 from Heap.size_push ..]
  rw [List.forIn_nil]
  exact wpAny_bind (wpAny_pure (wpAny_pure h))

theorem bN_get {Nx ts:List Str} {ix:List Nat} {i:Nat} {x:Str} (h:(bN Nx ts ix)[i]?=some x) (hi:ts.length≤i):∃ j,ix[i - ts.length]?=some j∧x=(Nx[j]?).getD Str.empty:=by
  unfold bN at h
  rw [List.getElem?_append_right hi,List.getElem?_map] at h
  cases e:ix[i - ts.length]? with
  | none=>rw [e] at h; cases h
  | some j=>rw [e] at h; exact ⟨j,rfl,(Option.some.inj h).symm⟩

theorem inv_block {scope:Scope} {cl:List (Str×Addr)} {fp:List Addr} {C:Addr} {h3:Heap} {tk:Nat} {m:Str→Option Value} {Nx ts:List Str} {ix:List Nat}
    (I:Inv X pins σ H s) (hNx:X.N=Nx) (ok:BlkOk Nx X.env.scope scope ix) (cs1:∀ x c,cl.lookup x=some c→X.env.cells.lookup x=some c∨(C < c∧h3.IsCell c none∧(x,NameKind.cell)∈scope.names)) (csI:∀ x y c,cl.lookup x=some c→cl.lookup y=some c→x=y) (cl2:∀ y∈scope.names,(y.2=.free∨y.2=.cell)→∃ c,cl.lookup y.1=some c) (csA:∀ x c,(x,NameKind.cell)∈scope.names→cl.lookup x=some c→C≤c)
    (hf:∀ b∈fp,FpOk X pins H b) (hfs:∀ b∈fp,b < s.heap.objs.size) (hC:s.heap.objs.size≤C) (kp:∀ b o,s.heap.get? b=some o→h3.get? b=some o) (hns:h3.Ns C m) :
    Inv (cxC X (bN Nx ts ix) scope ⟨cl,C,s,H,fp,X.pn++pins⟩) [] (bSt ts.length ix σ) H { s with heap:=h3,toks:=tk }:=by
  have below:∀ {b:Addr},b < s.heap.objs.size→b≠C:=fun hb=>Nat.ne_of_lt (Nat.lt_of_lt_of_le hb hC)
  have nstk:∀ b,b≠X.env.locals→b ∉ X.fs→b ∉ frs X.stack:=fun b h1 h2 hb=>by
    rcases List.mem_cons.mp (I.stkSub b hb) with z | z
    · exact h1 z
    · exact h2 z
  refine ⟨⟨I.ok.mod,?_,I.ok.glob,I.ok.blt,hC,csI,fun x hx=>?_,fun x c hfn e=>Nat.le_trans hC (csA x c (PySem.mem_of_lookup (eq_of_beq hfn)) e),I.ok.hd,I.ok.frames,.inl rfl,fun b hb=>⟨below (hfs b hb),fun x c e=>by
    rcases cs1 x c e with z | ⟨z,_,_⟩
    · exact (hf b hb).2.2.2.2.1 x c z
    · exact Nat.ne_of_gt (Nat.lt_of_lt_of_le (hfs b hb) (Nat.le_trans hC (Nat.le_of_lt z)))⟩,I.bs,Nat.le_trans I.ok.bsz I.sz,fun b o e hb=>?_,fun b hb=>nstk b (hf b hb).2.1 (hf b hb).2.2.1,I.stack,I.stkFree⟩,
    rfl,I.bare,Un.kept kp,⟨m,hns,fun i x v h1 h2 h3'=>?_⟩,fun x c e=>?_,I.hok.fresh hC,fun x c e=>by
    rcases cs1 x c e with z | ⟨z,_,_⟩
    · exact I.freeC x c z
    · exact I.hok.fresh (Nat.le_trans hC (Nat.le_of_lt z)),fun p hp=>?_,I.hok.kept kp,?_⟩
  · exact ok.kind
  · have hx':(relabel scope X.env).names.lookup x=some .cell∨(relabel scope X.env).names.lookup x=some .free:=hx
    obtain ⟨y,hy,e1,e2⟩:=relabel_cell hx'
    obtain ⟨c,hc⟩:=cl2 y hy e2
    exact ⟨c,by rw [← e1]; exact hc⟩
  · rcases (hf b hb).2.2.2.1 with z | z
    · exact I.ok.noex b o e z
    · exact absurd (Nat.lt_of_lt_of_le (Heap.lt_size e) (Nat.le_trans I.ok.bsz z)) (Nat.lt_irrefl _)
  · have hi:ts.length≤i:=by
      rcases Nat.lt_or_ge i ts.length with z | z
      · exfalso
        have h2':(bSt ts.length ix σ)[i]?=some (some v):=h2
        unfold bSt at h2'
        rw [List.getElem?_append_left (by simpa using z),List.getElem?_replicate] at h2'
        split at h2' <;> cases h2'
      · exact z
    obtain ⟨j,hj,ex⟩:=bN_get h1 hi
    have h2':(bSt ts.length ix σ)[i]?=some (some v):=h2
    unfold bSt at h2'
    rw [List.getElem?_append_right (by simpa using hi),List.getElem?_map,List.length_replicate,hj] at h2'
    have hσ:σ[j]?=some (some v):=by
      have q:(σ[j]?).getD none=some v:=Option.some.inj h2'
      cases e:σ[j]? with
      | none=>rw [e] at q; cases q
      | some w=>rw [e] at q; exact congrArg some q
    obtain ⟨hjl,hfree⟩:=ok.caps j (List.mem_of_getElem? hj)
    have hNj:X.N[j]?=some x:=by
      rw [hNx,ex,List.getElem?_eq_getElem hjl]
      rfl
    rw [← ex] at hfree
    obtain ⟨c,hc⟩:=cl2 (x,.free) (PySem.mem_of_lookup hfree) (.inl rfl)
    have cl1:X.env.cells.lookup x=some c:=by
      rcases cs1 x c hc with z | ⟨_,_,z⟩
      · exact z
      · have:=ok.cells _ z rfl
        rw [hfree] at this
        cases this
    have kx:=ok.frees (x,.free) (PySem.mem_of_lookup hfree) rfl
    obtain ⟨m0,hn0,hl0⟩:=I.loc
    obtain ⟨u,ru,look⟩:=hl0 j x v hNj hσ (by rcases kx with z | z; exact .inr (.inl z); exact .inr (.inr z))
    refine ⟨u,ru,.inr ⟨relabel_free hfree,c,hc,?_⟩⟩
    rcases look with ⟨k1,_⟩ | ⟨_,c',hc',z⟩
    · have k1':X.env.scope.names.lookup x=some .local:=k1
      rcases kx with z | z
      · rw [k1'] at z; cases z
      · rw [k1'] at z; cases z
    · have e:=cl1
      rw [hc'] at e
      cases e
      obtain ⟨o,ho,hd⟩:=z
      exact ⟨o,kp _ _ ho,hd⟩
  · rcases cs1 x c e with z | ⟨_,z,_⟩
    · obtain ⟨v,o,ho,hd⟩:=I.cell x c z
      exact ⟨v,o,kp _ _ ho,hd⟩
    · exact ⟨_,z⟩
  · have hp':p∈X.pn++pins:=by simpa [cxC] using hp
    obtain ⟨e,n,ne,nf,d⟩:=I.pin p hp'
    exact ⟨kp _ _ e,n,below (Heap.lt_size e),nstk _ ne nf,d⟩
  · show (bSt ts.length ix σ).length=(bN Nx ts ix).length
    unfold bSt bN
    simp

theorem Inv.track {D:Addr} {ys:List V} {its:List Value} {n:Nat} (I:Inv X pins σ H s) (hD:H D=none) (ho:s.heap.get? D=some { cls:=.type "list",data:=.seq its.toArray n }) (r:Vals ys its) (hz:ys.length≤sizeLine)
    (hL:D≠X.env.locals) (hs0:X.s₀.heap.objs.size≤D) (hc:∀ x c,X.env.cells.lookup x=some c→c≠D) (hp:∀ p∈X.pn++pins,p.1≠D):Inv X pins σ (upd H D (.lst ys)) s:=by
  have ne:∀ {b:Addr} {o:HO},H b=some o→b≠D:=fun e=>ne_of_none e hD
  refine I.step (g':=s.gens) (d':=s.drawn) (t':=s.toks) (h':=s.heap) (ch:=[D]) (fun b hb=>?_) (fun b o _ _ _ e _=>e) (fun b o _ _ _ e _=>⟨o.slots,e⟩) (fun b o hb e n=>?_) (fun b o _ e=>⟨o,e⟩)
    (fun b xs e=>by rw [upd_ne (ne e)]; exact e) (fun b o u e=>by rw [upd_ne (ne e)]; exact e) (fun b ps e=>⟨#[],by rw [upd_ne (ne e),e]; simp⟩) (fun m hm=>hm) (fun b u e=>?_) I.bare
  · have e:b=D:=by simpa using hb
    subst e
    exact ⟨.inr hs0,hL,hc,hp⟩
  · have hb':b≠D:=by simpa using hb
    rw [upd_ne hb']
    exact n
  · by_cases hb:b=D
    · subst hb
      rw [upd_same] at e
      cases e
      exact ⟨hz,its,n,r,ho⟩
    · rw [upd_ne hb] at e
      exact (I.hok b u e).stay (fun c v _ q=>q) (fun c q=>by rw [upd_ne (ne q)]; exact q) fun c xs q=>by rw [upd_ne (ne q)]; exact q
end
theorem compLoop_run {prog:Program} {w:World} {A:Around} {R:Result→Shared→Prop} {s:Shared} {elt target iter:Expr} {scope:Scope} {pos:Pos} {it acc:Value} {env:Env} (J:Nat→Shared→Prop)
    (step:∀ k s0,J k s0→wpAny (model prog w) A (pyNext it) (fun got s1=>match got with
      | none=>R (.ok .next) s1
      | some v=>wpAny (model prog w) A (letOwnedTupleGo target it v) (fun _ s2=>wpAny (model prog w) A (assign target env v) (fun _ s3=>wpAny (model prog w) A (eval elt env) (fun y s4 =>
          wpAny (model prog w) A (call (.builtin "list.append") [acc,y]) (fun _ s5=>∃ j,j < k∧J j s5) (fun _ _=>False) s4) (fun _ _=>False) s3) (fun _ _=>False) s2) (fun _ _=>False) s1) (fun _ _=>False) s0)
    (k:Nat) (h:J k s):codeAny (model prog w) A (.compLoop (.ListComp elt [⟨target,iter,[],0⟩] scope pos) 0 it acc env) R s:=by
  refine codeAny_loop rfl J (fun k0 s0 hJ=>?_) k h
  show wpAny _ _ ((compTurn (.ListComp elt [⟨target,iter,[],0⟩] scope pos) 0 it acc env).onRaise (fun x=>do noteFrame x env; theTreesLotGoes x)) _ _ s0
  apply wpAny_noted
  rw [compTurn_list1]
  refine wpAny_bind (wpAny_standAt (wpAny_bind (wpAny_mono (step k0 s0 hJ) (fun got s1 h1=>?_) fun _ _ z=>z.elim)))
  cases got with
  | none=>exact wpAny_pure h1
  | some v =>
    refine wpAny_bind (wpAny_mono h1 (fun _ s2 h2=>?_) fun _ _ z=>z.elim)
    refine wpAny_bind (wpAny_mono h2 (fun _ s3 h3=>?_) fun _ _ z=>z.elim)
    refine wpAny_bind (wpAny_bind (wpAny_mono h3 (fun y s4 h4=>?_) fun _ _ z=>z.elim))
    exact wpAny_bind (wpAny_mono h4 (fun _ s5 h5=>wpAny_pure (wpAny_pure ⟨rfl,h5⟩)) fun _ _ z=>z.elim)

noncomputable def tLc (wi:TI) (n:Nat) (ix:List Nat) (g:Blk→TG) (te:Blk→TE):TE:=fun σ H Q=>wi σ H fun J H1=>∀ b:Blk,∃ W:Nat→Nat→St→List V→Hp→Prop,(∃ m,W 0 m (bSt n ix σ) [] H1)∧∀ i m τ ys H2,W i m τ ys H2 →
  (J.stop i H2∧∀ p v H',H2 p=none→v=V.ref p→H'=upd H2 p (.lst ys)→Q v H') ∨
  (J.go i H2∧ys.length < sizeLine∧∀ x H3,J.yld i H2 x H3→g b x τ H3 fun τ2 H4=>te b τ2 H4 fun y H5=>∃ m',m' < m∧W (i+1) m' τ2 (ys++[y]) H5)

section
variable {X:Cx} {pins:List (Addr×Obj)} {σ:St} {H:Hp} {s:Shared}
theorem lc_block {elt target iter:Expr} {scope:Scope} {pos:Pos} {Nx ts:List Str} {ix:List Nat} {g:Blk→TG} {te:Blk→TE} {cl:List (Str×Addr)} {s2:Shared} {itv:Value} {R:Value→Addr→Result→Shared→Prop}
    {E:Value→Shared→Prop} {Q:VK}
    (hc:X.calm=true) (hg:∀ b,PG (cxC X (bN Nx ts ix) scope b) target (g b)) (he:∀ b,PE (cxC X (bN Nx ts ix) scope b) elt (te b))
    (hNx:X.N=Nx) (ok:BlkOk Nx X.env.scope scope ix) (cl1:∀ x c,cl.lookup x=some c→X.env.cells.lookup x=some c) (cl2:∀ y∈scope.names,y.2=.free→∃ c,cl.lookup y.1=some c)
    (h2:PIE X pins σ target (fun J H1=>∀ b:Blk,∃ W:Nat→Nat→St→List V→Hp→Prop,(∃ m,W 0 m (bSt ts.length ix σ) [] H1)∧∀ i m τ ys H2,W i m τ ys H2 →
      (J.stop i H2∧∀ p v H',H2 p=none→v=V.ref p→H'=upd H2 p (.lst ys)→Q v H') ∨
      (J.go i H2∧ys.length < sizeLine∧∀ x H3,J.yld i H2 x H3→g b x τ H3 fun τ2 H4=>te b τ2 H4 fun y H5=>∃ m',m' < m∧W (i+1) m' τ2 (ys++[y]) H5)) itv s2)
    (hR:∀ (D C:Addr) (H':Hp) (s':Shared) (v:V),Inv X pins σ H' s'→v=.ref D→Q v H'→(∃ m,s'.heap.Ns C m)→H' C=none→C≠X.env.locals→X.s₀.heap.objs.size≤C→(∀ x c,X.env.cells.lookup x=some c→c≠C)→(∀ p∈X.pn++pins,p.1≠C) →
      R (.ref D) C (.ok .next) s') :
    wpAny (model X.prog X.w) X.A (newList []) (fun acc s₃=>wpAny (model X.prog X.w) X.A (newFunctionEnv scope X.env.globals cl [] X.env.qual none .none (some X.env)) (fun cenv s₄ =>
      codeAny (model X.prog X.w) X.A (.compStart (.ListComp elt [⟨target,iter,[],0⟩] scope pos) 0 itv acc { cenv with scope:=relabel scope X.env }) (R acc cenv.locals) s₄) E s₃) E s2:=by
  obtain ⟨it,fp,tn,J,H1,e,I2,T,st2,f2,q2⟩:=h2
  subst e
  refine wpAny_newObj_type (wpAny_compEnv ?_)
  dsimp only
  generalize hG:s2.heap.push { cls:=.type "list",dict:=none,data:=.seq ([]:List Value).toArray }=G
  have hGs:G.objs.size=s2.heap.objs.size+1:=by rw [← hG,Heap.size_push]
  have hfs:∀ b∈fp,b < s2.heap.objs.size:=fun b hb=>let ⟨o,e,_⟩:=T.obj _ _ st2 b hb; Heap.lt_size e
  have kpG:∀ b o,G.get? b=some o→(pushCells (G.push { cls:=.type "dict",data:=.dict #[] }) scope.names).get? b=some o:=fun b o e=>pushCells_keeps _ _ _ _ (Heap.get?_push_of_some _ e)
  have hns3:(pushCells (G.push { cls:=.type "dict",data:=.dict #[] }) scope.names).Ns G.objs.size (fun _=>none):=(Heap.Ns.new G (.type "dict")).keeps (pushCells_keeps _ _)
  obtain ⟨sp1,sp2,sp4,sp3⟩:=cells_spec scope.names (G.push { cls:=.type "dict",data:=.dict #[] }) cl
  rw [Heap.size_push] at sp1 sp2 sp3 sp4
  generalize hh3:pushCells (G.push { cls:=.type "dict",data:=.dict #[] }) scope.names=h3 at kpG hns3 sp1 ⊢
  have kp:∀ b o,s2.heap.get? b=some o→h3.get? b=some o:=fun b o e=>kpG b o (by rw [← hG]; exact Heap.get?_push_of_some _ e)
  have hD3:h3.get? s2.heap.objs.size=some { cls:=.type "list",data:=.seq ([]:List Value).toArray }:=kpG _ _ (by rw [← hG]; exact Heap.get?_push_size _ rfl)
  have clB:∀ x c,cl.lookup x=some c→c < G.objs.size+1:=fun x c e=>by
    obtain ⟨v,q⟩:=I2.cell x c (cl1 x c e)
    exact Nat.lt_succ_of_lt (Nat.lt_of_lt_of_le q.lt (by rw [hGs]; exact Nat.le_succ _))
  have csI:=sp3 clB fun x y c e1 e2=>I2.ok.inj x y c (cl1 x c e1) (cl1 y c e2)
  have cs1:∀ x c,(cellsFrom (G.objs.size+1) scope.names cl).lookup x=some c→X.env.cells.lookup x=some c∨(G.objs.size < c∧h3.IsCell c none∧(x,NameKind.cell)∈scope.names):=fun x c e=>by
    rcases sp1 x c e with z | ⟨z1,z2,z3⟩
    · exact .inl (cl1 x c z)
    · exact .inr ⟨by omega,z2,z3⟩
  have cs2:∀ y∈scope.names,(y.2=.free∨y.2=.cell)→∃ c,(cellsFrom (G.objs.size+1) scope.names cl).lookup y.1=some c:=fun y hy hk=>by
    refine sp2 y.1 ?_
    rcases hk with z | z
    · exact .inr (cl2 y hy z)
    · exact .inl (by rw [← z]; exact hy)
  have csA:∀ x c,(x,NameKind.cell)∈scope.names→(cellsFrom (G.objs.size+1) scope.names cl).lookup x=some c→G.objs.size≤c:=fun x c e1 e2=>Nat.le_of_succ_le (sp4 x c e1 e2)
  generalize hcs:cellsFrom (G.objs.size+1) scope.names cl=cs at csI cs1 cs2 csA ⊢
  generalize hCe:G.objs.size=C at hns3 cs1 csA ⊢
  have hC:s2.heap.objs.size≤C:=by omega
  have hDC:s2.heap.objs.size≠C:=by omega
  let B:Blk:=⟨cs,C,s2,H1,fp,X.pn++pins⟩
  have I3:Inv (cxC X (bN Nx ts ix) scope B) [] (bSt ts.length ix σ) H1 { s2 with heap:=h3 }:=inv_block I2 hNx ok cs1 csI cs2 csA f2 hfs hC kp hns3
  have fC:H1 s2.heap.objs.size=none:=I2.hok.fresh (Nat.le_refl _)
  have cellIn:∀ x c,cs.lookup x=some c→c≠s2.heap.objs.size:=fun x c e=>by
    rcases cs1 x c e with z | ⟨z,_,_⟩
    · obtain ⟨v,q⟩:=I2.cell x c z
      exact Nat.ne_of_lt q.lt
    · exact Nat.ne_of_gt (Nat.lt_of_le_of_lt hC z)
  have pinIn:∀ p∈X.pn++pins,p.1 < s2.heap.objs.size:=fun p hp=>Heap.lt_size (I2.pin p hp).1
  have nofrs:s2.heap.objs.size ∉ frs X.stack:=fun hb=>by
    rcases List.mem_cons.mp (I2.stkSub _ hb) with z | z
    · exact absurd I2.lt (by rw [← z]; exact Nat.lt_irrefl _)
    · exact I2.nofs (Nat.le_refl _) z
  -- a state with the list at its place,pinned
  have pinD:∀ {τ:St} {H':Hp} {s':Shared} {ob:Obj},Inv (cxC X (bN Nx ts ix) scope B) [] τ H' s'→s'.heap.get? s2.heap.objs.size=some ob→H' s2.heap.objs.size=none→(∀ v,ob.data≠.cell v)→Inv (cxC X (bN Nx ts ix) scope B) [(s2.heap.objs.size,ob)] τ H' s' :=
    fun {τ H' s' ob} I' ho hn hd=>I'.pins_of fun p hp=>by
      have e:p=(s2.heap.objs.size,ob):=by simpa using hp
      subst e
      exact ⟨ho,hn,hDC,nofrs,hd⟩
  obtain ⟨W,⟨m0,w0⟩,turn⟩:=q2 B
  have stat:∀ {H':Hp} {ob:Obj},(∀ b∈fp,H' b=none)→∀ b∈fp,FpOk (cxC X (bN Nx ts ix) scope B) [(s2.heap.objs.size,ob)] H' b:=fun {H' ob} hn b hb=>by
    refine ⟨hn b hb,Nat.ne_of_lt (Nat.lt_of_lt_of_le (hfs b hb) hC),fun z=>?_,.inl hb,fun x c e=>by
      rcases cs1 x c e with z | ⟨z,_,_⟩
      · exact (f2 b hb).2.2.2.2.1 x c z
      · exact Nat.ne_of_gt (Nat.lt_of_lt_of_le (hfs b hb) (Nat.le_trans hC (Nat.le_of_lt z))),fun p hp=>?_⟩
    · rcases List.mem_cons.mp (I2.stkSub _ z) with q | q
      · exact (f2 b hb).2.1 q
      · exact (f2 b hb).2.2.1 q
    · rcases List.mem_append.mp hp with z | z
      · exact (f2 b hb).2.2.2.2.2 p z
      · have e:p=(s2.heap.objs.size,ob):=by simpa using z
        subst e
        exact Nat.ne_of_gt (hfs b hb)
  have loop:∀ s4:Shared,s4={ s2 with heap:=h3 } →
      codeAny (model X.prog X.w) X.A (.compLoop (.ListComp elt [⟨target,iter,[],0⟩] scope pos) 0 (.ref it) (.ref s2.heap.objs.size) (compEnvC scope cs C X.env)) (R (.ref s2.heap.objs.size) C) s4:=by
    rintro s4 rfl
    refine compLoop_run (fun k s'=>∃ i τ ys its n H',Inv (cxC X (bN Nx ts ix) scope B) [(s2.heap.objs.size,({ cls:=.type "list",data:=.seq (List.toArray its) n }:Obj))] τ H' s'∧tn i s'.heap∧(∀ b∈fp,H' b=none)∧Vals ys its∧ys.length≤sizeLine∧W i k τ ys H') ?_ m0
      ⟨0,_,[],[],_,H1,pinD I3 hD3 fC (fun v z=>by cases z),T.keep _ _ _ st2 fun b hb o e=>kp b o e,fun b hb=>(f2 b hb).1,.nil,Nat.zero_le _,w0⟩
    rintro k s5 ⟨i,τ,ys,its,n,H5,I5,st5,fr5,rv,hz,w5⟩
    rcases turn i k τ ys H5 w5 with ⟨stop,qn⟩ | ⟨go,hlt,step⟩
    · refine thn (T.done (cxC X (bN Nx ts ix) scope B) rfl rfl rfl hc i _ s5 τ H5 _ I5 (stat fr5) st5 stop) fun got s6 hz0=>?_
      obtain ⟨hr,I6⟩:=hz0
      subst hr
      obtain ⟨ho,hn,_,_,_⟩:=I6.pin (s2.heap.objs.size,({ cls:=.type "list",data:=.seq (List.toArray its) n }:Obj)) (List.mem_append_right _ (by simp))
      have I7:Inv X pins σ H5 s6:=I2.call' (ch:=fp) (H':=H5) (by exact I6.os) I6.base I6.hok I6.bare fun b hb=>⟨(f2 b hb).2.2.2.1,(f2 b hb).2.1,(f2 b hb).2.2.2.2.1,(f2 b hb).2.2.2.2.2⟩
      have hs0:X.s₀.heap.objs.size≤s2.heap.objs.size:=I2.sz
      have I8:=I7.track hn ho rv hz (Nat.ne_of_gt I2.lt) hs0 (fun x c e z=>by
        obtain ⟨v,q⟩:=I2.cell x c e
        exact absurd q.lt (by rw [z]; exact Nat.lt_irrefl _)) (fun p hp=>Nat.ne_of_lt (pinIn p hp))
      obtain ⟨m6,hm6,_⟩:=I6.loc
      refine hR _ C _ s6 _ I8 rfl (qn _ _ _ hn rfl rfl) ⟨m6,hm6⟩ ?_ (fun z=>?_) (Nat.le_trans hs0 hC) (fun x c e z=>?_) fun p hp=>Nat.ne_of_lt (Nat.lt_of_lt_of_le (pinIn p hp) hC)
      · rw [upd_ne (Ne.symm hDC)]
        exact I6.free
      · exact absurd (Nat.lt_of_lt_of_le I2.lt hC) (by rw [z]; exact Nat.lt_irrefl _)
      · obtain ⟨v,q⟩:=I2.cell x c e
        exact absurd (Nat.lt_of_lt_of_le q.lt hC) (by rw [z]; exact Nat.lt_irrefl _)
    · refine thn (T.item (cxC X (bN Nx ts ix) scope B) rfl rfl rfl hc i _ s5 τ H5 _ I5 (stat fr5) st5 go) fun got s6 hz0=>?_
      obtain ⟨u,hr,h6⟩:=hz0
      subst hr
      refine thn h6 fun _ s7 hz0=>?_
      obtain ⟨x,H7,I7,r7,y7,st7,fr7⟩:=hz0
      have I7':=I7.pinned (stat fr7) (T.obj _ _ st7)
      refine thn (hg B _ s7 τ H7 x u _ I7' r7 (step x H7 y7)) fun _ s8 hz0=>?_
      obtain ⟨τ8,H8,I8,q8⟩:=hz0
      refine thn (he B _ s8 τ8 H8 _ I8 q8) fun y s9 hz0=>?_
      obtain ⟨vy,H9,I9,r9,m',hm',w9⟩:=hz0
      obtain ⟨ho,hn,_,_,_⟩:=I9.pin (s2.heap.objs.size,({ cls:=.type "list",data:=.seq (List.toArray its) n }:Obj)) (List.mem_append_right _ (List.mem_append_left _ (by simp)))
      have lenv:=rv.length
      refine wpAny_list_append_plain (l:=s2.heap.objs.size) ⟨n,ho⟩ (fun h' hpl hsb=>?_) (by rw [List.size_toArray]; omega)
      obtain ⟨n',ho'⟩:=hpl
      have eobj:(its.toArray.push y)=List.toArray (its++[y]):=by simp
      rw [eobj] at ho'
      have I9':Inv (cxC X (bN Nx ts ix) scope B) [] τ8 H9 s9:=I9.pins_of fun p hp=>absurd hp (by simp)
      have I10:Inv (cxC X (bN Nx ts ix) scope B) [] τ8 H9 { s9 with heap:=h' }:=I9'.turned (it:=s2.heap.objs.size) (t':=s9.toks) (fun b o hb e=>(hsb.2 b hb).trans e) hn hDC (.inr (Nat.le_refl _)) cellIn (fun p hp=>by
        have hp':p∈(X.pn++pins)++[]:=hp
        rw [List.append_nil] at hp'
        exact Nat.ne_of_lt (pinIn p hp'))
      refine ⟨m',hm',i+1,τ8,ys++[vy],its++[y],n',H9,pinD I10 ho' hn (fun v z=>by cases z),?_,fun b hb=>?_,rv.append (.cons r9 .nil),by rw [List.length_append]; show ys.length+1≤_; omega,w9⟩
      · refine T.keep _ _ _ st7 fun b hb o e=>?_
        have q:=(I9.pin (b,o) (List.mem_append_right _ (List.mem_append_right _ (mem_pinsAt hb e)))).1
        exact (hsb.2 b (Nat.ne_of_lt (hfs b hb))).trans q
      · obtain ⟨o,e,d⟩:=T.obj _ _ st7 b hb
        exact (I9.pin (b,o) (List.mem_append_right _ (List.mem_append_right _ (mem_pinsAt hb e)))).2.1
  exact codeAny_compStart_list (loop _ rfl) (T.self X.A 0 _ _ _ (T.keep _ _ _ st2 fun b hb o e=>kp b o e) (loop _ rfl))

theorem pe_lc {elt target iter:Expr} {scope:Scope} {pos:Pos} {wi:TI} {g:Blk→TG} {te:Blk→TE} (Nx:List Str) (ts:List Str) (ix:List Nat)
    (hc:X.calm=true) (hi:PI X target iter wi) (hg:∀ b,PG (cxC X (bN Nx ts ix) scope b) target (g b)) (he:∀ b,PE (cxC X (bN Nx ts ix) scope b) elt (te b))
    (hNx:X.N=Nx) (ok:BlkOk Nx X.env.scope scope ix) (hs:∀ x,foldedSetIterable iter X.env x=pure x:=by intro _; rfl) :
    PE X (.ListComp elt [⟨target,iter,[],0⟩] scope pos) (tLc wi ts.length ix g te):=by
  intro pins s σ H Q I h
  obtain ⟨cl,hcl,cl1,cl2⟩:=closure_of (scope:=scope) (env:=X.env) fun y hy hf=>I.ok.has y.1 (ok.frees y hy hf)
  rw [eval_ListComp]
  refine wpAny_comprehension_free (use:=none) rfl hs hcl ok.kind ok.locs (thn (hi pins s σ H _ I h) fun v s1 h1=>thn h1 fun itv s2 h2=>?_)
  refine lc_block (R:=fun acc C=>compPost (model X.prog X.w) X.A X.xe none (EP X pins σ Q) acc C) hc hg he hNx ok cl1 cl2 h2 ?_
  rintro D C H' s' v I' rfl q ⟨m,hm⟩ hn hL h0 hcl' hp
  exact ⟨m,hm,fun h' hsb=>⟨.ref D,H',I'.turned (it:=C) (t':=s'.toks) (fun b o hb e=>(hsb.2 b hb).trans e) hn hL (.inr h0) hcl' hp,rfl,q⟩⟩

theorem ps_setLc {elt target iter:Expr} {scope:Scope} {pos pos' spos:Pos} {wi:TI} {g:Blk→TG} {te:Blk→TE} {i:Nat} {x:Str} (Nx:List Str) (ts:List Str) (ix:List Nat)
    (hc:X.calm=true) (hN:X.N.Nodup) (hix:X.N[i]?=some x) (hx:X.env.scope.names.lookup x=some .local) (hi:PI X target iter wi) (hg:∀ b,PG (cxC X (bN Nx ts ix) scope b) target (g b)) (he:∀ b,PE (cxC X (bN Nx ts ix) scope b) elt (te b))
    (hNx:X.N=Nx) (ok:BlkOk Nx X.env.scope scope ix) (hsw:swapsWith (.ListComp elt [⟨target,iter,[],0⟩] scope pos) (some (.Name x pos')) spos.line X.env=pure true) (hs:∀ x,foldedSetIterable iter X.env x=pure x:=by intro _; rfl) :
    PS X (.Assign [.Name x pos'] (.ListComp elt [⟨target,iter,[],0⟩] scope pos) spos) (tAsg (tLc wi ts.length ix g te) (gName i)):=by
  intro pins s σ H D0 I h
  obtain ⟨cl,hcl,cl1,cl2⟩:=closure_of (scope:=scope) (env:=X.env) fun y hy hf=>I.ok.has y.1 (ok.frees y hy hf)
  rw [exec_Assign_Name_used _ _ _ _ hsw]
  refine wpAny_bind (wpAny_standAt (wpAny_bind ?_))
  show wpAny _ X.A (do let _ ← comprehension (.ListComp elt [⟨target,iter,[],0⟩] scope pos) scope X.env _ (newList []) false (eval iter X.env) (some (assign (.Name x pos') X.env))) _ _ s
  refine wpAny_bind (thn (wpAny_comprehension_free (use:=some (assign (.Name x pos') X.env)) (Q:=fun _ s'=>SP X pins D0 .next s') rfl hs hcl ok.kind ok.locs (thn (hi pins s σ H _ I h) fun v s1 h1=>thn h1 fun itv s2 h2=>?_)) fun _ s' hq=>wpAny_pure (wpAny_pure hq))
  refine lc_block (R:=fun acc C=>compPost (model X.prog X.w) X.A X.xe (some (assign (.Name x pos') X.env)) (fun _ s'=>SP X pins D0 .next s') acc C) (Q:=fun x H1=>gName i x σ H1 D0.nx) hc hg he hNx ok cl1 cl2 h2 ?_
  rintro D C H' s' v I' rfl q ⟨m,hm⟩ hn hL h0 hcl' hp
  show wpAny _ X.A (assign (.Name x pos') X.env (.ref D)) _ _ _
  refine wpAny_assign_Name (store_ok2 I' hN hix (.inl hx) (show RelV (.ref D) (.ref D) from rfl) (fun s'' I'' hch=>?_) (.inr hx))
  obtain ⟨a,hsb,ha⟩:=hch
  have haC:C≠a:=by
    rcases ha with z | z
    · rw [z]; exact hL
    · exact fun e=>hcl' _ _ z e.symm
  exact ⟨m,hm.sameBut hsb haC,fun h'' hs''=>⟨_,H',I''.turned (it:=C) (t':=s''.toks) (fun b o hb e=>(hs''.2 b hb).trans e) hn hL (.inr h0) hcl' hp,q⟩⟩
end
theorem relabel_vis {scope:Scope} {env:Env} {x:Str} (h:scope.names.lookup x=some .cell∨scope.names.lookup x=some .free):(relabel scope env).names.lookup x=some .cell∨(relabel scope env).names.lookup x=some .free:=by
  rcases h with h | h
  · refine .inl ?_
    unfold relabel
    show List.lookup x (scope.names.map _)=_
    generalize scope.names=l at h
    induction l with
    | nil=>simp at h
    | cons p r ih =>
      obtain ⟨n,k⟩:=p
      rw [List.map_cons]
      show List.lookup x ((if (k == NameKind.free && env.scope.kind == .function && env.kindOf n == some .cell)=true then (n,NameKind.cell) else (n,k))::_)=_
      cases hx:x == n with
      | true =>
        rw [List.lookup_cons,hx] at h
        have hk:k=.cell:=by simpa using h
        subst hk
        rw [if_neg (by rw [show (NameKind.cell == NameKind.free)=false from rfl]; simp),List.lookup_cons,hx]
      | false =>
        rw [List.lookup_cons,hx] at h
        split <;> rw [List.lookup_cons,hx] <;> exact ih h
  · exact relabel_free h
theorem BlkOk.nest {Nx:List Str} {sc scope:Scope} {env:Env} {ix:List Nat} (h:BlkOk Nx sc scope ix):BlkOk Nx (relabel sc env) scope ix :=
  ⟨h.kind,h.cells,h.locs,fun y hy z=>relabel_vis (h.frees y hy z),h.caps⟩

end L2
set_option Elab.async false
set_option linter.all false
set_option maxRecDepth 100000
namespace L2
open PySem PySem.Spec PyProof.Rows
mutual
/-- the value bears the datum -/
inductive Dn (H:Hp):V→PyData→Prop
  | non:Dn H .non .none
  | bl (b:Bool):Dn H (.bl b) (.bool b)
  | int (i:Int):Dn H (.int i) (.int i)
  | str (x:Str):Dn H (.str x) (.str x)
  | tup {a:Addr} {xs:List V} {ds:List PyData}:H a=some (.tup xs)→DnAll H xs ds→Dn H (.ref a) (.tuple ds)
  | lst {a:Addr} {xs:List V} {ds:List PyData}:H a=some (.lst xs)→DnAll H xs ds→Dn H (.ref a) (.list ds)
  | dct {a:Addr} {ks:List (Key×V)} {ds:List PyData}:H a=some (.dK ks)→DnAll H (ks.map (·.2)) ds→Dn H (.ref a) (.dict ((ks.map fun k=>match k.1 with | .inl i=>PyData.int i | .inr x=>PyData.str x).zip ds))
inductive DnAll (H:Hp):List V→List PyData→Prop
  | nil:DnAll H [] []
  | cons {v:V} {vs:List V} {d:PyData} {ds:List PyData}:Dn H v d→DnAll H vs ds→DnAll H (v::vs) (d::ds)
end
mutual
theorem Dn.mono {H H':Hp} (e:∀ b o,H b=some o→H' b=some o):∀ {v:V} {d:PyData},Dn H v d→Dn H' v d
  | _,_,.non=>.non
  | _,_,.bl b=>.bl b
  | _,_,.int i=>.int i
  | _,_,.str x=>.str x
  | _,_,.tup h r=>.tup (e _ _ h) (DnAll.mono e r)
  | _,_,.lst h r=>.lst (e _ _ h) (DnAll.mono e r)
  | _,_,.dct h r=>.dct (e _ _ h) (DnAll.mono e r)
theorem DnAll.mono {H H':Hp} (e:∀ b o,H b=some o→H' b=some o):∀ {vs:List V} {ds:List PyData},DnAll H vs ds→DnAll H' vs ds
  | _,_,.nil=>.nil
  | _,_,.cons r t=>.cons (Dn.mono e r) (DnAll.mono e t)
end
theorem DnAll.length {H:Hp} {vs:List V} {ds:List PyData} (h:DnAll H vs ds):vs.length=ds.length:=by
  induction vs generalizing ds with
  | nil=>cases h; rfl
  | cons v vs ih=>cases h with | cons r t=>exact congrArg (·+1) (ih t)
theorem DnAll.append {H:Hp} {vs ws:List V} {ds es:List PyData} (h:DnAll H vs ds) (s:DnAll H ws es):DnAll H (vs++ws) (ds++es):=by
  induction vs generalizing ds with
  | nil=>cases h; exact s
  | cons v vs ih=>cases h with | cons r t=>exact .cons r (ih t)

mutual
/-- data without dicts -/
theorem Dn.reads {P:Program} {w:World} {H:Hp} {h:Heap} (ok:HOk P w H h):∀ {v:V} {d:PyData} {u:Value},Dn H v d→d.hasDict=false→RelV v u→∃ as,Reads h u d as
  | _,_,_,.non,_,r=>by cases r; exact ⟨_,.none⟩
  | _,_,_,.bl b,_,r=>by cases r; exact ⟨_,.bool b⟩
  | _,_,_,.int i,_,r=>by obtain ⟨t,rfl⟩:=r; exact ⟨_,.int i t⟩
  | _,_,_,.str x,_,r=>by obtain ⟨t,rfl⟩:=r; exact ⟨_,.str x t⟩
  | _,_,_,.tup e rs,hd,r=>by
    cases r
    obtain ⟨z,its,rv,o,h1,h2,n,h3⟩:=ok _ _ e
    obtain ⟨as,q⟩:=DnAll.reads ok rs (by simpa [PyData.hasDict] using hd) rv
    exact ⟨_,.tuple h1 h2 h3 (by simpa using q)⟩
  | _,_,_,.lst e rs,hd,r=>by
    cases r
    obtain ⟨z,its,n,rv,h1⟩:=ok _ _ e
    obtain ⟨as,q⟩:=DnAll.reads ok rs (by simpa [PyData.hasDict] using hd) rv
    exact ⟨_,.list h1 rfl rfl (by simpa using q)⟩
  | _,_,_,.dct e rs,hd,r=>by simp [PyData.hasDict] at hd
theorem DnAll.reads {P:Program} {w:World} {H:Hp} {h:Heap} (ok:HOk P w H h):∀ {vs:List V} {ds:List PyData} {us:List Value},DnAll H vs ds→PyData.hasDictAll ds=false→Vals vs us→∃ as,ReadsAll h us ds as
  | _,_,_,.nil,_,r=>by cases r; exact ⟨_,.nil⟩
  | _,_,_,.cons p t,hd,r=>by
    cases r with
    | cons r1 r2 =>
      simp only [PyData.hasDictAll,Bool.or_eq_false_iff] at hd
      obtain ⟨as,q⟩:=Dn.reads ok p hd.1 r1
      obtain ⟨bs,q2⟩:=DnAll.reads ok t hd.2 r2
      exact ⟨_,.cons q q2⟩
end
section
variable {X:Cx}
theorem op_eqD {k:Nat} (hr:Room k X.A):OpR X (compareOp .Eq) (fun x y H Q=>∃ d e,Dn H x d∧Dn H y e∧SeqAt.shaped d=true∧SeqAt.shaped e=true∧Q (.bl (PyData.eqv d e)) H):=by
  intro pins s σ H x y v u Q I rx ry h
  obtain ⟨d,e,hd,he,sd,se,q⟩:=h
  obtain ⟨as,r1⟩:=Dn.reads I.hok hd (PyData.hasDict_of_canLay _ (SeqAt.canLay_of_shaped sd)) rx
  obtain ⟨bs,r2⟩:=Dn.reads I.hok he (PyData.hasDict_of_canLay _ (SeqAt.canLay_of_shaped se)) ry
  exact SeqAt.compareEq_shaped r1 r2 sd se hr.units ⟨.bl _,H,I,rfl,q⟩
theorem op_neD {k:Nat} (hr:Room k X.A):OpR X (compareOp .NotEq) (fun x y H Q=>∃ d e,Dn H x d∧Dn H y e∧SeqAt.shaped d=true∧SeqAt.shaped e=true∧Q (.bl (!PyData.eqv d e)) H):=by
  intro pins s σ H x y v u Q I rx ry h
  obtain ⟨d,e,hd,he,sd,se,q⟩:=h
  obtain ⟨as,r1⟩:=Dn.reads I.hok hd (PyData.hasDict_of_canLay _ (SeqAt.canLay_of_shaped sd)) rx
  obtain ⟨bs,r2⟩:=Dn.reads I.hok he (PyData.hasDict_of_canLay _ (SeqAt.canLay_of_shaped se)) ry
  exact SeqAt.compareNe_shaped r1 r2 sd se hr.units ⟨.bl _,H,I,rfl,q⟩

end
end L2
set_option Elab.async false
set_option linter.all false
set_option maxRecDepth 100000
namespace L2
open PySem PySem.Spec PyProof.Rows
structure Def (K:PySem.W.Frag) (mg:Str→Option Value) (x:Str) (st:Stmt) (ps:List Str):Prop where
  ex:∃ f fd,Fun K x x st f fd∧mg x=some (.ref f)∧Binds K fd ps []
structure Callee (P:Program) (w:World) (K:PySem.W.Frag) (mg:Str→Option Value) (base:Heap) (x:Str) (k:Nat) (ps:List Str) (sp:Sp):Prop where
  ex:∃ f fd,FnOk P w K mg base CX0 k f fd ps sp∧mg x=some (.ref f)∧PySem.W.keepIn K (.ref f)=true∧Binds K fd ps []

section
variable {P:Program} {w:World} {K:PySem.W.Frag} {mg:Str→Option Value} {base:Heap}
theorem Def.ok {x:Str} {st:Stmt} {N ps:List Str} {k:Nat} {sp:Sp} (D:Def K mg x st ps) (S:FnScope N ps (defScope st)) (len:∀ vs H Q E,sp vs H Q E→vs.length=ps.length)
    (hbody:∀ (f:Addr) (cdv:Value) (A:Around) (outer:List Env) (s:Shared) (H:Hp) (vs:List V) (Q:VK) (E:XK),Room k (A.deeper (envOfC x (defScope st) s.heap.objs.size f cdv))→sp vs H Q E →
      ∃ t,PSs (cxOf CX0 P w K mg base N x (defScope st) f cdv A outer s H E).nox (defBody st) t∧t { nx:=fun _ H'=>Q .non H',rt:=Q } (start N vs) H):Callee P w K mg base x (k+1) ps sp:=by
  obtain ⟨f,fd,F,hm,hb⟩:=D.ex
  exact ⟨f,fd,F.ok S len fun cdv A outer s H vs Q E hr h=>hbody f cdv A outer s H vs Q E hr h,hm,F.kp,hb⟩
theorem def_mk {x:Str} {st:Stmt} {ps:List Str} {h:Heap} {f:Addr} {oc:Value} {od an:Option Addr} {osl:Array (Option Value)} {kV doc pm cdv ct:Value} (X:K.In h) (G:h.Ns mainGlobals mg)
    (a:PySem.W.nsIn K mainGlobals x=some (some (.ref f))) (l:K.lookup f=some ⟨oc,od,.func (PySem.W.fnOf x x (defArgs st) (defBody st) (defScope st) .none kV doc pm an cdv ct),osl⟩)
    (c:PySem.W.codeIn K cdv x=true) (k:PySem.W.keepIn K (.ref f)=true)
    (hb:∀ (kV doc pm:Value) (an:Option Addr) (cdv ct:Value) (us:List Value),us.length=ps.length→bindArgs (PySem.W.fnOf x x (defArgs st) (defBody st) (defScope st) .none kV doc pm an cdv ct) ⟨us,[]⟩=pure (ps.zip us)):Def K mg x st ps:=by
  have F:=fun_mk (st:=st) l c k
  exact ⟨f,_,F,PySem.W.mg_of X G a,F.binds hb⟩
end
section
variable {X:Cx} {x:Str} {k:Nat} {ps:List Str} {sp:Sp} {e:Expr} {es:List Expr} {t:TA} {p pos:Pos}
theorem pe_callC (C:Callee X.prog X.w X.K X.mg X.base x k ps sp) (hr:Room k X.A) (hg:Gl X x) (ha:PA X (e::es) t) (hdb:(x == ("__debug__":Str))=false:=by decide)
    (he:starEach (e::es) X.env=(false,eval e X.env)::starEach es X.env:=by rfl) (hpl:(backTo pos (starEach es X.env)).any (·.1)=false:=by rfl):PE X (.Call (.Name x p) (e::es) [] pos) (tCall sp [] E0 t):=by
  obtain ⟨f,fd,F,hm,hk,hb⟩:=C.ex
  exact pe_call F hr hg hm hk hb .nil pass0 ha hdb he hpl
theorem pe_gint {i:Int} (hg:Gl X x) (h:∃ t,X.mg x=some (.int i t)) (hd:(x == ("__debug__":Str))=false:=by decide):PE X (.Name x pos) (tC (.int i)):=by
  obtain ⟨t,e⟩:=h
  exact pe_glob hg e ⟨t,rfl⟩ hd
end
noncomputable def tJoinS (t:TS):TS:=fun D σ H=>∃ J:St→Hp→Prop,t { D with nx:=J } σ H∧∀ σ' H',J σ' H'→D.nx σ' H'
noncomputable def tJoinT (t:TT):TT:=fun σ H Q=>∃ J:Bool→Hp→Prop,t σ H J∧∀ b H',J b H'→Q b H'
section
variable {X:Cx} {st:Stmt} {e:Expr}
theorem PS.join {t:TS} (h:PS X st t):PS X st (tJoinS t):=by
  rintro pins s σ H D I ⟨J,q,hJ⟩
  refine thn (h pins s σ H _ I q) fun f s' z=>?_
  cases f with
  | next=>obtain ⟨σ',H',I',q'⟩:=z; exact ⟨σ',H',I',hJ _ _ q'⟩
  | brk=>exact z
  | cont=>exact z
  | ret u=>exact z
theorem PT.join {t:TT} (h:PT X e t):PT X e (tJoinT t):=by
  rintro pins s σ H Q I ⟨J,q,hJ⟩
  refine thn (h pins s σ H _ I q) fun b s' ⟨H',I',q'⟩=>⟨H',I',hJ _ _ q'⟩
end
section
variable {H:Hp} {p c:Addr} {a l b:Int}
end
noncomputable def Kept (p:Addr) (H H':Hp):Prop:=∀ b o,H b=some o→b≠p→H' b=some o
theorem Kept.refl {p:Addr} {H:Hp}:Kept p H H:=fun _ _ h _=>h
theorem Kept.pen {p:Addr} {H H':Hp} {o:HO} (a:Kept p H H'):Kept p H (upd H' p o):=fun c u h n=>by
  rw [upd_ne n]
  exact a c u h n
theorem Same.new {q:Addr} {H H':Hp} {o:HO} (a:Same H H') (hq:H' q=none):Same H (upd H' q o):=fun c u h=>by
  have e:=a c u h
  rw [upd_ne (ne_of_none e hq)]
  exact e
end L2
set_option Elab.async false
set_option linter.all false
set_option maxRecDepth 100000
namespace L2
open PySem PySem.Spec PyProof.Rows
section
variable {prog:Program} {w:World} {A:Around} {E:Value→Shared→Prop} {s:Shared} {r:Addr} {a b c:Int} {t u v:Tok} {n:Nat}
end
section
variable {X:Cx}
theorem noFill_tup:fillsNumberSlot (.type "tuple") "mul"=pure false :=
  PySem.fillsNumberSlot_seq (id:="tuple.__mul__") (r:=some (.builtin "tuple.__rmul__")) PySem.F.slot_tuple_mul.lookup (by decide +kernel) PySem.F.slot_tuple_rmul.lookup (by decide +kernel)
theorem repeat_tup:seqRepeat? (.type "tuple")=pure (some (.builtin "tuple.__mul__")):=by
  unfold seqRepeat?
  rw [PySem.seqSlot_of (T:="tuple") (name:="__mul__") (id:="tuple.__mul__") PySem.F.slot_tuple_mul.lookup (by decide +kernel),PySem.seqSlot_of (T:="tuple") (name:="__rmul__") (id:="tuple.__rmul__") PySem.F.slot_tuple_rmul.lookup (by decide +kernel)]; rfl
theorem rmul_tup (x:Int) (t:Tok) (l:Addr) (items:Array Value) (n:Nat) (dd:Option Addr) (sl:Array (Option Value)) :
    Meets (Builtin.«int.__rmul__» ⟨[.int x t,.ref l],[]⟩) (fun _ R s=>s.heap.get? l=some { cls:=.type "tuple",dict:=dd,data:=.seq items n,slots:=sl }∧R (.ok (.ret Value.notImplemented)) s):=by
  refine .of_wp fun prog w A R s h=>?_
  obtain ⟨hp,g,d,tk,os⟩:=s
  obtain ⟨hl,h⟩:=h
  wp_walk
  exact ⟨_,rfl,h⟩
theorem mul_tup (x:Int) (t:Tok) (l:Addr) (items:Array Value) (n:Nat) (dd:Option Addr) (sl:Array (Option Value)) (h1:1 < x) (h2:x≤1000) (h3:items.isEmpty=false) (h4:items.size≤1000) :
    Meets (Builtin.«tuple.__mul__» ⟨[.ref l,.int x t],[]⟩) (fun _ R s=>s.heap.get? l=some { cls:=.type "tuple",dict:=dd,data:=.seq items n,slots:=sl } ∧
      R (.ok (.ret (.ref s.heap.objs.size))) { s with heap:=s.heap.push { cls:=.type "tuple",data:=.seq ((List.replicate x.toNat items).foldl (·++·) #[]) } }):=by
  refine .of_wp fun prog w A R s h=>?_
  obtain ⟨hp,g,d,tk,os⟩:=s
  obtain ⟨hl,h⟩:=h
  have hp0:0≤(items.size:Int) * x:=Int.mul_nonneg (by omega) (by omega)
  have hp1:(items.size:Int) * x≤1000 * 1000:=Int.mul_le_mul (by omega) h2 (by omega) (by omega)
  have hne:items.size≠0:=fun e=>by simp [Array.isEmpty,e] at h3
  wp_walk
  refine wpAny_ite_split (fun z=>absurd z (by simp; omega)) (fun _=>?_)
  refine wpAny_bind ?_
  unfold Builtin.Tuple.tupleItemsOf
  refine wpAny_bind (wpAny_seqItems hl rfl (wpAny_pure ?_))
  refine wpAny_ite_split (fun z=>absurd z (by rw [h3]; simp; omega)) (fun _=>?_)
  refine wpAny_ite_split (fun z=>absurd z (by rw [h3]; simp; omega)) (fun _=>?_)
  refine wpAny_ite_split (fun z=>absurd z (by omega)) (fun _=>?_)
  refine wpAny_ite_split (fun z=>absurd z (by unfold Builtin.Tuple.tupleTooMany; rw [sizeLine_eq]; simp; omega)) (fun _=>?_)
  unfold Builtin.Tuple.tupleExact
  have hlen:∀ k:Nat,((List.replicate k items).foldl (·++·) #[]).size=k * items.size:=fun k=>by
    have key:∀ (k:Nat) (acc:Array Value),((List.replicate k items).foldl (·++·) acc).size=acc.size+k * items.size:=by
      intro k
      induction k with
      | zero=>intro acc; simp
      | succ k ih =>
        intro acc
        rw [List.replicate_succ,List.foldl_cons,ih,Array.size_append,Nat.succ_mul]
        omega
    simpa using key k #[]
  refine wpAny_bind (wpAny_newObj_type (wpAny_pure ⟨_,rfl,h⟩) ?_)
  show ((List.replicate x.toNat items).foldl (·++·) #[]).size≤sizeLine
  rw [hlen,sizeLine_eq]
  have hx:x.toNat≤1000:=by omega
  exact Nat.le_trans (Nat.mul_le_mul hx h4) (by decide)
noncomputable def rRepT (K:PySem.W.Frag):R2:=fun x y H Q=>∃ a k xs,x=.ref a∧y=.int k∧SqT K H a xs∧1 < k∧k≤1000∧xs≠[]∧xs.length≤1000∧∀ p,H p=none→Q (.ref p) (upd H p (.tup (List.replicate k.toNat xs).flatten))
theorem vals_rep {xs:List V} {us:List Value} (r:Vals xs us):∀ k:Nat,Vals (List.replicate k xs).flatten (List.replicate k us).flatten
  | 0=>.nil
  | k+1=>by
    rw [List.replicate_succ,List.replicate_succ,List.flatten_cons,List.flatten_cons]
    exact r.append (vals_rep r k)
theorem op_repT:OpR X (binaryOp .Mult) (rRepT X.K):=by
  intro pins s σ H x y v u Q I rx ry h
  obtain ⟨a,k,xs,rfl,rfl,hq,h1,h2,hne,hl,q⟩:=h
  cases rx
  obtain ⟨t,rfl⟩:=ry
  obtain ⟨its,rv,p,hz⟩:=I.tuple hq
  obtain ⟨o,ho,hc,n,hd⟩:=p
  obtain ⟨oc,od,odd,osl⟩:=o
  have hc':oc=.type "tuple":=hc
  have hd':odd=.seq its.toArray n:=hd
  subst hc' hd'
  have hlen:=rv.length
  have hemp:its.toArray.isEmpty=false:=by
    cases its with
    | nil=>cases rv; exact absurd rfl hne
    | cons i r=>rfl
  have efl:(List.replicate k.toNat its.toArray).foldl (·++·) #[]=(List.replicate k.toNat its).flatten.toArray:=by
    have key:∀ (k:Nat) (acc:Array Value),(List.replicate k its.toArray).foldl (·++·) acc=acc++(List.replicate k its).flatten.toArray:=by
      intro k
      induction k with
      | zero=>intro acc; simp
      | succ k ih =>
        intro acc
        rw [List.replicate_succ,List.foldl_cons,ih,List.replicate_succ,List.flatten_cons]
        simp
    simpa using key k.toNat #[]
  refine wpAny_binaryOp_repeat_ref (T:="tuple") (U:="int") (by decide) ⟨_,ho,rfl⟩ (fun s'=>typeIs_int s' k t) noFill_tup PySem.F.fills_int_mul PySem.F.slot_int_rmul repeat_tup PySem.F.slot_int_index.lookup ?_
  refine call_meets PySem.F.slot_int_rmul (typeIs_int s k t) PySem.F.entry_int_rmul (PySem.F.args_int_rmul_2 _ _) (rmul_tup k t a its.toArray n od osl) ⟨ho,rfl,⟨_,ho,rfl⟩,?_⟩
  refine call_meets PySem.F.slot_tuple_mul ⟨_,ho,rfl⟩ PySem.F.entry_tuple_mul (PySem.F.args_tuple_mul_2 _ _) (mul_tup k t a its.toArray n od osl h1 h2 hemp (by rw [List.size_toArray]; omega)) ⟨ho,?_⟩
  rw [efl]
  have hzz:(List.replicate k.toNat xs).flatten.length≤sizeLine:=by
    have hx:k.toNat≤1000:=by omega
    have e:(List.replicate k.toNat xs).flatten.length=k.toNat * xs.length:=by simp
    rw [e,sizeLine_eq]
    exact Nat.le_trans (Nat.mul_le_mul hx hl) (by decide)
  exact ⟨.ref s.heap.objs.size,_,I.laid (t':=s.toks) (fun b o e=>Heap.get?_push_of_some _ e) (Nat.le_refl _) (show ObjOk X.prog X.w _ _ _ (.tup (List.replicate k.toNat xs).flatten) from ⟨hzz,_,vals_rep rv k.toNat,IsTup.new _ _⟩),rfl,q _ (I.hok.fresh (Nat.le_refl _))⟩
end
end L2
set_option Elab.async false
set_option linter.all false
set_option maxRecDepth 100000
namespace L2
open PySem PySem.Spec PyProof.Rows
theorem log_of_lt {n:Nat} (h:n < 2 ^ 1900):n.log2 < 1900:=by
  by_cases h0:n=0
  · rw [h0]; decide
  · exact (Nat.log2_lt h0).mpr h
theorem shown_int_len {i:Int} (h:i.natAbs < 2 ^ 1900):(PyData.int i).shown.length≤1901:=by
  have e:=int_text_length_le (k:=1900) (by decide) (log_of_lt h)
  have q:(Str.ofString (toString i)).length≤1901:=by rw [PySem.ofString_length]; exact e
  simpa [PyData.shown] using q
theorem shownAll_ints:∀ (ns:List Int),(∀ n∈ns,n.natAbs < 2 ^ 1900)→((PyData.shownAll (ns.map PyData.int)).map (·.length)).sum≤ns.length * 1901∧(PyData.shownAll (ns.map PyData.int)).length=ns.length
  | [],_=>⟨by simp [PyData.shownAll],rfl⟩
  | n::r,h=>by
    obtain ⟨h1,h2⟩:=shownAll_ints r fun x hx=>h x (List.mem_cons_of_mem _ hx)
    have h3:=shown_int_len (h n List.mem_cons_self)
    rw [List.map_cons,PyData.shownAll,List.map_cons,List.sum_cons,List.length_cons,List.length_cons,h2,Nat.succ_mul]
    exact ⟨by omega,rfl⟩
theorem showableAll_ints:∀ (ns:List Int),(∀ n∈ns,n.natAbs < 2 ^ 1900)→PyData.showableAll (ns.map PyData.int)=true
  | [],_=>rfl
  | n::r,h=>by
    rw [List.map_cons,PyData.showableAll,showableAll_ints r fun x hx=>h x (List.mem_cons_of_mem _ hx),Bool.and_true]
    have q:=log_of_lt (h n List.mem_cons_self)
    simp only [PyData.showable,decide_eq_true_eq]
    omega
noncomputable def rangeI (lo:Int) (n:Nat):List Int:=(List.range n).map fun (k:Nat)=>lo+(k:Int)
theorem rangeI_length (lo:Int) (n:Nat):(rangeI lo n).length=n:=by
  unfold rangeI
  rw [List.length_map,List.length_range]
end L2
set_option Elab.async false
set_option linter.all false
set_option maxRecDepth 100000
namespace L2
open PySem PySem.Spec PyProof.Rows
section
variable {X:Cx}
theorem op_isnotB:OpR X (compareOp .IsNot) (fun x y H Q=>∃ a b,x=.bl a∧y=.bl b∧Q (.bl (!(a == b))) H):=by
  intro pins s σ H x y v u Q I rx ry h
  obtain ⟨a,b,rfl,rfl,q⟩:=h
  cases rx
  cases ry
  refine wpAny_isNot_plain rfl ⟨.bl (!(a == b)),H,I,?_,q⟩
  cases a <;> cases b <;> rfl
theorem call_isi:CallR X (.builtin "isinstance") (fun xs H Q=>∃ x T t b,xs=[x,.ty T]∧TyOf X.K H x t∧PySem.W.kitOne X.K t (.type T)=some b∧Q (.bl b) H):=by
  intro pins s σ H xs us Q I r h
  obtain ⟨x,T,t,b,rfl,ty,e,q⟩:=h
  obtain ⟨u,c,rfl,ru,rc⟩:=vals2 r
  cases rc
  exact isinst_ok I ru ty e fun tk=>⟨.bl b,H,I.tok tk,rfl,q⟩
end
end L2
set_option Elab.async false
set_option linter.all false
set_option maxRecDepth 100000
namespace Gc
end Gc
set_option Elab.async false
set_option linter.all false
set_option maxRecDepth 100000
namespace L2
open PySem PySem.Spec PyProof.Rows
noncomputable def Codes (x:Str):Prop:=∀ c∈x.cps.toList,c < 16 ^ 8
theorem Codes.of (s:String):Codes (Str.ofString s):=by
  intro c hc
  rw [Str.ofString_eq_toList] at hc
  simp only [List.mem_map,List.toList_toArray] at hc
  obtain ⟨ch,_,rfl⟩:=hc
  exact Nat.lt_of_lt_of_le ch.val.toNat_lt (by decide)
end L2
set_option Elab.async false
set_option linter.all false
set_option maxRecDepth 100000
namespace L2
open PySem PySem.Spec PyProof.Rows
end L2
set_option Elab.async false
set_option linter.all false
set_option maxRecDepth 100000
namespace L2
open PySem PySem.Spec PyProof.Rows
inductive Tr (α:Type) where
  | ret (a:α)
  | draw (n:Int) (k:Int→Tr α)
  | fail
namespace Tr
variable {α β γ:Type}
noncomputable def bind:Tr α→(α→Tr β)→Tr β
  | .ret a,f=>f a
  | .draw n k,f=>.draw n fun r=>(k r).bind f
  | .fail,_=>.fail
@[simp] theorem ret_bind (a:α) (f:α→Tr β):(Tr.ret a).bind f=f a:=rfl
@[simp] theorem draw_bind (n:Int) (k:Int→Tr α) (f:α→Tr β):(Tr.draw n k).bind f=.draw n fun r=>(k r).bind f:=rfl
@[simp] theorem fail_bind (f:α→Tr β):(Tr.fail:Tr α).bind f=.fail:=rfl
@[simp] theorem bind_assoc:∀ (t:Tr α) (f:α→Tr β) (g:β→Tr γ),(t.bind f).bind g=t.bind fun a=>(f a).bind g
  | .ret a,f,g=>rfl
  | .draw n k,f,g=>by simp only [draw_bind]; congr 1; funext r; exact bind_assoc (k r) f g
  | .fail,f,g=>rfl
noncomputable def of:Option α→Tr α
  | some a=>.ret a
  | none=>.fail
@[simp] theorem of_some (a:α):Tr.of (some a)=.ret a:=rfl
@[simp] theorem of_none:Tr.of (none:Option α)=.fail:=rfl
noncomputable def ok:Tr α→Nat→(Nat→α→Prop)→Prop
  | .ret a,m,Q=>Q m a
  | .draw n k,m,Q=>m < 400000∧0 < n∧n < 1073741824∧∀ r,0≤r→r < n→(k r).ok (m+1) Q
  | .fail,_,_=>False
theorem ok_mono:∀ {t:Tr α} {m:Nat} {Q Q':Nat→α→Prop},t.ok m Q→(∀ m a,Q m a→Q' m a)→t.ok m Q'
  | .ret a,m,_,_,h,hq=>hq m a h
  | .draw n k,m,_,_,⟨h1,h2,h3,h⟩,hq=>⟨h1,h2,h3,fun r h0 h1=>ok_mono (h r h0 h1) hq⟩
theorem ok_bind:∀ {t:Tr α} {f:α→Tr β} {m:Nat} {Q:Nat→β→Prop},(t.bind f).ok m Q ↔ t.ok m fun m' a=>(f a).ok m' Q
  | .ret a,f,m,Q=>Iff.rfl
  | .draw n k,f,m,Q=>by
    show (_∧_∧_∧∀ r,_) ↔ (_∧_∧_∧∀ r,_)
    refine and_congr_right fun _=>and_congr_right fun _=>and_congr_right fun _=>forall_congr' fun r=>forall_congr' fun _=>forall_congr' fun _=>ok_bind
  | .fail,f,m,Q=>Iff.rfl
theorem ok_of {o:Option α} {m:Nat} {Q:Nat→α→Prop} (h:(Tr.of o).ok m Q):∃ a,o=some a∧Q m a:=by
  cases o with
  | none=>exact h.elim
  | some a=>exact ⟨a,rfl,h⟩
noncomputable def all:Tr α→Nat→(α→Prop)→Prop
  | .ret a,_,P=>P a
  | .draw w k,n+1,P=>0 < w∧w < 1073741824∧∀ r,0≤r→r < w→(k r).all n P
  | .draw _ _,0,_=>False
  | .fail,_,_=>False
theorem all_ok:∀ {t:Tr α} {n m:Nat} {P:α→Prop},t.all n P→m+n≤400000→t.ok m fun m' a=>m'≤m+n∧P a
  | .ret a,n,m,P,h,hm=>⟨by omega,h⟩
  | .draw w k,n+1,m,P,⟨h1,h2,h⟩,hm=>⟨by omega,h1,h2,fun r a b=>ok_mono (all_ok (h r a b) (by omega)) fun m' x hz0=>by
    obtain ⟨p,q⟩:=hz0
    exact ⟨by omega,q⟩⟩
theorem all_mono:∀ {t:Tr α} {n n':Nat} {P P':α→Prop},t.all n P→n≤n'→(∀ a,P a→P' a)→t.all n' P'
  | .ret a,n,n',P,P',h,hn,hp=>hp a h
  | .draw w k,n+1,n'+1,P,P',⟨h1,h2,h⟩,hn,hp=>⟨h1,h2,fun r a b=>all_mono (h r a b) (by omega) hp⟩
  | .draw w k,n+1,0,P,P',h,hn,hp=>by omega
theorem all_bind:∀ {t:Tr α} {f:α→Tr β} {n n':Nat} {P:α→Prop} {P':β→Prop},t.all n P→(∀ a,P a→(f a).all n' P')→(t.bind f).all (n+n') P'
  | .ret a,f,n,n',P,P',h,hf=>all_mono (hf a h) (by omega) fun _ x=>x
  | .draw w k,f,n+1,n',P,P',⟨h1,h2,h⟩,hf=>by
    have e:n+1+n'=(n+n')+1:=by omega
    rw [e]
    exact ⟨h1,h2,fun r a b=>all_bind (h r a b) hf⟩
end Tr
noncomputable abbrev Sub (G H:Hp):Prop:=∀ b o,G b=some o→H b=some o
structure Pk where
  is:HO→Hp→Nat→Prop
  mono:∀ {o:HO} {G G':Hp} {m:Nat},Sub G G'→is o G m→is o G' m
structure Wd (PK:Pk) (pa:Addr) (m:Nat) (G H:Hp):Prop where
  sub:Sub G H
  gpa:G pa=none
  pen:∃ o,H pa=some o∧PK.is o G m
structure Stp (pa:Addr) (G H G' H':Hp):Prop where
  gs:Sub G G'
  gn:∀ b o,G' b=some o→G b=some o∨H b=none
  hk:∀ b o,H b=some o→b≠pa→H' b=some o
theorem Stp.refl {pa:Addr} {G H:Hp}:Stp pa G H G H:=⟨fun _ _ h=>h,fun _ _ h=>.inl h,fun _ _ h _=>h⟩
theorem Stp.trans {pa:Addr} {G H G1 H1 G2 H2:Hp} (a:Stp pa G H G1 H1) (b:Stp pa G1 H1 G2 H2) (hp:∃ o,H1 pa=some o):Stp pa G H G2 H2:=by
  refine ⟨fun c o h=>b.gs c o (a.gs c o h),fun c o h=>?_,fun c o h n=>b.hk c o (a.hk c o h n) n⟩
  rcases b.gn c o h with z | z
  · exact a.gn c o z
  · refine .inr ?_
    cases e:H c with
    | none=>rfl
    | some u =>
      by_cases hc:c=pa
      · subst hc
        obtain ⟨o',z'⟩:=hp
        rw [z'] at z; cases z
      · rw [a.hk c u e hc] at z; cases z
section
variable {PK:Pk} {pa:Addr} {m:Nat} {G H:Hp}
theorem Wd.some (w:Wd PK pa m G H):∃ o,H pa=some o:=let ⟨o,h,_⟩:=w.pen; ⟨o,h⟩
theorem Wd.ne (w:Wd PK pa m G H) {p:Addr} (hp:H p=none):pa≠p:=fun e=>by
  obtain ⟨o,h⟩:=w.some
  rw [e,hp] at h; cases h
theorem Sub.new {p:Addr} {o:HO} (hp:G p=none):Sub G (upd G p o):=fun b u h=>by rw [upd_ne (ne_of_none h hp)]; exact h
theorem Wd.gnone (w:Wd PK pa m G H) {p:Addr} (hp:H p=none):G p=none:=by
  cases e:G p with
  | none=>rfl
  | some o=>rw [w.sub p o e] at hp; cases hp
theorem Sub.upd2 {p:Addr} {o:HO} (s:Sub G H):Sub (upd G p o) (upd H p o):=fun b u h=>by
  by_cases e:b=p
  · subst e; rw [upd_same] at h ⊢; exact h
  · rw [upd_ne e] at h ⊢; exact s b u h
theorem Wd.new (w:Wd PK pa m G H) {p:Addr} {o:HO} (hp:H p=none):Wd PK pa m (upd G p o) (upd H p o)∧Stp pa G H (upd G p o) (upd H p o):=by
  have hg:=w.gnone hp
  have hne:=w.ne hp
  refine ⟨⟨w.sub.upd2,by rw [upd_ne hne]; exact w.gpa,?_⟩,⟨Sub.new hg,fun b u h=>?_,fun b u h _=>by rw [upd_ne (ne_of_none h hp)]; exact h⟩⟩
  · obtain ⟨u,h,q⟩:=w.pen
    exact ⟨u,by rw [upd_ne hne]; exact h,PK.mono (Sub.new hg) q⟩
  · by_cases e:b=p
    · subst e; exact .inr hp
    · rw [upd_ne e] at h; exact .inl h
theorem Wd.own (w:Wd PK pa m G H) {p:Addr} {o:HO} (hp:H p=none):Wd PK pa m G (upd H p o)∧Stp pa G H G (upd H p o):=by
  have hne:=w.ne hp
  refine ⟨⟨fun b u h=>by rw [upd_ne (ne_of_none (w.sub b u h) hp)]; exact w.sub b u h,w.gpa,?_⟩,⟨fun _ _ h=>h,fun _ _ h=>.inl h,fun b u h _=>by rw [upd_ne (ne_of_none h hp)]; exact h⟩⟩
  obtain ⟨u,h,q⟩:=w.pen
  exact ⟨u,by rw [upd_ne hne]; exact h,q⟩
theorem Wd.freeze (w:Wd PK pa m G H) {p:Addr} {o:HO} (hp:H p=Option.some o) (hg:G p=none) (hne:pa≠p):Wd PK pa m (upd G p o) H:=by
  refine ⟨fun b u h=>?_,by rw [upd_ne hne]; exact w.gpa,?_⟩
  · by_cases e:b=p
    · subst e; rw [upd_same] at h; rw [hp]; exact h
    · rw [upd_ne e] at h; exact w.sub b u h
  · obtain ⟨u,h,q⟩:=w.pen
    exact ⟨u,h,PK.mono (Sub.new hg) q⟩

noncomputable def Kn (PK:Pk) (pa:Addr) (m:Nat) (G H:Hp) (x:PyData) (Q:VK):Prop:=∀ v G' H',Stp pa G H G' H'→Wd PK pa m G' H'→Dn G' v x→Q v H'
variable {x:PyData} {Q:VK} {v:V} {vs:List V} {ds:List PyData} {p:Addr}
theorem Kn.here (k:Kn PK pa m G H x Q) (w:Wd PK pa m G H) (d:Dn G v x):Q v H:=k v G H .refl w d
theorem Kn.tup (k:Kn PK pa m G H (.tuple ds) Q) (w:Wd PK pa m G H) (d:DnAll G vs ds) (hp:H p=none):Q (.ref p) (upd H p (.tup vs)):=by
  obtain ⟨w1,s1⟩:=w.new (o:=.tup vs) hp
  exact k _ _ _ s1 w1 (.tup upd_same (DnAll.mono s1.gs d))
theorem Kn.lst (k:Kn PK pa m G H (.list ds) Q) (w:Wd PK pa m G H) (d:DnAll G vs ds) (hp:H p=none):Q (.ref p) (upd H p (.lst vs)):=by
  obtain ⟨w1,s1⟩:=w.new (o:=.lst vs) hp
  exact k _ _ _ s1 w1 (.lst upd_same (DnAll.mono s1.gs d))
theorem Kn.later {G1 H1:Hp} (k:Kn PK pa m G H x Q) (s:Stp pa G H G1 H1) (hp:∃ o,H1 pa=Option.some o):Kn PK pa m G1 H1 x Q:=fun v G' H' s' w d=>k v G' H' (s.trans s' hp) w d
end
inductive Sl where
  | un | d (x:PyData) | own (xs:List PyData) | pen
inductive SlOk (pa:Addr) (H₀ G H:Hp):Option V→Sl→Prop
  | un {o:Option V}:SlOk pa H₀ G H o .un
  | d {v:V} {x:PyData}:Dn G v x→SlOk pa H₀ G H (some v) (.d x)
  | own {p:Addr} {vs:List V} {xs:List PyData}:H p=some (.lst vs)→G p=none→H₀ p=none→DnAll G vs xs→SlOk pa H₀ G H (some (.ref p)) (.own xs)
  | pen:SlOk pa H₀ G H (some (.ref pa)) .pen
structure Rl (PK:Pk) (pa:Addr) (G₀ H₀:Hp) (m:Nat) (σ:St) (ρ:List Sl) (G H:Hp):Prop where
  wd:Wd PK pa m G H
  st:Stp pa G₀ H₀ G H
  p0:∃ o,H₀ pa=some o
  sl:∀ (i:Nat) (s:Sl),ρ[i]?=some s→∃ o,σ[i]?=some o∧SlOk pa H₀ G H o s
  len:ρ.length=σ.length
  dj:∀ (i j:Nat) (xs ys:List PyData),i≠j→ρ[i]?=some (.own xs)→ρ[j]?=some (.own ys)→σ[i]?≠σ[j]?
section
variable {PK:Pk} {pa:Addr} {G₀ H₀ G H:Hp} {m:Nat} {σ:St} {ρ:List Sl}
theorem SlOk.step {G' H':Hp} {o:Option V} {s:Sl} (k:SlOk pa H₀ G H o s) (hp0:∃ o,H₀ pa=some o) (st:Stp pa G H G' H'):SlOk pa H₀ G' H' o s:=by
  cases k with
  | un=>exact .un
  | d h=>exact .d (h.mono st.gs)
  | pen=>exact .pen
  | @own p vs xs h1 h2 h3 h4 =>
    have hne:p≠pa:=fun e=>by
      obtain ⟨u,hu⟩:=hp0
      rw [← e,h3] at hu; cases hu
    refine .own (st.hk _ _ h1 hne) ?_ h3 (DnAll.mono st.gs h4)
    cases e:G' p with
    | none=>rfl
    | some u =>
      rcases st.gn p u e with z | z
      · rw [h2] at z; cases z
      · rw [h1] at z; cases z
theorem Rl.step {G' H':Hp} {m':Nat} (r:Rl PK pa G₀ H₀ m σ ρ G H) (s:Stp pa G H G' H') (w:Wd PK pa m' G' H'):Rl PK pa G₀ H₀ m' σ ρ G' H' :=
  ⟨w,r.st.trans s r.wd.some,r.p0,fun i sl h=>let ⟨o,h1,h2⟩:=r.sl i sl h; ⟨o,h1,h2.step r.p0 s⟩,r.len,r.dj⟩
theorem Rl.set (r:Rl PK pa G₀ H₀ m σ ρ G H) {v:V} {x:PyData} (d:Dn G v x) (k:Nat):Rl PK pa G₀ H₀ m (σ.set k (some v)) (ρ.set k (.d x)) G H:=by
  refine ⟨r.wd,r.st,r.p0,fun i s h=>?_,by rw [List.length_set,List.length_set]; exact r.len,fun i j xs ys hij h1 h2=>?_⟩
  · by_cases e:k=i
    · subst e
      have hl:k < ρ.length:=by
        have:=(List.getElem?_eq_some_iff.mp h).1
        rwa [List.length_set] at this
      rw [List.getElem?_set_self hl] at h
      cases h
      exact ⟨_,List.getElem?_set_self (by rw [← r.len]; exact hl),.d d⟩
    · rw [List.getElem?_set_ne e] at h ⊢
      exact r.sl i s h
  · have hi:k≠i:=fun e=>by
      subst e
      have hl:k < ρ.length:=by
        have:=(List.getElem?_eq_some_iff.mp h1).1
        rwa [List.length_set] at this
      rw [List.getElem?_set_self hl] at h1; cases h1
    have hj:k≠j:=fun e=>by
      subst e
      have hl:k < ρ.length:=by
        have:=(List.getElem?_eq_some_iff.mp h2).1
        rwa [List.length_set] at this
      rw [List.getElem?_set_self hl] at h2; cases h2
    rw [List.getElem?_set_ne hi] at h1 ⊢
    rw [List.getElem?_set_ne hj] at h2 ⊢
    exact r.dj i j xs ys hij h1 h2
theorem Rl.h0 (r:Rl PK pa G₀ H₀ m σ ρ G H) {p:Addr} (hp:H p=none):H₀ p=none:=by
  cases e:H₀ p with
  | none=>rfl
  | some u =>
    by_cases hc:p=pa
    · subst hc
      obtain ⟨o,h⟩:=r.wd.some
      rw [hp] at h; cases h
    · rw [r.st.hk p u e hc] at hp; cases hp
end
end L2
set_option Elab.async false
set_option linter.all false
set_option maxRecDepth 100000
namespace L2
open PySem PySem.Spec PyProof.Rows
noncomputable def TAe (PK:Pk) (i:List Sl→Tr PyData):TE:=fun σ H Q=>∃ pa G₀ H₀ m ρ G,Rl PK pa G₀ H₀ m σ ρ G H∧(i ρ).ok m fun m' x=>Kn PK pa m' G H x Q
noncomputable def TAt (PK:Pk) (i:List Sl→Tr Bool):TT:=fun σ H Q=>∃ pa G₀ H₀ m ρ G,Rl PK pa G₀ H₀ m σ ρ G H∧(i ρ).ok m fun m' b=>∀ G' H',Stp pa G H G' H'→Wd PK pa m' G' H'→Q b H'
noncomputable def TAd (PK:Pk) (i:List Sl→Tr (List PyData)):TA:=fun σ H Q=>∃ pa G₀ H₀ m ρ G,Rl PK pa G₀ H₀ m σ ρ G H∧(i ρ).ok m fun m' xs=>∀ vs G' H',Stp pa G H G' H'→Wd PK pa m' G' H'→DnAll G' vs xs→Q vs H'
noncomputable def Ko1 (PK:Pk) (pa:Addr) (m:Nat) (G H:Hp) (xs:List PyData) (Q:VK):Prop:=∀ p vs G' H',Stp pa G H G' H'→Wd PK pa m G' H'→H p=none→G' p=none→H' p=some (.lst vs)→DnAll G' vs xs→Q (.ref p) H'
noncomputable def TAo (PK:Pk) (i:List Sl→Tr (List PyData)):TE:=fun σ H Q=>∃ pa G₀ H₀ m ρ G,Rl PK pa G₀ H₀ m σ ρ G H∧(i ρ).ok m fun m' xs=>Ko1 PK pa m' G H xs Q
inductive ArOk (pa:Addr) (G:Hp):V→Sl→Prop
  | d {v:V} {x:PyData}:Dn G v x→ArOk pa G v (.d x)
  | pen:ArOk pa G (.ref pa) .pen
inductive ArsOk (pa:Addr) (G:Hp):List V→List Sl→Prop
  | nil:ArsOk pa G [] []
  | cons {v:V} {vs:List V} {s:Sl} {ss:List Sl}:ArOk pa G v s→ArsOk pa G vs ss→ArsOk pa G (v::vs) (s::ss)
theorem ArsOk.length {pa:Addr} {G:Hp} {vs:List V} {ss:List Sl} (h:ArsOk pa G vs ss):vs.length=ss.length:=by
  induction h with
  | nil=>rfl
  | cons h t ih=>exact congrArg (·+1) ih
noncomputable def TAa (PK:Pk) (i:List Sl→Tr (List Sl)):TA:=fun σ H Q=>∃ pa G₀ H₀ m ρ G,Rl PK pa G₀ H₀ m σ ρ G H∧(i ρ).ok m fun m' as=>∀ vs G' H',Stp pa G H G' H'→Wd PK pa m' G' H'→ArsOk pa G' vs as→Q vs H'

inductive Re where
  | d (x:PyData) | own (xs:List PyData)
noncomputable def Re.val:Re→PyData
  | .d x=>x
  | .own xs=>.list xs
@[simp] theorem Re.val_d (x:PyData):(Re.d x).val=x:=rfl
@[simp] theorem Re.val_own (xs:List PyData):(Re.own xs).val=.list xs:=rfl
inductive Ou where
  | next (ρ:List Sl) | ret (r:Re) | brk (ρ:List Sl) | cont (ρ:List Sl)
noncomputable def ReOk (H₀ G H:Hp) (v:V):Re→Prop
  | .d x=>Dn G v x
  | .own xs=>∃ p vs,v=.ref p∧H p=some (.lst vs)∧G p=none∧H₀ p=none∧DnAll G vs xs
noncomputable def Kr (PK:Pk) (pa:Addr) (m:Nat) (G₀ H₀:Hp) (r:Re) (Q:VK):Prop:=∀ v G H,Stp pa G₀ H₀ G H→Wd PK pa m G H→ReOk H₀ G H v r→Q v H
noncomputable def Ko (PK:Pk) (pa:Addr) (G₀ H₀ Gs:Hp) (D:Ends) (m:Nat):Ou→Prop
  | .next ρ=>∀ σ G H,Sub Gs G→Rl PK pa G₀ H₀ m σ ρ G H→D.nx σ H
  | .ret r=>Kr PK pa m G₀ H₀ r D.rt
  | .brk ρ=>∀ σ G H,Sub Gs G→Rl PK pa G₀ H₀ m σ ρ G H→D.bk σ H
  | .cont ρ=>∀ σ G H,Sub Gs G→Rl PK pa G₀ H₀ m σ ρ G H→D.ct σ H
noncomputable def TAs (PK:Pk) (i:List Sl→Tr Ou):TS:=fun D σ H=>∃ pa G₀ H₀ m ρ G,Rl PK pa G₀ H₀ m σ ρ G H∧(i ρ).ok m (Ko PK pa G₀ H₀ G D)

theorem PE.imp {X:Cx} {e:Expr} {t t':TE} (h:PE X e t) (q:∀ σ H Q,t' σ H Q→t σ H Q):PE X e t':=fun pins s σ H Q I z=>h pins s σ H Q I (q σ H Q z)
theorem PT.imp {X:Cx} {e:Expr} {t t':TT} (h:PT X e t) (q:∀ σ H Q,t' σ H Q→t σ H Q):PT X e t':=fun pins s σ H Q I z=>h pins s σ H Q I (q σ H Q z)
theorem PW.imp {X:Cx} {e:Expr} {t t':TT} (h:PW X e t) (q:∀ σ H Q,t' σ H Q→t σ H Q):PW X e t':=fun wh pins s σ H Q I z=>h wh pins s σ H Q I (q σ H Q z)
theorem PA.imp {X:Cx} {e:List Expr} {t t':TA} (h:PA X e t) (q:∀ σ H Q,t' σ H Q→t σ H Q):PA X e t':=fun pos pins s σ H Q I z=>h pos pins s σ H Q I (q σ H Q z)
theorem PS.imp {X:Cx} {e:Stmt} {t t':TS} (h:PS X e t) (q:∀ D σ H,t' D σ H→t D σ H):PS X e t':=fun pins s σ H D I z=>h pins s σ H D I (q D σ H z)
theorem PSs.imp {X:Cx} {e:List Stmt} {t t':TS} (h:PSs X e t) (q:∀ D σ H,t' D σ H→t D σ H):PSs X e t':=fun pins s σ H D I z=>h pins s σ H D I (q D σ H z)

variable {PK:Pk} {X:Cx} {a b c e:Expr} {es:List Expr} {pos:Pos} {i j l:List Sl→Tr PyData}
theorem TAe.then {σ:St} {H:Hp} {β:Type} {k:PyData→Tr β} {Z:Nat→β→Prop} {Q:VK} {pa:Addr} {G₀ H₀ G:Hp} {m:Nat} {ρ:List Sl} (R:Rl PK pa G₀ H₀ m σ ρ G H) (h:((i ρ).bind k).ok m Z)
    (hq:∀ m1 x v G1 H1,Stp pa G H G1 H1→Wd PK pa m1 G1 H1→Rl PK pa G₀ H₀ m1 σ ρ G1 H1→Dn G1 v x→(k x).ok m1 Z→Q v H1):TAe PK i σ H Q:=by
  refine ⟨pa,G₀,H₀,m,ρ,G,R,Tr.ok_mono (Tr.ok_bind.mp h) fun m1 x hx v G1 H1 s1 w1 d1=>?_⟩
  exact hq m1 x v G1 H1 s1 w1 (R.step s1 w1) d1 hx

noncomputable def aVar (k:Nat):List Sl→Tr PyData:=fun ρ=>match ρ[k]? with
  | some (.d x)=>.ret x
  | _=>.fail
noncomputable def aC (d:PyData):List Sl→Tr PyData:=fun _=>.ret d
theorem ae_var {k:Nat} (h:PE X e (tVar k)):PE X e (TAe PK (aVar k)):=h.imp fun σ H Q hz0=>by
  obtain ⟨pa,G₀,H₀,m,ρ,G,R,q⟩:=hz0
  unfold aVar at q
  split at q
  · rename_i x hx
    obtain ⟨o,h1,h2⟩:=R.sl k _ hx
    cases h2 with
    | d z=>exact ⟨_,h1,Kn.here q R.wd z⟩
  · exact q.elim
theorem ae_c {v:V} {d:PyData} (h:PE X e (tC v)) (hd:∀ G,Dn G v d):PE X e (TAe PK (aC d)):=h.imp fun σ H Q hz0=>by
  obtain ⟨pa,G₀,H₀,m,ρ,G,R,q⟩:=hz0
  exact Kn.here q R.wd (hd G)
theorem ae_int {n:Int} {k pos}:PE X (.Constant (.int n) k pos) (TAe PK (aC (.int n))):=ae_c pe_int fun _=>.int n
theorem ae_bl {n:Bool} {k pos}:PE X (.Constant (.bool n) k pos) (TAe PK (aC (.bool n))):=ae_c pe_bl fun _=>.bl n
theorem ae_non {k pos}:PE X (.Constant .none k pos) (TAe PK (aC .none)):=ae_c pe_non fun _=>.non
theorem ae_str {x:Str} {k pos}:PE X (.Constant (.str x) k pos) (TAe PK (aC (.str x))):=ae_c pe_str fun _=>.str x
theorem ae_gint {x:Str} {n:Int} (hg:Gl X x) (h:∃ t,X.mg x=some (.int n t)) (hd:(x == ("__debug__":Str))=false:=by decide):PE X (.Name x pos) (TAe PK (aC (.int n))):=ae_c (pe_gint hg h hd) fun _=>.int n

noncomputable def VOp2 (r:R2) (f:PyData→PyData→Option PyData):Prop:=∀ (PK:Pk) (pa:Addr) (m:Nat) (G H:Hp) (x y:V) (dx dy dz:PyData) (Q:VK),Wd PK pa m G H→Dn G x dx→Dn G y dy→f dx dy=some dz→Kn PK pa m G H dz Q→r x y H Q
noncomputable def aBin (f:PyData→PyData→Option PyData) (i j:List Sl→Tr PyData):List Sl→Tr PyData:=fun ρ=>(i ρ).bind fun x=>(j ρ).bind fun y=>Tr.of (f x y)
theorem aBin_read {r:R2} {f:PyData→PyData→Option PyData} (hv:VOp2 r f):∀ σ H Q,TAe PK (aBin f i j) σ H Q→tOp r (TAe PK i) (TAe PK j) σ H Q:=by
  rintro σ H Q ⟨pa,G₀,H₀,m,ρ,G,R,q⟩
  refine TAe.then R q fun m1 x v G1 H1 s1 w1 R1 d1 q1=>?_
  refine TAe.then R1 q1 fun m2 y u G2 H2 s2 w2 R2 d2 q2=>?_
  obtain ⟨z,hz,k⟩:=Tr.ok_of q2
  exact hv PK pa m2 G2 H2 v u x y z Q w2 (d1.mono s2.gs) d2 hz (Kn.later k (s1.trans s2 w1.some) w2.some)
theorem ae_op {op:Operator} {r:R2} {f:PyData→PyData→Option PyData} (ho:OpR X (binaryOp op) r) (hv:VOp2 r f) (ha:PE X a (TAe PK i)) (hb:PE X b (TAe PK j)):PE X (.BinOp a op b pos) (TAe PK (aBin f i j)) :=
  (pe_op ho ha hb).imp (aBin_read hv)
theorem ae_cmp {op:CmpOp} {r:R2} {f:PyData→PyData→Option PyData} (ho:OpR X (compareOp op) r) (hv:VOp2 r f) (ha:PE X a (TAe PK i)) (hb:PE X b (TAe PK j)) (hm:behindInMarks op b=false):PE X (.Compare a [op] [b] pos) (TAe PK (aBin f i j)) :=
  (pe_cmpR ho ha hb hm).imp (aBin_read hv)
theorem ae_ix {r:R2} {f:PyData→PyData→Option PyData} (hr:IxR X r) (hv:VOp2 r f) (ha:PE X a (TAe PK i)) (hb:PE X b (TAe PK j)) (hs:PlainIx b):PE X (.Subscript a b pos) (TAe PK (aBin f i j)) :=
  (pe_ix hr ha hb hs).imp (aBin_read hv)
noncomputable def toB:PyData→Option Bool
  | .bool b=>some b
  | _=>none
@[simp] theorem toB_bool (b:Bool):toB (.bool b)=some b:=rfl
noncomputable def aTest (i:List Sl→Tr PyData):List Sl→Tr Bool:=fun ρ=>(i ρ).bind fun x=>Tr.of (toB x)
theorem aTest_read:∀ σ H Q,TAt PK (aTest i) σ H Q→tTest (TAe PK i) σ H Q:=by
  rintro σ H Q ⟨pa,G₀,H₀,m,ρ,G,R,q⟩
  refine TAe.then R q fun m1 x v G1 H1 s1 w1 R1 d1 q1=>?_
  obtain ⟨b,hb,k⟩:=Tr.ok_of q1
  cases d1 <;> simp only [toB] at hb <;> cases hb
  exact ⟨_,rfl,k G1 H1 s1 w1⟩
theorem tTest_mono {t t':TE} (h:∀ σ H Q,t' σ H Q→t σ H Q):∀ σ H Q,tTest t' σ H Q→tTest t σ H Q:=fun σ H Q z=>h σ H _ z
theorem at_cmp {op:CmpOp} {r:R2} {f:PyData→PyData→Option PyData} (ho:OpR X (compareOp op) r) (hv:VOp2 r f) (ha:PE X a (TAe PK i)) (hb:PE X b (TAe PK j)) (hm:behindInMarks op b=false):PT X (.Compare a [op] [b] pos) (TAt PK (aTest (aBin f i j))) :=
  (pt_cmpR ho ha hb hm).imp fun σ H Q z=>tTest_mono (aBin_read hv) σ H Q (aTest_read σ H Q z)
noncomputable def truD:PyData→Option Bool
  | .bool b=>some b
  | .int n=>some (n != 0)
  | .none=>some false
  | .list xs=>some (!xs.isEmpty)
  | .tuple xs=>some (!xs.isEmpty)
  | _=>none
noncomputable def aTru (i:List Sl→Tr PyData):List Sl→Tr Bool:=fun ρ=>(i ρ).bind fun x=>Tr.of (truD x)
theorem DnAll.isEmpty {H:Hp} {vs:List V} {ds:List PyData} (h:DnAll H vs ds):vs.isEmpty=ds.isEmpty:=by
  cases h <;> rfl
theorem at_tru (h:PE X e (TAe PK i)) (he:∀ whole,isTrue e X.env whole=(do let v ← whole; standAt e.pos; holding [v] (truthy v)):=by intro _; rfl):PT X e (TAt PK (aTru i)):=(pt_truth h he).imp fun σ H Q hz0=>by
  obtain ⟨pa,G₀,H₀,m,ρ,G,R,q⟩:=hz0
  refine TAe.then R q fun m1 x v G1 H1 s1 w1 R1 d1 q1=>?_
  obtain ⟨b,hb,k⟩:=Tr.ok_of q1
  have fin:=k G1 H1 s1 w1
  cases d1 with
  | non=>cases hb; exact ⟨_,rfl,fin⟩
  | bl b=>cases hb; exact ⟨_,rfl,fin⟩
  | int n=>cases hb; exact ⟨_,rfl,fin⟩
  | str _=>cases hb
  | tup h1 h2=>cases hb; exact ⟨_,.inr (.inl ⟨_,SqT.of (w1.sub _ _ h1),rfl⟩),by rw [h2.isEmpty]; exact fin⟩
  | lst h1 h2=>cases hb; exact ⟨_,.inl ⟨_,SqL.of (w1.sub _ _ h1),rfl⟩,by rw [h2.isEmpty]; exact fin⟩
  | dct _ _=>cases hb

noncomputable def aAnd (i j:List Sl→Tr Bool):List Sl→Tr Bool:=fun ρ=>(i ρ).bind fun x=>if x=true then j ρ else .ret false
noncomputable def aOr (i j:List Sl→Tr Bool):List Sl→Tr Bool:=fun ρ=>(i ρ).bind fun x=>if x=true then .ret true else j ρ
noncomputable def aNot (i:List Sl→Tr Bool):List Sl→Tr Bool:=fun ρ=>(i ρ).bind fun x=>.ret (!x)
variable {p q:List Sl→Tr Bool} {rest:List Expr}
theorem TAt.then {σ:St} {H:Hp} {β:Type} {k:Bool→Tr β} {Z:Nat→β→Prop} {Q:Bool→Hp→Prop} {pa:Addr} {G₀ H₀ G:Hp} {m:Nat} {ρ:List Sl} (R:Rl PK pa G₀ H₀ m σ ρ G H) (h:((p ρ).bind k).ok m Z)
    (hq:∀ m1 x G1 H1,Stp pa G H G1 H1→Wd PK pa m1 G1 H1→Rl PK pa G₀ H₀ m1 σ ρ G1 H1→(k x).ok m1 Z→Q x H1):TAt PK p σ H Q:=by
  refine ⟨pa,G₀,H₀,m,ρ,G,R,Tr.ok_mono (Tr.ok_bind.mp h) fun m1 x hx G1 H1 s1 w1=>?_⟩
  exact hq m1 x G1 H1 s1 w1 (R.step s1 w1) hx
theorem at_later {G₀ H₀ G H G1 H1:Hp} {m:Nat} {σ:St} {ρ:List Sl} {pa:Addr} {Q:Bool→Hp→Prop} (R1:Rl PK pa G₀ H₀ m σ ρ G1 H1) (s1:Stp pa G H G1 H1) (h:(q ρ).ok m fun m' b=>∀ G' H',Stp pa G H G' H'→Wd PK pa m' G' H'→Q b H'):TAt PK q σ H1 Q :=
  ⟨pa,G₀,H₀,m,ρ,G1,R1,Tr.ok_mono h fun m2 b k G2 H2 s2 w2=>k G2 H2 (s1.trans s2 R1.wd.some) w2⟩
theorem ae_later {G₀ H₀ G H G1 H1:Hp} {m:Nat} {σ:St} {ρ:List Sl} {pa:Addr} {Q:VK} (R1:Rl PK pa G₀ H₀ m σ ρ G1 H1) (s1:Stp pa G H G1 H1) (h:(i ρ).ok m fun m' x=>Kn PK pa m' G H x Q):TAe PK i σ H1 Q :=
  ⟨pa,G₀,H₀,m,ρ,G1,R1,Tr.ok_mono h fun m2 b k=>Kn.later k s1 R1.wd.some⟩
theorem aw_and1 (ha:PT X a (TAt PK p)):PW X (.BoolOp .And [a] pos) (TAt PK p):=pw_and1 ha
theorem aw_or1 (ha:PT X a (TAt PK p)):PW X (.BoolOp .Or [a] pos) (TAt PK p):=pw_or1 ha
theorem aw_and (ha:PT X a (TAt PK p)) (hb:PW X (.BoolOp .And (b::rest) pos) (TAt PK q)):PW X (.BoolOp .And (a::b::rest) pos) (TAt PK (aAnd p q)):=(pw_and ha hb).imp fun σ H Q hz0=>by
  obtain ⟨pa,G₀,H₀,m,ρ,G,R,z⟩:=hz0
  refine TAt.then R z fun m1 x G1 H1 s1 w1 R1 q1=>?_
  cases x with
  | true=>rw [if_pos rfl] at q1 ⊢; exact at_later R1 s1 q1
  | false=>rw [if_neg Bool.false_ne_true] at q1 ⊢; exact q1 G1 H1 s1 w1
theorem aw_or (ha:PT X a (TAt PK p)) (hb:PW X (.BoolOp .Or (b::rest) pos) (TAt PK q)):PW X (.BoolOp .Or (a::b::rest) pos) (TAt PK (aOr p q)):=(pw_or ha hb).imp fun σ H Q hz0=>by
  obtain ⟨pa,G₀,H₀,m,ρ,G,R,z⟩:=hz0
  refine TAt.then R z fun m1 x G1 H1 s1 w1 R1 q1=>?_
  cases x with
  | true=>rw [if_pos rfl] at q1 ⊢; exact q1 G1 H1 s1 w1
  | false=>rw [if_neg Bool.false_ne_true] at q1 ⊢; exact at_later R1 s1 q1
theorem at_w (h:PW X e (TAt PK p)):PT X e (TAt PK p):=h.pt
theorem at_not (ha:PT X a (TAt PK p)):PT X (.UnaryOp .Not a pos) (TAt PK (aNot p)):=(pt_not ha).imp fun σ H Q hz0=>by
  obtain ⟨pa,G₀,H₀,m,ρ,G,R,z⟩:=hz0
  refine TAt.then R z fun m1 x G1 H1 s1 w1 R1 q1=>?_
  exact q1 G1 H1 s1 w1
noncomputable def aAndV (i j:List Sl→Tr PyData):List Sl→Tr PyData:=fun ρ=>(aTest i ρ).bind fun x=>if x=true then j ρ else .ret (.bool false)
noncomputable def aNotV (i:List Sl→Tr PyData):List Sl→Tr PyData:=fun ρ=>(aTest i ρ).bind fun x=>.ret (.bool (!x))
theorem TAe.thenB {σ:St} {H:Hp} {β:Type} {k:Bool→Tr β} {Z:Nat→β→Prop} {Q:VK} {pa:Addr} {G₀ H₀ G:Hp} {m:Nat} {ρ:List Sl} (R:Rl PK pa G₀ H₀ m σ ρ G H) (h:((aTest i ρ).bind k).ok m Z)
    (hq:∀ m1 c G1 H1,Stp pa G H G1 H1→Wd PK pa m1 G1 H1→Rl PK pa G₀ H₀ m1 σ ρ G1 H1→(k c).ok m1 Z→Q (.bl c) H1):TAe PK i σ H Q:=by
  unfold aTest at h
  rw [Tr.bind_assoc] at h
  refine TAe.then R h fun m1 x v G1 H1 s1 w1 R1 d1 q1=>?_
  rw [Tr.ok_bind] at q1
  obtain ⟨c,hb,q1⟩:=Tr.ok_of q1
  cases d1 <;> simp only [toB] at hb <;> cases hb
  exact hq m1 _ G1 H1 s1 w1 R1 q1
theorem ae_one {op} (h:PE X a (TAe PK i)):PE X (.BoolOp op [a] pos) (TAe PK i):=pe_one h
theorem ae_and (ha:PE X a (TAe PK i)) (hb:PE X (.BoolOp .And (b::rest) pos) (TAe PK j)):PE X (.BoolOp .And (a::b::rest) pos) (TAe PK (aAndV i j)):=(pe_and ha hb).imp fun σ H Q hz0=>by
  obtain ⟨pa,G₀,H₀,m,ρ,G,R,z⟩:=hz0
  refine TAe.thenB R z fun m1 x G1 H1 s1 w1 R1 q1=>⟨x,rfl,?_⟩
  cases x with
  | true=>rw [if_pos rfl] at q1 ⊢; exact ae_later R1 s1 q1
  | false=>rw [if_neg Bool.false_ne_true] at q1 ⊢; exact (Kn.later q1 s1 w1.some).here w1 (.bl false)
theorem ae_not (ha:PE X a (TAe PK i)):PE X (.UnaryOp .Not a pos) (TAe PK (aNotV i)):=(pe_not ha).imp fun σ H Q hz0=>by
  obtain ⟨pa,G₀,H₀,m,ρ,G,R,z⟩:=hz0
  refine TAe.thenB R z fun m1 x G1 H1 s1 w1 R1 q1=>⟨x,rfl,?_⟩
  exact (Kn.later q1 s1 w1.some).here w1 (.bl _)
variable {is:List Sl→Tr (List PyData)}
noncomputable def aNil:List Sl→Tr (List PyData):=fun _=>.ret []
noncomputable def aCons (i:List Sl→Tr PyData) (is:List Sl→Tr (List PyData)):List Sl→Tr (List PyData):=fun ρ=>(i ρ).bind fun x=>(is ρ).bind fun xs=>.ret (x::xs)
theorem ad_nil:PA X [] (TAd PK aNil):=pa_nil.imp fun σ H Q hz0=>by
  obtain ⟨pa,G₀,H₀,m,ρ,G,R,z⟩:=hz0
  exact z [] G H .refl R.wd .nil
theorem TAd.then {σ:St} {H:Hp} {β:Type} {k:List PyData→Tr β} {Z:Nat→β→Prop} {Q:List V→Hp→Prop} {pa:Addr} {G₀ H₀ G:Hp} {m:Nat} {ρ:List Sl} (R:Rl PK pa G₀ H₀ m σ ρ G H) (h:((is ρ).bind k).ok m Z)
    (hq:∀ m1 xs vs G1 H1,Stp pa G H G1 H1→Wd PK pa m1 G1 H1→Rl PK pa G₀ H₀ m1 σ ρ G1 H1→DnAll G1 vs xs→(k xs).ok m1 Z→Q vs H1):TAd PK is σ H Q:=by
  refine ⟨pa,G₀,H₀,m,ρ,G,R,Tr.ok_mono (Tr.ok_bind.mp h) fun m1 x hx v G1 H1 s1 w1 d1=>?_⟩
  exact hq m1 x v G1 H1 s1 w1 (R.step s1 w1) d1 hx
theorem ad_cons (ha:PE X e (TAe PK i)) (hr:PA X es (TAd PK is)) (hs:starEach (e::es) X.env=(false,eval e X.env)::starEach es X.env:=by rfl):PA X (e::es) (TAd PK (aCons i is)):=(pa_cons ha hr hs).imp fun σ H Q hz0=>by
  obtain ⟨pa,G₀,H₀,m,ρ,G,R,z⟩:=hz0
  refine TAe.then R z fun m1 x v G1 H1 s1 w1 R1 d1 q1=>?_
  refine TAd.then R1 q1 fun m2 xs vs G2 H2 s2 w2 R2 d2 q2=>?_
  exact q2 _ _ _ (s1.trans s2 w1.some) w2 (.cons (d1.mono s2.gs) d2)
noncomputable def small (n:Nat):Bool:=decide (n≤sizeLine)
noncomputable def aTup (is:List Sl→Tr (List PyData)):List Sl→Tr PyData:=fun ρ=>(is ρ).bind fun xs=>if small xs.length=true then .ret (.tuple xs) else .fail
noncomputable def aLst (is:List Sl→Tr (List PyData)):List Sl→Tr PyData:=fun ρ=>(is ρ).bind fun xs=>.ret (.list xs)
noncomputable def aLo (is:List Sl→Tr (List PyData)):List Sl→Tr (List PyData):=fun ρ=>(is ρ).bind fun xs=>if small xs.length=true then .ret xs else .fail
theorem ok_if {α:Type} {c:Bool} {t:Tr α} {m:Nat} {Q:Nat→α→Prop} (h:(if c=true then t else .fail).ok m Q):c=true∧t.ok m Q:=by
  cases c with
  | true=>exact ⟨rfl,h⟩
  | false=>exact h.elim
theorem ae_tup {x1} (h:PA X es (TAd PK is)):PE X (.Tuple es x1 pos) (TAe PK (aTup is)):=(pe_tup h).imp fun σ H Q hz0=>by
  obtain ⟨pa,G₀,H₀,m,ρ,G,R,z⟩:=hz0
  refine TAd.then R z fun m1 xs vs G1 H1 s1 w1 R1 d1 q1=>?_
  obtain ⟨hs,k⟩:=ok_if q1
  exact ⟨by rw [d1.length]; exact of_decide_eq_true hs,fun p hp=>(Kn.later k s1 w1.some).tup w1 d1 hp⟩
theorem Ko1.new {pa:Addr} {m:Nat} {G H:Hp} {xs:List PyData} {vs:List V} {Q:VK} {p:Addr} (k:Ko1 PK pa m G H xs Q) (w:Wd PK pa m G H) (d:DnAll G vs xs) (hp:H p=none):Q (.ref p) (upd H p (.lst vs)):=by
  obtain ⟨w1,s1⟩:=w.own (o:=.lst vs) hp
  exact k p vs G _ s1 w1 hp (w.gnone hp) upd_same d
theorem Ko1.later {pa:Addr} {m:Nat} {G H G1 H1:Hp} {xs:List PyData} {Q:VK} (k:Ko1 PK pa m G H xs Q) (s:Stp pa G H G1 H1) (hp:∃ o,H1 pa=some o):Ko1 PK pa m G1 H1 xs Q:=fun p vs G' H' s' w' h1 h2 h3 h4=>by
  refine k p vs G' H' (s.trans s' hp) w' ?_ h2 h3 h4
  cases e:H p with
  | none=>rfl
  | some u =>
    by_cases hc:p=pa
    · subst hc
      obtain ⟨o,z⟩:=hp
      rw [h1] at z; cases z
    · rw [s.hk p u e hc] at h1; cases h1
theorem ao_lst (h:PA X es (TAd PK is)):PE X (.List es pos) (TAo PK (aLo is)):=(pe_lst h).imp fun σ H Q hz0=>by
  obtain ⟨pa,G₀,H₀,m,ρ,G,R,z⟩:=hz0
  refine TAd.then R z fun m1 xs vs G1 H1 s1 w1 R1 d1 q1=>?_
  obtain ⟨hs,k⟩:=ok_if q1
  exact ⟨by rw [d1.length]; exact of_decide_eq_true hs,fun p hp=>(Ko1.later k s1 w1.some).new w1 d1 hp⟩
theorem Ko1.of {pa:Addr} {m:Nat} {G H:Hp} {xs:List PyData} {Q:VK} (k:Kn PK pa m G H (.list xs) Q) (hp:∃ o,H pa=some o):Ko1 PK pa m G H xs Q:=fun p vs G' H' s w h1 h2 h3 h4=>by
  have hne:pa≠p:=fun e=>by
    obtain ⟨o,z⟩:=hp
    rw [e,h1] at z; cases z
  have sb:Sub G' (upd G' p (.lst vs)):=Sub.new h2
  refine k _ (upd G' p (.lst vs)) H' ⟨fun b o h=>sb b o (s.gs b o h),fun b o h=>?_,s.hk⟩ (w.freeze h3 h2 hne) (.lst upd_same (DnAll.mono sb h4))
  by_cases e:b=p
  · subst e; exact .inr h1
  · rw [upd_ne e] at h; exact s.gn b o h
theorem ae_o (h:PE X e (TAo PK is)):PE X e (TAe PK (aLst is)):=h.imp fun σ H Q hz0=>by
  obtain ⟨pa,G₀,H₀,m,ρ,G,R,z⟩:=hz0
  refine ⟨pa,G₀,H₀,m,ρ,G,R,Tr.ok_mono (Tr.ok_bind.mp z) fun m1 xs k=>Ko1.of k R.wd.some⟩

noncomputable def VCl (r:List V→Hp→VK→Prop) (f:List PyData→Option PyData):Prop:=∀ (PK:Pk) (pa:Addr) (m:Nat) (G H:Hp) (vs:List V) (ds:List PyData) (d:PyData) (Q:VK),Wd PK pa m G H→DnAll G vs ds→f ds=some d→Kn PK pa m G H d Q→r vs H Q
noncomputable def VClo (r:List V→Hp→VK→Prop) (f:List PyData→Option (List PyData)):Prop:=∀ (PK:Pk) (pa:Addr) (m:Nat) (G H:Hp) (vs:List V) (ds:List PyData) (d:List PyData) (Q:VK),Wd PK pa m G H→DnAll G vs ds→f ds=some d→Ko1 PK pa m G H d Q→r vs H Q
noncomputable def aCB (f:List PyData→Option PyData) (is:List Sl→Tr (List PyData)):List Sl→Tr PyData:=fun ρ=>(is ρ).bind fun xs=>Tr.of (f xs)
noncomputable def aCBo (f:List PyData→Option (List PyData)) (is:List Sl→Tr (List PyData)):List Sl→Tr (List PyData):=fun ρ=>(is ρ).bind fun xs=>Tr.of (f xs)
theorem aCB_read {r:List V→Hp→VK→Prop} {f:List PyData→Option PyData} (hv:VCl r f):∀ σ H Q,TAe PK (aCB f is) σ H Q→tCB r (TAd PK is) σ H Q:=by
  rintro σ H Q ⟨pa,G₀,H₀,m,ρ,G,R,z⟩
  refine TAd.then R z fun m1 xs vs G1 H1 s1 w1 R1 d1 q1=>?_
  obtain ⟨d,hd,k⟩:=Tr.ok_of q1
  exact hv PK pa m1 G1 H1 vs xs d Q w1 d1 hd (Kn.later k s1 w1.some)
theorem aCBo_read {r:List V→Hp→VK→Prop} {f:List PyData→Option (List PyData)} (hv:VClo r f):∀ σ H Q,TAo PK (aCBo f is) σ H Q→tCB r (TAd PK is) σ H Q:=by
  rintro σ H Q ⟨pa,G₀,H₀,m,ρ,G,R,z⟩
  refine TAd.then R z fun m1 xs vs G1 H1 s1 w1 R1 d1 q1=>?_
  obtain ⟨d,hd,k⟩:=Tr.ok_of q1
  exact hv PK pa m1 G1 H1 vs xs d Q w1 d1 hd (Ko1.later k s1 w1.some)
theorem ae_cb {t:TA} {r:List V→Hp→VK→Prop} {f:List PyData→Option PyData} (h:PE X e (tCB r (TAd PK is))) (hv:VCl r f):PE X e (TAe PK (aCB f is)):=h.imp (aCB_read hv)
theorem ao_cb {t:TA} {r:List V→Hp→VK→Prop} {f:List PyData→Option (List PyData)} (h:PE X e (tCB r (TAd PK is))) (hv:VClo r f):PE X e (TAo PK (aCBo f is)):=h.imp (aCBo_read hv)

variable {as:List Sl→Tr (List Sl)}
noncomputable def aaNil:List Sl→Tr (List Sl):=fun _=>.ret []
noncomputable def aaCons (i:List Sl→Tr PyData) (as:List Sl→Tr (List Sl)):List Sl→Tr (List Sl):=fun ρ=>(i ρ).bind fun x=>(as ρ).bind fun xs=>.ret (.d x::xs)
noncomputable def aaPen (k:Nat) (as:List Sl→Tr (List Sl)):List Sl→Tr (List Sl):=fun ρ=>match ρ[k]? with
  | some .pen=>(as ρ).bind fun xs=>.ret (.pen::xs)
  | _=>.fail
theorem aa_nil:PA X [] (TAa PK aaNil):=pa_nil.imp fun σ H Q hz0=>by
  obtain ⟨pa,G₀,H₀,m,ρ,G,R,z⟩:=hz0
  exact z [] G H .refl R.wd .nil
theorem TAa.then {σ:St} {H:Hp} {β:Type} {k:List Sl→Tr β} {Z:Nat→β→Prop} {Q:List V→Hp→Prop} {pa:Addr} {G₀ H₀ G:Hp} {m:Nat} {ρ:List Sl} (R:Rl PK pa G₀ H₀ m σ ρ G H) (h:((as ρ).bind k).ok m Z)
    (hq:∀ m1 xs vs G1 H1,Stp pa G H G1 H1→Wd PK pa m1 G1 H1→Rl PK pa G₀ H₀ m1 σ ρ G1 H1→ArsOk pa G1 vs xs→(k xs).ok m1 Z→Q vs H1):TAa PK as σ H Q:=by
  refine ⟨pa,G₀,H₀,m,ρ,G,R,Tr.ok_mono (Tr.ok_bind.mp h) fun m1 x hx v G1 H1 s1 w1 d1=>?_⟩
  exact hq m1 x v G1 H1 s1 w1 (R.step s1 w1) d1 hx
theorem aa_cons (ha:PE X e (TAe PK i)) (hr:PA X es (TAa PK as)) (hs:starEach (e::es) X.env=(false,eval e X.env)::starEach es X.env:=by rfl):PA X (e::es) (TAa PK (aaCons i as)):=(pa_cons ha hr hs).imp fun σ H Q hz0=>by
  obtain ⟨pa,G₀,H₀,m,ρ,G,R,z⟩:=hz0
  refine TAe.then R z fun m1 x v G1 H1 s1 w1 R1 d1 q1=>?_
  refine TAa.then R1 q1 fun m2 xs vs G2 H2 s2 w2 R2 d2 q2=>?_
  exact q2 _ _ _ (s1.trans s2 w1.some) w2 (.cons (.d (d1.mono s2.gs)) d2)
theorem aa_pen {k:Nat} (ha:PE X e (tVar k)) (hr:PA X es (TAa PK as)) (hs:starEach (e::es) X.env=(false,eval e X.env)::starEach es X.env:=by rfl):PA X (e::es) (TAa PK (aaPen k as)):=(pa_cons ha hr hs).imp fun σ H Q hz0=>by
  obtain ⟨pa,G₀,H₀,m,ρ,G,R,z⟩:=hz0
  unfold aaPen at z
  split at z
  · rename_i hk
    obtain ⟨o,h1,h2⟩:=R.sl k _ hk
    cases h2
    refine ⟨_,h1,?_⟩
    refine TAa.then R z fun m2 xs vs G2 H2 s2 w2 R2 d2 q2=>?_
    exact q2 _ _ _ s2 w2 (.cons .pen d2)
  · exact z.elim
noncomputable def aSp (PK:Pk) (n:Nat) (f:List Sl→Tr Re):Sp:=fun vs H Q _=>vs.length=n∧∃ pa m G as,Wd PK pa m G H∧ArsOk pa G vs as∧(f as).ok m fun m' r=>Kr PK pa m' G H r Q
noncomputable def aCall (f:List Sl→Tr Re) (as:List Sl→Tr (List Sl)):List Sl→Tr Re:=fun ρ=>(as ρ).bind f
noncomputable def aRe (f:List Sl→Tr Re):List Sl→Tr PyData:=fun ρ=>(f ρ).bind fun r=>.ret r.val
noncomputable def TAr (PK:Pk) (i:List Sl→Tr Re):TE:=fun σ H Q=>∃ pa G₀ H₀ m ρ G,Rl PK pa G₀ H₀ m σ ρ G H∧(i ρ).ok m fun m' r=>Kr PK pa m' G H r Q
theorem Kr.later {pa:Addr} {m:Nat} {G H G1 H1:Hp} {r:Re} {Q:VK} (k:Kr PK pa m G H r Q) (s:Stp pa G H G1 H1) (hp:∃ o,H1 pa=some o):Kr PK pa m G1 H1 r Q:=fun v G' H' s' w' d=>by
  refine k v G' H' (s.trans s' hp) w' ?_
  cases r with
  | d x=>exact d
  | own xs =>
    obtain ⟨p,vs,e,h1,h2,h3,h4⟩:=d
    refine ⟨p,vs,e,h1,h2,?_,h4⟩
    cases e:H p with
    | none=>rfl
    | some u =>
      by_cases hc:p=pa
      · subst hc
        obtain ⟨o,z⟩:=hp
        rw [h3] at z; cases z
      · rw [s.hk p u e hc] at h3; cases h3
theorem Kr.of {pa:Addr} {m:Nat} {G H:Hp} {r:Re} {Q:VK} (k:Kn PK pa m G H r.val Q) (hp:∃ o,H pa=some o):Kr PK pa m G H r Q:=fun v G' H' s w d=>by
  cases r with
  | d x=>exact k v G' H' s w d
  | own xs =>
    obtain ⟨p,vs,rfl,h1,h2,h3,h4⟩:=d
    exact Ko1.of k hp p vs G' H' s w h3 h2 h1 h4
theorem ae_r {f:List Sl→Tr Re} (h:PE X e (TAr PK f)):PE X e (TAe PK (aRe f)):=h.imp (by
  intro σ H Q z
  obtain ⟨pa,G₀,H₀,m,ρ,G,R,z⟩:=z
  exact ⟨pa,G₀,H₀,m,ρ,G,R,Tr.ok_mono (Tr.ok_bind.mp z) fun m1 r k=>Kr.of k R.wd.some⟩)
structure ACal (PK:Pk) (P:Program) (w:World) (K:PySem.W.Frag) (mg:Str→Option Value) (base:Heap) (x:Str) (k:Nat) (ps:List Str) (f:List Sl→Tr Re):Prop where
  cal:Callee P w K mg base x k ps (aSp PK ps.length f)
  len:∀ as m Z,(f as).ok m Z→as.length=ps.length
theorem ar_call {x:Str} {k:Nat} {ps:List Str} {f:List Sl→Tr Re} {pp:Pos} (C:ACal PK X.prog X.w X.K X.mg X.base x k ps f) (hr:Room k X.A) (hg:Gl X x) (ha:PA X (e::es) (TAa PK as))
    (hdb:(x == ("__debug__":Str))=false:=by decide)
    (he:starEach (e::es) X.env=(false,eval e X.env)::starEach es X.env:=by rfl) (hpl:(backTo pos (starEach es X.env)).any (·.1)=false:=by rfl):PE X (.Call (.Name x pp) (e::es) [] pos) (TAr PK (aCall f as)) :=
  (pe_callC C.cal hr hg ha hdb he hpl).imp fun σ H Q hz0=>by
    obtain ⟨pa,G₀,H₀,m,ρ,G,R,z⟩:=hz0
    refine TAa.then R z fun m1 xs vs G1 H1 s1 w1 R1 d1 q1=>?_
    show aSp PK ps.length f (vs++[]) H1 Q E0
    rw [List.append_nil]
    exact ⟨by rw [d1.length]; exact C.len _ _ _ q1,pa,m1,G1,xs,w1,d1,Tr.ok_mono q1 fun m2 r k=>Kr.later k s1 w1.some⟩
end L2
set_option Elab.async false
set_option linter.all false
set_option maxRecDepth 100000
namespace L2
open PySem PySem.Spec PyProof.Rows
variable {PK:Pk} {X:Cx} {a b c e:Expr} {es:List Expr} {pos:Pos} {i j l:List Sl→Tr PyData} {is:List Sl→Tr (List PyData)} {as:List Sl→Tr (List Sl)} {f:List Sl→Tr Re} {p q:List Sl→Tr Bool} {st:Stmt} {sts:List Stmt} {s t u:List Sl→Tr Ou}
noncomputable def aSeq (s t:List Sl→Tr Ou):List Sl→Tr Ou:=fun ρ=>(s ρ).bind fun o=>match o with
  | .next ρ'=>t ρ'
  | o=>.ret o
noncomputable def aSkip:List Sl→Tr Ou:=fun ρ=>.ret (.next ρ)
theorem Ko.later {pa:Addr} {G₀ H₀ Gs G:Hp} {D:Ends} {m:Nat} {o:Ou} (k:Ko PK pa G₀ H₀ Gs D m o) (sb:Sub Gs G):Ko PK pa G₀ H₀ G D m o:=by
  cases o with
  | next ρ=>exact fun σ G' H s R=>k σ G' H (fun b o h=>s b o (sb b o h)) R
  | ret r=>exact k
  | brk ρ=>exact fun σ G' H s R=>k σ G' H (fun b o h=>s b o (sb b o h)) R
  | cont ρ=>exact fun σ G' H s R=>k σ G' H (fun b o h=>s b o (sb b o h)) R
theorem Sub.refl {G:Hp}:Sub G G:=fun _ _ h=>h
theorem Sub.trans {G G1 G2:Hp} (a:Sub G G1) (b:Sub G1 G2):Sub G G2:=fun c o h=>b c o (a c o h)
theorem ass_nil:PSs X [] (TAs PK aSkip):=pss_nil.imp fun D σ H hz0=>by
  obtain ⟨pa,G₀,H₀,m,ρ,G,R,z⟩:=hz0
  exact z σ G H .refl R
theorem aSeq_read:∀ D σ H,TAs PK (aSeq s t) D σ H→tSeq (TAs PK s) (TAs PK t) D σ H:=by
  rintro D σ H ⟨pa,G₀,H₀,m,ρ,G,R,z⟩
  refine ⟨pa,G₀,H₀,m,ρ,G,R,Tr.ok_mono (Tr.ok_bind.mp z) fun m1 o k=>?_⟩
  cases o with
  | next ρ'=>exact fun σ' G' H' sb R'=>⟨pa,G₀,H₀,m1,ρ',G',R',Tr.ok_mono k fun _ _ k'=>Ko.later k' sb⟩
  | ret r=>exact k
  | brk ρ'=>exact k
  | cont ρ'=>exact k
theorem ass_cons (h1:PS X st (TAs PK s)) (h2:PSs X sts (TAs PK t)):PSs X (st::sts) (TAs PK (aSeq s t)):=(pss_cons h1 h2).imp aSeq_read
theorem ass_one (h1:PS X st (TAs PK s)):PSs X [st] (TAs PK s):=pss_one h1
noncomputable def aRet (i:List Sl→Tr PyData):List Sl→Tr Ou:=fun ρ=>(i ρ).bind fun x=>.ret (.ret (.d x))
theorem as_ret (he:PE X e (TAe PK i)):PS X (.Return (some e) pos) (TAs PK (aRet i)):=(ps_ret he).imp fun D σ H hz0=>by
  obtain ⟨pa,G₀,H₀,m,ρ,G,R,z⟩:=hz0
  refine TAe.then R z fun m1 x v G1 H1 s1 w1 R1 d1 q1=>?_
  exact q1 v G1 H1 R1.st w1 d1
noncomputable def aIfS (p:List Sl→Tr Bool) (s t:List Sl→Tr Ou):List Sl→Tr Ou:=fun ρ=>(p ρ).bind fun x=>if x=true then s ρ else t ρ
theorem as_if {xs ys:List Stmt} (hc:PT X c (TAt PK p)) (ha:PSs X xs (TAs PK s)) (hb:PSs X ys (TAs PK t)):PS X (.If c xs ys pos) (TAs PK (aIfS p s t)):=(ps_if hc ha hb).imp fun D σ H hz0=>by
  obtain ⟨pa,G₀,H₀,m,ρ,G,R,z⟩:=hz0
  refine TAt.then R z fun m1 x G1 H1 s1 w1 R1 q1=>?_
  cases x with
  | true=>rw [if_pos rfl] at q1 ⊢; exact ⟨pa,G₀,H₀,m1,ρ,G1,R1,Tr.ok_mono q1 fun _ _ k'=>Ko.later k' s1.gs⟩
  | false=>rw [if_neg Bool.false_ne_true] at q1 ⊢; exact ⟨pa,G₀,H₀,m1,ρ,G1,R1,Tr.ok_mono q1 fun _ _ k'=>Ko.later k' s1.gs⟩

noncomputable def aSet (k:Nat) (i:List Sl→Tr PyData):List Sl→Tr Ou:=fun ρ=>(i ρ).bind fun x=>.ret (.next (ρ.set k (.d x)))
theorem as_set {k:Nat} (h:PS X st (tAsg (TAe PK i) (gName k))):PS X st (TAs PK (aSet k i)):=h.imp fun D σ H hz0=>by
  obtain ⟨pa,G₀,H₀,m,ρ,G,R,z⟩:=hz0
  refine TAe.then R z fun m1 x v G1 H1 s1 w1 R1 d1 q1=>?_
  exact q1 _ G1 H1 s1.gs (R1.set d1 k)
theorem DnAll.snoc {H:Hp} {vs:List V} {ds:List PyData} {v:V} {d:PyData} (h:DnAll H vs ds) (h1:Dn H v d):DnAll H (vs++[v]) (ds++[d]):=h.append (.cons h1 .nil)
theorem DnAll.set {H:Hp}:∀ {vs:List V} {ds:List PyData} {v:V} {d:PyData} (n:Nat),DnAll H vs ds→Dn H v d→DnAll H (vs.set n v) (ds.set n d)
  | _,_,_,_,_,.nil,_=>.nil
  | _,_,_,_,0,.cons _ t,h=>.cons h t
  | _,_,_,_,n+1,.cons g t,h=>.cons g (DnAll.set n t h)
noncomputable def TAg (PK:Pk) (g:PyData→List Sl→Option (List Sl)):TG:=fun v σ H Q=>∃ pa G₀ H₀ m ρ G x ρ',Rl PK pa G₀ H₀ m σ ρ G H∧Dn G v x∧g x ρ=some ρ'∧∀ σ',Rl PK pa G₀ H₀ m σ' ρ' G H→Q σ' H
theorem PG.imp {tg:Expr} {t t':TG} (h:PG X tg t) (q:∀ v σ H Q,t' v σ H Q→t v σ H Q):PG X tg t':=fun pins s σ H v u Q I r z=>h pins s σ H v u Q I r (q v σ H Q z)
noncomputable def gSet (k:Nat):PyData→List Sl→Option (List Sl):=fun x ρ=>some (ρ.set k (.d x))
theorem ag_name {k:Nat} (h:PG X e (gName k)):PG X e (TAg PK (gSet k)):=h.imp fun v σ H Q hz0=>by
  obtain ⟨pa,G₀,H₀,m,ρ,G,x,ρ',R,d,e,q⟩:=hz0
  cases e
  exact q _ (R.set d k)
noncomputable def JOk (PK:Pk) (pa:Addr) (J:It) (G:Hp) (xs:List PyData):Prop:=∀ m G2 H2,Sub G G2→Wd PK pa m G2 H2 →
  (∀ (n:Nat) (d:PyData),xs[n]?=some d→J.go n H2∧∀ x H3,J.yld n H2 x H3→∃ G3,Stp pa G2 H2 G3 H3∧Wd PK pa m G3 H3∧Dn G3 x d)∧J.stop xs.length H2
noncomputable def TAi (PK:Pk) (is:List Sl→Tr (List PyData)):TI:=fun σ H R=>∃ pa G₀ H₀ m ρ G,Rl PK pa G₀ H₀ m σ ρ G H∧(is ρ).ok m fun m' xs=>∀ J G' H',Stp pa G H G' H'→Wd PK pa m' G' H'→JOk PK pa J G' xs→R J H'
theorem PI.imp {tg iter:Expr} {t t':TI} (h:PI X tg iter t) (q:∀ σ H R,t' σ H R→t σ H R):PI X tg iter t':=fun pins s σ H R I z=>h pins s σ H R I (q σ H R z)
noncomputable def forL (g:PyData→List Sl→Option (List Sl)) (s:List Sl→Tr Ou):List PyData→List Sl→Tr Ou
  | [],ρ=>.ret (.next ρ)
  | x::xs,ρ=>(Tr.of (g x ρ)).bind fun ρ1=>(s ρ1).bind fun o=>match o with
    | .next ρ2=>forL g s xs ρ2
    | .cont ρ2=>forL g s xs ρ2
    | .brk ρ2=>.ret (.next ρ2)
    | .ret r=>.ret (.ret r)
noncomputable def aFor (is:List Sl→Tr (List PyData)) (g:PyData→List Sl→Option (List Sl)) (s:List Sl→Tr Ou):List Sl→Tr Ou:=fun ρ=>(is ρ).bind fun xs=>forL g s xs ρ
theorem as_for {tg iter:Expr} {body:List Stmt} {g:PyData→List Sl→Option (List Sl)} (hp:PassesOwn (model X.prog X.w) X.A X.env X.xe) (hc:X.calm=true) (hi:PI X tg iter (TAi PK is)) (hg:PG X tg (TAg PK g)) (hb:PSs X body (TAs PK s))
    (hs:∀ x,foldedSetIterable iter X.env x=pure x:=by intro _; rfl):PS X (.For tg iter body [] pos) (TAs PK (aFor is g s)):=(ps_for hp hc hi hg hb hs).imp fun D σ H hz0=>by
  obtain ⟨pa,G₀,H₀,m,ρ,G,R,z⟩:=hz0
  refine ⟨pa,G₀,H₀,m,ρ,G,R,Tr.ok_mono (Tr.ok_bind.mp z) fun m1 xs k J G1 H1 s1 w1 jo=>?_⟩
  let W:Nat→Nat→St→Hp→Prop:=fun n mm σ H=>mm=xs.length - n∧n≤xs.length∧∃ m ρ G,Sub G1 G∧Rl PK pa G₀ H₀ m σ ρ G H∧(forL g s (xs.drop n) ρ).ok m (Ko PK pa G₀ H₀ G1 D)
  refine ⟨W,⟨xs.length,rfl,Nat.zero_le _,m1,ρ,G1,fun _ _ h=>h,R.step s1 w1,Tr.ok_mono k fun _ _ k'=>Ko.later k' s1.gs⟩,?_⟩
  rintro n mm σ2 H2 ⟨rfl,hn,m2,ρ2,G2,sb,R2,k2⟩
  obtain ⟨j1,j2⟩:=jo m2 G2 H2 sb R2.wd
  by_cases hlt:n < xs.length
  · have hx:xs[n]?=some xs[n]:=by simp [hlt]
    obtain ⟨jg,jy⟩:=j1 n _ hx
    refine .inr ⟨jg,W (n+1) (xs.length - (n+1)),fun σ' H' h'=>⟨_,by omega,h'⟩,fun x H3 y=>?_⟩
    obtain ⟨G3,s3,w3,d3⟩:=jy x H3 y
    rw [List.drop_eq_getElem_cons hlt] at k2
    unfold forL at k2
    rw [Tr.ok_bind] at k2
    obtain ⟨ρ3,hg3,k3⟩:=Tr.ok_of k2
    refine ⟨pa,G₀,H₀,m2,ρ2,G3,_,ρ3,R2.step s3 w3,d3,hg3,fun σ4 R4=>?_⟩
    refine ⟨pa,G₀,H₀,m2,ρ3,G3,R4,Tr.ok_mono (Tr.ok_bind.mp k3) fun m5 o ko=>?_⟩
    have again:∀ ρ5,(forL g s (xs.drop (n+1)) ρ5).ok m5 (Ko PK pa G₀ H₀ G1 D)→∀ σ5 G5 H5,Sub G3 G5→Rl PK pa G₀ H₀ m5 σ5 ρ5 G5 H5→W (n+1) (xs.length - (n+1)) σ5 H5:=fun ρ5 k5 σ5 G5 H5 sb5 R5 =>
      ⟨rfl,hlt,m5,ρ5,G5,(sb.trans s3.gs).trans sb5,R5,k5⟩
    cases o with
    | next ρ5=>exact again ρ5 ko
    | cont ρ5=>exact again ρ5 ko
    | brk ρ5=>exact fun σ5 G5 H5 sb5 R5=>ko σ5 G5 H5 ((sb.trans s3.gs).trans sb5) R5
    | ret r=>exact ko
  · have e:n=xs.length:=by omega
    subst e
    refine .inl ⟨j2,?_⟩
    rw [List.drop_length] at k2
    exact k2 σ2 G2 H2 sb R2
end L2
set_option Elab.async false
set_option linter.all false
set_option maxRecDepth 100000
namespace L2
open PySem PySem.Spec PyProof.Rows
variable {PK:Pk} {X:Cx} {a b c e:Expr} {es:List Expr} {pos:Pos} {i j l:List Sl→Tr PyData} {is:List Sl→Tr (List PyData)} {as:List Sl→Tr (List Sl)} {f:List Sl→Tr Re} {p q:List Sl→Tr Bool} {st:Stmt} {sts:List Stmt} {s t u:List Sl→Tr Ou}
noncomputable def blS:Sl→Sl
  | .own _=>.un
  | s=>s
noncomputable def blk (n:Nat) (ix:List Nat) (ρ:List Sl):List Sl:=List.replicate n .un++ix.map fun j=>blS ((ρ[j]?).getD .un)
theorem Rl.blk {pa:Addr} {G₀ H₀ G H:Hp} {m:Nat} {σ:St} {ρ:List Sl} (R:Rl PK pa G₀ H₀ m σ ρ G H) (n:Nat) (ix:List Nat):Rl PK pa G₀ H₀ m (bSt n ix σ) (blk n ix ρ) G H:=by
  have key:∀ (k:Nat) (s:Sl),(L2.blk n ix ρ)[k]?=some s→(∃ o,(bSt n ix σ)[k]?=some o∧SlOk pa H₀ G H o s)∧∀ xs,s≠.own xs:=fun k s h=>by
    unfold L2.blk at h
    unfold bSt
    by_cases hk:k < n
    · rw [List.getElem?_append_left (by simpa using hk),List.getElem?_replicate,if_pos hk] at h
      rw [List.getElem?_append_left (by simpa using hk),List.getElem?_replicate,if_pos hk]
      cases h
      exact ⟨⟨_,rfl,.un⟩,fun xs h=>by cases h⟩
    · rw [List.getElem?_append_right (by simpa using Nat.le_of_not_lt hk),List.length_replicate,List.getElem?_map] at h
      rw [List.getElem?_append_right (by simpa using Nat.le_of_not_lt hk),List.length_replicate,List.getElem?_map]
      cases hj:ix[k - n]? with
      | none=>rw [hj] at h; cases h
      | some j =>
        rw [hj] at h
        have h':blS ((ρ[j]?).getD .un)=s:=Option.some.inj h
        subst h'
        show (∃ o,some ((σ[j]?).getD none)=some o∧_)∧_
        cases hr:ρ[j]? with
        | none=>exact ⟨⟨_,rfl,.un⟩,fun xs h=>by cases h⟩
        | some s' =>
          obtain ⟨o,h1,h2⟩:=R.sl j s' hr
          rw [h1]
          cases h2 with
          | un=>exact ⟨⟨_,rfl,.un⟩,fun xs h=>by cases h⟩
          | d z=>exact ⟨⟨_,rfl,.d z⟩,fun xs h=>by cases h⟩
          | own _ _ _ _=>exact ⟨⟨_,rfl,.un⟩,fun xs h=>by cases h⟩
          | pen=>exact ⟨⟨_,rfl,.pen⟩,fun xs h=>by cases h⟩
  refine ⟨R.wd,R.st,R.p0,fun k s h=>(key k s h).1,?_,fun k n' xs ys _ h1 _=>absurd rfl ((key k _ h1).2 xs)⟩
  unfold L2.blk bSt
  simp
noncomputable def PresN (n:Nat) (g:PyData→List Sl→Option (List Sl)):Prop:=∀ x ρ ρ',g x ρ=some ρ'→ρ'.length=ρ.length∧∀ k,n≤k→ρ'[k]?=ρ[k]?
theorem pres_set {n k:Nat} (h:k < n):PresN n (gSet k):=fun x ρ ρ' e=>by
  cases e
  exact ⟨List.length_set,fun j hj=>List.getElem?_set_ne (by omega)⟩
noncomputable def mapT (h:PyData→Tr PyData):List PyData→Tr (List PyData)
  | []=>.ret []
  | x::xs=>(h x).bind fun y=>(mapT h xs).bind fun ys=>.ret (y::ys)
noncomputable def aLc (is:List Sl→Tr (List PyData)) (n:Nat) (ix:List Nat) (g:PyData→List Sl→Option (List Sl)) (el:List Sl→Tr PyData):List Sl→Tr (List PyData):=fun ρ =>
  (is ρ).bind fun xs=>if small xs.length=true then mapT (fun x=>(Tr.of (g x (blk n ix ρ))).bind el) xs else .fail
theorem Rl.weak {pa:Addr} {G₀ H₀ G H:Hp} {m:Nat} {σ:St} {ρ ρ':List Sl} (R:Rl PK pa G₀ H₀ m σ ρ' G H) (hl:ρ'.length=ρ.length) (h:∀ (k:Nat) (s:Sl),ρ[k]?=some s→s=.un∨ρ'[k]?=some s):Rl PK pa G₀ H₀ m σ ρ G H:=by
  refine ⟨R.wd,R.st,R.p0,fun k s hk=>?_,hl.symm.trans R.len,fun k n xs ys hkn h1 h2=>?_⟩
  · rcases h k s hk with e | e
    · subst e
      have hlt:k < σ.length:=by
        rw [← R.len,hl]
        exact (List.getElem?_eq_some_iff.mp hk).1
      exact ⟨σ[k],by simp [hlt],.un⟩
    · exact R.sl k s e
  · rcases h k _ h1 with e | e
    · cases e
    · rcases h n _ h2 with e' | e'
      · cases e'
      · exact R.dj k n xs ys hkn e e'
theorem lc_read {n:Nat} {ix:List Nat} {g:PyData→List Sl→Option (List Sl)} (hn:PresN n g):∀ σ H Q,TAo PK (aLc is n ix g i) σ H Q→tLc (TAi PK is) n ix (fun _=>TAg PK g) (fun _=>TAe PK i) σ H Q:=by
  rintro σ H Q ⟨pa,G₀,H₀,m,ρ,G,R,z⟩
  refine ⟨pa,G₀,H₀,m,ρ,G,R,Tr.ok_mono (Tr.ok_bind.mp z) fun m1 xs k J G1 H1 s1 w1 jo=>fun B=>?_⟩
  obtain ⟨hs,k⟩:=ok_if k
  have hs:xs.length≤sizeLine:=of_decide_eq_true hs
  let el:PyData→Tr PyData:=fun x=>(Tr.of (g x (blk n ix ρ))).bind i
  let W:Nat→Nat→St→List V→Hp→Prop:=fun k mm τ ys H2=>mm=xs.length - k∧k≤xs.length∧ys.length=k∧∃ m G2 ds,Sub G1 G2∧Stp pa G H G2 H2∧Rl PK pa G₀ H₀ m τ (blk n ix ρ) G2 H2 ∧
    DnAll G2 ys ds∧(mapT el (xs.drop k)).ok m fun m' zs=>Ko1 PK pa m' G H (ds++zs) Q
  refine ⟨W,⟨xs.length,rfl,Nat.zero_le _,rfl,m1,G1,[],.refl,s1,(R.step s1 w1).blk n ix,.nil,k⟩,?_⟩
  rintro k mm τ ys H2 ⟨rfl,hk,hy,m2,G2,ds,sb,st2,R2,dn,k2⟩
  obtain ⟨j1,j2⟩:=jo m2 G2 H2 sb R2.wd
  by_cases hlt:k < xs.length
  · have hx:xs[k]?=some xs[k]:=by simp [hlt]
    obtain ⟨jg,jy⟩:=j1 k _ hx
    refine .inr ⟨jg,by omega,fun x H3 y=>?_⟩
    obtain ⟨G3,s3,w3,d3⟩:=jy x H3 y
    rw [List.drop_eq_getElem_cons hlt] at k2
    unfold mapT at k2
    rw [Tr.ok_bind,Tr.ok_bind] at k2
    obtain ⟨ρ3,hg3,k3⟩:=Tr.ok_of k2
    refine ⟨pa,G₀,H₀,m2,_,G3,_,ρ3,R2.step s3 w3,d3,hg3,fun τ4 R4=>?_⟩
    refine ⟨pa,G₀,H₀,m2,ρ3,G3,R4,Tr.ok_mono k3 fun m5 yd k5=>?_⟩
    intro v G5 H5 s5 w5 d5
    have s35:=s3.trans s5 w3.some
    obtain ⟨pl,pk⟩:=hn _ _ _ hg3
    refine ⟨xs.length - (k+1),by omega,rfl,hlt,by rw [List.length_append,hy]; rfl,m5,G5,ds++[yd],sb.trans s35.gs,st2.trans s35 R2.wd.some,?_,(DnAll.mono s35.gs dn).snoc d5,?_⟩
    · refine (R4.step s5 w5).weak pl fun q sl hq=>?_
      by_cases hqn:q < n
      · left
        unfold blk at hq
        rw [List.getElem?_append_left (by simpa using hqn),List.getElem?_replicate,if_pos hqn] at hq
        cases hq
        rfl
      · right
        rw [pk q (Nat.le_of_not_lt hqn)]
        exact hq
    · refine Tr.ok_mono (Tr.ok_bind.mp k5) fun m6 zs k6=>?_
      rw [List.append_assoc]
      exact k6
  · have e:k=xs.length:=by omega
    subst e
    refine .inl ⟨j2,fun p v H' hp ev eH=>?_⟩
    subst ev eH
    rw [List.drop_length] at k2
    have k2':Ko1 PK pa m2 G H (ds++[]) Q:=k2
    rw [List.append_nil] at k2'
    exact (Ko1.later k2' st2 R2.wd.some).new R2.wd dn hp
theorem ao_lc {n:Nat} {ix:List Nat} {g:PyData→List Sl→Option (List Sl)} (h:PE X e (tLc (TAi PK is) n ix (fun _=>TAg PK g) (fun _=>TAe PK i))) (hn:PresN n g):PE X e (TAo PK (aLc is n ix g i)):=h.imp (lc_read hn)
noncomputable def finR:Ou→Tr Re
  | .next _=>.ret (.d .none)
  | .ret r=>.ret r
  | _=>.fail
noncomputable def aDef (n k:Nat) (s:List Sl→Tr Ou):List Sl→Tr Re:=fun as=>if decide (as.length=n)=true then (s (as++List.replicate k .un)).bind finR else .fail
theorem Rl.start {pa:Addr} {G H:Hp} {m:Nat} {N:List Str} {vs:List V} {as:List Sl} {k:Nat} (w:Wd PK pa m G H) (ar:ArsOk pa G vs as) (hk:N.length - vs.length=k):Rl PK pa G H m (L2.start N vs) (as++List.replicate k .un) G H:=by
  have key:∀ {vs:List V} {as:List Sl},ArsOk pa G vs as→∀ (q:Nat) (s:Sl),as[q]?=some s→(∃ o,(vs.map some)[q]?=some o∧SlOk pa H G H o s)∧∀ xs,s≠.own xs:=by
    intro vs as h
    induction h with
    | nil=>intro q s h; simp at h
    | cons h1 h2 ih =>
      intro q s h
      cases q with
      | zero =>
        simp at h
        subst h
        cases h1 with
        | d z=>exact ⟨⟨_,rfl,.d z⟩,fun xs h=>by cases h⟩
        | pen=>exact ⟨⟨_,rfl,.pen⟩,fun xs h=>by cases h⟩
      | succ q =>
        obtain ⟨⟨o,p1,p2⟩,p3⟩:=ih q s (by simpa using h)
        exact ⟨⟨o,by simpa using p1,p2⟩,p3⟩
  have hl:=ar.length
  have key2:∀ (q:Nat) (s:Sl),(as++List.replicate k .un)[q]?=some s→(∃ o,(L2.start N vs)[q]?=some o∧SlOk pa H G H o s)∧∀ xs,s≠.own xs:=fun q s h=>by
    unfold L2.start
    by_cases hq:q < as.length
    · rw [List.getElem?_append_left hq] at h
      rw [List.getElem?_append_left (by rw [List.length_map,hl]; exact hq)]
      exact key ar q s h
    · rw [List.getElem?_append_right (by omega),List.getElem?_replicate] at h
      rw [List.getElem?_append_right (by rw [List.length_map]; omega),List.getElem?_replicate,List.length_map,hl]
      split at h
      · rename_i hq2
        cases h
        rw [if_pos (by omega)]
        exact ⟨⟨_,rfl,.un⟩,fun xs h=>by cases h⟩
      · cases h
  refine ⟨w,.refl,w.some,fun q s h=>(key2 q s h).1,?_,fun q n xs ys _ h1 _=>absurd rfl ((key2 q _ h1).2 xs)⟩
  unfold L2.start
  simp [hl,hk]
  omega
theorem acal_of {P:Program} {w:World} {K:PySem.W.Frag} {mg:Str→Option Value} {base:Heap} {x:Str} {N ps:List Str} {kk k:Nat} (D:Def K mg x st ps) (S:FnScope N ps (defScope st)) (hk:N.length - ps.length=k)
    (hbody:∀ (f:Addr) (cdv:Value) (A:Around) (outer:List Env) (sh:Shared) (H:Hp) (E:XK),Room kk (A.deeper (envOfC x (defScope st) sh.heap.objs.size f cdv)) →
      PSs (cxOf CX0 P w K mg base N x (defScope st) f cdv A outer sh H E).nox (defBody st) (TAs PK s)):ACal PK P w K mg base x (kk+1) ps (aDef ps.length k s):=by
  have len:∀ as m Z,(aDef ps.length k s as).ok m Z→as.length=ps.length:=fun as m Z h=>by
    unfold aDef at h
    exact of_decide_eq_true (ok_if h).1
  refine ⟨D.ok S (fun vs H Q E h=>h.1) fun f cdv A outer sh H vs Q E hr hsp=>?_,len⟩
  obtain ⟨hv,pa,m,G,as,wd,ar,z⟩:=hsp
  refine ⟨_,hbody f cdv A outer sh H E hr,?_⟩
  unfold aDef at z
  obtain ⟨_,z⟩:=ok_if z
  refine ⟨pa,G,H,m,_,G,Rl.start wd ar (by rw [hv]; exact hk),Tr.ok_mono (Tr.ok_bind.mp z) fun m1 o ko=>?_⟩
  cases o with
  | next ρ=>exact fun σ G1 H1 sb R1=>ko .non G1 H1 R1.st R1.wd .non
  | ret r=>exact ko
  | brk ρ=>exact ko.elim
  | cont ρ=>exact ko.elim

theorem pi_seq {tg l:Expr} {tl:TE} (hl:PE X l tl):PI X tg l (fun σ H R=>tl σ H fun x H1=>∃ a,x=.ref a∧((∃ xs,SqL X.K H1 a xs∧R (Itl X.K a) H1)∨(∃ xs,SqT X.K H1 a xs∧R (Itt X.K a) H1))):=by
  intro pins s σ H R I h
  refine thn (hl pins s σ H _ I h) fun v s1 hz0=>?_
  obtain ⟨x,H1,I1,r1,q1⟩:=hz0
  obtain ⟨a,e,q⟩:=q1
  subst e
  cases r1
  rcases q with ⟨xs,hq,q⟩ | ⟨xs,hq,q⟩
  · obtain ⟨its,rv,p,hz⟩:=I1.list hq
    refine wpAny_pyIter_list p.isList ?_
    refine ⟨s1.heap.objs.size,[s1.heap.objs.size],_,_,H1,rfl,I1.kept (t':=s1.toks) fun b o e=>Heap.get?_push_of_some _ e,turn_list a _,⟨_,Heap.get?_push_size _ rfl,rfl,rfl⟩,fun b hb=>?_,q⟩
    have e:b=s1.heap.objs.size:=by simpa using hb
    subst e
    exact I1.fpOk (Nat.le_refl _) (I1.hok.fresh (Nat.le_refl _))
  · obtain ⟨its,rv,p,hz⟩:=I1.tuple hq
    refine wpAny_pyIter_tuple (show s1.heap.IsTuple a its.toArray from p) ?_
    refine ⟨s1.heap.objs.size,[s1.heap.objs.size],_,_,H1,rfl,I1.kept (t':=s1.toks) fun b o e=>Heap.get?_push_of_some _ e,turn_tuple a _,⟨_,Heap.get?_push_size _ rfl,rfl,rfl⟩,fun b hb=>?_,q⟩
    have e:b=s1.heap.objs.size:=by simpa using hb
    subst e
    exact I1.fpOk (Nat.le_refl _) (I1.hok.fresh (Nat.le_refl _))
theorem DnAll.get {H:Hp}:∀ {vs:List V} {ds:List PyData} (n:Nat) {d:PyData},DnAll H vs ds→ds[n]?=some d→∃ v,vs[n]?=some v∧Dn H v d
  | _,_,_,_,.nil,e=>by simp at e
  | _,_,0,_,.cons g t,e=>by simp at e; subst e; exact ⟨_,rfl,g⟩
  | _,_,n+1,_,.cons g t,e=>by
    obtain ⟨v,h1,h2⟩:=DnAll.get n t (by simpa using e)
    exact ⟨v,by simpa using h1,h2⟩
theorem jok_list {K:PySem.W.Frag} {pa a:Addr} {G:Hp} {vs:List V} {xs:List PyData} (h:G a=some (.lst vs)) (d:DnAll G vs xs):JOk PK pa (Itl K a) G xs:=fun m G2 H2 sb w=>by
  have hq:SqL K H2 a vs:=SqL.of (w.sub _ _ (sb _ _ h))
  refine ⟨fun n x hx=>?_,vs,hq,by rw [d.length]; exact Nat.le_refl _⟩
  obtain ⟨v,hv,dv⟩:=d.get n hx
  refine ⟨⟨vs,v,hq,hv⟩,fun y H3 hz0=>?_⟩
  obtain ⟨e,hy⟩:=hz0
  subst e
  have:=hy vs hq
  rw [hv] at this
  cases this
  exact ⟨G2,.refl,w,dv.mono sb⟩
theorem jok_tup {K:PySem.W.Frag} {pa a:Addr} {G:Hp} {vs:List V} {xs:List PyData} (h:G a=some (.tup vs)) (d:DnAll G vs xs):JOk PK pa (Itt K a) G xs:=fun m G2 H2 sb w=>by
  have hq:SqT K H2 a vs:=SqT.of (w.sub _ _ (sb _ _ h))
  refine ⟨fun n x hx=>?_,vs,hq,by rw [d.length]; exact Nat.le_refl _⟩
  obtain ⟨v,hv,dv⟩:=d.get n hx
  refine ⟨⟨vs,v,hq,hv⟩,fun y H3 hz0=>?_⟩
  obtain ⟨e,hy⟩:=hz0
  subst e
  have:=hy vs hq
  rw [hv] at this
  cases this
  exact ⟨G2,.refl,w,dv.mono sb⟩
noncomputable def itD:PyData→Option (List PyData)
  | .list xs=>some xs
  | .tuple xs=>some xs
  | _=>none
@[simp] theorem itD_list (xs:List PyData):itD (.list xs)=some xs:=rfl
@[simp] theorem itD_tuple (xs:List PyData):itD (.tuple xs)=some xs:=rfl
noncomputable def aIt (i:List Sl→Tr PyData):List Sl→Tr (List PyData):=fun ρ=>(i ρ).bind fun x=>Tr.of (itD x)
theorem ai_seq {tg l:Expr} (hl:PE X l (TAe PK i)):PI X tg l (TAi PK (aIt i)):=(pi_seq hl).imp fun σ H R0 hz0=>by
  obtain ⟨pa,G₀,H₀,m,ρ,G,R,z⟩:=hz0
  refine TAe.then R z fun m1 x v G1 H1 s1 w1 R1 d1 q1=>?_
  obtain ⟨xs,hx,q1⟩:=Tr.ok_of q1
  cases d1 with
  | lst h1 h2=>cases hx; exact ⟨_,rfl,.inl ⟨_,SqL.of (w1.sub _ _ h1),q1 _ G1 H1 s1 w1 (jok_list h1 h2)⟩⟩
  | tup h1 h2=>cases hx; exact ⟨_,rfl,.inr ⟨_,SqT.of (w1.sub _ _ h1),q1 _ G1 H1 s1 w1 (jok_tup h1 h2)⟩⟩
  | _=>cases hx
noncomputable def rngL (lo hi:Int):List PyData:=(rangeI lo (hi - lo).toNat).map PyData.int
theorem jok_rng {pa:Addr} {G:Hp} {lo:Int} {n:Nat}:JOk PK pa (Itr lo n) G ((rangeI lo n).map PyData.int):=fun m G2 H2 sb w=>by
  refine ⟨fun k x hx=>?_,by show n≤_; rw [List.length_map,rangeI_length]; exact Nat.le_refl _⟩
  have hk:k < n:=by
    have:=(List.getElem?_eq_some_iff.mp hx).1
    rwa [List.length_map,rangeI_length] at this
  refine ⟨hk,fun y H3 hz0=>?_⟩
  obtain ⟨e1,e2⟩:=hz0
  subst e1 e2
  have:x=.int (lo+k):=by
    unfold rangeI at hx
    simp [hk] at hx
    exact hx.symm
  subst this
  exact ⟨G2,.refl,w,.int _⟩
noncomputable def inR (n:Int):Bool:=decide (-(2 ^ 62)≤n∧n < 2 ^ 62)
noncomputable def rngD1:List PyData→Option (List PyData)
  | [.int n]=>if inR n=true then some (rngL 0 n) else none
  | _=>none
noncomputable def aRng1 (is:List Sl→Tr (List PyData)):List Sl→Tr (List PyData):=fun ρ=>(is ρ).bind fun xs=>Tr.of (rngD1 xs)
theorem rngD1_inv {G:Hp} {vs:List V} {xs ys:List PyData} (d:DnAll G vs xs) (h:rngD1 xs=some ys):∃ n:Int,vs=[.int n]∧-(2 ^ 62)≤n∧n < 2 ^ 62∧ys=rngL 0 n:=by
  unfold rngD1 at h
  split at h
  · rename_i n
    split at h
    · rename_i hn
      cases h
      cases d with
      | cons d1 d2 =>
        cases d2
        cases d1
        have:=of_decide_eq_true hn
        exact ⟨n,rfl,this.1,this.2,rfl⟩
    · cases h
  · cases h
theorem ai_rng1 {tg e:Expr} (h:PI X tg e (iRng1 (TAd PK is))):PI X tg e (TAi PK (aRng1 is)):=h.imp fun σ H R0 hz0=>by
  obtain ⟨pa,G₀,H₀,m,ρ,G,R,z⟩:=hz0
  refine TAd.then R z fun m1 xs vs G1 H1 s1 w1 R1 d1 q1=>?_
  obtain ⟨ys,hy,q1⟩:=Tr.ok_of q1
  obtain ⟨n,e,h1,h2,rfl⟩:=rngD1_inv d1 hy
  refine ⟨n,e,h1,h2,?_⟩
  have q:=q1 (Itr 0 n.toNat) G1 H1 s1 w1
  unfold rngL at q
  rw [Int.sub_zero] at q
  exact q jok_rng
end L2
set_option Elab.async false
set_option linter.all false
set_option maxRecDepth 100000
namespace L2
open PySem PySem.Spec PyProof.Rows
variable {PK:Pk} {X:Cx} {a b c e:Expr} {es:List Expr} {pos:Pos} {i j l:List Sl→Tr PyData} {is:List Sl→Tr (List PyData)}
noncomputable def addD:PyData→PyData→Option PyData
  | .int m,.int n=>some (.int (m+n))
  | .tuple xs,.tuple ys=>if (!xs.isEmpty && small (xs.length+ys.length))=true then some (.tuple (xs++ys)) else none
  | .list xs,.list ys=>if small (xs.length+ys.length)=true then some (.list (xs++ys)) else none
  | _,_=>none
noncomputable def rAddD (K:PySem.W.Frag):R2:=fun x y H Q=>rI0 (fun i j=>.int (i+j)) x y H Q∨rCatT K x y H Q∨rCat x y H Q
theorem op_addD:OpR X (binaryOp .Add) (rAddD X.K):=op_add.or (op_catT.or op_cat)
theorem vo_add {K:PySem.W.Frag}:VOp2 (rAddD K) addD:=fun PK pa m G H x y dx dy dz Q w hx hy hz k=>by
  unfold addD at hz
  split at hz
  · cases hz; cases hx; cases hy
    exact .inl ⟨_,_,rfl,rfl,k.here w (.int _)⟩
  · rename_i xs ys
    split at hz
    · rename_i hc
      rw [Bool.and_eq_true] at hc
      have h1:xs.isEmpty=false:=by simpa using hc.1
      have h2:xs.length+ys.length≤sizeLine:=of_decide_eq_true hc.2
      cases hz
      cases hx with
      | tup a1 a2 =>
        cases hy with
        | tup b1 b2 =>
          refine .inr (.inl ⟨_,_,_,_,rfl,rfl,SqT.of (w.sub _ _ a1),SqT.of (w.sub _ _ b1),?_,by rw [a2.length,b2.length]; exact h2,fun e=>?_,fun e p hp=>k.tup w (a2.append b2) hp⟩)
          · intro e
            rw [← a2.isEmpty,e] at h1
            cases h1
          · subst e
            cases b2
            refine k.here w ?_
            rw [List.append_nil]
            exact .tup a1 a2
    · cases hz
  · rename_i xs ys
    split at hz
    · rename_i hc
      have h2:xs.length+ys.length≤sizeLine:=of_decide_eq_true hc
      cases hz
      cases hx with
      | lst a1 a2 =>
        cases hy with
        | lst b1 b2=>exact .inr (.inr ⟨_,_,_,_,rfl,rfl,w.sub _ _ a1,w.sub _ _ b1,by rw [a2.length,b2.length]; exact h2,fun p hp=>k.lst w (a2.append b2) hp⟩)
    · cases hz
  · cases hz
noncomputable def subD:PyData→PyData→Option PyData
  | .int m,.int n=>some (.int (m - n))
  | _,_=>none
theorem vo_sub:VOp2 (rI0 fun i j=>.int (i - j)) subD:=fun PK pa m G H x y dx dy dz Q w hx hy hz k=>by
  unfold subD at hz
  split at hz
  · cases hz; cases hx; cases hy
    exact ⟨_,_,rfl,rfl,k.here w (.int _)⟩
  · cases hz
theorem DnAll.rep {H:Hp} {vs:List V} {ds:List PyData} (h:DnAll H vs ds):∀ k:Nat,DnAll H (List.replicate k vs).flatten (List.replicate k ds).flatten
  | 0=>.nil
  | k+1=>by
    rw [List.replicate_succ,List.replicate_succ,List.flatten_cons,List.flatten_cons]
    exact h.append (h.rep k)
noncomputable def powD:PyData→PyData→Option PyData
  | .int m,.int n=>if (decide (0≤n) && decide (n≤1000000) && decide (m.natAbs < 2 ^ 64))=true then some (.int (m ^ n.toNat)) else none
  | _,_=>none
theorem vo_pow:VOp2 (rI CPow fun i j=>.int (i ^ j.toNat)) powD:=fun PK pa m G H x y dx dy dz Q w hx hy hz k=>by
  unfold powD at hz
  split at hz
  · split at hz
    · rename_i hc
      simp only [Bool.and_eq_true,decide_eq_true_eq] at hc
      cases hz; cases hx; cases hy
      exact ⟨_,_,rfl,rfl,⟨hc.1.1,hc.1.2,hc.2⟩,k.here w (.int _)⟩
    · cases hz
  · cases hz
noncomputable def aNeg (i:List Sl→Tr PyData):List Sl→Tr PyData:=fun ρ=>(i ρ).bind fun x=>match x with
  | .int n=>.ret (.int (-n))
  | _=>.fail
theorem ae_neg (ha:PE X a (TAe PK i)):PE X (.UnaryOp .USub a pos) (TAe PK (aNeg i)):=(pe_un un_neg ha).imp fun σ H Q hz0=>by
  obtain ⟨pa,G₀,H₀,m,ρ,G,R,z⟩:=hz0
  refine TAe.then R z fun m1 x v G1 H1 s1 w1 R1 d1 q1=>?_
  cases d1 with
  | int n=>exact ⟨n,rfl,(Kn.later q1 s1 w1.some).here w1 (.int _)⟩
  | _=>exact q1.elim
noncomputable def cmpD (f:Int→Int→Bool):PyData→PyData→Option PyData
  | .int m,.int n=>some (.bool (f m n))
  | _,_=>none
theorem vo_cmp {f:Int→Int→Bool}:VOp2 (rI0 fun i j=>.bl (f i j)) (cmpD f):=fun PK pa m G H x y dx dy dz Q w hx hy hz k=>by
  unfold cmpD at hz
  split at hz
  · cases hz; cases hx; cases hy
    exact ⟨_,_,rfl,rfl,k.here w (.bl _)⟩
  · cases hz
noncomputable def eqD:PyData→PyData→Option PyData
  | .str m,.str n=>some (.bool (m == n))
  | x,y=>if (SeqAt.shaped x && SeqAt.shaped y)=true then some (.bool (PyData.eqv x y)) else none
noncomputable def neD:PyData→PyData→Option PyData
  | .str m,.str n=>some (.bool (!(m == n)))
  | x,y=>if (SeqAt.shaped x && SeqAt.shaped y)=true then some (.bool (!PyData.eqv x y)) else none
noncomputable def rEqD:R2:=fun x y H Q=>rEq x y H Q∨∃ d e,Dn H x d∧Dn H y e∧SeqAt.shaped d=true∧SeqAt.shaped e=true∧Q (.bl (PyData.eqv d e)) H
noncomputable def rNeD:R2:=fun x y H Q=>rNe x y H Q∨∃ d e,Dn H x d∧Dn H y e∧SeqAt.shaped d=true∧SeqAt.shaped e=true∧Q (.bl (!PyData.eqv d e)) H
theorem op_eqA {k:Nat} (hr:Room k X.A):OpR X (compareOp .Eq) rEqD:=op_eq.or (op_eqD hr)
theorem op_neA {k:Nat} (hr:Room k X.A):OpR X (compareOp .NotEq) rNeD:=op_ne.or (op_neD hr)
theorem vo_eq:VOp2 rEqD eqD:=fun PK pa m G H x y dx dy dz Q w hx hy hz k=>by
  unfold eqD at hz
  split at hz
  · cases hz; cases hx; cases hy
    exact .inl ⟨rfl,by rw [dec_str]; exact k.here w (.bl _)⟩
  · split at hz
    · rename_i hc
      rw [Bool.and_eq_true] at hc
      cases hz
      exact .inr ⟨_,_,hx.mono w.sub,hy.mono w.sub,hc.1,hc.2,k.here w (.bl _)⟩
    · cases hz
theorem vo_ne:VOp2 rNeD neD:=fun PK pa m G H x y dx dy dz Q w hx hy hz k=>by
  unfold neD at hz
  split at hz
  · cases hz; cases hx; cases hy
    exact .inl ⟨rfl,by rw [dec_str]; exact k.here w (.bl _)⟩
  · split at hz
    · rename_i hc
      rw [Bool.and_eq_true] at hc
      cases hz
      exact .inr ⟨_,_,hx.mono w.sub,hy.mono w.sub,hc.1,hc.2,k.here w (.bl _)⟩
    · cases hz
noncomputable def isBD:PyData→PyData→Option PyData
  | .bool m,.bool n=>some (.bool (m == n))
  | _,_=>none
noncomputable def isnBD:PyData→PyData→Option PyData
  | .bool m,.bool n=>some (.bool (!(m == n)))
  | _,_=>none
theorem vo_isnB:VOp2 (fun x y H Q=>∃ a b,x=.bl a∧y=.bl b∧Q (.bl (!(a == b))) H) isnBD:=fun PK pa m G H x y dx dy dz Q w hx hy hz k=>by
  unfold isnBD at hz
  split at hz
  · cases hz; cases hx; cases hy
    exact ⟨_,_,rfl,rfl,k.here w (.bl _)⟩
  · cases hz
noncomputable def ixD:PyData→PyData→Option PyData
  | .list xs,.int n=>atI xs n
  | .tuple xs,.int n=>atI xs n
  | _,_=>none
theorem DnAll.at {H:Hp} {vs:List V} {ds:List PyData} {n:Int} {d:PyData} (h:DnAll H vs ds) (e:atI ds n=some d):∃ v,atI vs n=some v∧Dn H v d:=by
  unfold atI at e ⊢
  rw [← h.length] at e
  cases hn:ixN vs.length n with
  | none=>rw [hn] at e; cases e
  | some j =>
    rw [hn] at e
    exact h.get j e
theorem vo_ix {K:PySem.W.Frag}:VOp2 (rIx K) ixD:=fun PK pa m G H x y dx dy dz Q w hx hy hz k=>by
  unfold ixD at hz
  split at hz
  · cases hy
    cases hx with
    | lst a1 a2 =>
      obtain ⟨v,h1,h2⟩:=a2.at hz
      exact .inl ⟨_,_,_,v,rfl,rfl,SqL.of (w.sub _ _ a1),h1,k.here w h2⟩
  · cases hy
    cases hx with
    | tup a1 a2 =>
      obtain ⟨v,h1,h2⟩:=a2.at hz
      exact .inr (.inl ⟨_,_,_,v,rfl,rfl,SqT.of (w.sub _ _ a1),h1,k.here w h2⟩)
  · cases hz

noncomputable def lenD:List PyData→Option PyData
  | [.list xs]=>some (.int xs.length)
  | [.tuple xs]=>some (.int xs.length)
  | _=>none
theorem vc_len {K:PySem.W.Frag}:VCl (fun xs H Q=>∃ p ys,xs=[.ref p]∧(SqL K H p ys∨SqT K H p ys)∧Q (.int ys.length) H) lenD:=fun PK pa m G H vs ds d Q w hv hd k=>by
  unfold lenD at hd
  split at hd
  · cases hd
    cases hv with
    | cons h1 h2 =>
      cases h2
      cases h1 with
      | lst a1 a2=>exact ⟨_,_,rfl,.inl (SqL.of (w.sub _ _ a1)),by rw [a2.length]; exact k.here w (.int _)⟩
  · cases hd
    cases hv with
    | cons h1 h2 =>
      cases h2
      cases h1 with
      | tup a1 a2=>exact ⟨_,_,rfl,.inr (SqT.of (w.sub _ _ a1)),by rw [a2.length]; exact k.here w (.int _)⟩
  · cases hd
noncomputable def maxI (m n:Int):Int:=if n > m then n else m
noncomputable def tupD:List PyData→Option PyData
  | [.list xs]=>some (.tuple xs)
  | [.tuple xs]=>some (.tuple xs)
  | _=>none
theorem vc_tup {K:PySem.W.Frag}:VCl (fun xs H Q=>∃ p ys,xs=[.ref p]∧((SqL K H p ys∧∀ l,H l=none→Q (.ref l) (upd H l (.tup ys)))∨(SqT K H p ys∧Q (.ref p) H))) tupD:=fun PK pa m G H vs ds d Q w hv hd k=>by
  unfold tupD at hd
  split at hd
  · cases hd
    cases hv with
    | cons h1 h2 =>
      cases h2
      cases h1 with
      | lst a1 a2=>exact ⟨_,_,rfl,.inl ⟨SqL.of (w.sub _ _ a1),fun p hp=>k.tup w a2 hp⟩⟩
  · cases hd
    cases hv with
    | cons h1 h2 =>
      cases h2
      cases h1 with
      | tup a1 a2=>exact ⟨_,_,rfl,.inr ⟨SqT.of (w.sub _ _ a1),k.here w (.tup a1 a2)⟩⟩
  · cases hd
noncomputable def lstD:List PyData→Option (List PyData)
  | [.list xs]=>some xs
  | [.tuple xs]=>some xs
  | _=>none
theorem vc_lst {K:PySem.W.Frag}:VClo (fun xs H Q=>∃ p ys,xs=[.ref p]∧(SqL K H p ys∨SqT K H p ys)∧∀ l,H l=none→Q (.ref l) (upd H l (.lst ys))) lstD:=fun PK pa m G H vs ds d Q w hv hd k=>by
  unfold lstD at hd
  split at hd
  · cases hd
    cases hv with
    | cons h1 h2 =>
      cases h2
      cases h1 with
      | lst a1 a2=>exact ⟨_,_,rfl,.inl (SqL.of (w.sub _ _ a1)),fun p hp=>k.new w a2 hp⟩
  · cases hd
    cases hv with
    | cons h1 h2 =>
      cases h2
      cases h1 with
      | tup a1 a2=>exact ⟨_,_,rfl,.inr (SqT.of (w.sub _ _ a1)),fun p hp=>k.new w a2 hp⟩
  · cases hd
noncomputable def tyD:PyData→String
  | .none=>"NoneType"
  | .bool _=>"bool"
  | .int _=>"int"
  | .str _=>"str"
  | .list _=>"list"
  | .tuple _=>"tuple"
  | .dict _=>"dict"
theorem Dn.ty {K:PySem.W.Frag} {G H:Hp} (sb:Sub G H) {v:V} {d:PyData} (h:Dn G v d):TyOf K H v (.type (tyD d)):=by
  cases h with
  | non=>exact .non
  | bl b=>exact .bl b
  | int i=>exact .int i
  | str x=>exact .str x
  | tup h _=>exact .tup (sb _ _ h)
  | lst h _=>exact .lst (sb _ _ h)
  | dct h _=>exact .dK (sb _ _ h)
noncomputable def isiB (T:String) (t:String):Bool:=decide (t=T) || (decide (T="int") && decide (t="bool"))
noncomputable def aIsi (T:String) (i:List Sl→Tr PyData):List Sl→Tr PyData:=fun ρ=>(i ρ).bind fun x=>.ret (.bool (isiB T (tyD x)))
noncomputable def isiT (T:String):Prop:=T="int"∨T="bool"∨T="str"∨T="list"∨T="tuple"∨T="dict"
theorem kit_all {K:PySem.W.Frag} {T:String} (h:isiT T) (d:PyData):PySem.W.kitOne K (.type (tyD d)) (.type T)=some (isiB T (tyD d)):=by
  rcases h with rfl | rfl | rfl | rfl | rfl | rfl <;> cases d <;> rfl
theorem ae_isi {T:String} {tc:TE} (hT:isiT T) (htc:tc=tC (.ty T)) (h:PE X e (tCB (fun xs H Q=>∃ x T t b,xs=[x,.ty T]∧TyOf X.K H x t∧PySem.W.kitOne X.K t (.type T)=some b∧Q (.bl b) H) (tCons (TAe PK i) (tCons tc tNil)))):PE X e (TAe PK (aIsi T i)):=h.imp fun σ H Q hz0=>by
  obtain ⟨pa,G₀,H₀,m,ρ,G,R,z⟩:=hz0
  subst htc
  refine TAe.then R z fun m1 x v G1 H1 s1 w1 R1 d1 q1=>?_
  exact ⟨v,T,_,_,rfl,d1.ty w1.sub,kit_all hT x,(Kn.later q1 s1 w1.some).here w1 (.bl _)⟩
noncomputable def cutD (xs:List PyData) (lo hi:Option Int):List PyData:=(xs.drop (HT.sIx xs.length 0 lo)).take (HT.sIx xs.length xs.length hi - HT.sIx xs.length 0 lo)
theorem DnAll.take {H:Hp}:∀ {vs:List V} {ds:List PyData} (n:Nat),DnAll H vs ds→DnAll H (vs.take n) (ds.take n)
  | _,_,0,_=>.nil
  | _,_,_+1,.nil=>.nil
  | _,_,n+1,.cons r t=>.cons r (DnAll.take n t)
theorem DnAll.drop {H:Hp}:∀ {vs:List V} {ds:List PyData} (n:Nat),DnAll H vs ds→DnAll H (vs.drop n) (ds.drop n)
  | _,_,0,r=>r
  | _,_,_+1,.nil=>.nil
  | _,_,n+1,.cons r t=>DnAll.drop n t
theorem DnAll.cut {H:Hp} {vs:List V} {ds:List PyData} (h:DnAll H vs ds) (lo hi:Option Int):DnAll H (cutV vs lo hi) (cutD ds lo hi):=by
  unfold cutV cutD
  rw [h.length]
  exact (h.drop _).take _
noncomputable abbrev aPart:=List Sl→Tr (Option Int)
noncomputable def aP0:aPart:=fun _=>.ret none
noncomputable def aP1 (i:List Sl→Tr PyData):aPart:=fun ρ=>(i ρ).bind fun x=>match x with
  | .int n=>.ret (some n)
  | _=>.fail
noncomputable def TAp (PK:Pk) (i:aPart):TO:=fun σ H Q=>∃ pa G₀ H₀ m ρ G,Rl PK pa G₀ H₀ m σ ρ G H∧(i ρ).ok m fun m' x=>∀ G' H',Stp pa G H G' H'→Wd PK pa m' G' H'→Q x H'
theorem PO.imp {e:Option Expr} {t t':TO} (h:PO X e t) (q:∀ σ H Q,t' σ H Q→t σ H Q):PO X e t':=fun pins s σ H Q I z=>h pins s σ H Q I (q σ H Q z)
theorem ap_none:PO X none (TAp PK aP0):=po_none.imp fun σ H Q hz0=>by
  obtain ⟨pa,G₀,H₀,m,ρ,G,R,z⟩:=hz0
  exact z G H .refl R.wd
theorem ap_some (h:PE X e (TAe PK i)):PO X (some e) (TAp PK (aP1 i)):=(po_some h).imp fun σ H Q hz0=>by
  obtain ⟨pa,G₀,H₀,m,ρ,G,R,z⟩:=hz0
  refine TAe.then R z fun m1 x v G1 H1 s1 w1 R1 d1 q1=>?_
  cases d1 with
  | int n=>exact ⟨n,rfl,q1 G1 H1 s1 w1⟩
  | _=>exact q1.elim
theorem getItem_tuple_whole {prog:Program} {w:World} {A:Around} {E:Value→Shared→Prop} {s:Shared} {t sl:Addr} {items:Array Value} {vl vu:Value} {lo hi:Option Int} {Q:Value→Shared→Prop} (ht:IsTup s.heap t items) (hs:s.heap.IsSliceOf sl vl vu .none) (pl:IsPart vl lo) (pu:IsPart vu hi)
    (hw:HT.sIx items.size 0 lo=0∧HT.sIx items.size items.size hi=items.size) (h:Q (.ref t) s):wpAny (model prog w) A (getItem (.ref t) (.ref sl)) Q E s:=by
  obtain ⟨os,hos,hcs,hds⟩:=id hs
  have hTs:s.TypeIs (.ref sl) "slice":=⟨os,hos,hcs⟩
  unfold getItem
  try with_reducible refine wpAny_holding ?_
  first | refine wpAny_bind (wpAny_pure ?_) | skip
  refine wpAny_bind (wpAny_sequenceKey ht.typeIs (by decide) ?_)
  refine wpAny_bind (wpAny_callSpecial?_slot (name:=Str.ofString "__getitem__") ht.typeIs PyProof.Rows.slot_tuple_getitem
    (wpAny_call_entry PyProof.Rows.slot_tuple_getitem ht.typeIs entry_tuple_getitem ?_ (args_tuple_getitem _ _)))
  show wpAny _ _ (Builtin.Tuple.tupleItemsOf (.ref t) >>= _) _ _ s
  refine wpAny_bind (tupleItemsOf_ ht ?_)
  refine wpAny_bind (wpAny_typeOf hTs ?_)
  rw [if_pos (by decide)]
  refine wpAny_bind (HT.sliceApplied_gen hs pl pu ?_)
  have hyes:(((HT.sIx items.size 0 lo:Nat):Int) == 0 && (1:Int) == 1 && (HT.sIx items.size items.size hi - HT.sIx items.size 0 lo) == items.size)=true:=by
    rw [hw.1,hw.2]
    simp
  show wpAny _ _ (if (((HT.sIx items.size 0 lo:Nat):Int) == 0 && (1:Int) == 1 && (HT.sIx items.size items.size hi - HT.sIx items.size 0 lo) == items.size)=true then _ else _) _ _ s
  rw [if_pos hyes]
  refine wpAny_bind (m:=Builtin.Tuple.tupleIsExact (.ref t)) ?_
  unfold Builtin.Tuple.tupleIsExact
  refine wpAny_bind (wpAny_typeOf ht.typeIs ?_)
  refine wpAny_pure ?_
  rw [if_pos (by decide)]
  refine wpAny_bind (wpAny_rule ?_)
  exact wpAny_pure ⟨_,rfl,wpAny_pure h⟩
noncomputable def rSlTw (K:PySem.W.Frag):V→Option Int→Option Int→Hp→VK→Prop:=fun x lo hi H Q=>∃ a xs,x=.ref a∧SqT K H a xs∧(HT.sIx xs.length 0 lo=0∧HT.sIx xs.length xs.length hi=xs.length)∧Q (.ref a) H
theorem sl_tupW:SlR X (rSlTw X.K):=by
  intro pins s σ H x v vl vu lo hi sl Q I rx hs pl pu h
  obtain ⟨a,xs,rfl,hx,hw,q⟩:=h
  cases rx
  obtain ⟨its,r,ht,hz⟩:=I.tuple hx
  have hlen:its.toArray.size=xs.length:=by rw [List.size_toArray]; exact r.length.symm
  refine ⟨"tuple",_,PyProof.Rows.slot_tuple_getitem.lookup,ht.typeIs,?_⟩
  exact getItem_tuple_whole ht hs pl pu (by rw [hlen]; exact hw) ⟨.ref a,H,I,rfl,q⟩
noncomputable def rSlD (K:PySem.W.Frag):V→Option Int→Option Int→Hp→VK→Prop:=fun x lo hi H Q=>rSlL K x lo hi H Q∨rSlT K x lo hi H Q∨rSlTw K x lo hi H Q
theorem sl_all:SlR X (rSlD X.K):=sl_list.or (sl_tup.or sl_tupW)
noncomputable def sliceD (x:PyData) (lo hi:Option Int):Option PyData:=match x with
  | .list xs=>some (.list (cutD xs lo hi))
  | .tuple xs=>some (.tuple (cutD xs lo hi))
  | _=>none
noncomputable def aSl (i:List Sl→Tr PyData) (p q:aPart):List Sl→Tr PyData:=fun ρ=>(i ρ).bind fun x=>(p ρ).bind fun lo=>(q ρ).bind fun hi=>Tr.of (sliceD x lo hi)
theorem TAp.then {p:aPart} {σ:St} {H:Hp} {β:Type} {k:Option Int→Tr β} {Z:Nat→β→Prop} {Q:Option Int→Hp→Prop} {pa:Addr} {G₀ H₀ G:Hp} {m:Nat} {ρ:List Sl} (R:Rl PK pa G₀ H₀ m σ ρ G H) (h:((p ρ).bind k).ok m Z)
    (hq:∀ m1 x G1 H1,Stp pa G H G1 H1→Wd PK pa m1 G1 H1→Rl PK pa G₀ H₀ m1 σ ρ G1 H1→(k x).ok m1 Z→Q x H1):TAp PK p σ H Q:=by
  refine ⟨pa,G₀,H₀,m,ρ,G,R,Tr.ok_mono (Tr.ok_bind.mp h) fun m1 x hx G1 H1 s1 w1=>?_⟩
  exact hq m1 x G1 H1 s1 w1 (R.step s1 w1) hx
theorem ae_sl {p q:aPart} {lo hi:Option Expr} {p2:Pos} (he:PE X e (TAe PK i)) (hl:PO X lo (TAp PK p)) (hu:PO X hi (TAp PK q)):PE X (.Subscript e (.Slice lo hi none p2) pos) (TAe PK (aSl i p q)):=(pe_slice sl_all he hl hu).imp fun σ H Q hz0=>by
  obtain ⟨pa,G₀,H₀,m,ρ,G,R,z⟩:=hz0
  refine TAe.then R z fun m1 x v G1 H1 s1 w1 R1 d1 q1=>?_
  refine TAp.then R1 q1 fun m2 lo G2 H2 s2 w2 R2 q2=>?_
  refine TAp.then R2 q2 fun m3 hi G3 H3 s3 w3 R3 q3=>?_
  obtain ⟨d,hd,k⟩:=Tr.ok_of q3
  have s13:=(s1.trans s2 w1.some).trans s3 w2.some
  have k':=Kn.later k s13 w3.some
  have d3:=d1.mono (s2.gs.trans s3.gs)
  cases d3 with
  | lst a1 a2=>cases hd; exact .inl ⟨_,_,rfl,SqL.of (w3.sub _ _ a1),fun p hp=>k'.lst w3 (a2.cut lo hi) hp⟩
  | @tup a xs ds a1 a2 =>
    cases hd
    by_cases hw:HT.sIx xs.length 0 lo=0∧HT.sIx xs.length xs.length hi=xs.length
    · refine .inr (.inr ⟨_,_,rfl,SqT.of (w3.sub _ _ a1),hw,k'.here w3 ?_⟩)
      have e:cutD ds lo hi=ds:=by
        unfold cutD
        rw [← a2.length,hw.1,hw.2]
        simp
        rw [a2.length]
        exact List.take_length
      rw [e]
      exact .tup a1 a2
    · exact .inr (.inl ⟨_,_,rfl,SqT.of (w3.sub _ _ a1),hw,fun p hp=>k'.tup w3 (a2.cut lo hi) hp⟩)
  | _=>cases hd
noncomputable def ints?:List PyData→Option (List Int)
  | []=>some []
  | .int n::xs=>(ints? xs).bind fun ns=>some (n::ns)
  | _=>none
@[simp] theorem ints?_map:∀ ns:List Int,ints? (ns.map PyData.int)=some ns
  | []=>rfl
  | n::ns=>by rw [List.map_cons,ints?,ints?_map ns]; rfl
theorem DnAll.ints_inv {H:Hp} {vs:List V} {ds:List PyData} {ns:List Int} (a:DnAll H vs ds) (h:ints? ds=some ns):vs=ns.map V.int∧ds=ns.map PyData.int:=by
  induction vs generalizing ds ns with
  | nil=>cases a; cases h; exact ⟨rfl,rfl⟩
  | cons v vs ih =>
    cases a with
    | cons g t =>
      cases g with
      | int n =>
        unfold ints? at h
        rename_i ds
        cases e:ints? ds with
        | none=>rw [e] at h; cases h
        | some ms =>
          rw [e] at h
          cases h
          obtain ⟨h1,h2⟩:=ih t e
          exact ⟨by rw [h1]; rfl,by rw [h2]; rfl⟩
      | _=>unfold ints? at h; cases h
end L2
set_option Elab.async false
set_option linter.all false
set_option maxRecDepth 100000
namespace L2
open PySem PySem.Spec PyProof.Rows
section
variable {prog:Program} {w:World} {A:Around} {E:Value→Shared→Prop} {s:Shared}
noncomputable def ItAt (b:Bool) (h:Heap) (it a:Addr) (k:Nat):Prop:=match b with
  | true=>h.IsListIter it a k
  | false=>h.IsTupleIter it a k
noncomputable def SqAt (b:Bool) (h:Heap) (a:Addr) (items:Array Value):Prop:=match b with
  | true=>h.IsList a items
  | false=>h.IsTuple a items
theorem SqAt.at {b:Bool} {h h':Heap} {a:Addr} {items:Array Value} (x:SqAt b h a items) (e:∀ o,h.get? a=some o→h'.get? a=some o):SqAt b h' a items:=by
  cases b with
  | true=>exact Heap.IsList.at x e
  | false=>exact Heap.IsTuple.at x e
noncomputable def itObj (b:Bool) (l:Addr):Obj:=match b with
  | true=>{ cls:=.type "list_iterator",data:=.fields #[.ref l,.int 0 0] }
  | false=>{ cls:=.type "tuple_iterator",data:=.fields #[.ref l,.int 0 0] }
theorem pyIter_sq {b:Bool} {l:Addr} {items:Array Value} {Q:Value→Shared→Prop} (hl:SqAt b s.heap l items) (hQ:Q (.ref s.heap.objs.size) { s with heap:=s.heap.push (itObj b l) }):wpAny (model prog w) A (pyIter (.ref l)) Q E s:=by
  cases b with
  | true=>exact wpAny_pyIter_list hl hQ
  | false=>exact wpAny_pyIter_tuple hl hQ
theorem SqAt.push {b:Bool} {h:Heap} {l:Addr} {items:Array Value} (x:SqAt b h l items) (o:Obj):SqAt b (h.push o) l items:=x.at fun _ q=>Heap.get?_push_of_some _ q
theorem itObj_at {b:Bool} {h:Heap} {it l:Addr} (e:h.get? it=some (itObj b l)):ItAt b h it l 0:=by
  cases b with
  | true=>exact ⟨_,e,rfl,rfl⟩
  | false=>exact ⟨_,e,rfl,rfl⟩
end
section
variable {X:Cx} {pins:List (Addr×Obj)} {σ:St} {H:Hp} {s:Shared} {h':Heap}
end
noncomputable def hoB (b:Bool) (xs:List V):HO:=match b with
  | true=>.lst xs
  | false=>.tup xs
theorem sqAt_of {P:Program} {w:World} {H:Hp} {h:Heap} (ok:HOk P w H h) {b:Bool} {a:Addr} {xs:List V} (e:H a=some (hoB b xs)):∃ its:List Value,Vals xs its∧SqAt b h a its.toArray:=by
  cases b with
  | true=>obtain ⟨_,its,n,r,q⟩:=ok a _ e; exact ⟨its,r,⟨_,q,rfl,n,rfl⟩⟩
  | false=>obtain ⟨_,its,r,q⟩:=ok a _ e; exact ⟨its,r,q⟩
end L2
set_option Elab.async false
set_option linter.all false
set_option maxRecDepth 100000
namespace L2
open PySem PySem.Spec PyProof.Rows
open AutoSeq1 (wpAny_loadPart')
section
variable {X:Cx} {tg:Expr} {PK:Pk} {a b:Expr} {i j:List Sl→Tr PyData} {p pos:Pos}
theorem hoB_of {G:Hp} {v:V} {x:PyData} {xs:List PyData} (d:Dn G v x) (h:itD x=some xs):∃ b a vs,v=.ref a∧G a=some (hoB b vs)∧DnAll G vs xs:=by
  cases d with
  | lst h1 h2=>cases h; exact ⟨true,_,_,rfl,h1,h2⟩
  | tup h1 h2=>cases h; exact ⟨false,_,_,rfl,h1,h2⟩
  | _=>cases h
end
section
variable {prog:Program} {w:World} {A:Around} {E:Value→Shared→Prop} {s:Shared}
end
section
variable {X:Cx} {tg:Expr} {PK:Pk} {a b:Expr} {i j:List Sl→Tr PyData} {p pos:Pos}
end
end L2
set_option Elab.async false
set_option linter.all false
set_option maxRecDepth 100000
namespace L2
open PySem PySem.Spec PyProof.Rows
section
variable {prog:Program} {w:World} {A:Around}
theorem walksAt (hh:A.handled=none) (b:Bool) (I ax:Addr) (hne:ax≠I) (items:Array Value):Walks prog w A I [I,ax] [I] items.size (fun i v=>items[i]?=some v) (fun i h=>ItAt b h I ax i∧SqAt b h ax items):=by
  cases b with
  | true=>exact Walks.list hh I ax hne items
  | false=>exact Walks.tuple hh I ax hne items
end
theorem ints_get {ns:List Int} {us:List Value} (r:Vals (ns.map V.int) us) {i:Nat} {v:Value} (h:us[i]?=some v):∃ t,v=.int ((ns[i]?).getD 0) t:=by
  have hi:i < us.length:=(List.getElem?_eq_some_iff.mp h).1
  have hl:us.length=ns.length:=by rw [← r.length,List.length_map]
  obtain ⟨u,e1,e2⟩:=r.get (i:=i) (x:=V.int ns[i]) (by simp [show i < ns.length by omega])
  rw [h] at e1
  cases e1
  obtain ⟨t,e2⟩:=e2
  exact ⟨t,by simp [show i < ns.length by omega,e2]⟩
theorem preSum_list (ns:List Int):preSum (fun i=>(ns[i]?).getD 0) ns.length=ns.sum:=by
  have key:∀ k,k≤ns.length→preSum (fun i=>(ns[i]?).getD 0) k=(ns.take k).sum:=by
    intro k
    induction k with
    | zero=>intro _; simp [preSum]
    | succ k ih =>
      intro hk
      rw [preSum,ih (by omega),List.take_add_one,List.sum_append]
      simp [show k < ns.length by omega]
  rw [key _ (Nat.le_refl _),List.take_length]
section
variable {X:Cx} {PK:Pk}
theorem call_sumD (hc:X.calm=true):CallR X (.builtin "sum") (fun xs H Q=>∃ (b:Bool) (l:Addr) (ns:List Int),xs=[.ref l]∧H l=some (hoB b (ns.map V.int))∧Q (.int ns.sum) H):=by
  intro pins s σ H xs us Q I r h
  obtain ⟨b,l,ns,rfl,e1,q⟩:=h
  obtain ⟨u,rfl,ru⟩:=vals1 r
  cases ru
  obtain ⟨vs,rv,sq⟩:=sqAt_of I.hok e1
  have hlt:l < s.heap.objs.size:=I.hok.lt e1
  refine call_sum_walkG (pyIter_sq sq ?_)
  refine ⟨s.heap.objs.size,[s.heap.objs.size,l],[s.heap.objs.size],vs.toArray.size,_,_,fun i=>(ns[i]?).getD 0,rfl,walksAt (A:=X.A.in1) (I.ok.hd hc) b _ l (Nat.ne_of_lt hlt) vs.toArray,
    ⟨itObj_at (Heap.get?_push_size _ (by cases b <;> rfl)),sq.push _⟩,fun c hc=>?_,fun i v hv=>ints_get rv (by simpa using hv),fun h' tk t' hk=>?_⟩
  · rw [Heap.size_push]
    simp at hc
    rcases hc with rfl | rfl
    · exact Nat.lt_succ_self _
    · exact Nat.lt_succ_of_lt hlt
  · refine ⟨.int ns.sum,H,I.kept (t':=tk) fun c o e=>hk c o (fun z=>?_) (Heap.get?_push_of_some _ e),⟨t',?_⟩,q⟩
    · have:c=s.heap.objs.size:=by simpa using z
      subst this
      exact Nat.lt_irrefl _ (Heap.lt_size e)
    · have e:vs.toArray.size=ns.length:=by rw [List.size_toArray,← rv.length,List.length_map]
      rw [e,preSum_list]
theorem range_all' (bs:List Bool):((List.range bs.length).all fun i=>(bs[i]?).getD true)=bs.all id:=by
  rw [Bool.eq_iff_iff,List.all_eq_true,List.all_eq_true]
  constructor
  · intro h x hx
    obtain ⟨i,hi,rfl⟩:=List.getElem_of_mem hx
    have:=h i (List.mem_range.mpr hi)
    simpa [hi] using this
  · intro h i hi
    have hi':=List.mem_range.mp hi
    simpa [hi'] using h _ (List.getElem_mem hi')
theorem bools_get {bs:List Bool} {us:List Value} (r:Vals (bs.map V.bl) us) {i:Nat} {v:Value} (h:us[i]?=some v):v=.bool ((bs[i]?).getD true):=by
  have hi:i < us.length:=(List.getElem?_eq_some_iff.mp h).1
  have hl:us.length=bs.length:=by rw [← r.length,List.length_map]
  obtain ⟨u,e1,e2⟩:=r.get (i:=i) (x:=V.bl bs[i]) (by simp [show i < bs.length by omega])
  rw [h] at e1
  cases e1
  cases e2
  simp [show i < bs.length by omega]
theorem call_allD (hc:X.calm=true):CallR X (.builtin "all") (fun xs H Q=>∃ (b:Bool) (l:Addr) (bs:List Bool),xs=[.ref l]∧H l=some (hoB b (bs.map V.bl))∧Q (.bl (bs.all id)) H):=by
  intro pins s σ H xs us Q I r h
  obtain ⟨b,l,bs,rfl,e1,q⟩:=h
  obtain ⟨u,rfl,ru⟩:=vals1 r
  cases ru
  obtain ⟨vs,rv,sq⟩:=sqAt_of I.hok e1
  have hlt:l < s.heap.objs.size:=I.hok.lt e1
  refine call_all_walk (pyIter_sq sq ?_)
  refine ⟨s.heap.objs.size,[s.heap.objs.size,l],[s.heap.objs.size],vs.toArray.size,_,_,fun i=>(bs[i]?).getD true,rfl,walksAt (A:=X.A.in1) (I.ok.hd hc) b _ l (Nat.ne_of_lt hlt) vs.toArray,
    ⟨itObj_at (Heap.get?_push_size _ (by cases b <;> rfl)),sq.push _⟩,fun i v s' Q' E' hP hQ=>?_,fun h' tk hk=>?_⟩
  · have e:=bools_get rv (i:=i) (v:=v) (by simpa using hP)
    subst e
    exact wpAny_truthy_bool hQ
  · have e:vs.toArray.size=bs.length:=by rw [List.size_toArray,← rv.length,List.length_map]
    rw [e,range_all']
    refine ⟨.bl _,H,I.kept (t':=tk) fun c o e=>hk c o (fun z=>?_) (Heap.get?_push_of_some _ e),rfl,q⟩
    have:c=s.heap.objs.size:=by simpa using z
    subst this
    exact Nat.lt_irrefl _ (Heap.lt_size e)
noncomputable def maxL:List Int→Int
  | []=>0
  | [n]=>n
  | n::m::r=>maxI (maxL (m::r)) n
theorem maxL_spec:∀ {ns:List Int},ns≠[]→maxL ns∈ns∧∀ m∈ns,m≤maxL ns
  | [],h=>absurd rfl h
  | [n],_=>⟨by simp [maxL],by simp [maxL]⟩
  | n::m::r,_=>by
    obtain ⟨h1,h2⟩:=maxL_spec (ns:=m::r) (by simp)
    unfold maxL maxI
    split
    · refine ⟨by simp,fun k hk=>?_⟩
      rcases List.mem_cons.mp hk with rfl | hk
      · exact Int.le_refl _
      · have:=h2 k hk; omega
    · refine ⟨List.mem_cons_of_mem _ h1,fun k hk=>?_⟩
      rcases List.mem_cons.mp hk with rfl | hk
      · omega
      · exact h2 k hk
theorem best_gt (f:Nat→Int):∀ k,argBest (fun i j=>decide (f i > f j)) k≤k∧∀ j,j≤k→f j≤f (argBest (fun i j=>decide (f i > f j)) k)
  | 0=>⟨Nat.le_refl _,fun j hj=>by
    have:j=0:=by omega
    subst this
    exact Int.le_refl _⟩
  | k+1=>by
    obtain ⟨h1,h2⟩:=best_gt f k
    unfold argBest
    by_cases hc:f (k+1) > f (argBest (fun i j=>decide (f i > f j)) k)
    · rw [if_pos (by simpa using hc)]
      refine ⟨Nat.le_refl _,fun j hj=>?_⟩
      rcases Nat.lt_or_eq_of_le hj with h | h
      · have:=h2 j (by omega); omega
      · subst h; exact Int.le_refl _
    · rw [if_neg (by simpa using hc)]
      refine ⟨by omega,fun j hj=>?_⟩
      rcases Nat.lt_or_eq_of_le hj with h | h
      · exact h2 j (by omega)
      · subst h; omega
theorem call_maxD (hc:X.calm=true):CallR X (.builtin "max") (fun xs H Q=>∃ (b:Bool) (l:Addr) (ns:List Int),xs=[.ref l]∧H l=some (hoB b (ns.map V.int))∧ns≠[]∧Q (.int (maxL ns)) H):=by
  intro pins s σ H xs us Q I r h
  obtain ⟨b,l,ns,rfl,e1,hne,q⟩:=h
  obtain ⟨u,rfl,ru⟩:=vals1 r
  cases ru
  obtain ⟨vs,rv,sq⟩:=sqAt_of I.hok e1
  have hlt:l < s.heap.objs.size:=I.hok.lt e1
  have hsz:vs.toArray.size=ns.length:=by rw [List.size_toArray,← rv.length,List.length_map]
  have hpos:0 < ns.length:=List.length_pos_iff.mpr hne
  refine call_max_walk (pyIter_sq sq ?_)
  refine ⟨s.heap.objs.size,[s.heap.objs.size,l],[s.heap.objs.size],vs.toArray.size,_,_,fun i j=>decide ((ns[i]?).getD 0 > (ns[j]?).getD 0),rfl,walksAt (A:=X.A.in1) (I.ok.hd hc) b _ l (Nat.ne_of_lt hlt) vs.toArray,
    ⟨itObj_at (Heap.get?_push_size _ (by cases b <;> rfl)),sq.push _⟩,fun c hc=>?_,by omega,CmpOf.ints_gt (fun i=>(ns[i]?).getD 0) (fun i v hv=>ints_get rv (by simpa using hv)),fun v h' tk hv hk=>?_⟩
  · rw [Heap.size_push]
    simp at hc
    rcases hc with rfl | rfl
    · exact Nat.lt_succ_self _
    · exact Nat.lt_succ_of_lt hlt
  · obtain ⟨t,rfl⟩:=ints_get rv (by rw [← List.getElem?_toArray]; exact hv)
    obtain ⟨b1,b2⟩:=best_gt (fun i=>(ns[i]?).getD 0) (vs.toArray.size - 1)
    obtain ⟨m1,m2⟩:=maxL_spec hne
    refine ⟨.int (maxL ns),H,I.kept (t':=tk) fun c o e=>hk c o (fun z=>?_) (Heap.get?_push_of_some _ e),⟨t,?_⟩,q⟩
    · have:c=s.heap.objs.size:=by simpa using z
      subst this
      exact Nat.lt_irrefl _ (Heap.lt_size e)
    · congr 1
      obtain ⟨i,hi,ei⟩:=List.getElem_of_mem m1
      have h1:=b2 i (by omega)
      simp only [hi,List.getElem?_eq_getElem,Option.getD_some,ei] at h1
      have hb:argBest (fun i j=>decide ((ns[i]?).getD 0 > (ns[j]?).getD 0)) (vs.toArray.size - 1) < ns.length:=by omega
      have h2:=m2 _ (List.getElem_mem hb)
      simp only [hb,List.getElem?_eq_getElem,Option.getD_some] at h1 ⊢
      omega
noncomputable def bools?:List PyData→Option (List Bool)
  | []=>some []
  | .bool n::xs=>(bools? xs).bind fun ns=>some (n::ns)
  | _=>none
@[simp] theorem bools?_map:∀ ns:List Bool,bools? (ns.map PyData.bool)=some ns
  | []=>rfl
  | n::ns=>by rw [List.map_cons,bools?,bools?_map ns]; rfl
theorem DnAll.bools_inv {H:Hp} {vs:List V} {ds:List PyData} {ns:List Bool} (a:DnAll H vs ds) (h:bools? ds=some ns):vs=ns.map V.bl∧ds=ns.map PyData.bool:=by
  induction vs generalizing ds ns with
  | nil=>cases a; cases h; exact ⟨rfl,rfl⟩
  | cons v vs ih =>
    cases a with
    | cons g t =>
      cases g with
      | bl n =>
        unfold bools? at h
        rename_i ds
        cases e:bools? ds with
        | none=>rw [e] at h; cases h
        | some ms =>
          rw [e] at h
          cases h
          obtain ⟨h1,h2⟩:=ih t e
          exact ⟨by rw [h1]; rfl,by rw [h2]; rfl⟩
      | _=>unfold bools? at h; cases h
noncomputable def onL {α:Type} (p:List PyData→Option α) (f:α→Option PyData):List PyData→Option PyData
  | [x]=>(itD x).bind fun xs=>(p xs).bind f
  | _=>none
noncomputable def sumD:List PyData→Option PyData:=onL ints? fun ns=>some (.int ns.sum)
noncomputable def max1D:List PyData→Option PyData:=onL ints? fun ns=>if (!ns.isEmpty)=true then some (.int (maxL ns)) else none
noncomputable def allD:List PyData→Option PyData:=onL bools? fun ns=>some (.bool (ns.all id))
theorem onL_inv {α:Type} {p:List PyData→Option α} {f:α→Option PyData} {G:Hp} {vs:List V} {ds:List PyData} {d:PyData} (hv:DnAll G vs ds) (h:onL p f ds=some d):∃ b l us xs y,vs=[.ref l]∧G l=some (hoB b us)∧DnAll G us xs∧p xs=some y∧f y=some d:=by
  unfold onL at h
  split at h
  · rename_i x
    cases hx:itD x with
    | none=>rw [hx] at h; cases h
    | some xs =>
      rw [hx] at h
      have h':(p xs).bind f=some d:=h
      cases hp:p xs with
      | none=>rw [hp] at h'; cases h'
      | some y =>
        rw [hp] at h'
        cases hv with
        | cons h1 h2 =>
          cases h2
          obtain ⟨b,l,us,rfl,e1,e2⟩:=hoB_of h1 hx
          exact ⟨b,l,us,xs,y,rfl,e1,e2,hp,h'⟩
  · cases h
theorem vc_sum:VCl (fun xs H Q=>∃ (b:Bool) (l:Addr) (ns:List Int),xs=[.ref l]∧H l=some (hoB b (ns.map V.int))∧Q (.int ns.sum) H) sumD:=fun PK pa m G H vs ds d Q w hv hd k=>by
  obtain ⟨b,l,us,xs,ns,rfl,e1,e2,hp,hf⟩:=onL_inv hv hd
  obtain ⟨rfl,rfl⟩:=e2.ints_inv hp
  cases hf
  exact ⟨b,l,ns,rfl,w.sub _ _ e1,k.here w (.int _)⟩
theorem vc_max1:VCl (fun xs H Q=>∃ (b:Bool) (l:Addr) (ns:List Int),xs=[.ref l]∧H l=some (hoB b (ns.map V.int))∧ns≠[]∧Q (.int (maxL ns)) H) max1D:=fun PK pa m G H vs ds d Q w hv hd k=>by
  obtain ⟨b,l,us,xs,ns,rfl,e1,e2,hp,hf⟩:=onL_inv hv hd
  obtain ⟨rfl,rfl⟩:=e2.ints_inv hp
  split at hf
  · rename_i hc
    cases hf
    exact ⟨b,l,ns,rfl,w.sub _ _ e1,(fun z=>by subst z; cases hc),k.here w (.int _)⟩
  · cases hf
theorem vc_all:VCl (fun xs H Q=>∃ (b:Bool) (l:Addr) (bs:List Bool),xs=[.ref l]∧H l=some (hoB b (bs.map V.bl))∧Q (.bl (bs.all id)) H) allD:=fun PK pa m G H vs ds d Q w hv hd k=>by
  obtain ⟨b,l,us,xs,ns,rfl,e1,e2,hp,hf⟩:=onL_inv hv hd
  obtain ⟨rfl,rfl⟩:=e2.bools_inv hp
  cases hf
  exact ⟨b,l,ns,rfl,w.sub _ _ e1,k.here w (.bl _)⟩
variable {a b c e:Expr} {pos:Pos} {i j l:List Sl→Tr PyData}
noncomputable def aChain (f g:PyData→PyData→Option PyData) (i j l:List Sl→Tr PyData):List Sl→Tr PyData:=fun ρ=>(i ρ).bind fun x=>(j ρ).bind fun y=>(Tr.of (f x y)).bind fun z=>(Tr.of (toB z)).bind fun k =>
  if k=true then (l ρ).bind fun u=>Tr.of (g y u) else .ret (.bool false)
theorem chain_read {r r':R2} {f g:PyData→PyData→Option PyData} (hv:VOp2 r f) (hv':VOp2 r' g):∀ σ H Q,TAe PK (aChain f g i j l) σ H Q→tChain r r' (TAe PK i) (TAe PK j) (TAe PK l) σ H Q:=by
  rintro σ H Q ⟨pa,G₀,H₀,m,ρ,G,R,q⟩
  refine TAe.then R q fun m1 x v G1 H1 s1 w1 R1 d1 q1=>?_
  refine TAe.then R1 q1 fun m2 y u G2 H2 s2 w2 R2 d2 q2=>?_
  rw [Tr.ok_bind] at q2
  obtain ⟨z,hz,q3⟩:=Tr.ok_of q2
  rw [Tr.ok_bind] at q3
  obtain ⟨k,hk,q5⟩:=Tr.ok_of q3
  have s12:=s1.trans s2 w1.some
  refine hv PK pa m2 G2 H2 v u x y z _ w2 (d1.mono s2.gs) d2 hz fun zz G3 H3 s3 w3 d3=>?_
  cases d3 <;> simp only [toB] at hk <;> cases hk
  refine ⟨_,rfl,?_⟩
  have s13:=s12.trans s3 w2.some
  cases k with
  | true =>
    rw [if_pos rfl] at q5 ⊢
    refine TAe.then (R2.step s3 w3) q5 fun m4 t vt G4 H4 s4 w4 R4 d4 q4=>?_
    obtain ⟨zz,hzz,q4⟩:=Tr.ok_of q4
    exact hv' PK pa m4 G4 H4 u vt y t zz Q w4 (d2.mono (s3.gs.trans s4.gs)) d4 hzz (Kn.later q4 (s13.trans s4 w3.some) w4.some)
  | false =>
    rw [if_neg Bool.false_ne_true] at q5 ⊢
    exact (Kn.later q5 s13 w3.some).here w3 (.bl false)
theorem ae_chain {op op':CmpOp} {r r':R2} {f g:PyData→PyData→Option PyData} (ho:OpR X (compareOp op) r) (hv:VOp2 r f) (ho':OpR X (compareOp op') r') (hv':VOp2 r' g) (ha:PE X a (TAe PK i)) (hb:PE X b (TAe PK j)) (hc:PE X c (TAe PK l))
    (hm:lastMarks [op,op'] [b,c]=false:=by with_unfolding_all rfl):PE X (.Compare a [op,op'] [b,c] pos) (TAe PK (aChain f g i j l)):=(pe_chain ho ho' ha hb hc hm).imp (chain_read hv hv')
theorem at_chain {op op':CmpOp} {r r':R2} {f g:PyData→PyData→Option PyData} (ho:OpR X (compareOp op) r) (hv:VOp2 r f) (ho':OpR X (compareOp op') r') (hv':VOp2 r' g) (ha:PE X a (TAe PK i)) (hb:PE X b (TAe PK j)) (hc:PE X c (TAe PK l))
    (hm:lastMarks [op,op'] [b,c]=false:=by with_unfolding_all rfl):PT X (.Compare a [op,op'] [b,c] pos) (TAt PK (aTest (aChain f g i j l))) :=
  (pt_chain ho ho' ha hb hc hm).imp fun σ H Q z=>tTest_mono (chain_read hv hv') σ H Q (aTest_read σ H Q z)
end
end L2
set_option Elab.async false
set_option linter.all false
set_option maxRecDepth 100000
namespace L2
open PySem PySem.Spec PyProof.Rows
variable {ρ:List Sl} {s t:List Sl→Tr Ou} {i j l:List Sl→Tr PyData} {is:List Sl→Tr (List PyData)} {as:List Sl→Tr (List Sl)} {f:List Sl→Tr Re} {p q:List Sl→Tr Bool} {k n:Nat} {x y d:PyData} {xs ys:List PyData} {sl:Sl}
theorem ev_var0:aVar 0 (.d x::ρ)=.ret x:=rfl
theorem ev_varS:aVar (k+1) (sl::ρ)=aVar k ρ:=rfl
theorem ev_C:aC d ρ=.ret d:=rfl
noncomputable def bin2 (g:PyData→PyData→Option PyData) (x y:PyData):Tr PyData:=Tr.of (g x y)
noncomputable def bin1 (g:PyData→PyData→Option PyData) (j:List Sl→Tr PyData) (ρ:List Sl) (x:PyData):Tr PyData:=(j ρ).bind (bin2 g x)
theorem ev_bin {g:PyData→PyData→Option PyData}:aBin g i j ρ=(i ρ).bind (bin1 g j ρ):=rfl
theorem ev_bin1 {g:PyData→PyData→Option PyData}:bin1 g j ρ x=(j ρ).bind (bin2 g x):=rfl
theorem ev_add (m n:Int):bin2 addD (.int m) (.int n)=.ret (.int (m+n)):=rfl
theorem ev_addT (h1:xs.isEmpty=false) (h2:small (xs.length+ys.length)=true):bin2 addD (.tuple xs) (.tuple ys)=.ret (.tuple (xs++ys)):=by
  simp [bin2,addD,h1,h2]
theorem ev_addL (h2:small (xs.length+ys.length)=true):bin2 addD (.list xs) (.list ys)=.ret (.list (xs++ys)):=by
  simp [bin2,addD,h2]
theorem ev_sub (m n:Int):bin2 subD (.int m) (.int n)=.ret (.int (m - n)):=rfl
theorem ev_cmp {g:Int→Int→Bool} (m n:Int):bin2 (cmpD g) (.int m) (.int n)=.ret (.bool (g m n)):=rfl
theorem ev_eqI (m n:Int):bin2 eqD (.int m) (.int n)=.ret (.bool (m == n)):=rfl
theorem ev_neI (m n:Int):bin2 neD (.int m) (.int n)=.ret (.bool (!(m == n))):=rfl
theorem ev_eqB (m n:Bool):bin2 eqD (.bool m) (.bool n)=.ret (.bool (m == n)):=rfl
theorem ev_eqS (m n:Str):bin2 eqD (.str m) (.str n)=.ret (.bool (m == n)):=rfl
theorem ev_neS (m n:Str):bin2 neD (.str m) (.str n)=.ret (.bool (!(m == n))):=rfl
theorem ev_isnB (m n:Bool):bin2 isnBD (.bool m) (.bool n)=.ret (.bool (!(m == n))):=rfl
theorem ev_ixL (n:Int):bin2 ixD (.list xs) (.int n)=Tr.of (atI xs n):=rfl
theorem ev_ixT (n:Int):bin2 ixD (.tuple xs) (.int n)=Tr.of (atI xs n):=rfl
theorem atI_ge {α:Type} {xs:List α} {n:Int} {v:α} (h0:0≤n) (h:xs[n.toNat]?=some v):atI xs n=some v:=by
  have e:(n.toNat:Int)=n:=Int.toNat_of_nonneg h0
  rw [← e]
  exact atI_nat h
section
variable {α:Type} {a0 a1 a2 a3 a4 a5 a6 a7 a8:α} {r:List α}
theorem at_0:atI (a0::r) 0=some a0:=atI_nat (j:=0) rfl
theorem at_1:atI (a0::a1::r) 1=some a1:=atI_nat (j:=1) rfl
theorem at_2:atI (a0::a1::a2::r) 2=some a2:=atI_nat (j:=2) rfl
theorem at_3:atI (a0::a1::a2::a3::r) 3=some a3:=atI_nat (j:=3) rfl
theorem at_4:atI (a0::a1::a2::a3::a4::r) 4=some a4:=atI_nat (j:=4) rfl
theorem at_5:atI (a0::a1::a2::a3::a4::a5::r) 5=some a5:=atI_nat (j:=5) rfl
theorem at_6:atI (a0::a1::a2::a3::a4::a5::a6::r) 6=some a6:=atI_nat (j:=6) rfl
theorem at_7:atI (a0::a1::a2::a3::a4::a5::a6::a7::r) 7=some a7:=atI_nat (j:=7) rfl
theorem at_8:atI (a0::a1::a2::a3::a4::a5::a6::a7::a8::r) 8=some a8:=atI_nat (j:=8) rfl
end
noncomputable def neg1:PyData→Tr PyData
  | .int n=>.ret (.int (-n))
  | _=>.fail
theorem ev_neg:aNeg i ρ=(i ρ).bind neg1:=by
  unfold aNeg
  refine congrArg (Tr.bind (i ρ)) (funext fun x=>?_)
  cases x <;> rfl
theorem ev_neg1 (n:Int):neg1 (.int n)=.ret (.int (-n)):=rfl
noncomputable def tst1 (x:PyData):Tr Bool:=Tr.of (toB x)
theorem ev_test:aTest i ρ=(i ρ).bind tst1:=rfl
theorem ev_tst1 (b:Bool):tst1 (.bool b)=.ret b:=rfl
noncomputable def tru1 (x:PyData):Tr Bool:=Tr.of (truD x)
theorem ev_tru:aTru i ρ=(i ρ).bind tru1:=rfl
theorem ev_truB (b:Bool):tru1 (.bool b)=.ret b:=rfl
theorem ev_truI (n:Int):tru1 (.int n)=.ret (n != 0):=rfl
theorem ev_truL:tru1 (.list xs)=.ret (!xs.isEmpty):=rfl
theorem ev_truT:tru1 (.tuple xs)=.ret (!xs.isEmpty):=rfl
theorem ev_truN:tru1 .none=.ret false:=rfl
noncomputable def and1 (q:List Sl→Tr Bool) (ρ:List Sl) (b:Bool):Tr Bool:=if b=true then q ρ else .ret false
noncomputable def or1 (q:List Sl→Tr Bool) (ρ:List Sl) (b:Bool):Tr Bool:=if b=true then .ret true else q ρ
noncomputable def not1 (b:Bool):Tr Bool:=.ret (!b)
theorem ev_and:aAnd p q ρ=(p ρ).bind (and1 q ρ):=rfl
theorem ev_or:aOr p q ρ=(p ρ).bind (or1 q ρ):=rfl
theorem ev_not:aNot p ρ=(p ρ).bind not1:=rfl
theorem ev_and1t:and1 q ρ true=q ρ:=rfl
theorem ev_and1f:and1 q ρ false=.ret false:=rfl
theorem ev_or1t:or1 q ρ true=.ret true:=rfl
theorem ev_or1f:or1 q ρ false=q ρ:=rfl
theorem ev_not1 (b:Bool):not1 b=.ret (!b):=rfl
noncomputable def andV1 (j:List Sl→Tr PyData) (ρ:List Sl) (b:Bool):Tr PyData:=if b=true then j ρ else .ret (.bool false)
noncomputable def notV1 (b:Bool):Tr PyData:=.ret (.bool (!b))
theorem ev_andV:aAndV i j ρ=(aTest i ρ).bind (andV1 j ρ):=rfl
theorem ev_notV:aNotV i ρ=(aTest i ρ).bind notV1:=rfl
theorem ev_andV1t:andV1 j ρ true=j ρ:=rfl
theorem ev_andV1f:andV1 j ρ false=.ret (.bool false):=rfl
theorem ev_notV1 (b:Bool):notV1 b=.ret (.bool (!b)):=rfl
noncomputable def ch4 (g:PyData→PyData→Option PyData) (l:List Sl→Tr PyData) (ρ:List Sl) (y:PyData) (k:Bool):Tr PyData:=if k=true then (l ρ).bind (bin2 g y) else .ret (.bool false)
noncomputable def ch3 (g:PyData→PyData→Option PyData) (l:List Sl→Tr PyData) (ρ:List Sl) (y z:PyData):Tr PyData:=(tst1 z).bind (ch4 g l ρ y)
noncomputable def ch2 (f g:PyData→PyData→Option PyData) (l:List Sl→Tr PyData) (ρ:List Sl) (x y:PyData):Tr PyData:=(bin2 f x y).bind (ch3 g l ρ y)
noncomputable def ch1 (f g:PyData→PyData→Option PyData) (j l:List Sl→Tr PyData) (ρ:List Sl) (x:PyData):Tr PyData:=(j ρ).bind (ch2 f g l ρ x)
theorem ev_chain {f g:PyData→PyData→Option PyData}:aChain f g i j l ρ=(i ρ).bind (ch1 f g j l ρ):=rfl
theorem ev_ch1 {f g:PyData→PyData→Option PyData}:ch1 f g j l ρ x=(j ρ).bind (ch2 f g l ρ x):=rfl
theorem ev_ch2 {f g:PyData→PyData→Option PyData}:ch2 f g l ρ x y=(bin2 f x y).bind (ch3 g l ρ y):=rfl
theorem ev_ch3 {g:PyData→PyData→Option PyData} (b:Bool):ch3 g l ρ y (.bool b)=ch4 g l ρ y b:=rfl
theorem ev_ch4t {g:PyData→PyData→Option PyData}:ch4 g l ρ y true=(l ρ).bind (bin2 g y):=rfl
theorem ev_ch4f {g:PyData→PyData→Option PyData}:ch4 g l ρ y false=.ret (.bool false):=rfl
noncomputable def cons2 (x:PyData) (xs:List PyData):Tr (List PyData):=.ret (x::xs)
noncomputable def cons1 (is:List Sl→Tr (List PyData)) (ρ:List Sl) (x:PyData):Tr (List PyData):=(is ρ).bind (cons2 x)
theorem ev_nil:aNil ρ=.ret []:=rfl
theorem ev_cons:aCons i is ρ=(i ρ).bind (cons1 is ρ):=rfl
theorem ev_cons1:cons1 is ρ x=(is ρ).bind (cons2 x):=rfl
theorem ev_cons2:cons2 x xs=.ret (x::xs):=rfl
noncomputable def tup1 (xs:List PyData):Tr PyData:=if small xs.length=true then .ret (.tuple xs) else .fail
theorem ev_tup:aTup is ρ=(is ρ).bind tup1:=rfl
theorem ev_tup1 (h:small xs.length=true):tup1 xs=.ret (.tuple xs):=by unfold tup1; rw [if_pos h]
noncomputable def lst1 (xs:List PyData):Tr PyData:=.ret (.list xs)
theorem ev_lst:aLst is ρ=(is ρ).bind lst1:=rfl
theorem ev_lst1:lst1 xs=.ret (.list xs):=rfl
noncomputable def lo1 (xs:List PyData):Tr (List PyData):=if small xs.length=true then .ret xs else .fail
theorem ev_lo:aLo is ρ=(is ρ).bind lo1:=rfl
theorem ev_lo1 (h:small xs.length=true):lo1 xs=.ret xs:=by unfold lo1; rw [if_pos h]
theorem small_le {n:Nat} (h:n≤10000):small n=true:=decide_eq_true (Nat.le_trans h (by decide))
noncomputable def cb1 (g:List PyData→Option PyData) (xs:List PyData):Tr PyData:=Tr.of (g xs)
noncomputable def cbo1 (g:List PyData→Option (List PyData)) (xs:List PyData):Tr (List PyData):=Tr.of (g xs)
theorem ev_cb {g:List PyData→Option PyData}:aCB g is ρ=(is ρ).bind (cb1 g):=rfl
theorem ev_cbo {g:List PyData→Option (List PyData)}:aCBo g is ρ=(is ρ).bind (cbo1 g):=rfl
theorem ev_lenL:cb1 lenD [.list xs]=.ret (.int xs.length):=rfl
theorem ev_lenT:cb1 lenD [.tuple xs]=.ret (.int xs.length):=rfl
theorem ev_tupL:cb1 tupD [.list xs]=.ret (.tuple xs):=rfl
theorem ev_tupT:cb1 tupD [.tuple xs]=.ret (.tuple xs):=rfl
theorem ev_lstL:cbo1 lstD [.list xs]=.ret xs:=rfl
theorem ev_lstT:cbo1 lstD [.tuple xs]=.ret xs:=rfl
theorem ev_sumL (ns:List Int):cb1 sumD [.list (ns.map .int)]=.ret (.int ns.sum):=by
  unfold cb1 sumD onL
  simp
theorem ev_sumT (ns:List Int):cb1 sumD [.tuple (ns.map .int)]=.ret (.int ns.sum):=by
  unfold cb1 sumD onL
  simp
theorem ev_maxL (ns:List Int) (h:ns.isEmpty=false):cb1 max1D [.list (ns.map .int)]=.ret (.int (maxL ns)):=by
  have h':ns≠[]:=fun z=>by subst z; cases h
  unfold cb1 max1D onL
  simp [h']
theorem ev_allL (ns:List Bool):cb1 allD [.list (ns.map .bool)]=.ret (.bool (ns.all id)):=by
  unfold cb1 allD onL
  simp
noncomputable def isi1 (T:String) (x:PyData):Tr PyData:=.ret (.bool (isiB T (tyD x)))
theorem ev_isi {T:String}:aIsi T i ρ=(i ρ).bind (isi1 T):=rfl
theorem ev_isi1 {T:String}:isi1 T x=.ret (.bool (isiB T (tyD x))):=rfl
noncomputable def sl3 (x:PyData) (lo:Option Int) (hi:Option Int):Tr PyData:=Tr.of (sliceD x lo hi)
noncomputable def sl2 (q:aPart) (ρ:List Sl) (x:PyData) (lo:Option Int):Tr PyData:=(q ρ).bind (sl3 x lo)
noncomputable def sl1 (p q:aPart) (ρ:List Sl) (x:PyData):Tr PyData:=(p ρ).bind (sl2 q ρ x)
theorem ev_sl {p q:aPart}:aSl i p q ρ=(i ρ).bind (sl1 p q ρ):=rfl
theorem ev_sl1 {p q:aPart}:sl1 p q ρ x=(p ρ).bind (sl2 q ρ x):=rfl
theorem ev_sl2 {q:aPart} {lo:Option Int}:sl2 q ρ x lo=(q ρ).bind (sl3 x lo):=rfl
theorem ev_sl3L {lo hi:Option Int}:sl3 (.list xs) lo hi=.ret (.list (cutD xs lo hi)):=rfl
theorem ev_sl3T {lo hi:Option Int}:sl3 (.tuple xs) lo hi=.ret (.tuple (cutD xs lo hi)):=rfl
theorem ev_p0:aP0 ρ=.ret none:=rfl
noncomputable def pa1:PyData→Tr (Option Int)
  | .int n=>.ret (some n)
  | _=>.fail
theorem ev_p1:aP1 i ρ=(i ρ).bind pa1:=by
  unfold aP1
  refine congrArg (Tr.bind (i ρ)) (funext fun x=>?_)
  cases x <;> rfl
theorem ev_pa1 (n:Int):pa1 (.int n)=.ret (some n):=rfl
theorem ev_aaNil:aaNil ρ=.ret []:=rfl
noncomputable def aa2 (x:Sl) (xs:List Sl):Tr (List Sl):=.ret (x::xs)
noncomputable def aa1 (as:List Sl→Tr (List Sl)) (ρ:List Sl) (x:PyData):Tr (List Sl):=(as ρ).bind (aa2 (.d x))
theorem ev_aaCons:aaCons i as ρ=(i ρ).bind (aa1 as ρ):=rfl
theorem ev_aa1:aa1 as ρ x=(as ρ).bind (aa2 (.d x)):=rfl
theorem ev_aa2 {xs:List Sl}:aa2 sl xs=.ret (sl::xs):=rfl
noncomputable def penAt:Nat→List Sl→Tr Unit
  | 0,.pen::_=>.ret ()
  | k+1,_::ρ=>penAt k ρ
  | _,_=>.fail
theorem ev_pen0:penAt 0 (.pen::ρ)=.ret ():=rfl
theorem ev_penS:penAt (k+1) (sl::ρ)=penAt k ρ:=rfl
noncomputable def aap (as:List Sl→Tr (List Sl)) (ρ:List Sl) (_:Unit):Tr (List Sl):=(as ρ).bind (aa2 .pen)
theorem ev_aaPen:aaPen k as ρ=(penAt k ρ).bind (aap as ρ):=by
  have key:∀ (k:Nat) (σ:List Sl) (as:List Sl→Tr (List Sl)) (ρ:List Sl),(match σ[k]? with | some Sl.pen=>(as ρ).bind fun xs=>Tr.ret (Sl.pen::xs) | _=>Tr.fail)=(penAt k σ).bind (aap as ρ):=by
    intro k
    induction k with
    | zero =>
      intro σ as ρ
      cases σ with
      | nil=>rfl
      | cons s r=>cases s <;> rfl
    | succ k ih =>
      intro σ as ρ
      cases σ with
      | nil=>rfl
      | cons s r=>exact ih r as ρ
  exact key k ρ as ρ
theorem ev_aap (u:Unit):aap as ρ u=(as ρ).bind (aa2 .pen):=rfl
theorem ev_call:aCall f as ρ=(as ρ).bind f:=rfl
noncomputable def re1 (r:Re):Tr PyData:=.ret r.val
theorem ev_re:aRe f ρ=(f ρ).bind re1:=rfl
theorem ev_re1 (r:Re):re1 r=.ret r.val:=rfl
theorem ev_def {as:List Sl} (h:as.length=n):aDef n k s as=(s (as++List.replicate k .un)).bind finR:=by
  unfold aDef
  rw [if_pos (decide_eq_true h)]
theorem ev_finN:finR (.next ρ)=.ret (.d .none):=rfl
theorem ev_finR (r:Re):finR (.ret r)=.ret r:=rfl
noncomputable def seq1 (t:List Sl→Tr Ou):Ou→Tr Ou
  | .next ρ=>t ρ
  | o=>.ret o
theorem ev_seq:aSeq s t ρ=(s ρ).bind (seq1 t):=by
  unfold aSeq
  refine congrArg (Tr.bind (s ρ)) (funext fun o=>?_)
  cases o <;> rfl
theorem ev_seqN:seq1 t (.next ρ)=t ρ:=rfl
theorem ev_seqR (r:Re):seq1 t (.ret r)=.ret (.ret r):=rfl
theorem ev_seqB:seq1 t (.brk ρ)=.ret (.brk ρ):=rfl
theorem ev_seqC:seq1 t (.cont ρ)=.ret (.cont ρ):=rfl
theorem ev_skip:aSkip ρ=.ret (.next ρ):=rfl
noncomputable def ifs1 (s t:List Sl→Tr Ou) (ρ:List Sl) (b:Bool):Tr Ou:=if b=true then s ρ else t ρ
theorem ev_ifs:aIfS p s t ρ=(p ρ).bind (ifs1 s t ρ):=rfl
theorem ev_ifst:ifs1 s t ρ true=s ρ:=rfl
theorem ev_ifsf:ifs1 s t ρ false=t ρ:=rfl
noncomputable def ret1 (x:PyData):Tr Ou:=.ret (.ret (.d x))
theorem ev_ret:aRet i ρ=(i ρ).bind ret1:=rfl
theorem ev_ret1:ret1 x=.ret (.ret (.d x)):=rfl
noncomputable def set1 (k:Nat) (ρ:List Sl) (x:PyData):Tr Ou:=.ret (.next (ρ.set k (.d x)))
theorem ev_set:aSet k i ρ=(i ρ).bind (set1 k ρ):=rfl
theorem ev_set1:set1 k ρ x=.ret (.next (ρ.set k (.d x))):=rfl
theorem ls_0 {α:Type} {a b:α} {r:List α}:(a::r).set 0 b=b::r:=rfl
theorem ls_S {α:Type} {a b:α} {r:List α}:(a::r).set (k+1) b=a::r.set k b:=rfl
theorem g_set:gSet k x ρ=some (ρ.set k (.d x)):=rfl
theorem g_some {α β:Type} {a:α} {g:α→Option β}:(some a).bind g=g a:=rfl
noncomputable def it1 (x:PyData):Tr (List PyData):=Tr.of (itD x)
theorem ev_it:aIt i ρ=(i ρ).bind it1:=rfl
theorem ev_it1L:it1 (.list xs)=.ret xs:=rfl
theorem ev_it1T:it1 (.tuple xs)=.ret xs:=rfl
noncomputable def rng1 (xs:List PyData):Tr (List PyData):=Tr.of (rngD1 xs)
theorem ev_rng1:aRng1 is ρ=(is ρ).bind rng1:=rfl
theorem inR_of {n:Int} (h1:-1000000000000≤n) (h2:n≤1000000000000):inR n=true:=decide_eq_true (by omega)
theorem ev_rg1 {n:Int} (h:inR n=true):rng1 [.int n]=.ret (rngL 0 n):=by
  simp [rng1,rngD1,h]
noncomputable def for1 (g:PyData→List Sl→Option (List Sl)) (s:List Sl→Tr Ou) (ρ:List Sl) (xs:List PyData):Tr Ou:=forL g s xs ρ
theorem ev_for {g:PyData→List Sl→Option (List Sl)}:aFor is g s ρ=(is ρ).bind (for1 g s ρ):=rfl
theorem ev_for1 {g:PyData→List Sl→Option (List Sl)}:for1 g s ρ xs=forL g s xs ρ:=rfl
noncomputable def for3 (g:PyData→List Sl→Option (List Sl)) (s:List Sl→Tr Ou) (xs:List PyData):Ou→Tr Ou
  | .next ρ=>forL g s xs ρ
  | .cont ρ=>forL g s xs ρ
  | .brk ρ=>.ret (.next ρ)
  | .ret r=>.ret (.ret r)
noncomputable def for2 (g:PyData→List Sl→Option (List Sl)) (s:List Sl→Tr Ou) (xs:List PyData) (ρ:List Sl):Tr Ou:=(s ρ).bind (for3 g s xs)
theorem for_nil {g:PyData→List Sl→Option (List Sl)}:forL g s [] ρ=.ret (.next ρ):=rfl
theorem for_cons {g:PyData→List Sl→Option (List Sl)}:forL g s (x::xs) ρ=(Tr.of (g x ρ)).bind (for2 g s xs):=by
  rw [forL]
  refine congrArg (Tr.bind (Tr.of (g x ρ))) (funext fun ρ1=>?_)
  unfold for2
  refine congrArg (Tr.bind (s ρ1)) (funext fun o=>?_)
  cases o <;> rfl
theorem ev_for2 {g:PyData→List Sl→Option (List Sl)}:for2 g s xs ρ=(s ρ).bind (for3 g s xs):=rfl
theorem ev_for3n {g:PyData→List Sl→Option (List Sl)}:for3 g s xs (.next ρ)=forL g s xs ρ:=rfl
theorem ev_for3c {g:PyData→List Sl→Option (List Sl)}:for3 g s xs (.cont ρ)=forL g s xs ρ:=rfl
theorem ev_for3b {g:PyData→List Sl→Option (List Sl)}:for3 g s xs (.brk ρ)=.ret (.next ρ):=rfl
theorem ev_for3r {g:PyData→List Sl→Option (List Sl)} (r:Re):for3 g s xs (.ret r)=.ret (.ret r):=rfl
noncomputable def lc2 (g:PyData→List Sl→Option (List Sl)) (el:List Sl→Tr PyData) (τ:List Sl) (x:PyData):Tr PyData:=(Tr.of (g x τ)).bind el
noncomputable def lc1 (n:Nat) (ix:List Nat) (g:PyData→List Sl→Option (List Sl)) (el:List Sl→Tr PyData) (ρ:List Sl) (xs:List PyData):Tr (List PyData):=if small xs.length=true then mapT (lc2 g el (blk n ix ρ)) xs else .fail
theorem ev_lc {ix:List Nat} {g:PyData→List Sl→Option (List Sl)}:aLc is n ix g i ρ=(is ρ).bind (lc1 n ix g i ρ):=rfl
theorem ev_lc1 {ix:List Nat} {g:PyData→List Sl→Option (List Sl)} (h:small xs.length=true):lc1 n ix g i ρ xs=mapT (lc2 g i (blk n ix ρ)) xs:=by unfold lc1; rw [if_pos h]
theorem ev_lc2 {τ:List Sl} {g:PyData→List Sl→Option (List Sl)}:lc2 g i τ x=(Tr.of (g x τ)).bind i:=rfl
theorem mapT_all {h:PyData→Tr PyData} {n:Nat} {P:PyData→Prop}:∀ {xs:List PyData},(∀ x∈xs,(h x).all n P)→(mapT h xs).all (xs.length * n) fun ys=>ys.length=xs.length∧∀ y∈ys,P y
  | [],_=>⟨rfl,fun y hy=>by cases hy⟩
  | x::xs,hx=>by
    have e:(x::xs).length * n=n+(xs.length * n+0):=by rw [List.length_cons,Nat.succ_mul]; omega
    rw [e,mapT]
    refine Tr.all_bind (hx x (by simp)) fun y hy=>Tr.all_bind (mapT_all fun z hz=>hx z (List.mem_cons_of_mem _ hz)) fun ys hys=>?_
    exact ⟨by simp [hys.1],fun z hz=>by
      rcases List.mem_cons.mp hz with rfl | hz
      · exact hy
      · exact hys.2 z hz⟩
theorem for_all {g:PyData→List Sl→Option (List Sl)} {n:Nat} (I:List PyData→List Sl→Prop) {Q:Ou→Prop} :
    ∀ {xs pre:List PyData} {ρ:List Sl},I pre ρ→(∀ pre x post ρ,pre++x::post=pre++x::post→I pre ρ→x∈xs→∃ ρ1,g x ρ=some ρ1∧(s ρ1).all n fun o=>∃ ρ2,o=.next ρ2∧I (pre++[x]) ρ2)→(∀ ρ,I (pre++xs) ρ→Q (.next ρ))→(forL g s xs ρ).all (xs.length * n) Q
  | [],pre,ρ,h0,_,hq=>hq ρ (by rw [List.append_nil]; exact h0)
  | x::xs,pre,ρ,h0,ht,hq=>by
    obtain ⟨ρ1,e,ha⟩:=ht pre x xs ρ rfl h0 (by simp)
    have en:(x::xs).length * n=n+xs.length * n:=by rw [List.length_cons,Nat.succ_mul]; omega
    rw [en,for_cons,e,Tr.of_some,Tr.ret_bind]
    unfold for2
    refine Tr.all_bind ha fun o ⟨ρ2,eo,h2⟩=>?_
    subst eo
    rw [ev_for3n]
    exact for_all I h2 (fun pre y post ρ e h hy=>ht pre y post ρ e h (List.mem_cons_of_mem _ hy)) (fun ρ h=>hq ρ (by rw [List.append_assoc] at h; exact h))
theorem draw_all {α:Type} {w:Int} {k:Int→Tr α} {n:Nat} {P:α→Prop} (h1:0 < w) (h2:w < 1073741824) (h:∀ r,0≤r→r < w→(k r).all n P):(Tr.draw w k).all (n+1) P:=⟨h1,h2,h⟩
end L2
namespace L2
open PySem PySem.Spec PyProof.Rows
noncomputable def mt2 (y:PyData) (ys:List PyData):Tr (List PyData):=.ret (y::ys)
noncomputable def mt1 (h:PyData→Tr PyData) (xs:List PyData) (y:PyData):Tr (List PyData):=(mapT h xs).bind (mt2 y)
theorem mt_nil {h:PyData→Tr PyData}:mapT h []=.ret []:=rfl
theorem mt_cons {h:PyData→Tr PyData} {x:PyData} {xs:List PyData}:mapT h (x::xs)=(h x).bind (mt1 h xs):=rfl
theorem mt_1 {h:PyData→Tr PyData} {y:PyData} {xs:List PyData}:mt1 h xs y=(mapT h xs).bind (mt2 y):=rfl
theorem mt_2 {y:PyData} {ys:List PyData}:mt2 y ys=.ret (y::ys):=rfl
theorem pick {α:Type} {xs:List α} {r:Int} (h0:0≤r) (h1:r < xs.length):∃ v,atI xs r=some v∧v∈xs:=by
  have h:r.toNat < xs.length:=by omega
  exact ⟨xs[r.toNat],atI_ge h0 (by simp [h]),List.getElem_mem h⟩
end L2
namespace L2
open PySem
@[irreducible] noncomputable def Al {α:Type} (t:Tr α) (n:Nat) (P:α→Prop):Prop:=t.all n P
section
variable {α β:Type} {t:Tr α} {n n' N:Nat} {P:α→Prop} {P':β→Prop}
theorem Al.of (h:t.all n P):Al t n P:=by unfold Al; exact h
theorem Al.out (h:Al t n P):t.all n P:=by unfold Al at h; exact h
theorem al_ret {a:α} (h:P a):Al (.ret a) n P:=.of h
theorem al_drw {w:Int} {k:Int→Tr α} (h1:0 < w) (h2:w < 1073741824) (hN:n+1≤N) (h:∀ r,0≤r→r < w→Al (k r) n P):Al (.draw w k) N P:=.of (Tr.all_mono (draw_all h1 h2 fun r a b=>(h r a b).out) hN fun _ h=>h)
theorem al_bind {f:α→Tr β} (h:Al t n P) (hN:n+n'≤N) (hf:∀ a,P a→Al (f a) n' P'):Al (t.bind f) N P':=.of (Tr.all_mono (Tr.all_bind h.out fun a ha=>(hf a ha).out) hN fun _ h=>h)
theorem al_mono {Q:α→Prop} (h:Al t n P) (hN:n≤N) (hq:∀ a,P a→Q a):Al t N Q:=.of (Tr.all_mono h.out hN hq)
theorem al_for {g:PyData→List Sl→Option (List Sl)} {s:List Sl→Tr Ou} {xs:List PyData} {ρ:List Sl} {Q:Ou→Prop} (I:List Sl→Prop) (h0:I ρ) (hN:xs.length * n≤N) (ht:∀ x ρ,x∈xs→I ρ→∃ ρ1,g x ρ=some ρ1∧Al (s ρ1) n fun o=>∃ ρ2,o=.next ρ2∧I ρ2) (hq:∀ ρ,I ρ→Q (.next ρ)):Al (forL g s xs ρ) N Q :=
  .of (Tr.all_mono (for_all (fun _ ρ=>I ρ) (pre:=[]) h0 (fun pre x post ρ _ h hx=>let ⟨ρ1,e,a⟩:=ht x ρ hx h; ⟨ρ1,e,a.out⟩) fun ρ h=>hq ρ h) hN fun _ h=>h)
theorem al_map {h:PyData→Tr PyData} {P:PyData→Prop} {xs:List PyData} {Q:List PyData→Prop} (hN:xs.length * n≤N) (hx:∀ x∈xs,Al (h x) n P) (hq:∀ ys,ys.length=xs.length→(∀ y∈ys,P y)→Q ys):Al (mapT h xs) N Q :=
  .of (Tr.all_mono (mapT_all fun x m=>(hx x m).out) hN fun ys ⟨a,b⟩=>hq ys a b)
end
noncomputable def intIn (lo hi:Int) (x:PyData):Prop:=∃ z:Int,x=.int z∧lo≤z∧z≤hi
theorem rngL_len {lo hi:Int}:(rngL lo hi).length=(hi - lo).toNat:=by unfold rngL; rw [List.length_map,rangeI_length]
theorem pickI {xs:List PyData} {lo hi r:Int} (h:∀ x∈xs,intIn lo hi x) (h0:0≤r) (h1:r < xs.length):∃ z:Int,atI xs r=some (.int z)∧lo≤z∧z≤hi:=by
  obtain ⟨v,e,m⟩:=pick h0 h1
  obtain ⟨z,rfl,a,b⟩:=h v m
  exact ⟨z,e,a,b⟩
end L2
set_option Elab.async false
set_option linter.all false
set_option maxRecDepth 100000
namespace L2
open PySem PySem.Spec PyProof.Rows
variable {PK:Pk} {X:Cx} {a b c e:Expr} {es:List Expr} {pos:Pos} {i j l:List Sl→Tr PyData} {is:List Sl→Tr (List PyData)} {p q:List Sl→Tr Bool} {st:Stmt}
noncomputable def flatD:PyData→Bool
  | .none=>true
  | .bool _=>true
  | .int _=>true
  | .str _=>true
  | _=>false
theorem Dn.flat {G:Hp} {v:V} {x:PyData} (h:Dn G v x):flatD x=true→flatV v=true:=by
  cases h <;> simp [flatD,flatV]
theorem Dn.eqV {G:Hp} {v u:V} {x y:PyData} (h:Dn G v x) (g:Dn G u y) (fx:flatD x=true) (fy:flatD y=true):L2.eqV v u=PyData.eqv x y:=by
  cases h <;> simp only [flatD] at fx <;> first | (cases fx; done) | (cases g <;> simp only [flatD] at fy <;> first | (cases fy; done) | (simp [L2.eqV,PyData.eqv]))
theorem DnAll.flat {G:Hp}:∀ {vs:List V} {xs:List PyData},DnAll G vs xs→xs.all flatD=true→vs.all flatV=true
  | _,_,.nil,_=>rfl
  | _,_,.cons h t,f=>by
    rw [List.all_cons,Bool.and_eq_true] at f
    rw [List.all_cons,Bool.and_eq_true]
    exact ⟨h.flat f.1,DnAll.flat t f.2⟩
theorem DnAll.inV {G:Hp} {v:V} {x:PyData} (h:Dn G v x) (fx:flatD x=true):∀ {vs:List V} {xs:List PyData},DnAll G vs xs→xs.all flatD=true→L2.inV v vs=xs.any fun y=>PyData.eqv y x
  | _,_,.nil,_=>rfl
  | _,_,.cons g t,f=>by
    rw [List.all_cons,Bool.and_eq_true] at f
    unfold L2.inV
    rw [List.any_cons,List.any_cons,g.eqV h f.1 fx]
    congr 1
    exact DnAll.inV h fx t f.2
noncomputable def inD (neg:Bool):PyData→PyData→Option PyData:=fun x y=>(itD y).bind fun ys=>if (flatD x && ys.all flatD)=true then some (.bool (if neg then !(ys.any fun z=>PyData.eqv z x) else ys.any fun z=>PyData.eqv z x)) else none
theorem vo_in {K:PySem.W.Frag} {neg:Bool}:VOp2 (rIn K neg) (inD neg):=fun PK pa m G H x y dx dy dz Q w hx hy hz k=>by
  unfold inD at hz
  cases e:itD dy with
  | none=>rw [e] at hz; cases hz
  | some ys =>
    rw [e] at hz
    have hz':(if (flatD dx && ys.all flatD)=true then some (PyData.bool (if neg then !(ys.any fun z=>PyData.eqv z dx) else ys.any fun z=>PyData.eqv z dx)) else none)=some dz:=hz
    split at hz'
    · rename_i hc
      rw [Bool.and_eq_true] at hc
      cases hz'
      cases hy with
      | lst a1 a2 =>
        cases e
        refine ⟨_,_,rfl,.inl (SqL.of (w.sub _ _ a1)),hx.flat hc.1,a2.flat hc.2,?_⟩
        rw [DnAll.inV hx hc.1 a2 hc.2]
        exact k.here w (.bl _)
      | tup a1 a2 =>
        cases e
        refine ⟨_,_,rfl,.inr (SqT.of (w.sub _ _ a1)),hx.flat hc.1,a2.flat hc.2,?_⟩
        rw [DnAll.inV hx hc.1 a2 hc.2]
        exact k.here w (.bl _)
      | _=>cases e
    · cases hz'
end L2
set_option Elab.async false
set_option linter.all false
set_option maxRecDepth 100000
namespace L2
open PySem PySem.Spec PyProof.Rows
variable {PK:Pk} {X:Cx} {a b c e:Expr} {es:List Expr} {pos:Pos} {i j l:List Sl→Tr PyData} {as:List Sl→Tr (List Sl)}
structure PkLow (PK:Pk):Prop where
  low:∀ {o o':HO} {G G':Hp} {m m':Nat},PK.is o G m→Sub G G'→PK.is o' G' m'→PK.is o' G m'
theorem Dn.flat_any {G G':Hp} {v:V} {x:PyData} (h:Dn G v x) (f:flatD x=true):Dn G' v x:=by
  cases h with
  | non=>exact .non
  | bl b=>exact .bl b
  | int i=>exact .int i
  | str s=>exact .str s
  | _=>cases f
variable {ρ:List Sl} {k:Nat} {xs:List PyData} {x:PyData} {sl:Sl} {f:List Sl→Tr Re}
theorem ev_in0 {y:PyData} {neg:Bool}:bin2 (inD neg) x y=Tr.of (inD neg x y):=rfl
end L2
set_option Elab.async false
set_option linter.all false
set_option maxRecDepth 100000
namespace L2
open PySem PySem.Spec PyProof.Rows
theorem compLoop_runIf {prog:Program} {w:World} {A:Around} {R:Result→Shared→Prop} {s:Shared} {elt target iter cnd:Expr} {scope:Scope} {pos:Pos} {it acc:Value} {env:Env} (J:Nat→Shared→Prop)
    (step:∀ k s0,J k s0→wpAny (model prog w) A (pyNext it) (fun got s1=>match got with
      | none=>R (.ok .next) s1
      | some v=>wpAny (model prog w) A (letOwnedTupleGo target it v) (fun _ s2=>wpAny (model prog w) A (assign target env v) (fun _ s3=>wpAny (model prog w) A (isTrue cnd env (eval cnd env)) (fun ok s3'=>if ok=true then wpAny (model prog w) A (eval elt env) (fun y s4 =>
          wpAny (model prog w) A (call (.builtin "list.append") [acc,y]) (fun _ s5=>∃ j,j < k∧J j s5) (fun _ _=>False) s4) (fun _ _=>False) s3' else ∃ j,j < k∧J j s3') (fun _ _=>False) s3) (fun _ _=>False) s2) (fun _ _=>False) s1) (fun _ _=>False) s0)
    (k:Nat) (h:J k s):codeAny (model prog w) A (.compLoop (.ListComp elt [⟨target,iter,[cnd],0⟩] scope pos) 0 it acc env) R s:=by
  refine codeAny_loop rfl J (fun k0 s0 hJ=>?_) k h
  show wpAny _ _ ((compTurn (.ListComp elt [⟨target,iter,[cnd],0⟩] scope pos) 0 it acc env).onRaise (fun x=>do noteFrame x env; theTreesLotGoes x)) _ _ s0
  apply wpAny_noted
  rw [compTurn_list]
  refine wpAny_bind (wpAny_standAt (wpAny_bind (wpAny_mono (step k0 s0 hJ) (fun got s1 h1=>?_) fun _ _ z=>z.elim)))
  cases got with
  | none=>exact wpAny_pure h1
  | some v =>
    refine wpAny_bind (wpAny_mono h1 (fun _ s2 h2=>?_) fun _ _ z=>z.elim)
    refine wpAny_bind (wpAny_mono h2 (fun _ s3 h3=>?_) fun _ _ z=>z.elim)
    refine wpAny_bind (wpAny_mono (wpAny_tests_one h3) (fun ok s3' h3'=>?_) fun _ _ z=>z.elim)
    cases ok with
    | false=>exact wpAny_pure ⟨rfl,h3'⟩
    | true =>
      refine wpAny_bind (wpAny_bind (wpAny_mono h3' (fun y s4 h4=>?_) fun _ _ z=>z.elim))
      exact wpAny_bind (wpAny_mono h4 (fun _ s5 h5=>wpAny_pure (wpAny_pure ⟨rfl,h5⟩)) fun _ _ z=>z.elim)

noncomputable def tLcif (wi:TI) (n:Nat) (ix:List Nat) (g:Blk→TG) (tc:Blk→TT) (te:Blk→TE):TE:=fun σ H Q=>wi σ H fun J H1=>∀ b:Blk,∃ W:Nat→Nat→St→List V→Hp→Prop,(∃ m,W 0 m (bSt n ix σ) [] H1)∧∀ i m τ ys H2,W i m τ ys H2 →
  (J.stop i H2∧∀ p v H',H2 p=none→v=V.ref p→H'=upd H2 p (.lst ys)→Q v H') ∨
  (J.go i H2∧ys.length < sizeLine∧∀ x H3,J.yld i H2 x H3→g b x τ H3 fun τ2 H4=>tc b τ2 H4 fun ok H4'=>if ok=true then te b τ2 H4' fun y H5=>∃ m',m' < m∧W (i+1) m' τ2 (ys++[y]) H5 else ∃ m',m' < m∧W (i+1) m' τ2 ys H4')

section
variable {X:Cx} {pins:List (Addr×Obj)} {σ:St} {H:Hp} {s:Shared}
theorem lcif_block {elt target iter cnd:Expr} {scope:Scope} {pos:Pos} {Nx ts:List Str} {ix:List Nat} {g:Blk→TG} {tc:Blk→TT} {te:Blk→TE} {cl:List (Str×Addr)} {s2:Shared} {itv:Value} {R:Value→Addr→Result→Shared→Prop}
    {E:Value→Shared→Prop} {Q:VK}
    (hc:X.calm=true) (hg:∀ b,PG (cxC X (bN Nx ts ix) scope b) target (g b)) (hcn:∀ b,PT (cxC X (bN Nx ts ix) scope b) cnd (tc b)) (he:∀ b,PE (cxC X (bN Nx ts ix) scope b) elt (te b))
    (hNx:X.N=Nx) (ok:BlkOk Nx X.env.scope scope ix) (cl1:∀ x c,cl.lookup x=some c→X.env.cells.lookup x=some c) (cl2:∀ y∈scope.names,y.2=.free→∃ c,cl.lookup y.1=some c)
    (h2:PIE X pins σ target (fun J H1=>∀ b:Blk,∃ W:Nat→Nat→St→List V→Hp→Prop,(∃ m,W 0 m (bSt ts.length ix σ) [] H1)∧∀ i m τ ys H2,W i m τ ys H2 →
      (J.stop i H2∧∀ p v H',H2 p=none→v=V.ref p→H'=upd H2 p (.lst ys)→Q v H') ∨
      (J.go i H2∧ys.length < sizeLine∧∀ x H3,J.yld i H2 x H3→g b x τ H3 fun τ2 H4=>tc b τ2 H4 fun ok H4'=>if ok=true then te b τ2 H4' fun y H5=>∃ m',m' < m∧W (i+1) m' τ2 (ys++[y]) H5 else ∃ m',m' < m∧W (i+1) m' τ2 ys H4')) itv s2)
    (hR:∀ (D C:Addr) (H':Hp) (s':Shared) (v:V),Inv X pins σ H' s'→v=.ref D→Q v H'→(∃ m,s'.heap.Ns C m)→H' C=none→C≠X.env.locals→X.s₀.heap.objs.size≤C→(∀ x c,X.env.cells.lookup x=some c→c≠C)→(∀ p∈X.pn++pins,p.1≠C) →
      R (.ref D) C (.ok .next) s') :
    wpAny (model X.prog X.w) X.A (newList []) (fun acc s₃=>wpAny (model X.prog X.w) X.A (newFunctionEnv scope X.env.globals cl [] X.env.qual none .none (some X.env)) (fun cenv s₄ =>
      codeAny (model X.prog X.w) X.A (.compStart (.ListComp elt [⟨target,iter,[cnd],0⟩] scope pos) 0 itv acc { cenv with scope:=relabel scope X.env }) (R acc cenv.locals) s₄) E s₃) E s2:=by
  obtain ⟨it,fp,tn,J,H1,e,I2,T,st2,f2,q2⟩:=h2
  subst e
  refine wpAny_newObj_type (wpAny_compEnv ?_)
  dsimp only
  generalize hG:s2.heap.push { cls:=.type "list",dict:=none,data:=.seq ([]:List Value).toArray }=G
  have hGs:G.objs.size=s2.heap.objs.size+1:=by rw [← hG,Heap.size_push]
  have hfs:∀ b∈fp,b < s2.heap.objs.size:=fun b hb=>let ⟨o,e,_⟩:=T.obj _ _ st2 b hb; Heap.lt_size e
  have kpG:∀ b o,G.get? b=some o→(pushCells (G.push { cls:=.type "dict",data:=.dict #[] }) scope.names).get? b=some o:=fun b o e=>pushCells_keeps _ _ _ _ (Heap.get?_push_of_some _ e)
  have hns3:(pushCells (G.push { cls:=.type "dict",data:=.dict #[] }) scope.names).Ns G.objs.size (fun _=>none):=(Heap.Ns.new G (.type "dict")).keeps (pushCells_keeps _ _)
  obtain ⟨sp1,sp2,sp4,sp3⟩:=cells_spec scope.names (G.push { cls:=.type "dict",data:=.dict #[] }) cl
  rw [Heap.size_push] at sp1 sp2 sp3 sp4
  generalize hh3:pushCells (G.push { cls:=.type "dict",data:=.dict #[] }) scope.names=h3 at kpG hns3 sp1 ⊢
  have kp:∀ b o,s2.heap.get? b=some o→h3.get? b=some o:=fun b o e=>kpG b o (by rw [← hG]; exact Heap.get?_push_of_some _ e)
  have hD3:h3.get? s2.heap.objs.size=some { cls:=.type "list",data:=.seq ([]:List Value).toArray }:=kpG _ _ (by rw [← hG]; exact Heap.get?_push_size _ rfl)
  have clB:∀ x c,cl.lookup x=some c→c < G.objs.size+1:=fun x c e=>by
    obtain ⟨v,q⟩:=I2.cell x c (cl1 x c e)
    exact Nat.lt_succ_of_lt (Nat.lt_of_lt_of_le q.lt (by rw [hGs]; exact Nat.le_succ _))
  have csI:=sp3 clB fun x y c e1 e2=>I2.ok.inj x y c (cl1 x c e1) (cl1 y c e2)
  have cs1:∀ x c,(cellsFrom (G.objs.size+1) scope.names cl).lookup x=some c→X.env.cells.lookup x=some c∨(G.objs.size < c∧h3.IsCell c none∧(x,NameKind.cell)∈scope.names):=fun x c e=>by
    rcases sp1 x c e with z | ⟨z1,z2,z3⟩
    · exact .inl (cl1 x c z)
    · exact .inr ⟨by omega,z2,z3⟩
  have cs2:∀ y∈scope.names,(y.2=.free∨y.2=.cell)→∃ c,(cellsFrom (G.objs.size+1) scope.names cl).lookup y.1=some c:=fun y hy hk=>by
    refine sp2 y.1 ?_
    rcases hk with z | z
    · exact .inr (cl2 y hy z)
    · exact .inl (by rw [← z]; exact hy)
  have csA:∀ x c,(x,NameKind.cell)∈scope.names→(cellsFrom (G.objs.size+1) scope.names cl).lookup x=some c→G.objs.size≤c:=fun x c e1 e2=>Nat.le_of_succ_le (sp4 x c e1 e2)
  generalize hcs:cellsFrom (G.objs.size+1) scope.names cl=cs at csI cs1 cs2 csA ⊢
  generalize hCe:G.objs.size=C at hns3 cs1 csA ⊢
  have hC:s2.heap.objs.size≤C:=by omega
  have hDC:s2.heap.objs.size≠C:=by omega
  let B:Blk:=⟨cs,C,s2,H1,fp,X.pn++pins⟩
  have I3:Inv (cxC X (bN Nx ts ix) scope B) [] (bSt ts.length ix σ) H1 { s2 with heap:=h3 }:=inv_block I2 hNx ok cs1 csI cs2 csA f2 hfs hC kp hns3
  have fC:H1 s2.heap.objs.size=none:=I2.hok.fresh (Nat.le_refl _)
  have cellIn:∀ x c,cs.lookup x=some c→c≠s2.heap.objs.size:=fun x c e=>by
    rcases cs1 x c e with z | ⟨z,_,_⟩
    · obtain ⟨v,q⟩:=I2.cell x c z
      exact Nat.ne_of_lt q.lt
    · exact Nat.ne_of_gt (Nat.lt_of_le_of_lt hC z)
  have pinIn:∀ p∈X.pn++pins,p.1 < s2.heap.objs.size:=fun p hp=>Heap.lt_size (I2.pin p hp).1
  have nofrs:s2.heap.objs.size ∉ frs X.stack:=fun hb=>by
    rcases List.mem_cons.mp (I2.stkSub _ hb) with z | z
    · exact absurd I2.lt (by rw [← z]; exact Nat.lt_irrefl _)
    · exact I2.nofs (Nat.le_refl _) z
  -- a state with the list at its place,pinned
  have pinD:∀ {τ:St} {H':Hp} {s':Shared} {ob:Obj},Inv (cxC X (bN Nx ts ix) scope B) [] τ H' s'→s'.heap.get? s2.heap.objs.size=some ob→H' s2.heap.objs.size=none→(∀ v,ob.data≠.cell v)→Inv (cxC X (bN Nx ts ix) scope B) [(s2.heap.objs.size,ob)] τ H' s' :=
    fun {τ H' s' ob} I' ho hn hd=>I'.pins_of fun p hp=>by
      have e:p=(s2.heap.objs.size,ob):=by simpa using hp
      subst e
      exact ⟨ho,hn,hDC,nofrs,hd⟩
  obtain ⟨W,⟨m0,w0⟩,turn⟩:=q2 B
  have stat:∀ {H':Hp} {ob:Obj},(∀ b∈fp,H' b=none)→∀ b∈fp,FpOk (cxC X (bN Nx ts ix) scope B) [(s2.heap.objs.size,ob)] H' b:=fun {H' ob} hn b hb=>by
    refine ⟨hn b hb,Nat.ne_of_lt (Nat.lt_of_lt_of_le (hfs b hb) hC),fun z=>?_,.inl hb,fun x c e=>by
      rcases cs1 x c e with z | ⟨z,_,_⟩
      · exact (f2 b hb).2.2.2.2.1 x c z
      · exact Nat.ne_of_gt (Nat.lt_of_lt_of_le (hfs b hb) (Nat.le_trans hC (Nat.le_of_lt z))),fun p hp=>?_⟩
    · rcases List.mem_cons.mp (I2.stkSub _ z) with q | q
      · exact (f2 b hb).2.1 q
      · exact (f2 b hb).2.2.1 q
    · rcases List.mem_append.mp hp with z | z
      · exact (f2 b hb).2.2.2.2.2 p z
      · have e:p=(s2.heap.objs.size,ob):=by simpa using z
        subst e
        exact Nat.ne_of_gt (hfs b hb)
  have loop:∀ s4:Shared,s4={ s2 with heap:=h3 } →
      codeAny (model X.prog X.w) X.A (.compLoop (.ListComp elt [⟨target,iter,[cnd],0⟩] scope pos) 0 (.ref it) (.ref s2.heap.objs.size) (compEnvC scope cs C X.env)) (R (.ref s2.heap.objs.size) C) s4:=by
    rintro s4 rfl
    refine compLoop_runIf (fun k s'=>∃ i τ ys its n H',Inv (cxC X (bN Nx ts ix) scope B) [(s2.heap.objs.size,({ cls:=.type "list",data:=.seq (List.toArray its) n }:Obj))] τ H' s'∧tn i s'.heap∧(∀ b∈fp,H' b=none)∧Vals ys its∧ys.length≤sizeLine∧W i k τ ys H') ?_ m0
      ⟨0,_,[],[],_,H1,pinD I3 hD3 fC (fun v z=>by cases z),T.keep _ _ _ st2 fun b hb o e=>kp b o e,fun b hb=>(f2 b hb).1,.nil,Nat.zero_le _,w0⟩
    rintro k s5 ⟨i,τ,ys,its,n,H5,I5,st5,fr5,rv,hz,w5⟩
    rcases turn i k τ ys H5 w5 with ⟨stop,qn⟩ | ⟨go,hlt,step⟩
    · refine thn (T.done (cxC X (bN Nx ts ix) scope B) rfl rfl rfl hc i _ s5 τ H5 _ I5 (stat fr5) st5 stop) fun got s6 hz0=>?_
      obtain ⟨hr,I6⟩:=hz0
      subst hr
      obtain ⟨ho,hn,_,_,_⟩:=I6.pin (s2.heap.objs.size,({ cls:=.type "list",data:=.seq (List.toArray its) n }:Obj)) (List.mem_append_right _ (by simp))
      have I7:Inv X pins σ H5 s6:=I2.call' (ch:=fp) (H':=H5) (by exact I6.os) I6.base I6.hok I6.bare fun b hb=>⟨(f2 b hb).2.2.2.1,(f2 b hb).2.1,(f2 b hb).2.2.2.2.1,(f2 b hb).2.2.2.2.2⟩
      have hs0:X.s₀.heap.objs.size≤s2.heap.objs.size:=I2.sz
      have I8:=I7.track hn ho rv hz (Nat.ne_of_gt I2.lt) hs0 (fun x c e z=>by
        obtain ⟨v,q⟩:=I2.cell x c e
        exact absurd q.lt (by rw [z]; exact Nat.lt_irrefl _)) (fun p hp=>Nat.ne_of_lt (pinIn p hp))
      obtain ⟨m6,hm6,_⟩:=I6.loc
      refine hR _ C _ s6 _ I8 rfl (qn _ _ _ hn rfl rfl) ⟨m6,hm6⟩ ?_ (fun z=>?_) (Nat.le_trans hs0 hC) (fun x c e z=>?_) fun p hp=>Nat.ne_of_lt (Nat.lt_of_lt_of_le (pinIn p hp) hC)
      · rw [upd_ne (Ne.symm hDC)]
        exact I6.free
      · exact absurd (Nat.lt_of_lt_of_le I2.lt hC) (by rw [z]; exact Nat.lt_irrefl _)
      · obtain ⟨v,q⟩:=I2.cell x c e
        exact absurd (Nat.lt_of_lt_of_le q.lt hC) (by rw [z]; exact Nat.lt_irrefl _)
    · refine thn (T.item (cxC X (bN Nx ts ix) scope B) rfl rfl rfl hc i _ s5 τ H5 _ I5 (stat fr5) st5 go) fun got s6 hz0=>?_
      obtain ⟨u,hr,h6⟩:=hz0
      subst hr
      refine thn h6 fun _ s7 hz0=>?_
      obtain ⟨x,H7,I7,r7,y7,st7,fr7⟩:=hz0
      have I7':=I7.pinned (stat fr7) (T.obj _ _ st7)
      refine thn (hg B _ s7 τ H7 x u _ I7' r7 (step x H7 y7)) fun _ s8 hz0=>?_
      obtain ⟨τ8,H8,I8,q8⟩:=hz0
      refine thn (hcn B _ s8 τ8 H8 _ I8 q8) fun okk s8' hz0=>?_
      obtain ⟨H8',I8',q8'⟩:=hz0
      cases okk with
      | false =>
        obtain ⟨m',hm',w9⟩:=q8'
        obtain ⟨ho,hn,_,_,_⟩:=I8'.pin (s2.heap.objs.size,({ cls:=.type "list",data:=.seq (List.toArray its) n }:Obj)) (List.mem_append_right _ (List.mem_append_left _ (by simp)))
        have I9':Inv (cxC X (bN Nx ts ix) scope B) [] τ8 H8' s8':=I8'.pins_of fun p hp=>absurd hp (by simp)
        refine ⟨m',hm',i+1,τ8,ys,its,n,H8',pinD I9' ho hn (fun v z=>by cases z),?_,fun b hb=>?_,rv,hz,w9⟩
        · refine T.keep _ _ _ st7 fun b hb o e=>?_
          exact (I8'.pin (b,o) (List.mem_append_right _ (List.mem_append_right _ (mem_pinsAt hb e)))).1
        · obtain ⟨o,e,d⟩:=T.obj _ _ st7 b hb
          exact (I8'.pin (b,o) (List.mem_append_right _ (List.mem_append_right _ (mem_pinsAt hb e)))).2.1
      | true =>
      refine thn (he B _ s8' τ8 H8' _ I8' q8') fun y s9 hz0=>?_
      obtain ⟨vy,H9,I9,r9,m',hm',w9⟩:=hz0
      obtain ⟨ho,hn,_,_,_⟩:=I9.pin (s2.heap.objs.size,({ cls:=.type "list",data:=.seq (List.toArray its) n }:Obj)) (List.mem_append_right _ (List.mem_append_left _ (by simp)))
      have lenv:=rv.length
      refine wpAny_list_append_plain (l:=s2.heap.objs.size) ⟨n,ho⟩ (fun h' hpl hsb=>?_) (by rw [List.size_toArray]; omega)
      obtain ⟨n',ho'⟩:=hpl
      have eobj:(its.toArray.push y)=List.toArray (its++[y]):=by simp
      rw [eobj] at ho'
      have I9':Inv (cxC X (bN Nx ts ix) scope B) [] τ8 H9 s9:=I9.pins_of fun p hp=>absurd hp (by simp)
      have I10:Inv (cxC X (bN Nx ts ix) scope B) [] τ8 H9 { s9 with heap:=h' }:=I9'.turned (it:=s2.heap.objs.size) (t':=s9.toks) (fun b o hb e=>(hsb.2 b hb).trans e) hn hDC (.inr (Nat.le_refl _)) cellIn (fun p hp=>by
        have hp':p∈(X.pn++pins)++[]:=hp
        rw [List.append_nil] at hp'
        exact Nat.ne_of_lt (pinIn p hp'))
      refine ⟨m',hm',i+1,τ8,ys++[vy],its++[y],n',H9,pinD I10 ho' hn (fun v z=>by cases z),?_,fun b hb=>?_,rv.append (.cons r9 .nil),by rw [List.length_append]; show ys.length+1≤_; omega,w9⟩
      · refine T.keep _ _ _ st7 fun b hb o e=>?_
        have q:=(I9.pin (b,o) (List.mem_append_right _ (List.mem_append_right _ (mem_pinsAt hb e)))).1
        exact (hsb.2 b (Nat.ne_of_lt (hfs b hb))).trans q
      · obtain ⟨o,e,d⟩:=T.obj _ _ st7 b hb
        exact (I9.pin (b,o) (List.mem_append_right _ (List.mem_append_right _ (mem_pinsAt hb e)))).2.1
  exact codeAny_compStart_list (loop _ rfl) (T.self X.A 0 _ _ _ (T.keep _ _ _ st2 fun b hb o e=>kp b o e) (loop _ rfl))

theorem pe_lcif {elt target iter cnd:Expr} {scope:Scope} {pos:Pos} {wi:TI} {g:Blk→TG} {tc:Blk→TT} {te:Blk→TE} (Nx:List Str) (ts:List Str) (ix:List Nat)
    (hc:X.calm=true) (hi:PI X target iter wi) (hg:∀ b,PG (cxC X (bN Nx ts ix) scope b) target (g b)) (hcn:∀ b,PT (cxC X (bN Nx ts ix) scope b) cnd (tc b)) (he:∀ b,PE (cxC X (bN Nx ts ix) scope b) elt (te b))
    (hNx:X.N=Nx) (ok:BlkOk Nx X.env.scope scope ix) (hs:∀ x,foldedSetIterable iter X.env x=pure x:=by intro _; rfl) :
    PE X (.ListComp elt [⟨target,iter,[cnd],0⟩] scope pos) (tLcif wi ts.length ix g tc te):=by
  intro pins s σ H Q I h
  obtain ⟨cl,hcl,cl1,cl2⟩:=closure_of (scope:=scope) (env:=X.env) fun y hy hf=>I.ok.has y.1 (ok.frees y hy hf)
  rw [eval_ListComp]
  refine wpAny_comprehension_free (use:=none) rfl hs hcl ok.kind ok.locs (thn (hi pins s σ H _ I h) fun v s1 h1=>thn h1 fun itv s2 h2=>?_)
  refine lcif_block (R:=fun acc C=>compPost (model X.prog X.w) X.A X.xe none (EP X pins σ Q) acc C) hc hg hcn he hNx ok cl1 cl2 h2 ?_
  rintro D C H' s' v I' rfl q ⟨m,hm⟩ hn hL h0 hcl' hp
  exact ⟨m,hm,fun h' hsb=>⟨.ref D,H',I'.turned (it:=C) (t':=s'.toks) (fun b o hb e=>(hsb.2 b hb).trans e) hn hL (.inr h0) hcl' hp,rfl,q⟩⟩

end
section
variable {PK:Pk} {X:Cx} {e:Expr} {st:Stmt} {i:List Sl→Tr PyData} {is:List Sl→Tr (List PyData)} {p:List Sl→Tr Bool}
noncomputable def mapC (y:Option PyData) (ys:List PyData):Tr (List PyData):=.ret (match y with
  | some y=>y::ys
  | none=>ys)
noncomputable def mapO (h:PyData→Tr (Option PyData)):List PyData→Tr (List PyData)
  | []=>.ret []
  | x::xs=>(h x).bind fun y=>(mapO h xs).bind (mapC y)
noncomputable def ifE (p:List Sl→Tr Bool) (i:List Sl→Tr PyData) (τ:List Sl):Tr (Option PyData):=(p τ).bind fun ok=>if ok=true then (i τ).bind fun y=>.ret (some y) else .ret none
noncomputable def aLcif (is:List Sl→Tr (List PyData)) (n:Nat) (ix:List Nat) (g:PyData→List Sl→Option (List Sl)) (p:List Sl→Tr Bool) (el:List Sl→Tr PyData):List Sl→Tr (List PyData):=fun ρ =>
  (is ρ).bind fun xs=>if small xs.length=true then mapO (fun x=>(Tr.of (g x (blk n ix ρ))).bind (ifE p el)) xs else .fail
theorem lcif_read {n:Nat} {ix:List Nat} {g:PyData→List Sl→Option (List Sl)} (hn:PresN n g):∀ σ H Q,TAo PK (aLcif is n ix g p i) σ H Q→tLcif (TAi PK is) n ix (fun _=>TAg PK g) (fun _=>TAt PK p) (fun _=>TAe PK i) σ H Q:=by
  rintro σ H Q ⟨pa,G₀,H₀,m,ρ,G,R,z⟩
  refine ⟨pa,G₀,H₀,m,ρ,G,R,Tr.ok_mono (Tr.ok_bind.mp z) fun m1 xs k J G1 H1 s1 w1 jo=>fun B=>?_⟩
  obtain ⟨hs,k⟩:=ok_if k
  have hs:xs.length≤sizeLine:=of_decide_eq_true hs
  let el:PyData→Tr (Option PyData):=fun x=>(Tr.of (g x (blk n ix ρ))).bind (ifE p i)
  let W:Nat→Nat→St→List V→Hp→Prop:=fun k mm τ ys H2=>mm=xs.length - k∧k≤xs.length∧ys.length≤k∧∃ m G2 ds,Sub G1 G2∧Stp pa G H G2 H2∧Rl PK pa G₀ H₀ m τ (blk n ix ρ) G2 H2 ∧
    DnAll G2 ys ds∧(mapO el (xs.drop k)).ok m fun m' zs=>Ko1 PK pa m' G H (ds++zs) Q
  refine ⟨W,⟨xs.length,rfl,Nat.zero_le _,Nat.le_refl _,m1,G1,[],.refl,s1,(R.step s1 w1).blk n ix,.nil,k⟩,?_⟩
  rintro k mm τ ys H2 ⟨rfl,hk,hy,m2,G2,ds,sb,st2,R2,dn,k2⟩
  obtain ⟨j1,j2⟩:=jo m2 G2 H2 sb R2.wd
  by_cases hlt:k < xs.length
  · have hx:xs[k]?=some xs[k]:=by simp [hlt]
    obtain ⟨jg,jy⟩:=j1 k _ hx
    refine .inr ⟨jg,by omega,fun x H3 y=>?_⟩
    obtain ⟨G3,s3,w3,d3⟩:=jy x H3 y
    rw [List.drop_eq_getElem_cons hlt] at k2
    unfold mapO at k2
    rw [Tr.ok_bind,Tr.ok_bind] at k2
    obtain ⟨ρ3,hg3,k3⟩:=Tr.ok_of k2
    refine ⟨pa,G₀,H₀,m2,_,G3,_,ρ3,R2.step s3 w3,d3,hg3,fun τ4 R4=>?_⟩
    obtain ⟨pl,pk⟩:=hn _ _ _ hg3
    have hback:∀ (q:Nat) (sl:Sl),(blk n ix ρ)[q]?=some sl→sl=.un∨ρ3[q]?=some sl:=fun q sl hq=>by
      by_cases hqn:q < n
      · left
        unfold blk at hq
        rw [List.getElem?_append_left (by simpa using hqn),List.getElem?_replicate,if_pos hqn] at hq
        cases hq
        rfl
      · right
        rw [pk q (Nat.le_of_not_lt hqn)]
        exact hq
    unfold ifE at k3
    rw [Tr.ok_bind] at k3
    refine ⟨pa,G₀,H₀,m2,ρ3,G3,R4,Tr.ok_mono k3 fun m4 ok k4 G4 H4 s4 w4=>?_⟩
    have R4':=R4.step s4 w4
    have s34:=s3.trans s4 w3.some
    cases ok with
    | false =>
      have k4':((mapO el (xs.drop (k+1))).bind (mapC none)).ok m4 fun m' zs=>Ko1 PK pa m' G H (ds++zs) Q:=k4
      refine ⟨xs.length - (k+1),by omega,rfl,hlt,by omega,m4,G4,ds,sb.trans s34.gs,st2.trans s34 R2.wd.some,R4'.weak pl hback,DnAll.mono s34.gs dn,?_⟩
      exact Tr.ok_mono (Tr.ok_bind.mp k4') fun m6 zs k6=>k6
    | true =>
      have k4':((i ρ3).bind fun y=>.ret (some y)).ok m4 fun m' y=>((mapO el (xs.drop (k+1))).bind (mapC y)).ok m' fun m' zs=>Ko1 PK pa m' G H (ds++zs) Q:=k4
      rw [Tr.ok_bind] at k4'
      refine ⟨pa,G₀,H₀,m4,ρ3,G4,R4',Tr.ok_mono k4' fun m5 yd k5=>?_⟩
      intro v G5 H5 s5 w5 d5
      have s35:=s34.trans s5 w4.some
      refine ⟨xs.length - (k+1),by omega,rfl,hlt,by rw [List.length_append]; show ys.length+1≤_; omega,m5,G5,ds++[yd],sb.trans s35.gs,st2.trans s35 R2.wd.some,(R4'.step s5 w5).weak pl hback,(DnAll.mono s35.gs dn).snoc d5,?_⟩
      have k5':((mapO el (xs.drop (k+1))).bind (mapC (some yd))).ok m5 fun m' zs=>Ko1 PK pa m' G H (ds++zs) Q:=k5
      refine Tr.ok_mono (Tr.ok_bind.mp k5') fun m6 zs k6=>?_
      rw [List.append_assoc]
      exact k6
  · have e:k=xs.length:=by omega
    subst e
    refine .inl ⟨j2,fun p v H' hp ev eH=>?_⟩
    subst ev eH
    rw [List.drop_length] at k2
    have k2':Ko1 PK pa m2 G H (ds++[]) Q:=k2
    rw [List.append_nil] at k2'
    exact (Ko1.later k2' st2 R2.wd.some).new R2.wd dn hp
theorem ao_lcif {n:Nat} {ix:List Nat} {g:PyData→List Sl→Option (List Sl)} (h:PE X e (tLcif (TAi PK is) n ix (fun _=>TAg PK g) (fun _=>TAt PK p) (fun _=>TAe PK i))) (hn:PresN n g):PE X e (TAo PK (aLcif is n ix g p i)):=h.imp (lcif_read hn)
end
end L2
set_option Elab.async false
set_option linter.all false
set_option maxRecDepth 100000
namespace L2
open PySem PySem.Spec PyProof.Rows
section
variable {X:Cx}
theorem mul_tup0 (x:Int) (t:Tok) (l:Addr) (items:Array Value) (n:Nat) (dd:Option Addr) (sl:Array (Option Value)) (h1:x≤0) (h2:-1000≤x) (h3:items.isEmpty=false) :
    Meets (Builtin.«tuple.__mul__» ⟨[.ref l,.int x t],[]⟩) (fun _ R s=>s.heap.get? l=some { cls:=.type "tuple",dict:=dd,data:=.seq items n,slots:=sl } ∧
      R (.ok (.ret (.ref s.heap.objs.size))) { s with heap:=s.heap.push { cls:=.type "tuple",data:=.seq #[] } }):=by
  refine .of_wp fun prog w A R s h=>?_
  obtain ⟨hp,g,d,tk,os⟩:=s
  obtain ⟨hl,h⟩:=h
  wp_walk
  refine wpAny_ite_split (fun z=>absurd z (by simp; omega)) (fun _=>?_)
  refine wpAny_bind ?_
  unfold Builtin.Tuple.tupleItemsOf
  refine wpAny_bind (wpAny_seqItems hl rfl (wpAny_pure ?_))
  refine wpAny_ite_split (fun z=>absurd z (by rw [h3]; simp; omega)) (fun _=>?_)
  refine wpAny_ite_split (fun _=>?_) (fun z=>absurd (by simp; exact .inl h1) z)
  unfold Builtin.Tuple.tupleExact
  exact wpAny_bind (wpAny_newObj_type (wpAny_pure ⟨_,rfl,h⟩) (by size_fits))
theorem mul_tup1 (t:Tok) (l:Addr) (items:Array Value) (n:Nat) (dd:Option Addr) (sl:Array (Option Value)) :
    Meets (Builtin.«tuple.__mul__» ⟨[.ref l,.int 1 t],[]⟩) (fun _ R s=>s.heap.get? l=some { cls:=.type "tuple",dict:=dd,data:=.seq items n,slots:=sl }∧R (.ok (.ret (.ref l))) s):=by
  refine .of_wp fun prog w A R s h=>?_
  obtain ⟨hp,g,d,tk,os⟩:=s
  obtain ⟨hl,h⟩:=h
  wp_walk
  exact ⟨_,rfl,h⟩
noncomputable def rRep0 (K:PySem.W.Frag):R2:=fun x y H Q=>∃ a k xs,x=.ref a∧y=.int k∧SqT K H a xs∧k≤0∧-1000≤k∧xs≠[]∧∀ p,H p=none→Q (.ref p) (upd H p (.tup []))
noncomputable def rRep1 (K:PySem.W.Frag):R2:=fun x y H Q=>∃ a xs,x=.ref a∧y=.int 1∧SqT K H a xs∧Q (.ref a) H
theorem op_rep0:OpR X (binaryOp .Mult) (rRep0 X.K):=by
  intro pins s σ H x y v u Q I rx ry h
  obtain ⟨a,k,xs,rfl,rfl,hq,h1,h2,hne,q⟩:=h
  cases rx
  obtain ⟨t,rfl⟩:=ry
  obtain ⟨its,rv,p,hz⟩:=I.tuple hq
  obtain ⟨o,ho,hc,n,hd⟩:=p
  obtain ⟨oc,od,odd,osl⟩:=o
  have hc':oc=.type "tuple":=hc
  have hd':odd=.seq its.toArray n:=hd
  subst hc' hd'
  have hemp:its.toArray.isEmpty=false:=by
    cases its with
    | nil=>cases rv; exact absurd rfl hne
    | cons i r=>rfl
  refine wpAny_binaryOp_repeat_ref (T:="tuple") (U:="int") (by decide) ⟨_,ho,rfl⟩ (fun s'=>typeIs_int s' k t) noFill_tup PySem.F.fills_int_mul PySem.F.slot_int_rmul repeat_tup PySem.F.slot_int_index.lookup ?_
  refine call_meets PySem.F.slot_int_rmul (typeIs_int s k t) PySem.F.entry_int_rmul (PySem.F.args_int_rmul_2 _ _) (rmul_tup k t a its.toArray n od osl) ⟨ho,rfl,⟨_,ho,rfl⟩,?_⟩
  refine call_meets PySem.F.slot_tuple_mul ⟨_,ho,rfl⟩ PySem.F.entry_tuple_mul (PySem.F.args_tuple_mul_2 _ _) (mul_tup0 k t a its.toArray n od osl h1 h2 hemp) ⟨ho,?_⟩
  exact ⟨.ref s.heap.objs.size,_,I.laid (t':=s.toks) (fun b o e=>Heap.get?_push_of_some _ e) (Nat.le_refl _) (show ObjOk X.prog X.w _ _ _ (.tup []) from ⟨Nat.zero_le _,[],.nil,IsTup.new _ _⟩),rfl,q _ (I.hok.fresh (Nat.le_refl _))⟩
theorem op_rep1:OpR X (binaryOp .Mult) (rRep1 X.K):=by
  intro pins s σ H x y v u Q I rx ry h
  obtain ⟨a,xs,rfl,rfl,hq,q⟩:=h
  cases rx
  obtain ⟨t,rfl⟩:=ry
  obtain ⟨its,rv,p,hz⟩:=I.tuple hq
  obtain ⟨o,ho,hc,n,hd⟩:=p
  obtain ⟨oc,od,odd,osl⟩:=o
  have hc':oc=.type "tuple":=hc
  have hd':odd=.seq its.toArray n:=hd
  subst hc' hd'
  refine wpAny_binaryOp_repeat_ref (T:="tuple") (U:="int") (by decide) ⟨_,ho,rfl⟩ (fun s'=>typeIs_int s' 1 t) noFill_tup PySem.F.fills_int_mul PySem.F.slot_int_rmul repeat_tup PySem.F.slot_int_index.lookup ?_
  refine call_meets PySem.F.slot_int_rmul (typeIs_int s 1 t) PySem.F.entry_int_rmul (PySem.F.args_int_rmul_2 _ _) (rmul_tup 1 t a its.toArray n od osl) ⟨ho,rfl,⟨_,ho,rfl⟩,?_⟩
  refine call_meets PySem.F.slot_tuple_mul ⟨_,ho,rfl⟩ PySem.F.entry_tuple_mul (PySem.F.args_tuple_mul_2 _ _) (mul_tup1 t a its.toArray n od osl) ⟨ho,?_⟩
  exact ⟨.ref a,H,I,rfl,q⟩
noncomputable def rRepE (K:PySem.W.Frag):R2:=fun x y H Q=>rRepT K x y H Q∨rRep0 K x y H Q∨rRep1 K x y H Q
theorem op_repE:OpR X (binaryOp .Mult) (rRepE X.K):=op_repT.or (op_rep0.or op_rep1)
noncomputable def repD:PyData→PyData→Option PyData
  | .tuple xs,.int n=>if (decide (-1000≤n) && decide (n≤1000) && !xs.isEmpty && decide (xs.length≤1000))=true then some (.tuple (List.replicate n.toNat xs).flatten) else none
  | _,_=>none
theorem vo_rep {K:PySem.W.Frag}:VOp2 (rRepE K) repD:=fun PK pa m G H x y dx dy dz Q w hx hy hz k=>by
  unfold repD at hz
  split at hz
  · rename_i xs n
    split at hz
    · rename_i hc
      simp only [Bool.and_eq_true,decide_eq_true_eq,Bool.not_eq_true'] at hc
      cases hz; cases hy
      cases hx with
      | tup a1 a2 =>
        have hne:∀ vs:List V,DnAll G vs xs→vs≠[]:=fun vs a2 e=>by
          have:=hc.1.2
          rw [← a2.isEmpty,e] at this
          cases this
        by_cases h1:1 < n
        · exact .inl ⟨_,_,_,rfl,rfl,SqT.of (w.sub _ _ a1),h1,hc.1.1.2,hne _ a2,by rw [a2.length]; exact hc.2,fun p hp=>k.tup w (a2.rep _) hp⟩
        · by_cases h0:n≤0
          · refine .inr (.inl ⟨_,_,_,rfl,rfl,SqT.of (w.sub _ _ a1),h0,hc.1.1.1,hne _ a2,fun p hp=>?_⟩)
            have e:(List.replicate n.toNat xs).flatten=[]:=by rw [show n.toNat=0 by omega]; rfl
            rw [e] at k
            exact k.tup w .nil hp
          · have e1:n=1:=by omega
            subst e1
            refine .inr (.inr ⟨_,_,rfl,rfl,SqT.of (w.sub _ _ a1),?_⟩)
            have e:(List.replicate (1:Int).toNat xs).flatten=xs:=by simp
            rw [e] at k
            exact k.here w (.tup a1 a2)
    · cases hz
  · cases hz
section
variable {ρ:List Sl} {is:List Sl→Tr (List PyData)} {n:Nat} {i:List Sl→Tr PyData} {p:List Sl→Tr Bool} {xs:List PyData} {x:PyData}
noncomputable def lci2 (g:PyData→List Sl→Option (List Sl)) (p:List Sl→Tr Bool) (el:List Sl→Tr PyData) (τ:List Sl) (x:PyData):Tr (Option PyData):=(Tr.of (g x τ)).bind (ifE p el)
noncomputable def lci1 (n:Nat) (ix:List Nat) (g:PyData→List Sl→Option (List Sl)) (p:List Sl→Tr Bool) (el:List Sl→Tr PyData) (ρ:List Sl) (xs:List PyData):Tr (List PyData):=if small xs.length=true then mapO (lci2 g p el (blk n ix ρ)) xs else .fail
theorem ev_lcif {ix:List Nat} {g:PyData→List Sl→Option (List Sl)}:aLcif is n ix g p i ρ=(is ρ).bind (lci1 n ix g p i ρ):=rfl
theorem ev_lci1 {ix:List Nat} {g:PyData→List Sl→Option (List Sl)} (h:small xs.length=true):lci1 n ix g p i ρ xs=mapO (lci2 g p i (blk n ix ρ)) xs:=by unfold lci1; rw [if_pos h]
theorem ev_lci2 {τ:List Sl} {g:PyData→List Sl→Option (List Sl)}:lci2 g p i τ x=(Tr.of (g x τ)).bind (ifE p i):=rfl
noncomputable def if3 (y:PyData):Tr (Option PyData):=.ret (some y)
noncomputable def if2 (i:List Sl→Tr PyData) (τ:List Sl) (b:Bool):Tr (Option PyData):=if b=true then (i τ).bind if3 else .ret none
theorem ev_ifE {τ:List Sl}:ifE p i τ=(p τ).bind (if2 i τ):=rfl
theorem ev_if2t {τ:List Sl}:if2 i τ true=(i τ).bind if3:=rfl
theorem ev_if2f {τ:List Sl}:if2 i τ false=.ret none:=rfl
theorem ev_if3:if3 x=.ret (some x):=rfl
theorem mapO_ret {h:PyData→Tr (Option PyData)} {f:PyData→Option PyData}:∀ {xs:List PyData},(∀ x∈xs,h x=.ret (f x))→mapO h xs=.ret (xs.filterMap f)
  | [],_=>rfl
  | x::xs,hx=>by
    rw [mapO,hx x (by simp),Tr.ret_bind,mapO_ret fun y hy=>hx y (List.mem_cons_of_mem _ hy),Tr.ret_bind,List.filterMap_cons]
    unfold mapC
    cases f x <;> rfl
end
end
end L2
set_option Elab.async false
set_option linter.all false
set_option maxRecDepth 100000
namespace L2
open PySem PySem.Spec PyProof.Rows
section
variable {PK:Pk} {X:Cx} {e:Expr} {as:List Sl→Tr (List Sl)}
end
section
variable {ρ:List Sl} {as:List Sl→Tr (List Sl)} {f:List PyData→Option PyData} {x:PyData} {xs:List PyData} {i j:List Sl→Tr PyData} {k:Nat} {p:List Sl→Tr Bool} {s:List Sl→Tr Ou}
end
end L2
set_option Elab.async false
set_option linter.all false
set_option maxRecDepth 100000
namespace L2
open PySem PySem.Spec PyProof.Rows
open AutoSeq1 (wpAny_loadPart')
section
variable {prog:Program} {w:World} {A:Around} {E:Value→Shared→Prop} {s:Shared}
end
section
variable {prog:Program} {w:World} {A:Around} {E:Value→Shared→Prop} {s:Shared}
end
section
variable {X:Cx} {tg:Expr} {PK:Pk} {a b:Expr} {i j:List Sl→Tr PyData} {p pos:Pos}
end
end L2
set_option Elab.async false
set_option linter.all false
set_option maxRecDepth 100000
namespace L2
open PySem PySem.Spec PyProof.Rows
section
variable {X:Cx} {tg:Expr} {PK:Pk} {e:Expr} {i j:List Sl→Tr PyData} {is:List Sl→Tr (List PyData)} {p pos:Pos}
end
section
variable {X:Cx} {PK:Pk} {i n:List Sl→Tr PyData}
end
section
variable {prog:Program} {w:World} {A:Around} {E:Value→Shared→Prop} {s:Shared}
end
section
variable {X:Cx} {PK:Pk} {e st:Expr} {te ts:TE} {i j:List Sl→Tr PyData} {p2 pos:Pos}
end
end L2
set_option Elab.async false
set_option linter.all false
set_option maxRecDepth 100000
namespace L2
open PySem PySem.Spec PyProof.Rows
section
variable {prog:Program} {w:World} {A:Around} {R:Result→Shared→Prop} {I S:Addr} {fp wr:List Addr} {n:Nat} {P:Nat→Value→Prop} {St:Nat→Heap→Prop} {h0:Heap}
end
section
variable {prog:Program} {w:World} {A:Around} {E:Value→Shared→Prop} {s:Shared}
end
end L2
namespace L2
open PySem PySem.Spec PyProof.Rows
section
variable {X:Cx}
end
end L2
namespace L2
open PySem PySem.Spec PyProof.Rows
section
variable {X:Cx} {PK:Pk} {e:Expr} {is:List Sl→Tr (List PyData)}
end
end L2
set_option Elab.async false
set_option linter.all false
set_option maxRecDepth 100000
namespace L2
open PySem PySem.Spec PyProof.Rows
section
variable {prog:Program} {w:World} {A:Around} {E:Value→Shared→Prop} {s:Shared}
end
section
variable {X:Cx}
end
end L2
namespace L2
open PySem PySem.Spec PyProof.Rows
section
variable {X:Cx} {PK:Pk} {a b:Expr} {pos:Pos} {j:List Sl→Tr PyData}
end
end L2
set_option Elab.async false
set_option linter.all false
set_option maxRecDepth 100000
namespace L2
open PySem PySem.Spec PyProof.Rows
section
variable {prog:Program} {w:World} {A:Around} {E:Value→Shared→Prop} {s:Shared}
theorem cat_nil {t b:Addr} {ws:List Value} {Q:Value→Shared→Prop} (ht:IsTup s.heap t ([]:List Value).toArray) (hb:IsTup s.heap b ws.toArray) (h1:Q (.ref b) s):wpAny (model prog w) A (binaryOp .Add (.ref t) (.ref b)) Q E s:=by
  obtain ⟨⟨cls,dd,data,sl⟩,ho,hc,n,hd⟩:=id ht
  obtain ⟨⟨cls2,dd2,data2,sl2⟩,ho2,hc2,n2,hd2⟩:=id hb
  simp only at hc hd hc2 hd2
  subst hc hd hc2 hd2
  exact concat_meets ⟨_,ho,rfl⟩ ⟨_,ho2,rfl⟩ noFill_tuple_add seq_tuple_add PySem.F.slot_tuple_add PySem.F.entry_tuple_add (PySem.F.args_tuple_add_2 _ _) (tuple_addW0 t b _ ws.toArray n n2 dd dd2 sl sl2 rfl) ⟨ho,ho2,h1⟩
end
section
variable {X:Cx}
noncomputable def rCat0 (K:PySem.W.Frag):R2:=fun x y H Q=>∃ a b ys,x=.ref a∧y=.ref b∧SqT K H a []∧SqT K H b ys∧Q (.ref b) H
theorem op_cat0:OpR X (binaryOp .Add) (rCat0 X.K):=by
  intro pins s σ H x y v u Q I rx ry h
  obtain ⟨a,b,ys,rfl,rfl,ha,hb,q⟩:=h
  cases rx
  cases ry
  obtain ⟨its,r1,p1,_⟩:=I.tuple ha
  obtain ⟨its2,r2,p2,_⟩:=I.tuple hb
  cases r1
  exact cat_nil p1 p2 ⟨.ref b,H,I,rfl,q⟩
noncomputable def addE:PyData→PyData→Option PyData
  | .tuple [],.tuple ys=>some (.tuple ys)
  | x,y=>addD x y
noncomputable def rAddE (K:PySem.W.Frag):R2:=fun x y H Q=>rAddD K x y H Q∨rCat0 K x y H Q
theorem op_addE:OpR X (binaryOp .Add) (rAddE X.K):=op_addD.or op_cat0
theorem vo_addE {K:PySem.W.Frag}:VOp2 (rAddE K) addE:=fun PK pa m G H x y dx dy dz Q w hx hy hz k=>by
  unfold addE at hz
  split at hz
  · cases hz
    cases hx with
    | tup a1 a2 =>
      cases a2
      cases hy with
      | tup b1 b2=>exact .inr ⟨_,_,_,rfl,rfl,SqT.of (w.sub _ _ a1),SqT.of (w.sub _ _ b1),k.here w (.tup b1 b2)⟩
  · exact .inl (vo_add PK pa m G H x y _ _ dz Q w hx hy hz k)
theorem ev_addE0 {ys:List PyData}:bin2 addE (.tuple []) (.tuple ys)=.ret (.tuple ys):=rfl
theorem ev_addE1 {x:PyData} {xs ys:List PyData} (h:small ((x::xs).length+ys.length)=true):bin2 addE (.tuple (x::xs)) (.tuple ys)=.ret (.tuple (x::xs++ys)):=by
  show Tr.of (addD (.tuple (x::xs)) (.tuple ys))=_
  unfold addD
  simp only [List.isEmpty_cons,Bool.not_false,Bool.true_and,h,if_true]
  rfl
theorem addE_of {xs ys:List PyData} (h:small (xs.length+ys.length)=true):bin2 addE (.tuple xs) (.tuple ys)=.ret (.tuple (xs++ys)):=by
  cases xs with
  | nil=>rfl
  | cons x xs=>exact ev_addE1 h
end
end L2
set_option Elab.async false
set_option linter.all false
set_option maxRecDepth 100000
namespace L2
open PySem PySem.Spec PyProof.Rows
section
variable {PK:Pk} {X:Cx} {a b:Expr} {pos:Pos} {i j:List Sl→Tr PyData}
end
theorem len_succ {α:Type} {n:Nat}:∀ {us:List α},us.length=n+1→∃ (a:α) (t:List α),us=a::t∧t.length=n
  | a::t,h=>⟨a,t,rfl,Nat.succ.inj h⟩
theorem len_zero {α:Type} {us:List α} (h:us.length=0):us=[]:=List.eq_nil_of_length_eq_zero h
theorem len1 {α:Type} {us:List α} (h:us.length=1):∃ a,us=[a]:=by
  obtain ⟨a,t,rfl,h2⟩:=len_succ h
  exact ⟨a,by rw [len_zero h2]⟩
theorem len2 {α:Type} {us:List α} (h:us.length=2):∃ a0 a1,us=[a0,a1]:=by
  obtain ⟨a0,t,rfl,h2⟩:=len_succ h
  obtain ⟨a1,rfl⟩:=len1 h2
  exact ⟨a0,a1,rfl⟩
theorem len3 {α:Type} {us:List α} (h:us.length=3):∃ a0 a1 a2,us=[a0,a1,a2]:=by
  obtain ⟨a0,t,rfl,h2⟩:=len_succ h
  obtain ⟨a1,a2,rfl⟩:=len2 h2
  exact ⟨a0,a1,a2,rfl⟩
end L2
set_option Elab.async false
set_option linter.all false
set_option maxRecDepth 100000
namespace L2
open PySem PySem.Spec PyProof.Rows
section
variable {PK:Pk} {X:Cx} {pos:Pos} {n:Nat} {is:List Sl→Tr (List PyData)} {s t:List Sl→Tr Ou}
end
end L2
set_option Elab.async false
set_option linter.all false
set_option maxRecDepth 100000
namespace L2
open PySem PySem.Spec PyProof.Rows
section
variable {PK:Pk} {X:Cx} {a b c d e:Expr} {pos:Pos} {i j l n:List Sl→Tr PyData}
end
end L2
set_option Elab.async false
set_option linter.all false
set_option maxRecDepth 100000
set_option exponentiation.threshold 9000
namespace Tw
open PySem L2
noncomputable def nb (k:Nat) (n:Int):Prop:=n.natAbs < 2 ^ k
theorem nb_mono {k l:Nat} {n:Int} (h:nb k n) (hk:k≤l):nb l n:=Nat.lt_of_lt_of_le h (Nat.pow_le_pow_right (by decide) hk)
theorem nb_of {k:Nat} {n:Int} (h1:-(2 ^ k:Nat) < n) (h2:n < (2 ^ k:Nat)):nb k n:=by
  unfold nb
  omega
theorem nb_le {k:Nat} {n b:Int} (h:-b≤n∧n≤b) (hb:b < (2 ^ k:Nat)):nb k n:=nb_of (by omega) (by omega)
noncomputable def ws (f:Int→Int):Nat→List Int→Int
  | _,[]=>0
  | k,w::l=>w * f k+ws f (k+1) l
section
variable (s:Shp)
end
noncomputable def tI (l:List Int):PyData:=.tuple (l.map PyData.int)
end Tw
set_option Elab.async false
set_option linter.all false
set_option maxRecDepth 100000
namespace L2
open PySem PySem.Spec PyProof.Rows
variable {ρ:List Sl} {s t:List Sl→Tr Ou} {i j l:List Sl→Tr PyData} {is:List Sl→Tr (List PyData)} {k n:Nat} {x y d:PyData} {xs ys:List PyData} {sl:Sl}
theorem rb2 {α β:Type} {a:α} {f:α→Tr β}:(Tr.ret a).bind f=f a:=Eq.trans (Tr.ret_bind a f) (Eq.refl _)
theorem max1_of (ns:List Int) (h:ns≠[]):cb1 max1D [.list (ns.map PyData.int)]=.ret (.int (maxL ns)):=by
  unfold cb1 max1D onL
  simp [h]
end L2
set_option Elab.async false
set_option linter.all false
set_option maxRecDepth 100000
namespace Tw
open PySem L2
end Tw
set_option Elab.async false
set_option linter.all false
set_option maxRecDepth 100000
namespace Tw
open PySem L2
noncomputable abbrev rng (lo hi:Int):List Int:=rangeI lo (hi - lo).toNat
variable {α:Type}
noncomputable def f3 (lo a b c:Int) (t:Int→Int→Int→Option α):Option α:=(rng lo a).findSome? fun u=>(rng (u+1) b).findSome? fun v=>(rng (v+1) c).findSome? fun w=>t u v w
end Tw
set_option Elab.async false
set_option linter.all false
set_option maxRecDepth 100000
namespace Tw
open PySem L2
end Tw
set_option Elab.async false
set_option linter.all false
set_option maxRecDepth 100000
set_option exponentiation.threshold 9000
namespace Tw
open PySem L2
structure Rp (d:PyData) (k n:Nat):Prop where
  hd:d.hasDict=false
  sh:d.showable=true
  dp:d.depth≤k
  ln:d.shown.length≤n
theorem rp_int {i:Int} (h:nb 1900 i):Rp (.int i) 0 1901:=by
  have h1:=showableAll_ints [i] fun n hn=>by simp at hn; subst hn; exact h
  have h2:=(shownAll_ints [i] fun n hn=>by simp at hn; subst hn; exact h).1
  refine ⟨rfl,?_,Nat.zero_le _,?_⟩
  · simp only [List.map_cons,List.map_nil,PyData.showableAll,Bool.and_true] at h1
    exact h1
  · simp only [List.map_cons,List.map_nil,PyData.shownAll,List.sum_cons,List.sum_nil,List.length_cons,List.length_nil] at h2
    omega
theorem str_self (x:Str):(x == x)=true:=by simp
end Tw
set_option Elab.async false
set_option linter.all false
set_option maxRecDepth 100000
set_option exponentiation.threshold 9000
namespace Tw
open PySem L2
end Tw
set_option Elab.async false
set_option linter.all false
set_option maxRecDepth 100000
namespace L2
open PySem PySem.Spec PyProof.Rows
mutual
noncomputable def hasL:PyData→Bool
  | .none=>false
  | .bool _=>false
  | .int _=>false
  | .str _=>false
  | .list _=>true
  | .tuple xs=>hasLAll xs
  | .dict kvs=>hasLKv kvs
noncomputable def hasLAll:List PyData→Bool
  | []=>false
  | x::xs=>hasL x || hasLAll xs
noncomputable def hasLKv:List (PyData×PyData)→Bool
  | []=>false
  | (_,v)::r=>hasL v || hasLKv r
end
noncomputable def keyD:Key→PyData
  | .inl i=>.int i
  | .inr x=>.str x
theorem hasLKv_zip:∀ {ks ds:List PyData},ks.length=ds.length→hasLKv (ks.zip ds)=hasLAll ds
  | [],[],_=>by simp only [List.zip_nil_left,hasLKv,hasLAll]
  | k::ks,d::ds,h=>by
    rw [List.zip_cons_cons,hasLKv,hasLAll,hasLKv_zip (Nat.succ.inj h)]
  | [],_::_,h=>by cases h
  | _::_,[],h=>by cases h
theorem keys_read {P:Program} {w:World} {h:Heap}:∀ {es:List DictEntry} {vs:List (Key×Value)},Pairs (mixKind P w) es vs→ReadsAll h (es.map (·.key)) (vs.map fun q=>keyD q.1) []:=by
  intro es vs hp
  induction hp with
  | nil=>exact .nil
  | @cons e kv es kvs h1 h2 _ ih =>
    have h1':keyIs kv.1 e.key=true:=h1
    rcases keyIs_shape h1' with ⟨i,t,e1,e2⟩ | ⟨x,t,e1,e2⟩
    · rw [List.map_cons,List.map_cons,e1,e2]
      exact ReadsAll.cons (as:=[]) (bs:=[]) (.int i t) ih
    · rw [List.map_cons,List.map_cons,e1,e2]
      exact ReadsAll.cons (as:=[]) (bs:=[]) (.str x t) ih
theorem pairs_vals {P:Program} {w:World} {es:List DictEntry} {vs:List (Key×Value)} (hp:Pairs (mixKind P w) es vs):es.map (·.val)=vs.map (·.2):=by
  induction hp with
  | nil=>rfl
  | @cons e kv es kvs h1 h2 _ ih=>rw [List.map_cons,List.map_cons,h2,ih]
theorem kv_vals:∀ {ks:List (Key×V)} {vs:List (Key×Value)},KV ks vs→Vals (ks.map (·.2)) (vs.map (·.2))∧(ks.map (·.1))=vs.map (·.1):=by
  intro ks vs kv
  unfold KV at kv
  induction kv with
  | nil=>exact ⟨.nil,rfl⟩
  | cons h _ ih=>exact ⟨.cons h.2 ih.1,by rw [List.map_cons,List.map_cons,h.1,ih.2]⟩
theorem zip_fst:∀ {ks ds:List PyData},ks.length=ds.length→(ks.zip ds).map (·.1)=ks∧(ks.zip ds).map (·.2)=ds
  | [],[],_=>⟨rfl,rfl⟩
  | k::ks,d::ds,h=>by
    obtain ⟨h1,h2⟩:=zip_fst (Nat.succ.inj h)
    rw [List.zip_cons_cons,List.map_cons,List.map_cons,h1,h2]
    exact ⟨rfl,rfl⟩
  | [],_::_,h=>by cases h
  | _::_,[],h=>by cases h
mutual
/-- data without lists -/
theorem Dn.readsD {P:Program} {w:World} {H:Hp} {h:Heap} (ok:HOk P w H h):∀ {v:V} {d:PyData} {u:Value},Dn H v d→hasL d=false→RelV v u→∃ as,Reads h u d as∧∀ b∈as,b≠sysModules
  | _,_,_,.non,_,r=>by cases r; exact ⟨_,.none,fun b hb=>nomatch hb⟩
  | _,_,_,.bl b,_,r=>by cases r; exact ⟨_,.bool b,fun b hb=>nomatch hb⟩
  | _,_,_,.int i,_,r=>by obtain ⟨t,rfl⟩:=r; exact ⟨_,.int i t,fun b hb=>nomatch hb⟩
  | _,_,_,.str x,_,r=>by obtain ⟨t,rfl⟩:=r; exact ⟨_,.str x t,fun b hb=>nomatch hb⟩
  | _,_,_,.tup e rs,hd,r=>by
    cases r
    obtain ⟨z,its,rv,o,h1,h2,n,h3⟩:=ok _ _ e
    obtain ⟨as,q,hq⟩:=DnAll.readsD ok rs (by rw [hasL] at hd; exact hd) rv
    exact ⟨_,.tuple h1 h2 h3 (by simpa using q),hq⟩
  | _,_,_,.lst e rs,hd,r=>by rw [hasL] at hd; cases hd
  | _,_,_,.dct (ks:=ks) (ds:=ds) e rs,hd,r=>by
    cases r
    obtain ⟨z,hsys,vs,kv,o,es,ep,h1,⟨h2,_⟩,h3,_,hp,_⟩:=ok _ _ e
    obtain ⟨k1,k2⟩:=kv_vals kv
    have hl:(ks.map fun k=>keyD k.1).length=ds.length:=by
      have:=rs.length
      rw [List.length_map] at this ⊢
      exact this
    have hd2:hasLKv ((ks.map fun k=>keyD k.1).zip ds)=false:=by rw [hasL] at hd; exact hd
    rw [hasLKv_zip hl] at hd2
    obtain ⟨as,q,hq⟩:=DnAll.readsD ok rs hd2 k1
    obtain ⟨z1,z2⟩:=zip_fst hl
    have k3:(ks.map fun k=>keyD k.1)=vs.map fun q=>keyD q.1:=by
      have:=congrArg (List.map keyD) k2
      rw [List.map_map,List.map_map] at this
      exact this
    show ∃ as,Reads h _ (.dict ((ks.map fun k=>keyD k.1).zip ds)) as∧_
    refine ⟨_,.dict (as:=[]) (bs:=as) h1 h2 h3 ?_ ?_,fun b hb=>?_⟩
    · rw [z1,k3]
      exact keys_read hp
    · rw [z2,pairs_vals hp]
      exact q
    · rcases List.mem_append.mp hb with hb | hb
      · rw [List.mem_singleton] at hb
        rw [hb]
        exact beq_eq_false_iff_ne.mp hsys
      · exact hq b hb
theorem DnAll.readsD {P:Program} {w:World} {H:Hp} {h:Heap} (ok:HOk P w H h):∀ {vs:List V} {ds:List PyData} {us:List Value},DnAll H vs ds→hasLAll ds=false→Vals vs us→∃ as,ReadsAll h us ds as∧∀ b∈as,b≠sysModules
  | _,_,_,.nil,_,r=>by cases r; exact ⟨_,.nil,fun b hb=>nomatch hb⟩
  | _,_,_,.cons p t,hd,r=>by
    cases r with
    | cons r1 r2 =>
      rw [hasLAll,Bool.or_eq_false_iff] at hd
      obtain ⟨as,q,hq⟩:=Dn.readsD ok p hd.1 r1
      obtain ⟨bs,q2,hq2⟩:=DnAll.readsD ok t hd.2 r2
      refine ⟨_,.cons q q2,fun b hb=>?_⟩
      rcases List.mem_append.mp hb with hb | hb
      · exact hq b hb
      · exact hq2 b hb
end
noncomputable def rReprX (xs:List V) (H:Hp) (Q:VK):Prop:=∃ v d,xs=[v]∧Dn H v d∧(d.hasDict=false∨hasL d=false)∧d.showable=true∧d.depth≤32∧d.shown.length≤sizeLine∧Q (.str d.shown) H
theorem call_reprX {X:Cx} {k:Nat} (hr:Room k X.A):CallR X (.builtin "repr") rReprX:=by
  intro pins s σ H xs us Q I r h
  obtain ⟨v,d,rfl,hd,hor,hs,hdp,hz,q⟩:=h
  obtain ⟨u,rfl,ru⟩:=vals1 r
  have hun:=hr.units
  have key:∀ (as:List Addr),Reads s.heap u d as→(d.hasDict=true→sysModules ∉ as)→wpAny (model X.prog X.w) X.A (call (.builtin "repr") [u]) (EP X pins σ Q) X.xe s:=by
    intro as rd hsm
    have viaRef:∀ {a:Addr},u=.ref a→wpAny (model X.prog X.w) X.A (call (.builtin "repr") [u]) (EP X pins σ Q) X.xe s:=fun {a} e=>by
      subst e
      exact repr_of_reads' rd hs hsm hr.gd (by omega) (fun _ _ e=>e) (fun h' u' tk hk=>⟨.str d.shown,H,I.kept hk,⟨_,rfl⟩,q⟩) hz
    cases rd with
    | none=>exact PySem.P.repr_of_none ⟨.str "None",H,I.tok _,⟨_,rfl⟩,q⟩
    | bool b=>exact PySem.P.repr_of_bool ⟨.str (if b then "True" else "False"),H,I.tok _,⟨_,rfl⟩,q⟩
    | int i t=>exact PySem.P.repr_of_int (by simpa [PyData.showable] using hs) ⟨.str (toString i),H,I.tok _,⟨_,rfl⟩,q⟩
    | str x t=>exact PySem.P.repr_of_str ⟨.str (reprText x),H,I.tok _,⟨_,rfl⟩,q⟩ hz
    | list h1 h2 h3 h4=>exact viaRef rfl
    | tuple h1 h2 h3 h4=>exact viaRef rfl
    | dict h1 h2 h3 h4 h5=>exact viaRef rfl
  rcases hor with hn | hn
  · obtain ⟨as,rd⟩:=Dn.reads I.hok hd hn ru
    exact key as rd (PyData.noDict_hsm hn)
  · obtain ⟨as,rd,hsys⟩:=Dn.readsD I.hok hd hn ru
    exact key as rd fun _ hm=>hsys _ hm rfl
noncomputable def reprOkX (d:PyData):Bool:=(!d.hasDict || !hasL d) && d.showable && decide (d.depth≤32) && decide (d.shown.length≤sizeLine)
noncomputable def reprX:List PyData→Option PyData
  | [d]=>if reprOkX d=true then some (.str d.shown) else none
  | _=>none
theorem vc_reprX:VCl rReprX reprX:=fun PK pa m G H vs ds d Q w hv hd k=>by
  unfold reprX at hd
  split at hd
  · split at hd
    · rename_i hc
      unfold reprOkX at hc
      simp only [Bool.and_eq_true,Bool.or_eq_true,decide_eq_true_eq,Bool.not_eq_true'] at hc
      cases hd
      cases hv with
      | cons h1 h2=>cases h2; exact ⟨_,_,rfl,h1.mono w.sub,hc.1.1.1,hc.1.1.2,hc.1.2,hc.2,k.here w (.str _)⟩
    · cases hd
  · cases hd
section
variable {PK:Pk} {X:Cx} {pos:Pos} {i j:List Sl→Tr PyData}
theorem Kn.dct {pa:Addr} {m:Nat} {G H:Hp} {ks:List (Key×V)} {ds:List PyData} {Q:VK} {p:Addr} (k:Kn PK pa m G H (.dict ((ks.map fun k=>match k.1 with | .inl i=>PyData.int i | .inr x=>PyData.str x).zip ds)) Q) (w:Wd PK pa m G H) (d:DnAll G (ks.map (·.2)) ds) (hp:H p=none):Q (.ref p) (upd H p (.dK ks)):=by
  obtain ⟨w1,s1⟩:=w.new (o:=.dK ks) hp
  exact k _ _ _ s1 w1 (.dct upd_same (DnAll.mono s1.gs d))
theorem ae_dict0:PE X (.Dict [] [] pos) (TAe PK (aC (.dict []))):=pe_dnewK.imp fun σ H Q hz0=>by
  obtain ⟨pa,G₀,H₀,m,ρ,G,R,q⟩:=hz0
  exact fun p hp=>Kn.dct (ks:=[]) (ds:=[]) q R.wd .nil hp
noncomputable def dct1:PyData→PyData→Option PyData
  | .int k,v=>some (.dict [(.int k,v)])
  | _,_=>none
end
noncomputable def strD:List PyData→Option PyData
  | [.int i]=>if i.natAbs.log2 < 1920 then some (.str (toString i)) else none
  | _=>none
theorem vc_str:VCl (fun xs H Q=>∃ i,xs=[.int i]∧i.natAbs.log2 < 1920∧Q (.str (toString i)) H) strD:=fun PK pa m G H vs ds d Q w hv hd k=>by
  unfold strD at hd
  split at hd
  · split at hd
    · rename_i hc
      cases hd
      cases hv with
      | cons h1 h2=>cases h2; cases h1; exact ⟨_,rfl,hc,k.here w (.str _)⟩
    · cases hd
  · cases hd
theorem ev_reprX {d:PyData} (h:reprOkX d=true):cb1 reprX [d]=.ret (.str d.shown):=by
  show Tr.of (if reprOkX d=true then some (PyData.str d.shown) else none)=_
  rw [if_pos h]
  rfl
theorem ev_strI {i:Int} (h:i.natAbs.log2 < 1920):cb1 strD [.int i]=.ret (.str (toString i)):=by
  show Tr.of (if i.natAbs.log2 < 1920 then some (PyData.str (toString i)) else none)=_
  rw [if_pos h]
  rfl
end L2
set_option Elab.async false
set_option linter.all false
set_option maxRecDepth 100000
namespace L2
open PySem PySem.Spec PyProof.Rows
end L2
set_option Elab.async false
set_option linter.all false
set_option maxRecDepth 100000
namespace PySem
open Sem (wp)
section
variable {prog:Program} {w:World} {A:Around} {E:Value→Shared→Prop} {s:Shared} {a:Addr} {o:Obj} {xs:Array Value} {k:Nat}
end
end PySem
set_option Elab.async false
set_option linter.all false
set_option maxRecDepth 100000
namespace PySem
open Sem (wp)
section
variable {prog:Program} {w:World} {A:Around} {E:Value→Shared→Prop} {s:Shared}
end
end PySem
set_option Elab.async false
set_option linter.all false
set_option maxRecDepth 100000
namespace PySem
open Sem (wp)
section
variable {prog:Program} {w:World} {A:Around} {E:Value→Shared→Prop} {s:Shared}
end
section
variable {K:Type} [DecidableEq K]
end
end PySem
namespace L2
open PySem PySem.Spec PyProof.Rows
section
variable {prog:Program} {w:World} {A:Around} {R:Result→Shared→Prop} {K:Type} [DecidableEq K] {knd:KeyKind prog w K} {kf:Nat→K}
end
end L2
set_option Elab.async false
set_option linter.all false
set_option maxRecDepth 100000
namespace L2
open PySem PySem.Spec PyProof.Rows
section
variable {prog:Program} {w:World} {A:Around} {E:Value→Shared→Prop} {s:Shared} {K:Type} [DecidableEq K] {knd:KeyKind prog w K} {kf:Nat→K}
end
end L2
set_option Elab.async false
set_option linter.all false
set_option maxRecDepth 100000
namespace L2
open PySem PySem.Spec PyProof.Rows
section
variable {PK:Pk} {X:Cx} {a:Expr} {p p2 pos pos2:Pos} {i:List Sl→Tr PyData}
end
end L2
set_option Elab.async false
set_option linter.all false
set_option maxRecDepth 100000
namespace L2
open PySem PySem.Spec PyProof.Rows
noncomputable def plE:Expr→Bool
  | .Starred ..=>false
  | _=>true
theorem star_pl {e:Expr} {es:List Expr} {env:Env} (h:plE e=true):starEach (e::es) env=(false,eval e env)::starEach es env:=by
  cases e <;> first | rfl | cases h
section
variable {X:Cx} {PK:Pk} {e:Expr} {es:List Expr} {i:List Sl→Tr PyData} {is:List Sl→Tr (List PyData)}
theorem ad_cK (ha:PE X e (TAe PK i)) (hr:PA X es (TAd PK is)) (hs:plE e=true:=by rfl):PA X (e::es) (TAd PK (aCons i is)):=ad_cons ha hr (star_pl hs)
end
end L2
set_option Elab.async false
set_option linter.all false
set_option maxRecDepth 100000
namespace L2
open PySem PySem.Spec PyProof.Rows
variable {PK:Pk} {X:Cx} {e:Expr}
structure Rws (H G H':Hp) (ps:List Addr) (rows:List (List PyData)):Prop where
  len:ps.length=rows.length
  row:∀ (i:Nat) (q:Addr) (r:List PyData),ps[i]?=some q→rows[i]?=some r→H q=none∧G q=none∧∃ vs,H' q=some (.lst vs)∧DnAll G vs r
theorem Rws.mem {H G H':Hp} {ps:List Addr} {rows:List (List PyData)} (h:Rws H G H' ps rows) {q:Addr} (hq:q∈ps):H q=none∧G q=none∧∃ vs,H' q=some (.lst vs):=by
  obtain ⟨i,hi,e⟩:=List.mem_iff_getElem.mp hq
  have h2:i < rows.length:=by rw [← h.len]; exact hi
  obtain ⟨a,b,vs,c,_⟩:=h.row i q rows[i] (by rw [List.getElem?_eq_getElem hi,e]) (List.getElem?_eq_getElem h2)
  exact ⟨a,b,vs,c⟩
theorem Rws.step {pa:Addr} {H G H1 G2 H2:Hp} {ps:List Addr} {rows:List (List PyData)} (h:Rws H G H1 ps rows) (st:Stp pa G H1 G2 H2) (hp:∃ o,H pa=some o):Rws H G2 H2 ps rows:=by
  refine ⟨h.len,fun i q r h1 h2=>?_⟩
  obtain ⟨a,b,vs,c,d⟩:=h.row i q r h1 h2
  have hne:q≠pa:=fun e=>by
    obtain ⟨o,z⟩:=hp
    rw [← e,a] at z; cases z
  refine ⟨a,?_,vs,st.hk _ _ c hne,DnAll.mono st.gs d⟩
  cases e:G2 q with
  | none=>rfl
  | some u =>
    rcases st.gn q u e with z | z
    · rw [b] at z; cases z
    · rw [c] at z; cases z
theorem Stp.old {pa:Addr} {G H G' H':Hp} (st:Stp pa G H G' H') (hp:∃ o,H' pa=some o) {p:Addr} (h:H' p=none):H p=none:=by
  cases e:H p with
  | none=>rfl
  | some u =>
    by_cases hc:p=pa
    · subst hc
      obtain ⟨o,z⟩:=hp
      rw [h] at z; cases z
    · rw [st.hk p u e hc] at h; cases h
noncomputable def Ko2 (PK:Pk) (pa:Addr) (m:Nat) (G H:Hp) (rows:List (List PyData)) (Q:VK):Prop:=∀ p ps G' H',Stp pa G H G' H'→Wd PK pa m G' H'→H p=none→G' p=none→H' p=some (.lst (ps.map V.ref))→ps.Nodup→p ∉ ps→Rws H G' H' ps rows→Q (.ref p) H'
noncomputable def TAo2 (PK:Pk) (i:List Sl→Tr (List (List PyData))):TE:=fun σ H Q=>∃ pa G₀ H₀ m ρ G,Rl PK pa G₀ H₀ m σ ρ G H∧(i ρ).ok m fun m' xs=>Ko2 PK pa m' G H xs Q
noncomputable def mapR (h:PyData→Tr (List PyData)):List PyData→Tr (List (List PyData))
  | []=>.ret []
  | x::xs=>(h x).bind fun y=>(mapR h xs).bind fun ys=>.ret (y::ys)
noncomputable def aLc2 (is:List Sl→Tr (List PyData)) (n:Nat) (ix:List Nat) (g:PyData→List Sl→Option (List Sl)) (el:List Sl→Tr (List PyData)):List Sl→Tr (List (List PyData)):=fun ρ =>
  (is ρ).bind fun xs=>if small xs.length=true then mapR (fun x=>(Tr.of (g x (blk n ix ρ))).bind el) xs else .fail
variable {is:List Sl→Tr (List PyData)} {i:List Sl→Tr (List PyData)}
theorem lc_read2 {n:Nat} {ix:List Nat} {g:PyData→List Sl→Option (List Sl)} (hn:PresN n g):∀ σ H Q,TAo2 PK (aLc2 is n ix g i) σ H Q→tLc (TAi PK is) n ix (fun _=>TAg PK g) (fun _=>TAo PK i) σ H Q:=by
  rintro σ H Q ⟨pa,G₀,H₀,m,ρ,G,R,z⟩
  refine ⟨pa,G₀,H₀,m,ρ,G,R,Tr.ok_mono (Tr.ok_bind.mp z) fun m1 xs k J G1 H1 s1 w1 jo=>fun B=>?_⟩
  obtain ⟨hs,k⟩:=ok_if k
  have hs:xs.length≤sizeLine:=of_decide_eq_true hs
  let el:PyData→Tr (List PyData):=fun x=>(Tr.of (g x (blk n ix ρ))).bind i
  let W:Nat→Nat→St→List V→Hp→Prop:=fun k mm τ ys H2=>mm=xs.length - k∧k≤xs.length∧ys.length=k∧∃ m G2 ps rows,Sub G1 G2∧Stp pa G H G2 H2∧Rl PK pa G₀ H₀ m τ (blk n ix ρ) G2 H2 ∧
    ys=ps.map V.ref∧ps.Nodup∧Rws H G2 H2 ps rows∧(mapR el (xs.drop k)).ok m fun m' zs=>Ko2 PK pa m' G H (rows++zs) Q
  refine ⟨W,⟨xs.length,rfl,Nat.zero_le _,rfl,m1,G1,[],[],.refl,s1,(R.step s1 w1).blk n ix,rfl,List.nodup_nil,⟨rfl,fun i q r h=>by cases h⟩,k⟩,?_⟩
  rintro k mm τ ys H2 ⟨rfl,hk,hy,m2,G2,ps,rows,sb,st2,R2,rfl,nd,rw0,k2⟩
  obtain ⟨j1,j2⟩:=jo m2 G2 H2 sb R2.wd
  by_cases hlt:k < xs.length
  · have hx:xs[k]?=some xs[k]:=by simp [hlt]
    obtain ⟨jg,jy⟩:=j1 k _ hx
    refine .inr ⟨jg,by omega,fun x H3 y=>?_⟩
    obtain ⟨G3,s3,w3,d3⟩:=jy x H3 y
    rw [List.drop_eq_getElem_cons hlt] at k2
    unfold mapR at k2
    rw [Tr.ok_bind,Tr.ok_bind] at k2
    obtain ⟨ρ3,hg3,k3⟩:=Tr.ok_of k2
    refine ⟨pa,G₀,H₀,m2,_,G3,_,ρ3,R2.step s3 w3,d3,hg3,fun τ4 R4=>?_⟩
    refine ⟨pa,G₀,H₀,m2,ρ3,G3,R4,Tr.ok_mono k3 fun m5 yd k5=>?_⟩
    intro p vs G5 H5 s5 w5 hp gp hv d5
    have s35:=s3.trans s5 w3.some
    have r3:=rw0.step s3 R.wd.some
    have hH:H p=none:=(st2.trans s3 R2.wd.some).old w3.some hp
    have hnp:p ∉ ps:=fun hq=>by
      obtain ⟨_,_,us,c⟩:=r3.mem hq
      rw [hp] at c; cases c
    obtain ⟨pl,pk⟩:=hn _ _ _ hg3
    have r5:=r3.step s5 R.wd.some
    refine ⟨xs.length - (k+1),by omega,rfl,hlt,by rw [List.length_append,hy]; rfl,m5,G5,ps++[p],rows++[yd],sb.trans s35.gs,st2.trans s35 R2.wd.some,?_,by rw [List.map_append]; rfl,?_,⟨by rw [List.length_append,List.length_append,r5.len]; rfl,fun i q r h1 h2=>?_⟩,?_⟩
    · refine (R4.step s5 w5).weak pl fun q sl hq=>?_
      by_cases hqn:q < n
      · left
        unfold blk at hq
        rw [List.getElem?_append_left (by simpa using hqn),List.getElem?_replicate,if_pos hqn] at hq
        cases hq
        rfl
      · right
        rw [pk q (Nat.le_of_not_lt hqn)]
        exact hq
    · rw [List.nodup_append]
      exact ⟨nd,by simp,fun a ha b hb e=>by
        rw [List.mem_singleton] at hb
        subst hb
        subst e
        exact hnp ha⟩
    · by_cases hi:i < ps.length
      · rw [List.getElem?_append_left hi] at h1
        rw [List.getElem?_append_left (by rw [← r5.len]; exact hi)] at h2
        exact r5.row i q r h1 h2
      · have hi':i=ps.length:=by
          have:=(List.getElem?_eq_some_iff.mp h1).1
          rw [List.length_append] at this
          have:i < ps.length+1:=this
          omega
        subst hi'
        rw [List.getElem?_append_right (Nat.le_refl _),Nat.sub_self] at h1
        rw [r5.len,List.getElem?_append_right (Nat.le_refl _),Nat.sub_self] at h2
        cases h1
        cases h2
        exact ⟨hH,gp,vs,hv,d5⟩
    · refine Tr.ok_mono (Tr.ok_bind.mp k5) fun m6 zs k6=>?_
      rw [List.append_assoc]
      exact k6
  · have e:k=xs.length:=by omega
    subst e
    refine .inl ⟨j2,fun p v H' hp ev eH=>?_⟩
    subst ev eH
    rw [List.drop_length] at k2
    have k2':Ko2 PK pa m2 G H (rows++[]) Q:=k2
    rw [List.append_nil] at k2'
    obtain ⟨w3,s3⟩:=R2.wd.own (o:=.lst (ps.map V.ref)) hp
    refine k2' p ps G2 _ (st2.trans s3 R2.wd.some) w3 (st2.old R2.wd.some hp) (R2.wd.gnone hp) upd_same nd (fun hq=>?_) (rw0.step s3 R.wd.some)
    obtain ⟨_,_,us,c⟩:=rw0.mem hq
    rw [hp] at c; cases c
end L2
set_option Elab.async false
set_option linter.all false
set_option maxRecDepth 100000
namespace L2
open PySem PySem.Spec PyProof.Rows
variable {PK:Pk} {X:Cx} {e:Expr}
theorem nod_inj {α:Type}:∀ {l:List α} {i j:Nat},l.Nodup→(hi:i < l.length)→(hj:j < l.length)→l[i]=l[j]→i=j
  | _::_,0,0,_,_,_,_=>rfl
  | x::l,0,j+1,h,_,hj,e=>by
    have e:x=l[j]'(Nat.lt_of_succ_lt_succ hj):=e
    exact absurd (by rw [e]; exact List.getElem_mem _) (List.nodup_cons.mp h).1
  | x::l,i+1,0,h,hi,_,e=>by
    have e:l[i]'(Nat.lt_of_succ_lt_succ hi)=x:=e
    exact absurd (by rw [← e]; exact List.getElem_mem _) (List.nodup_cons.mp h).1
  | x::l,i+1,j+1,h,hi,hj,e=>congrArg (·+1) (nod_inj (List.nodup_cons.mp h).2 (Nat.lt_of_succ_lt_succ hi) (Nat.lt_of_succ_lt_succ hj) e)
theorem Rl.rows {pa:Addr} {G₀ H₀ G H G' H' H4:Hp} {m m1 m4:Nat} {σ:St} {ρ:List Sl} {p:Addr} {ps:List Addr} {rows0 rows:List (List PyData)} (R:Rl PK pa G₀ H₀ m σ ρ G H) (s1:Stp pa G H G' H') (w1:Wd PK pa m1 G' H')
    (hp:H p=none) (gp:G' p=none) (r0:Rws H G' H' ps rows0)
    (hk:∀ b o,H' b=some o→b≠pa→b ∉ ps→H4 b=some o) (h4:H4 p=some (.lst (ps.map V.ref)))
    (pen:∃ o,H4 pa=some o∧PK.is o G' m4) (len:ps.length=rows.length)
    (row:∀ (i:Nat) (q:Addr) (r:List PyData),ps[i]?=some q→rows[i]?=some r→∃ vs,H4 q=some (.lst vs)∧DnAll G' vs r) (k:Nat) :
    ∃ Gz,Sub G' Gz∧Rl PK pa G₀ H₀ m4 (σ.set k (some (.ref p))) (ρ.set k (.d (.list (rows.map PyData.list)))) Gz H4:=by
  classical
  let Gz:Hp:=fun b=>if b=p∨b∈ps then H4 b else G' b
  have yes:∀ {b},(b=p∨b∈ps)→Gz b=H4 b:=fun h=>if_pos h
  have no:∀ {b},¬ (b=p∨b∈ps)→Gz b=G' b:=fun h=>if_neg h
  have fresh:∀ {b},(b=p∨b∈ps)→H b=none∧G' b=none:=fun {b} h=>by
    rcases h with rfl | h
    · exact ⟨hp,gp⟩
    · exact ⟨(r0.mem h).1,(r0.mem h).2.1⟩
  have hpa:¬ (pa=p∨pa∈ps):=fun h=>by
    obtain ⟨o,z⟩:=R.wd.some
    rw [(fresh h).1] at z; cases z
  have sb:Sub G' Gz:=fun b o h=>by
    rw [no fun z=>by rw [(fresh z).2] at h; cases h]
    exact h
  have keep:∀ b o,H' b=some o→b≠pa→¬ (b=p∨b∈ps)→H4 b=some o:=fun b o h1 h2 h3=>hk b o h1 h2 fun z=>h3 (.inr z)
  have wz:Wd PK pa m4 Gz H4:=by
    refine ⟨fun b o h=>?_,by rw [no hpa]; exact w1.gpa,?_⟩
    · by_cases hb:b=p∨b∈ps
      · rw [yes hb] at h; exact h
      · rw [no hb] at h
        exact keep b o (w1.sub b o h) (fun z=>by subst z; rw [w1.gpa] at h; cases h) hb
    · obtain ⟨o,h1,h2⟩:=pen
      exact ⟨o,h1,PK.mono sb h2⟩
  have st:=R.st.trans s1 R.wd.some
  have stz:Stp pa G₀ H₀ Gz H4:=by
    refine ⟨fun b o h=>sb b o (st.gs b o h),fun b o h=>?_,fun b o h hb=>?_⟩
    · by_cases hq:b=p∨b∈ps
      · exact .inr (R.h0 (fresh hq).1)
      · rw [no hq] at h; exact st.gn b o h
    · refine keep b o (st.hk b o h hb) hb fun z=>?_
      rw [R.h0 (fresh z).1] at h; cases h
  have Rz:Rl PK pa G₀ H₀ m4 σ ρ Gz H4:=by
    refine ⟨wz,stz,R.p0,fun i s h=>?_,R.len,R.dj⟩
    obtain ⟨o,h1,h2⟩:=R.sl i s h
    refine ⟨o,h1,?_⟩
    cases h2 with
    | un=>exact .un
    | d z=>exact .d (z.mono fun b o h=>sb b o (s1.gs b o h))
    | pen=>exact .pen
    | @own q vs xs a1 a2 a3 a4 =>
      have hq:¬ (q=p∨q∈ps):=fun z=>by rw [(fresh z).1] at a1; cases a1
      have hne:q≠pa:=fun e=>by
        obtain ⟨u,hu⟩:=R.p0
        rw [← e,a3] at hu; cases hu
      refine .own (keep q _ (s1.hk q _ a1 hne) hne hq) ?_ a3 (DnAll.mono (fun b o h=>sb b o (s1.gs b o h)) a4)
      rw [no hq]
      cases e:G' q with
      | none=>rfl
      | some u =>
        rcases s1.gn q u e with z | z
        · rw [a2] at z; cases z
        · rw [a1] at z; cases z
  refine ⟨Gz,sb,Rz.set (.lst (by rw [yes (.inl rfl)]; exact h4) ?_) k⟩
  clear Rz stz st wz
  have yes':∀ {b},b∈ps→Gz b=H4 b:=fun h=>yes (.inr h)
  clear_value Gz
  clear hk h4 no fresh keep r0
  induction ps generalizing rows with
  | nil =>
    cases rows with
    | nil=>exact .nil
    | cons _ _=>cases len
  | cons q qs ih =>
    cases rows with
    | nil=>cases len
    | cons r rs =>
      obtain ⟨vs,e1,e2⟩:=row 0 q r rfl rfl
      refine .cons (.lst (by rw [yes' (List.mem_cons_self ..)]; exact e1) (DnAll.mono sb e2)) ?_
      exact ih (Nat.succ.inj len) (fun i q r h1 h2=>row (i+1) q r h1 h2) (fun h=>yes (h.imp id (List.mem_cons_of_mem _))) (fun h=>hpa (h.imp id (List.mem_cons_of_mem _))) (fun h=>yes' (List.mem_cons_of_mem _ h))
noncomputable def put2 (rows:List (List PyData)) (a b x:PyData):Option (List (List PyData)):=match a,b with
  | .int a,.int b=>(ixN rows.length a).bind fun n=>(rows[n]?).bind fun r=>(ixN r.length b).bind fun l=>if flatD x=true then some (rows.set n (r.set l x)) else none
  | _,_=>none
noncomputable def rLs (rows:List (List PyData)):Sl:=.d (.list (rows.map PyData.list))
noncomputable def aRows (k:Nat) (A:List Sl→Tr (List (List PyData))) (v i j:List Sl→Tr PyData) (t:List Sl→Tr Ou):List Sl→Tr Ou:=fun ρ=>(A ρ).bind fun rows =>
  if k < ρ.length then (v (ρ.set k (rLs rows))).bind fun x=>(i (ρ.set k (rLs rows))).bind fun a=>(j (ρ.set k (rLs rows))).bind fun b=>(Tr.of (put2 rows a b x)).bind fun rows'=>t (ρ.set k (rLs rows')) else .fail
variable {A:List Sl→Tr (List (List PyData))} {v i j:List Sl→Tr PyData} {t:List Sl→Tr Ou} {st3 st4:Stmt} {rest:List Stmt}
theorem ass_rows {k:Nat} (L:PkLow PK) (h3:PS X st3 (tAsg (TAo2 PK A) (gName k))) (h4:PS X st4 (tAsg (TAe PK v) (gSub (tOp (rIxL X.K) (tVar k) (TAe PK i)) (TAe PK j) rSetL)))
    (hr:PSs X rest (TAs PK t)):PSs X (st3::st4::rest) (TAs PK (aRows k A v i j t)):=(pss_cons h3 (pss_cons h4 hr)).imp fun D σ H hz0=>by
  obtain ⟨pa,G₀,H₀,m,ρ,G,R,z⟩:=hz0
  refine ⟨pa,G₀,H₀,m,ρ,G,R,Tr.ok_mono (Tr.ok_bind.mp z) fun m1 rows z1=>?_⟩
  intro p ps G1 H1 s1 w1 hp gp h1 nd npp r1
  have hl:k < ρ.length:=by
    by_cases hl:k < ρ.length
    · exact hl
    · rw [if_neg hl] at z1; exact z1.elim
  rw [if_pos hl] at z1
  have rowsH:∀ (i:Nat) (q:Addr) (r:List PyData),ps[i]?=some q→rows[i]?=some r→∃ vs,H1 q=some (.lst vs)∧DnAll G1 vs r:=fun i q r e1 e2=>(r1.row i q r e1 e2).2.2
  obtain ⟨Gf,sf,Rf⟩:=R.rows s1 w1 hp gp r1 (fun b o h _ _=>h) h1 w1.pen r1.len rowsH k
  have hnpa:p≠pa:=fun z=>by
    obtain ⟨o,y⟩:=R.wd.some
    rw [← z,hp] at y; cases y
  show TAe PK v (σ.set k (some (.ref p))) H1 _
  have hσ:(σ.set k (some (V.ref p)))[k]?=some (some (.ref p)):=List.getElem?_set_self (by rw [← R.len]; exact hl)
  refine TAe.then Rf z1 fun m2 x u G2 H2 s2 w2 R2 d2 z2=>?_
  refine ⟨.ref p,hσ,?_⟩
  refine TAe.then R2 z2 fun m3 a ua G3 H3 s3 w3 R3 d3 z3=>?_
  have s13:=s2.trans s3 w2.some
  have k3:∀ b o,H1 b=some o→b≠pa→H3 b=some o:=s13.hk
  -- what is put
  have z3':=Tr.ok_bind.mp z3
  have hmid:∃ aI n q,a=.int aI∧ixN rows.length aI=some n∧ps[n]?=some q:=by
    have:∃ (m':Nat) (b:PyData) (rows':_),put2 rows a b x=some rows':=by
      clear z z1 z2 z3
      generalize hT:j (ρ.set k (rLs rows))=T at z3'
      clear hT
      have key:∀ (T:Tr PyData) (mm:Nat) (Q:Nat→PyData→Prop),T.ok mm Q→∃ m' b,Q m' b:=by
        intro T
        induction T with
        | ret b=>intro mm Q h; exact ⟨_,_,h⟩
        | draw n kk ih=>intro mm Q h; exact ih 0 _ _ (h.2.2.2 0 (Int.le_refl _) h.2.1)
        | fail=>intro mm Q h; exact h.elim
      obtain ⟨m',b,hb⟩:=key T _ _ z3'
      rw [Tr.ok_bind] at hb
      obtain ⟨rows',hr,_⟩:=Tr.ok_of hb
      exact ⟨m',b,rows',hr⟩
    obtain ⟨_,b,rows',hr⟩:=this
    unfold put2 at hr
    split at hr
    · rename_i aI bI
      cases hn:ixN rows.length aI with
      | none=>rw [hn] at hr; cases hr
      | some n =>
        rw [hn] at hr
        have hlt:=(ixN_seq hn).2.1
        exact ⟨aI,n,ps[n]'(by rw [r1.len]; exact hlt),rfl,hn,List.getElem?_eq_getElem _⟩
    · cases hr
  obtain ⟨aI,n,q,rfl,hn,hq⟩:=hmid
  have hqm:q∈ps:=List.mem_of_getElem? hq
  have hqpa:q≠pa:=fun z=>by
    obtain ⟨o,y⟩:=R.wd.some
    rw [← z,(r1.mem hqm).1] at y; cases y
  cases d3
  refine ⟨p,ps.map V.ref,aI,.ref q,rfl,rfl,SqL.of (k3 _ _ h1 hnpa),?_,?_⟩
  · unfold atI
    rw [List.length_map,r1.len,hn]
    show (ps.map V.ref)[n]?=_
    rw [List.getElem?_map,hq]; rfl
  refine TAe.then R3 z3 fun m4 b ub G4 H4 s4 w4 R4 d4 z4=>?_
  have s14:=s13.trans s4 w3.some
  rw [Tr.ok_bind] at z4
  obtain ⟨rows',hput,z4⟩:=Tr.ok_of z4
  have hlt:=(ixN_seq hn).2.1
  obtain ⟨_,_,vs,hvs,dvs⟩:=r1.row n q rows[n] hq (List.getElem?_eq_getElem hlt)
  unfold put2 at hput
  cases d4 with
  | int bI =>
    have e0:((ixN rows.length aI).bind fun n=>(rows[n]?).bind fun r=>(ixN r.length bI).bind fun l=>if flatD x=true then some (rows.set n (r.set l x)) else none)=some rows':=hput
    rw [hn] at e0
    have e1:((rows[n]?).bind fun r=>(ixN r.length bI).bind fun l=>if flatD x=true then some (rows.set n (r.set l x)) else none)=some rows':=e0
    rw [List.getElem?_eq_getElem hlt] at e1
    have e2:((ixN rows[n].length bI).bind fun l=>if flatD x=true then some (rows.set n (rows[n].set l x)) else none)=some rows':=e1
    cases hb:ixN rows[n].length bI with
    | none=>rw [hb] at e2; cases e2
    | some l =>
      rw [hb] at e2
      have e3:(if flatD x=true then some (rows.set n (rows[n].set l x)) else none)=some rows':=e2
      have hf:flatD x=true:=by
        by_cases hf:flatD x=true
        · exact hf
        · rw [if_neg hf] at e3; cases e3
      rw [if_pos hf] at e3
      cases e3
      have hv4:H4 q=some (.lst vs):=s14.hk q _ hvs hqpa
      refine ⟨q,vs,bI,l,rfl,rfl,hv4,by rw [dvs.length]; exact hb,?_⟩
      obtain ⟨o1,e1',p1⟩:=w1.pen
      obtain ⟨o4,e4',p4⟩:=w4.pen
      obtain ⟨Gz,sz,Rz⟩:=R.rows (H4:=upd H4 q (.lst (vs.set l u))) (m4:=m4) (rows:=rows.set n (rows[n].set l x)) s1 w1 hp gp r1
        (fun b o h hb hbp=>by rw [upd_ne (fun z=>hbp (by rw [z]; exact hqm))]; exact s14.hk b o h hb)
        (by rw [upd_ne (fun z=>npp (by rw [z]; exact hqm))]; exact s14.hk _ _ h1 hnpa)
        ⟨o4,by rw [upd_ne (Ne.symm hqpa)]; exact e4',L.low p1 (sf.trans s14.gs) p4⟩
        (by rw [List.length_set]; exact r1.len)
        (fun i q' r h1 h2=>by
          by_cases hi:i=n
          · subst hi
            rw [hq] at h1
            cases h1
            rw [List.getElem?_set_self hlt] at h2
            cases h2
            exact ⟨_,upd_same,dvs.set l (Dn.flat_any d2 hf)⟩
          · rw [List.getElem?_set_ne (Ne.symm hi)] at h2
            have hne:q'≠q:=fun z=>by
              subst z
              obtain ⟨b1,b2⟩:=List.getElem?_eq_some_iff.mp h1
              obtain ⟨c1,c2⟩:=List.getElem?_eq_some_iff.mp hq
              exact hi (nod_inj nd b1 c1 (b2.trans c2.symm))
            obtain ⟨us,y1,y2⟩:=rowsH i q' r h1 h2
            refine ⟨us,?_,y2⟩
            rw [upd_ne hne]
            exact s14.hk q' _ y1 fun z=>by
              obtain ⟨o,y⟩:=R.wd.some
              rw [← z,(r1.mem (List.mem_of_getElem? h1)).1] at y; cases y) k
      exact ⟨pa,G₀,H₀,m4,_,Gz,Rz,Tr.ok_mono z4 fun _ _ k'=>Ko.later k' (s1.gs.trans sz)⟩
  | _=>cases hput
theorem as_h3 {st:Stmt} {is el:List Sl→Tr (List PyData)} {n k:Nat} {ix:List Nat} {g:PyData→List Sl→Option (List Sl)} (h:PS X st (tAsg (tLc (TAi PK is) n ix (fun _=>TAg PK g) (fun _=>TAo PK el)) (gName k))) (hn:PresN n g):PS X st (tAsg (TAo2 PK (aLc2 is n ix g el)) (gName k)) :=
  h.imp fun D σ H z=>lc_read2 hn σ H _ z
end L2
set_option Elab.async false
set_option linter.all false
set_option maxRecDepth 100000
namespace L2
open PySem PySem.Spec PyProof.Rows
variable {X:Cx} {i j:List Sl→Tr PyData} {ρ:List Sl}
noncomputable def rEqN:R2:=fun x y H Q=>∃ p q xs,x=.ref p∧y=.ref q∧H p=some (.lst xs)∧H q=some (.lst [])∧Q (.bl xs.isEmpty) H
theorem op_eqN {k:Nat} (hr:Room k X.A):OpR X (compareOp .Eq) rEqN:=by
  intro pins s σ H x y v u Q I rx ry h
  obtain ⟨p,q,xs,rfl,rfl,h1,h2,z⟩:=h
  cases rx
  cases ry
  obtain ⟨its,r,pl,hz⟩:=I.list (SqL.of h1)
  obtain ⟨its2,r2,pl2,hz2⟩:=I.list (SqL.of h2)
  have hu:X.A.units < cLine:=by have:=hr.un; omega
  cases r2
  cases r with
  | nil =>
    refine SeqAt.eq_listAt (e:=fun _=>true) pl.isList pl2.isList rfl hu (fun j h1=>absurd h1 (by simp)) ⟨.bl _,H,I,rfl,z⟩
  | cons a b =>
    exact SeqAt.eq_list_lengthsAt pl.isList pl2.isList (by simp) hu ⟨.bl _,H,I,rfl,z⟩
noncomputable def eqN:PyData→PyData→Option PyData
  | .list xs,.list []=>some (.bool xs.isEmpty)
  | _,_=>none
theorem vo_eqN:VOp2 rEqN eqN:=fun PK pa m G H x y dx dy dz Q w hx hy hz k=>by
  unfold eqN at hz
  split at hz
  · cases hz
    cases hx with
    | lst a1 a2 =>
      cases hy with
      | lst b1 b2 =>
        cases b2
        exact ⟨_,_,_,rfl,rfl,w.sub _ _ a1,w.sub _ _ b1,by rw [a2.isEmpty]; exact k.here w (.bl _)⟩
  · cases hz
theorem ev_eqN (xs:List PyData):bin2 eqN (.list xs) (.list [])=.ret (.bool xs.isEmpty):=rfl
end L2
set_option Elab.async false
set_option linter.all false
set_option maxRecDepth 100000
namespace L2
open PySem PySem.Spec PyProof.Rows
noncomputable def penL (c:Addr) (at' left:Int):HO:=.lst [.ref c,.int at',.int left]
structure Pen2 (H:Hp) (p c:Addr) (ns:List Int) (m:Nat):Prop where
  ex:∃ (k:Nat) (left:Int),H p=some (penL c k left)∧k≤m∧0≤left
  cells:H c=some (.lst (ns.map V.int))
  len:ns.length≤63
  ne:c≠p
noncomputable def spDraw2:Sp:=fun vs H Q _=>∃ (p c:Addr) (ns:List Int) (m:Nat) (most:Int),vs=[.ref p,.int most]∧Pen2 H p c ns m∧m≤500000∧0 < most∧most < 1073741824 ∧
  ∀ (r:Int) (H':Hp),0≤r→r < most→Pen2 H' p c ns (m+1)→Kept p H H'→Q (.int r) H'
noncomputable def spPen2 (K:PySem.W.Frag):Sp:=fun vs H Q _=>∃ (a:Addr) (ns:List Int),vs=[.ref a]∧SqL K H a (ns.map V.int)∧ns.length≤63 ∧
  ∀ (p c:Addr) (H':Hp),H p=none→Pen2 H' p c ns 0→Same H H'→Q (.ref p) H'
noncomputable def PK2 (cn:Addr×List Int):Pk where
  is:=fun o G m=>∃ (k:Nat) (left:Int),o=penL cn.1 k left∧k≤m∧0≤left∧G cn.1=some (.lst (cn.2.map V.int))∧cn.2.length≤63
  mono:=fun s ⟨k,left,e,h1,h2,h3,h4⟩=>⟨k,left,e,h1,h2,s _ _ h3,h4⟩
theorem pkLow {cn:Addr×List Int}:PkLow (PK2 cn):=⟨fun ⟨_,_,_,_,_,h3,_⟩ _ ⟨k,left,e,h1,h2,_,h4⟩=>⟨k,left,e,h1,h2,h3,h4⟩⟩
theorem pss_ex {ι:Type} {X:Cx} {e:List Stmt} {t:ι→TS} (h:∀ i,PSs X e (t i)):PSs X e (fun D σ H=>∃ i,t i D σ H):=fun pins s σ H D I z=>by
  obtain ⟨i,z⟩:=z
  exact h i pins s σ H D I z
noncomputable def m_draw:List Sl→Tr Re:=fun as=>match as with
  | [.pen,.d (.int most)]=>.draw most fun r=>.ret (.d (.int r))
  | _=>.fail
theorem draw_len {as:List Sl} {m:Nat} {Z:Nat→Re→Prop} (h:(m_draw as).ok m Z):∃ most,as=[.pen,.d (.int most)]:=by
  unfold m_draw at h
  split at h
  · exact ⟨_,rfl⟩
  · exact h.elim
theorem draw1 {cn:Addr×List Int} {P:Program} {w:World} {K:PySem.W.Frag} {mg:Str→Option Value} {base:Heap} {x:Str} {k:Nat} {ps:List Str} (hp:ps.length=2) (C:Callee P w K mg base x k ps spDraw2):ACal (PK2 cn) P w K mg base x k ps m_draw:=by
  refine ⟨?_,fun as m Z h=>by obtain ⟨most,rfl⟩:=draw_len h; exact hp.symm⟩
  obtain ⟨f,fd,F,hm,hk,hb⟩:=C.ex
  refine ⟨f,fd,F.imp fun vs H Q E h=>?_,hm,hk,hb⟩
  obtain ⟨hv,pa,m,G,as,wd,ar,z⟩:=h
  obtain ⟨most,rfl⟩:=draw_len z
  obtain ⟨h1,h2,h3,h4⟩:=z
  cases ar with
  | cons a1 ar =>
    cases ar with
    | cons a2 ar =>
      cases ar
      cases a1
      cases a2 with
      | d d2 =>
        cases d2
        obtain ⟨c,ns⟩:=cn
        obtain ⟨o,ho,kk,left,rfl,q1,q2,q3,q4⟩:=wd.pen
        replace q3:G c=some (.lst (ns.map V.int)):=q3
        have ncp:c≠pa:=fun z=>by rw [z,wd.gpa] at q3; cases q3
        refine ⟨pa,c,ns,m,most,rfl,⟨⟨kk,left,ho,q1,q2⟩,wd.sub _ _ q3,q4,ncp⟩,by omega,h2,h3,fun r H' r0 r1 P' K'=>?_⟩
        refine h4 r r0 r1 (.int r) G H' ⟨fun _ _ q=>q,fun _ _ q=>.inl q,fun b o e n=>K' b o e n⟩ ⟨fun b o e=>K' b o (wd.sub b o e) (fun z=>by subst z; rw [wd.gpa] at e; cases e),wd.gpa,?_⟩ (.int r)
        obtain ⟨⟨k2,l2,e2,g1,g2⟩,_,_,_⟩:=P'
        exact ⟨_,e2,k2,l2,rfl,g1,g2,q3,q4⟩
noncomputable def spLaw:PySem.W.Frag→Sp:=fun K vs H Q _=>∃ (a:Addr) (ns:List Int),vs=[.ref a]∧SqL K H a (ns.map V.int)∧ns.length≤63∧∀ H',Q (.bl true) H'
theorem law_start {D:Ends} {p c:Addr} {ns:List Int} {H:Hp} {σ:St} {s:List Sl→Tr Ou} {n:Nat} (P:Pen2 H p c ns 0) (hσ:σ.length=n+2) (h1:σ[1]?=some (some (.ref p))) (hrt:∀ H',D.rt (.bl true) H')
    (h:(s (.un::.pen::List.replicate n .un)).ok 0 fun _ o=>o=.ret (.d (.bool true))):∃ cn,TAs (PK2 cn) s D σ H:=by
  obtain ⟨⟨k,l,e,hk,hl⟩,hc,hn,ncp⟩:=P
  have npc:p≠c:=Ne.symm ncp
  have key:∀ (i:Nat) (sl:Sl),(Sl.un::.pen::List.replicate n .un)[i]?=some sl→sl=.un∨(i=1∧sl=.pen):=fun i sl hi=>by
    match i with
    | 0=>simp at hi; exact .inl hi.symm
    | 1=>simp at hi; exact .inr ⟨rfl,hi.symm⟩
    | i+2 =>
      simp [List.getElem?_replicate] at hi
      exact .inl hi.2.symm
  refine ⟨(c,ns),p,fun b=>if b=c then H c else none,H,0,_,fun b=>if b=c then H c else none,⟨⟨fun b o hb=>?_,if_neg npc,?_⟩,.refl,⟨_,e⟩,fun i sl hi=>?_,by simp [hσ],fun i j xs ys _ hi _=>?_⟩,Tr.ok_mono h fun m o ho=>?_⟩
  · by_cases hbc:b=c
    · subst hbc; simpa using hb
    · simp [hbc] at hb
  · exact ⟨_,e,k,l,rfl,hk,hl,by simp [hc],hn⟩
  · have hlt:i < σ.length:=by
      have:=(List.getElem?_eq_some_iff.mp hi).1
      simp at this
      omega
    rcases key i sl hi with rfl | ⟨rfl,rfl⟩
    · exact ⟨σ[i],by simp [hlt],.un⟩
    · exact ⟨_,h1,.pen⟩
  · rcases key i _ hi with z | ⟨_,z⟩ <;> cases z
  · subst ho
    intro v G H' s' w' d
    cases (show Dn G v (.bool true) from d)
    exact hrt H'
end L2
set_option Elab.async false
set_option linter.all false
set_option maxRecDepth 100000
namespace My
open PySem PySem.Spec PyProof.Rows L2
noncomputable def top (i:Nat):Stmt:=PySem.Challenge.pw_twomarks_k46_double_falls_known.main.body.getD i (.Pass ⟨0,0,0,0⟩)
noncomputable abbrev s_is_whole:Stmt:=top 1
noncomputable abbrev N_is_whole:List Str:=["thing"]
theorem sc_is_whole:FnScope N_is_whole ["thing"] (defScope s_is_whole):=⟨rfl,rfl,rfl,by decide +kernel,rfl,by decide +kernel,by decide +kernel⟩
noncomputable abbrev s_is_whole_within:Stmt:=top 2
noncomputable abbrev N_is_whole_within:List Str:=["thing","lowest","highest"]
theorem sc_is_whole_within:FnScope N_is_whole_within ["thing","lowest","highest"] (defScope s_is_whole_within):=⟨rfl,rfl,rfl,by decide +kernel,rfl,by decide +kernel,by decide +kernel⟩
noncomputable abbrev s_is_line:Stmt:=top 6
noncomputable abbrev N_is_line:List Str:=["thing"]
theorem sc_is_line:FnScope N_is_line ["thing"] (defScope s_is_line):=⟨rfl,rfl,rfl,by decide +kernel,rfl,by decide +kernel,by decide +kernel⟩
noncomputable abbrev s_day_scale:Stmt:=top 7
noncomputable abbrev N_day_scale:List Str:=["day"]
theorem sc_day_scale:FnScope N_day_scale ["day"] (defScope s_day_scale):=⟨rfl,rfl,rfl,by decide +kernel,rfl,by decide +kernel,by decide +kernel⟩
noncomputable abbrev s_is_double_day:Stmt:=top 8
noncomputable abbrev N_is_double_day:List Str:=["thing"]
theorem sc_is_double_day:FnScope N_is_double_day ["thing"] (defScope s_is_double_day):=⟨rfl,rfl,rfl,by decide +kernel,rfl,by decide +kernel,by decide +kernel⟩
noncomputable abbrev s_is_double:Stmt:=top 9
noncomputable abbrev N_is_double:List Str:=["thing"]
theorem sc_is_double:FnScope N_is_double ["thing"] (defScope s_is_double):=⟨rfl,rfl,rfl,by decide +kernel,rfl,by decide +kernel,by decide +kernel⟩
noncomputable abbrev s__law_pen:Stmt:=top 11
noncomputable abbrev N__law_pen:List Str:=["_law_script"]
theorem sc__law_pen:FnScope N__law_pen ["_law_script"] (defScope s__law_pen):=⟨rfl,rfl,rfl,by decide +kernel,rfl,by decide +kernel,by decide +kernel⟩
noncomputable abbrev s__law_draw:Stmt:=top 12
noncomputable abbrev N__law_draw:List Str:=["_law_pen_here","_law_many","_law_digit","_law_at","_law_cell","_law_mixed"]
theorem sc__law_draw:FnScope N__law_draw ["_law_pen_here","_law_many"] (defScope s__law_draw):=⟨rfl,rfl,rfl,by decide +kernel,rfl,by decide +kernel,by decide +kernel⟩
noncomputable abbrev s__law_double_day:Stmt:=top 13
noncomputable abbrev N__law_double_day:List Str:=["_law_pen_here","_law_bound","_law_wide","_law_rows"]
theorem sc__law_double_day:FnScope N__law_double_day ["_law_pen_here"] (defScope s__law_double_day):=⟨rfl,rfl,rfl,by decide +kernel,rfl,by decide +kernel,by decide +kernel⟩
noncomputable abbrev s__law_double:Stmt:=top 14
noncomputable abbrev N__law_double:List Str:=["_law_pen_here"]
theorem sc__law_double:FnScope N__law_double ["_law_pen_here"] (defScope s__law_double):=⟨rfl,rfl,rfl,by decide +kernel,rfl,by decide +kernel,by decide +kernel⟩
noncomputable abbrev s__law_is_line:Stmt:=top 15
noncomputable abbrev N__law_is_line:List Str:=["_law_thing","_law_weight"]
theorem sc__law_is_line:FnScope N__law_is_line ["_law_thing"] (defScope s__law_is_line):=⟨rfl,rfl,rfl,by decide +kernel,rfl,by decide +kernel,by decide +kernel⟩
noncomputable abbrev s__law_is_day:Stmt:=top 16
noncomputable abbrev N__law_is_day:List Str:=["_law_thing","_law_line"]
theorem sc__law_is_day:FnScope N__law_is_day ["_law_thing"] (defScope s__law_is_day):=⟨rfl,rfl,rfl,by decide +kernel,rfl,by decide +kernel,by decide +kernel⟩
noncomputable abbrev s__law_is_double:Stmt:=top 17
noncomputable abbrev N__law_is_double:List Str:=["_law_thing"]
theorem sc__law_is_double:FnScope N__law_is_double ["_law_thing"] (defScope s__law_is_double):=⟨rfl,rfl,rfl,by decide +kernel,rfl,by decide +kernel,by decide +kernel⟩
noncomputable abbrev s__law_odd:Stmt:=top 18
noncomputable abbrev N__law_odd:List Str:=["_law_pen_here","_law_weight","_law_some"]
theorem sc__law_odd:FnScope N__law_odd ["_law_pen_here","_law_weight"] (defScope s__law_odd):=⟨rfl,rfl,rfl,by decide +kernel,rfl,by decide +kernel,by decide +kernel⟩
noncomputable abbrev s__law_bent_line:Stmt:=top 19
noncomputable abbrev N__law_bent_line:List Str:=["_law_pen_here","_law_line","_law_way","_law_at","_law_odd_here"]
theorem sc__law_bent_line:FnScope N__law_bent_line ["_law_pen_here","_law_line"] (defScope s__law_bent_line):=⟨rfl,rfl,rfl,by decide +kernel,rfl,by decide +kernel,by decide +kernel⟩
noncomputable abbrev s__law_bent_day:Stmt:=top 20
noncomputable abbrev N__law_bent_day:List Str:=["_law_pen_here","_law_day","_law_way","_law_at","_law_line","_law_longer","_law_noughts"]
theorem sc__law_bent_day:FnScope N__law_bent_day ["_law_pen_here","_law_day"] (defScope s__law_bent_day):=⟨rfl,rfl,rfl,by decide +kernel,rfl,by decide +kernel,by decide +kernel⟩
noncomputable abbrev s__law_bent:Stmt:=top 21
noncomputable abbrev N__law_bent:List Str:=["_law_pen_here","_law_double_here","_law_way","_law_at","_law_day"]
theorem sc__law_bent:FnScope N__law_bent ["_law_pen_here","_law_double_here"] (defScope s__law_bent):=⟨rfl,rfl,rfl,by decide +kernel,rfl,by decide +kernel,by decide +kernel⟩
noncomputable abbrev s__law_right:Stmt:=top 22
noncomputable abbrev N__law_right:List Str:=["_law_thing","_law_kept","_law_due","_law_again"]
theorem sc__law_right:FnScope N__law_right ["_law_thing"] (defScope s__law_right):=⟨rfl,rfl,rfl,by decide +kernel,rfl,by decide +kernel,by decide +kernel⟩
noncomputable abbrev s_law:Stmt:=top 23
noncomputable abbrev N_law:List Str:=["_law_script","_law_pen_here","_law_turn","_law_double_here","_law_k","_law_thing"]
theorem sc_law:FnScope N_law ["_law_script"] (defScope s_law):=⟨rfl,rfl,rfl,by decide +kernel,rfl,by decide +kernel,by decide +kernel⟩
structure Txt (K:PySem.W.Frag) (mg:Str→Option Value):Prop where
  n_len:mg "len"=none
  n_abs:mg "abs"=none
  n_max:mg "max"=none
  n_repr:mg "repr"=none
  n_int:mg "int"=none
  n_list:mg "list"=none
  n_tuple:mg "tuple"=none
  n_str:mg "str"=none
  n_bool:mg "bool"=none
  n_range:mg "range"=none
  n_isinstance:mg "isinstance"=none
  n_sum:mg "sum"=none
  n_all:mg "all"=none
  g_MOST_WEIGHT:∃ t,mg "MOST_WEIGHT"=some (.int 1000 t)
  g_MOST_DOUBLE:∃ t,mg "MOST_DOUBLE"=some (.int 3 t)
  d_is_whole:Def K mg "is_whole" s_is_whole ["thing"]
  d_is_whole_within:Def K mg "is_whole_within" s_is_whole_within ["thing","lowest","highest"]
  d_is_line:Def K mg "is_line" s_is_line ["thing"]
  d_day_scale:Def K mg "day_scale" s_day_scale ["day"]
  d_is_double_day:Def K mg "is_double_day" s_is_double_day ["thing"]
  d_is_double:Def K mg "is_double" s_is_double ["thing"]
  d__law_pen:Def K mg "_law_pen" s__law_pen ["_law_script"]
  d__law_draw:Def K mg "_law_draw" s__law_draw ["_law_pen_here","_law_many"]
  d__law_double_day:Def K mg "_law_double_day" s__law_double_day ["_law_pen_here"]
  d__law_double:Def K mg "_law_double" s__law_double ["_law_pen_here"]
  d__law_is_line:Def K mg "_law_is_line" s__law_is_line ["_law_thing"]
  d__law_is_day:Def K mg "_law_is_day" s__law_is_day ["_law_thing"]
  d__law_is_double:Def K mg "_law_is_double" s__law_is_double ["_law_thing"]
  d__law_odd:Def K mg "_law_odd" s__law_odd ["_law_pen_here","_law_weight"]
  d__law_bent_line:Def K mg "_law_bent_line" s__law_bent_line ["_law_pen_here","_law_line"]
  d__law_bent_day:Def K mg "_law_bent_day" s__law_bent_day ["_law_pen_here","_law_day"]
  d__law_bent:Def K mg "_law_bent" s__law_bent ["_law_pen_here","_law_double_here"]
  d__law_right:Def K mg "_law_right" s__law_right ["_law_thing"]
  d_law:Def K mg "law" s_law ["_law_script"]
set_option maxHeartbeats 4000000 in
theorem txt_mk {K:PySem.W.Frag} {mg:Str→Option Value} {h:Heap} (X:K.In h) (G:h.Ns mainGlobals mg)
    (z_len:PySem.W.nsIn K mainGlobals "len"=some none)
    (z_abs:PySem.W.nsIn K mainGlobals "abs"=some none)
    (z_max:PySem.W.nsIn K mainGlobals "max"=some none)
    (z_repr:PySem.W.nsIn K mainGlobals "repr"=some none)
    (z_int:PySem.W.nsIn K mainGlobals "int"=some none)
    (z_list:PySem.W.nsIn K mainGlobals "list"=some none)
    (z_tuple:PySem.W.nsIn K mainGlobals "tuple"=some none)
    (z_str:PySem.W.nsIn K mainGlobals "str"=some none)
    (z_bool:PySem.W.nsIn K mainGlobals "bool"=some none)
    (z_range:PySem.W.nsIn K mainGlobals "range"=some none)
    (z_isinstance:PySem.W.nsIn K mainGlobals "isinstance"=some none)
    (z_sum:PySem.W.nsIn K mainGlobals "sum"=some none)
    (z_all:PySem.W.nsIn K mainGlobals "all"=some none)
    {t_MOST_WEIGHT:Tok} (z_MOST_WEIGHT:PySem.W.nsIn K mainGlobals "MOST_WEIGHT"=some (some (.int 1000 t_MOST_WEIGHT)))
    {t_MOST_DOUBLE:Tok} (z_MOST_DOUBLE:PySem.W.nsIn K mainGlobals "MOST_DOUBLE"=some (some (.int 3 t_MOST_DOUBLE)))
    (z_is_whole:Def K mg "is_whole" s_is_whole ["thing"])
    (z_is_whole_within:Def K mg "is_whole_within" s_is_whole_within ["thing","lowest","highest"])
    (z_is_line:Def K mg "is_line" s_is_line ["thing"])
    (z_day_scale:Def K mg "day_scale" s_day_scale ["day"])
    (z_is_double_day:Def K mg "is_double_day" s_is_double_day ["thing"])
    (z_is_double:Def K mg "is_double" s_is_double ["thing"])
    (z__law_pen:Def K mg "_law_pen" s__law_pen ["_law_script"])
    (z__law_draw:Def K mg "_law_draw" s__law_draw ["_law_pen_here","_law_many"])
    (z__law_double_day:Def K mg "_law_double_day" s__law_double_day ["_law_pen_here"])
    (z__law_double:Def K mg "_law_double" s__law_double ["_law_pen_here"])
    (z__law_is_line:Def K mg "_law_is_line" s__law_is_line ["_law_thing"])
    (z__law_is_day:Def K mg "_law_is_day" s__law_is_day ["_law_thing"])
    (z__law_is_double:Def K mg "_law_is_double" s__law_is_double ["_law_thing"])
    (z__law_odd:Def K mg "_law_odd" s__law_odd ["_law_pen_here","_law_weight"])
    (z__law_bent_line:Def K mg "_law_bent_line" s__law_bent_line ["_law_pen_here","_law_line"])
    (z__law_bent_day:Def K mg "_law_bent_day" s__law_bent_day ["_law_pen_here","_law_day"])
    (z__law_bent:Def K mg "_law_bent" s__law_bent ["_law_pen_here","_law_double_here"])
    (z__law_right:Def K mg "_law_right" s__law_right ["_law_thing"])
    (z_law:Def K mg "law" s_law ["_law_script"])
    : Txt K mg:=⟨PySem.W.mg_none_of X G z_len,PySem.W.mg_none_of X G z_abs,PySem.W.mg_none_of X G z_max,PySem.W.mg_none_of X G z_repr,PySem.W.mg_none_of X G z_int,PySem.W.mg_none_of X G z_list,PySem.W.mg_none_of X G z_tuple,PySem.W.mg_none_of X G z_str,PySem.W.mg_none_of X G z_bool,PySem.W.mg_none_of X G z_range,PySem.W.mg_none_of X G z_isinstance,PySem.W.mg_none_of X G z_sum,PySem.W.mg_none_of X G z_all,⟨_,PySem.W.mg_of X G z_MOST_WEIGHT⟩,⟨_,PySem.W.mg_of X G z_MOST_DOUBLE⟩,z_is_whole,z_is_whole_within,z_is_line,z_day_scale,z_is_double_day,z_is_double,z__law_pen,z__law_draw,z__law_double_day,z__law_double,z__law_is_line,z__law_is_day,z__law_is_double,z__law_odd,z__law_bent_line,z__law_bent_day,z__law_bent,z__law_right,z_law⟩

theorem cell_at (ns:List Int) (a:Nat) (h:ns≠[]):∃ z:Int,atI (ns.map V.int) ((a:Int) % ((ns.map V.int).length:Nat))=some (.int z):=by
  have hl:0 < ns.length:=List.length_pos_iff.mpr h
  have hl':(ns.map V.int).length=ns.length:=List.length_map ..
  have e:(a:Int) % ((ns.map V.int).length:Nat)=((a % ns.length:Nat):Int):=by rw [hl']; omega
  have hlt:a % ns.length < ns.length:=Nat.mod_lt _ hl
  rw [e]
  exact ⟨ns[a % ns.length],atI_nat (by rw [List.getElem?_map,List.getElem?_eq_getElem hlt]; rfl)⟩
section
variable {P:Program} {w:World} {K:PySem.W.Frag} {mg:Str→Option Value} {base:Heap}
set_option maxHeartbeats 1000000 in
theorem ok_pen (T:Txt K mg):Callee P w K mg base "_law_pen" 1 ["_law_script"] (spPen2 K):=by
  refine T.d__law_pen.ok sc__law_pen (fun vs H Q E h=>?_) (fun f cdv A outer s H vs Q E hr h=>?_)
  · obtain ⟨a,ns,rfl,_⟩:=h
    rfl
  · obtain ⟨a,ns,rfl,hS,hlen,k⟩:=h
    have hu:=hu_of hr
    refine ⟨_,(pss_one (ps_ret (pe_lst (pa_cons (pe_callTy (call_list_of) rfl T.n_list boot_list (pa_cons (pe_slice sl_list (pv 0) po_none (po_some pe_int)) pa_nil)) (pa_cons pe_int (pa_cons pe_int pa_nil)))))),?_⟩
    refine ⟨_,rfl,63,rfl,a,_,rfl,hS,fun q hq=>⟨q,_,rfl,Or.inl (SqL.of upd_same),fun c hc=>⟨by show 3≤sizeLine; decide,fun p hp=>?_⟩⟩⟩
    have hcut:cutV (ns.map V.int) none (some 63)=ns.map V.int:=by
      unfold cutV
      have e:HT.sIx (ns.map V.int).length (ns.map V.int).length (some 63)=(ns.map V.int).length:=by
        have q:=HT.sIx_nat (ns.map V.int).length (ns.map V.int).length 63
        rw [List.length_map] at q ⊢
        exact q.trans (Nat.min_eq_right hlen)
      rw [e]
      show ((ns.map V.int).drop 0).take ((ns.map V.int).length - 0)=_
      rw [List.drop_zero,Nat.sub_zero,List.take_length]
    have s1:Same H (upd H q (.lst (cutV (ns.map V.int) none (some 63)))):=(Same.refl _).new hq
    have s2:=s1.new (o:=.lst (cutV (ns.map V.int) none (some 63))) hc
    have s3:=s2.new (o:=.lst [.ref c,.int 0,.int 0]) hp
    have npc:c≠p:=fun z=>by
      rw [← z,upd_same] at hp
      cases hp
    refine k p c _ (s2.free hp) ⟨⟨0,0,upd_same,Nat.le_refl _,Int.le_refl _⟩,?_,hlen,npc⟩ s3
    rw [upd_ne npc,upd_same,hcut]
theorem base2 {z a:Int} (h3:0≤a) (h4:a≤500000):(z % 2147483629+46021 * a+71).natAbs < 2 ^ 64:=by
  have:=Int.emod_nonneg z (by decide:(2147483629:Int)≠0)
  have:=Int.emod_lt_of_pos z (by decide:(0:Int) < 2147483629)
  omega
set_option maxHeartbeats 2000000 in
theorem ok_draw (T:Txt K mg):Callee P w K mg base "_law_draw" 1 ["_law_pen_here","_law_many"] spDraw2:=by
  refine T.d__law_draw.ok sc__law_draw (fun vs H Q E h=>?_) (fun f cdv A outer s H vs Q E hr h=>?_)
  · obtain ⟨p,c,ns,m,most,rfl,_⟩:=h
    rfl
  · obtain ⟨p,c,ns,m,most,rfl,hP,hm,h0,h1,k⟩:=h
    have hu:=hu_of hr
    refine ⟨_,(pss_cons (ps_if (pt_cmpR op_gt (pe_ix ix_list (pv 0) pe_int (fun _ _=>rfl)) pe_int (nomark _)) (pss_cons (ps_set (i:=2) sc__law_draw.nd rfl (Or.inl rfl) (pe_op op_mod (pe_ix ix_list (pv 0) pe_int (fun _ _=>rfl)) (pv 1)))
 (pss_cons (ps_asg (pe_op op_fdiv (pe_ix ix_list (pv 0) pe_int (fun _ _=>rfl)) (pv 1)) (pg_sub (pv 0) pe_int set_list))
 (pss_one (ps_ret (pv 2))))) pss_nil)
 (pss_cons (ps_set (i:=3) sc__law_draw.nd rfl (Or.inl rfl) (pe_ix ix_list (pv 0) pe_int (fun _ _=>rfl)))
 (pss_cons (ps_asg (pe_op op_add (pv 3) pe_int) (pg_sub (pv 0) pe_int set_list))
 (pss_cons (ps_set (i:=4) sc__law_draw.nd rfl (Or.inl rfl) (pe_op op_add (pe_op op_mul pe_int (pv 3)) pe_int))
 (pss_cons (PS.join (ps_if (pt_cmpR op_gt (pe_callB (call_len_seq) rfl T.n_len boot_len (pa_cons (pe_ix ix_list (pv 0) pe_int (fun _ _=>rfl)) pa_nil)) pe_int (nomark _)) (pss_one (ps_set (i:=4) sc__law_draw.nd rfl (Or.inl rfl) (pe_ix ix_list (pe_ix ix_list (pv 0) pe_int (fun _ _=>rfl)) (pe_op op_mod (pv 3) (pe_callB (call_len_seq) rfl T.n_len boot_len (pa_cons (pe_ix ix_list (pv 0) pe_int (fun _ _=>rfl)) pa_nil))) (fun _ _=>rfl)))) pss_nil))
 (pss_cons (ps_if (PT.join (PW.pt (pw_and (pt_cmpR op_lt (pv 3) (pe_callB (call_len_seq) rfl T.n_len boot_len (pa_cons (pe_ix ix_list (pv 0) pe_int (fun _ _=>rfl)) pa_nil)) (nomark _)) (pw_and1 (pt_cmpR op_ge (pe_callB (call_abs) rfl T.n_abs boot_abs (pa_cons (pv 4) pa_nil)) (pe_op op_pow pe_int pe_int) (nomark _)))))) (pss_cons (ps_asg (pe_op op_fdiv (pe_callB (call_abs) rfl T.n_abs boot_abs (pa_cons (pv 4) pa_nil)) (pv 1)) (pg_sub (pv 0) pe_int set_list))
 (pss_one (ps_ret (pe_op op_mod (pe_callB (call_abs) rfl T.n_abs boot_abs (pa_cons (pv 4) pa_nil)) (pv 1))))) pss_nil)
 (pss_cons (ps_set (i:=5) sc__law_draw.nd rfl (Or.inl rfl) (pe_op op_mod (pe_op op_pow (pe_op op_add (pe_op op_add (pe_op op_mod (pv 4) pe_int) (pe_op op_mul pe_int (pv 3))) pe_int) pe_int) pe_int))
 (pss_one (ps_ret (pe_op op_mod (pe_op op_fdiv (pe_op op_mod (pe_op op_mul (pv 5) (pe_op op_add (pe_op op_add (pe_op op_mod (pv 5) pe_int) (pv 3)) pe_int)) pe_int) pe_int) (pv 1))))))))))),?_⟩
    obtain ⟨⟨a,l,hd,ha,hl⟩,hc,hn,npc⟩:=hP
    have hd':H p=some (.lst [.ref c,.int a,.int l]):=hd
    have x2:atI [V.ref c,.int (a:Int),.int l] 2=some (.int l):=at_2
    have x1:atI [V.ref c,.int (a:Int),.int l] 1=some (.int (a:Int)):=at_1
    refine ⟨_,rfl,p,_,_,_,rfl,rfl,SqL.of hd',x2,_,_,rfl,rfl,_,rfl,?_⟩
    refine ite2 (fun hz=>?_) (fun hz=>?_)
    · refine ⟨_,rfl,p,_,_,_,rfl,rfl,SqL.of hd',x2,_,rfl,_,_,rfl,rfl,h0,?_⟩
      refine ⟨_,rfl,p,_,_,_,rfl,rfl,SqL.of hd',x2,_,rfl,_,_,rfl,rfl,⟨h0,h1⟩,_,rfl,p,_,2,2,rfl,rfl,hd',rfl,?_⟩
      refine ⟨_,rfl,k _ _ (Int.emod_nonneg _ (by omega)) (Int.emod_lt_of_pos _ h0) ⟨⟨a,l / most,upd_same,by omega,Int.ediv_nonneg hl (by omega)⟩,by rw [upd_ne npc]; exact hc,hn,npc⟩ Kept.refl.pen⟩
    · refine ⟨_,rfl,p,_,_,_,rfl,rfl,SqL.of hd',x1,?_⟩
      refine ⟨_,rfl,_,_,rfl,rfl,_,rfl,p,_,1,1,rfl,rfl,hd',rfl,?_⟩
      have hd1:(upd H p (.lst ([V.ref c,.int (a:Int),.int l].set 1 (.int ((a:Int)+1))))) p=some (.lst [.ref c,.int ((a:Int)+1),.int l]):=upd_same
      have hc1:(upd H p (.lst ([V.ref c,.int (a:Int),.int l].set 1 (.int ((a:Int)+1))))) c=some (.lst (ns.map V.int)):=by
        rw [upd_ne npc]
        exact hc
      have k1:Kept p H (upd H p (.lst ([V.ref c,.int (a:Int),.int l].set 1 (.int ((a:Int)+1))))):=Kept.refl.pen
      generalize upd H p (.lst ([V.ref c,.int (a:Int),.int l].set 1 (.int ((a:Int)+1))))=H1 at hd1 hc1 k1
      have y0:atI [V.ref c,.int ((a:Int)+1),.int l] 0=some (.ref c):=at_0
      refine ⟨_,rfl,_,_,rfl,rfl,.inl ⟨by decide,by decide⟩,_,_,rfl,rfl,?_⟩
      refine ⟨fun σ' H'=>∃ (z:Int),σ'=[some (.ref p),some (.int most),none,some (.int a),some (.int z),none]∧H' p=some (.lst [.ref c,.int ((a:Int)+1),.int l])∧H' c=some (.lst (ns.map V.int))∧Kept p H H',?_,?_⟩
      · refine ⟨_,rfl,p,_,_,_,rfl,rfl,SqL.of hd1,y0,c,_,rfl,.inl (SqL.of hc1),_,_,rfl,rfl,_,rfl,?_⟩
        refine ite2 (fun hne=>?_) (fun _=>?_)
        · have hpos:0 < (((ns.map V.int).length:Nat):Int):=of_decide_eq_true hne
          have hne':ns≠[]:=by
            rintro rfl
            cases hpos
          obtain ⟨z,hz2⟩:=cell_at ns a hne'
          refine ⟨_,rfl,p,_,_,_,rfl,rfl,SqL.of hd1,y0,_,rfl,_,rfl,p,_,_,_,rfl,rfl,SqL.of hd1,y0,c,_,rfl,.inl (SqL.of hc1),_,_,rfl,rfl,hpos,c,_,_,_,rfl,rfl,SqL.of hc1,hz2,?_⟩
          exact ⟨z,rfl,hd1,hc1,k1⟩
        · exact ⟨_,rfl,hd1,hc1,k1⟩
      · rintro σ2 H2 ⟨z,rfl,hd2,hc2,k2⟩
        refine ⟨fun _ H'=>H'=H2,?_,?_⟩
        · refine ⟨_,rfl,_,rfl,p,_,_,_,rfl,rfl,SqL.of hd2,y0,c,_,rfl,.inl (SqL.of hc2),_,_,rfl,rfl,_,rfl,?_⟩
          refine ite2 (fun _=>?_) (fun _=>rfl)
          exact ⟨_,rfl,z,rfl,_,_,rfl,rfl,⟨by decide,by decide,by decide⟩,_,_,rfl,rfl,_,rfl,rfl⟩
        · rintro b H3 rfl
          have ab:0≤(if z < 0 then -z else z):=by split <;> omega
          refine ite2 (fun _=>?_) (fun _=>?_)
          · refine ⟨_,rfl,z,rfl,_,rfl,_,_,rfl,rfl,⟨h0,h1⟩,_,rfl,p,_,2,2,rfl,rfl,hd2,rfl,?_⟩
            refine ⟨_,rfl,z,rfl,_,rfl,_,_,rfl,rfl,h0,?_⟩
            refine k _ _ (Int.emod_nonneg _ (by omega)) (Int.emod_lt_of_pos _ h0) ⟨⟨a+1,_,upd_same,by omega,Int.ediv_nonneg ab (by omega)⟩,by rw [upd_ne npc]; exact hc2,hn,npc⟩ k2.pen
          · refine ⟨_,rfl,_,_,rfl,rfl,(by show (0:Int) < 2147483629; decide),_,rfl,_,_,rfl,rfl,.inl ⟨by decide,by decide⟩,_,_,rfl,rfl,_,_,rfl,rfl,_,_,rfl,rfl,⟨by decide,by decide,base2 (by omega) (by omega)⟩,_,_,rfl,rfl,(by show (0:Int) < 2147483647; decide),?_⟩
            have m0:0≤((z % 2147483629+46021 * (a:Int)+71) ^ (3:Int).toNat) % 2147483647:=Int.emod_nonneg _ (by decide)
            have m1:((z % 2147483629+46021 * (a:Int)+71) ^ (3:Int).toNat) % 2147483647 < 2147483647:=Int.emod_lt_of_pos _ (by decide)
            refine ⟨_,rfl,_,rfl,_,_,rfl,rfl,(by show (0:Int) < 65437; decide),_,rfl,_,_,rfl,rfl,_,_,rfl,rfl,_,_,rfl,rfl,.inl ⟨Int.lt_of_lt_of_le (by decide) m0,Int.lt_trans m1 (by decide)⟩,?_⟩
            refine ⟨_,_,rfl,rfl,(by show (0:Int) < 2147483587; decide),?_⟩
            refine ⟨_,_,rfl,rfl,⟨by decide,by decide⟩,_,rfl,_,_,rfl,rfl,h0,?_⟩
            exact k _ _ (Int.emod_nonneg _ (by omega)) (Int.emod_lt_of_pos _ h0) ⟨⟨a+1,l,hd2,by omega,hl⟩,hc2,hn,npc⟩ k2
end
end My
set_option Elab.async false
set_option linter.all false
set_option maxRecDepth 100000
namespace My
open PySem PySem.Spec PyProof.Rows L2
section
variable {cn:Addr×List Int} {P:Program} {w:World} {K:PySem.W.Frag} {mg:Str→Option Value} {base:Heap}
noncomputable def m_is_whole:List Sl→Tr Re:=aDef 1 0
 (aRet (aAndV (aIsi "int" (aVar 0)) (aNotV (aIsi "bool" (aVar 0)))))
set_option maxHeartbeats 2000000 in
theorem c_is_whole (T:Txt K mg):ACal (PK2 cn) P w K mg base "is_whole" 1 ["thing"] m_is_whole:=acal_of T.d_is_whole sc_is_whole rfl fun f cdv A outer sh H E hr=>by
  exact (ass_one (as_ret (ae_and (ae_isi (T:="int") (Or.inl rfl) rfl (pe_callB call_isi rfl T.n_isinstance boot_isinstance (pa_cons (ae_var (pv 0)) (pa_cons (pe_bltn (v:=.ty "int") rfl T.n_int boot_int rfl) pa_nil)))) (ae_one (ae_not (ae_isi (T:="bool") (Or.inr (Or.inl rfl)) rfl (pe_callB call_isi rfl T.n_isinstance boot_isinstance (pa_cons (ae_var (pv 0)) (pa_cons (pe_bltn (v:=.ty "bool") rfl T.n_bool boot_bool rfl) pa_nil)))))))))
noncomputable def q_day_scale_1:List Sl→Tr PyData :=
 (aCB sumD (aCons (aVar 0) aNil))
noncomputable def m_day_scale:List Sl→Tr Re:=aDef 1 0
 (aRet (aCB sumD (aCons (aLst (aLc (aIt (aVar 0)) 1 [] (gSet 0) q_day_scale_1)) aNil)))
set_option maxHeartbeats 2000000 in
theorem c_day_scale (T:Txt K mg):ACal (PK2 cn) P w K mg base "day_scale" 1 ["day"] m_day_scale:=acal_of T.d_day_scale sc_day_scale rfl fun f cdv A outer sh H E hr=>by
  exact (ass_one (as_ret (ae_cb (t:=tNil) (pe_callB (call_sumD rfl) rfl T.n_sum boot_sum (ad_cons (ae_o (ao_lc (pe_lc N_day_scale ["line"] [] rfl (ai_seq (ae_var (pv 0))) (fun b=>(ag_name (pg_name (i:=0) (show ((bN N_day_scale ["line"] [])).Nodup by decide +kernel) rfl (Or.inl rfl)))) (fun b=>(ae_cb (t:=tNil) (pe_callB (call_sumD rfl) rfl T.n_sum boot_sum (ad_cons (ae_var (pv 0)) ad_nil)) vc_sum)) rfl (show BlkOk N_day_scale (defScope s_day_scale) _ [] from ⟨rfl,by decide +kernel,by decide +kernel,by decide +kernel,by decide +kernel⟩)) (pres_set (by decide)))) ad_nil)) vc_sum)))
noncomputable abbrev m_law_draw:=m_draw
theorem c_law_draw (T:Txt K mg):ACal (PK2 cn) P w K mg base "_law_draw" 1 ["_law_pen_here","_law_many"] m_law_draw:=draw1 rfl (ok_draw T)
noncomputable def l_law_is_line_1:List Sl→Tr Ou :=
 (aIfS (aOr (aNot (aTru (aIsi "int" (aVar 1)))) (aOr (aTru (aIsi "bool" (aVar 1))) (aOr (aTest (aBin (cmpD fun i j=>decide (i < j)) (aVar 1) (aC (.int 0)))) (aTest (aBin (cmpD fun i j=>decide (i > j)) (aVar 1) (aC (.int 1000)))))))
  (aRet (aC (.bool false)))
  aSkip)
noncomputable def m_law_is_line:List Sl→Tr Re:=aDef 1 1
 (aSeq (aIfS (aOr (aNot (aTru (aIsi "tuple" (aVar 0)))) (aTest (aBin (inD true) (aCB lenD (aCons (aVar 0) aNil)) (aTup (aCons (aC (.int 1)) (aCons (aC (.int 2)) (aCons (aC (.int 3)) aNil)))))))
  (aRet (aC (.bool false)))
  aSkip)
 (aSeq (aFor (aIt (aVar 0)) (gSet 1) l_law_is_line_1)
 (aRet (aC (.bool true)))))
set_option maxHeartbeats 2000000 in
theorem c_law_is_line (T:Txt K mg):ACal (PK2 cn) P w K mg base "_law_is_line" 1 ["_law_thing"] m_law_is_line:=acal_of T.d__law_is_line sc__law_is_line rfl fun f cdv A outer sh H E hr=>by
  exact (ass_cons (as_if (at_w (aw_or (at_not (at_tru (ae_isi (T:="tuple") (Or.inr (Or.inr (Or.inr (Or.inr (Or.inl rfl))))) rfl (pe_callB call_isi rfl T.n_isinstance boot_isinstance (pa_cons (ae_var (pv 0)) (pa_cons (pe_bltn (v:=.ty "tuple") rfl T.n_tuple boot_tuple rfl) pa_nil)))))) (aw_or1 (at_cmp op_notIn_seq vo_in (ae_cb (t:=tNil) (pe_callB call_len_seq rfl T.n_len boot_len (ad_cons (ae_var (pv 0)) ad_nil)) vc_len) (ae_tup (ad_cons ae_int (ad_cons ae_int (ad_cons ae_int ad_nil)))) (by with_unfolding_all rfl)))))
  (ass_one (as_ret ae_bl))
  ass_nil)
 (ass_cons (as_for PassesOwn.never rfl (ai_seq (ae_var (pv 0))) (ag_name (pg_name (i:=1) sc__law_is_line.nd rfl (Or.inl rfl)))
  (ass_one (as_if (at_w (aw_or (at_not (at_tru (ae_isi (T:="int") (Or.inl rfl) rfl (pe_callB call_isi rfl T.n_isinstance boot_isinstance (pa_cons (ae_var (pv 1)) (pa_cons (pe_bltn (v:=.ty "int") rfl T.n_int boot_int rfl) pa_nil)))))) (aw_or (at_tru (ae_isi (T:="bool") (Or.inr (Or.inl rfl)) rfl (pe_callB call_isi rfl T.n_isinstance boot_isinstance (pa_cons (ae_var (pv 1)) (pa_cons (pe_bltn (v:=.ty "bool") rfl T.n_bool boot_bool rfl) pa_nil))))) (aw_or (at_cmp op_lt vo_cmp (ae_var (pv 1)) ae_int (nomark _)) (aw_or1 (at_cmp op_gt vo_cmp (ae_var (pv 1)) ae_int (nomark _)))))))
  (ass_one (as_ret ae_bl))
  ass_nil)))
 (ass_one (as_ret ae_bl))))
noncomputable def m_is_whole_within:List Sl→Tr Re:=aDef 3 0
 (aRet (aAndV (aRe (aCall m_is_whole (aaCons (aVar 0) aaNil))) (aChain (cmpD fun i j=>decide (i≤j)) (cmpD fun i j=>decide (i≤j)) (aVar 1) (aVar 0) (aVar 2))))
set_option maxHeartbeats 2000000 in
theorem c_is_whole_within (T:Txt K mg):ACal (PK2 cn) P w K mg base "is_whole_within" 2 ["thing","lowest","highest"] m_is_whole_within:=acal_of T.d_is_whole_within sc_is_whole_within rfl fun f cdv A outer sh H E hr=>by
  exact (ass_one (as_ret (ae_and (ae_r (ar_call (c_is_whole T) (hr.mono (by decide)) rfl (aa_cons (ae_var (pv 0)) aa_nil))) (ae_one (ae_chain op_le vo_cmp op_le vo_cmp (ae_var (pv 1)) (ae_var (pv 0)) (ae_var (pv 2)))))))
noncomputable def q_law_double_day_1:List Sl→Tr PyData :=
 (aRe (aCall m_law_draw (aaPen 1 (aaCons (aVar 2) aaNil))))
noncomputable def q_law_double_day_2:List Sl→Tr (List PyData) :=
 (aLc (aRng1 (aCons (aVar 3) aNil)) 1 [1,2] (gSet 0) q_law_double_day_1)
noncomputable def q_law_double_day_3:List Sl→Tr PyData :=
 (aCB tupD (aCons (aVar 0) aNil))
noncomputable def m_law_double_day:List Sl→Tr Re:=aDef 1 3
 (aSeq (aSet 1 (aBin ixD (aLst (aLo (aCons (aC (.int 2)) (aCons (aC (.int 4)) (aCons (aC (.int 20)) (aCons (aC (.int 1001)) aNil)))))) (aRe (aCall m_law_draw (aaPen 0 (aaCons (aC (.int 4)) aaNil))))))
 (aSeq (aSet 2 (aBin addD (aC (.int 1)) (aRe (aCall m_law_draw (aaPen 0 (aaCons (aC (.int 3)) aaNil))))))
 (aRows 3 (aLc2 (aRng1 (aCons (aBin addD (aC (.int 1)) (aRe (aCall m_law_draw (aaPen 0 (aaCons (aC (.int 3)) aaNil))))) aNil)) 1 [0,1,2] (gSet 0) q_law_double_day_2) (aBin addD (aC (.int 1)) (aRe (aCall m_law_draw (aaPen 0 (aaCons (aBin subD (aVar 1) (aC (.int 1))) aaNil))))) (aRe (aCall m_law_draw (aaPen 0 (aaCons (aCB lenD (aCons (aVar 3) aNil)) aaNil)))) (aRe (aCall m_law_draw (aaPen 0 (aaCons (aVar 2) aaNil))))
 (aRet (aCB tupD (aCons (aLst (aLc (aIt (aVar 3)) 1 [] (gSet 0) q_law_double_day_3)) aNil))))))
set_option maxHeartbeats 2000000 in
theorem c_law_double_day (T:Txt K mg):ACal (PK2 cn) P w K mg base "_law_double_day" 2 ["_law_pen_here"] m_law_double_day:=acal_of T.d__law_double_day sc__law_double_day rfl fun f cdv A outer sh H E hr=>by
  exact (ass_cons (as_set (ps_set (i:=1) sc__law_double_day.nd rfl (Or.inr rfl) (ae_ix ix_seq vo_ix (by refine ae_o ?_; refine ao_lst ?_; refine ad_cK ?_ ?_; exact ae_int; refine ad_cK ?_ ?_; exact ae_int; refine ad_cK ?_ ?_; exact ae_int; refine ad_cK ?_ ?_; exact ae_int; exact ad_nil) (ae_r (ar_call (c_law_draw T) (hr.mono (by decide)) rfl (aa_pen (pv 0) (aa_cons ae_int aa_nil)))) (fun _ _=>rfl))))
 (ass_cons (as_set (ps_set (i:=2) sc__law_double_day.nd rfl (Or.inr rfl) (ae_op op_addD vo_add ae_int (ae_r (ar_call (c_law_draw T) (hr.mono (by decide)) rfl (aa_pen (pv 0) (aa_cons ae_int aa_nil)))))))
 (ass_rows pkLow (as_h3 (ps_setLc (i:=3) N__law_double_day ["_law_i"] [0,1,2] rfl sc__law_double_day.nd rfl rfl (ai_rng1 (pi_range1 rfl T.n_range (ad_cons (ae_op op_addD vo_add ae_int (ae_r (ar_call (c_law_draw T) (hr.mono (by decide)) rfl (aa_pen (pv 0) (aa_cons ae_int aa_nil))))) ad_nil))) (fun b=>(ag_name (pg_name (i:=0) (show ((bN N__law_double_day ["_law_i"] [0,1,2])).Nodup by decide +kernel) rfl (Or.inl rfl)))) (fun b=>(ao_lc (pe_lc (bN N__law_double_day ["_law_i"] [0,1,2]) ["_law_j"] [1,2] rfl (ai_rng1 (pi_range1 rfl T.n_range (ad_cons (ae_var (pv 3)) ad_nil))) (fun b=>(ag_name (pg_name (i:=0) (show ((bN (bN N__law_double_day ["_law_i"] [0,1,2]) ["_law_j"] [1,2])).Nodup by decide +kernel) rfl (Or.inl rfl)))) (fun b=>(ae_r (ar_call (c_law_draw T) (hr.mono (by decide)) rfl (aa_pen (pv 1) (aa_cons (ae_var (pv 2)) aa_nil))))) rfl (BlkOk.nest ⟨rfl,by decide +kernel,by decide +kernel,by decide +kernel,by decide +kernel⟩)) (pres_set (by decide)))) rfl (show BlkOk N__law_double_day (defScope s__law_double_day) _ [0,1,2] from ⟨rfl,by decide +kernel,by decide +kernel,by decide +kernel,by decide +kernel⟩) rfl) (pres_set (by decide))) (ps_asg (ae_op op_addD vo_add ae_int (ae_r (ar_call (c_law_draw T) (hr.mono (by decide)) rfl (aa_pen (pv 0) (aa_cons (ae_op op_sub vo_sub (ae_var (pv 1)) ae_int) aa_nil))))) (pg_sub (pe_ix ix_list (pv 3) (ae_r (ar_call (c_law_draw T) (hr.mono (by decide)) rfl (aa_pen (pv 0) (aa_cons (ae_cb (t:=tNil) (pe_callB call_len_seq rfl T.n_len boot_len (ad_cons (ae_var (pv 3)) ad_nil)) vc_len) aa_nil)))) (fun _ _=>rfl)) (ae_r (ar_call (c_law_draw T) (hr.mono (by decide)) rfl (aa_pen (pv 0) (aa_cons (ae_var (pv 2)) aa_nil)))) set_list))
 (ass_one (as_ret (ae_cb (t:=tNil) (pe_callTy call_tuple_of rfl T.n_tuple boot_tuple (ad_cons (ae_o (ao_lc (pe_lc N__law_double_day ["_law_row"] [] rfl (ai_seq (ae_var (pv 3))) (fun b=>(ag_name (pg_name (i:=0) (show ((bN N__law_double_day ["_law_row"] [])).Nodup by decide +kernel) rfl (Or.inl rfl)))) (fun b=>(ae_cb (t:=tNil) (pe_callTy call_tuple_of rfl T.n_tuple boot_tuple (ad_cons (ae_var (pv 0)) ad_nil)) vc_tup)) rfl (show BlkOk N__law_double_day (defScope s__law_double_day) _ [] from ⟨rfl,by decide +kernel,by decide +kernel,by decide +kernel,by decide +kernel⟩)) (pres_set (by decide)))) ad_nil)) vc_tup))))))
noncomputable def l_law_is_day_1:List Sl→Tr Ou :=
 (aIfS (aOr (aNot (aTru (aRe (aCall m_law_is_line (aaCons (aVar 1) aaNil))))) (aTest (aBin neD (aCB lenD (aCons (aVar 1) aNil)) (aCB lenD (aCons (aBin ixD (aVar 0) (aC (.int 0))) aNil)))))
  (aRet (aC (.bool false)))
  aSkip)
noncomputable def q_law_is_day_1:List Sl→Tr PyData :=
 (aCB max1D (aCons (aVar 0) aNil))
noncomputable def m_law_is_day:List Sl→Tr Re:=aDef 1 1
 (aSeq (aIfS (aOr (aNot (aTru (aIsi "tuple" (aVar 0)))) (aTest (aBin (inD true) (aCB lenD (aCons (aVar 0) aNil)) (aTup (aCons (aC (.int 1)) (aCons (aC (.int 2)) (aCons (aC (.int 3)) aNil)))))))
  (aRet (aC (.bool false)))
  aSkip)
 (aSeq (aFor (aIt (aVar 0)) (gSet 1) l_law_is_day_1)
 (aRet (aBin (cmpD fun i j=>decide (i > j)) (aCB max1D (aCons (aLst (aLc (aIt (aVar 0)) 1 [] (gSet 0) q_law_is_day_1)) aNil)) (aC (.int 0))))))
set_option maxHeartbeats 2000000 in
theorem c_law_is_day (T:Txt K mg):ACal (PK2 cn) P w K mg base "_law_is_day" 2 ["_law_thing"] m_law_is_day:=acal_of T.d__law_is_day sc__law_is_day rfl fun f cdv A outer sh H E hr=>by
  exact (ass_cons (as_if (at_w (aw_or (at_not (at_tru (ae_isi (T:="tuple") (Or.inr (Or.inr (Or.inr (Or.inr (Or.inl rfl))))) rfl (pe_callB call_isi rfl T.n_isinstance boot_isinstance (pa_cons (ae_var (pv 0)) (pa_cons (pe_bltn (v:=.ty "tuple") rfl T.n_tuple boot_tuple rfl) pa_nil)))))) (aw_or1 (at_cmp op_notIn_seq vo_in (ae_cb (t:=tNil) (pe_callB call_len_seq rfl T.n_len boot_len (ad_cons (ae_var (pv 0)) ad_nil)) vc_len) (ae_tup (ad_cons ae_int (ad_cons ae_int (ad_cons ae_int ad_nil)))) (by with_unfolding_all rfl)))))
  (ass_one (as_ret ae_bl))
  ass_nil)
 (ass_cons (as_for PassesOwn.never rfl (ai_seq (ae_var (pv 0))) (ag_name (pg_name (i:=1) sc__law_is_day.nd rfl (Or.inl rfl)))
  (ass_one (as_if (at_w (aw_or (at_not (at_tru (ae_r (ar_call (c_law_is_line T) (hr.mono (by decide)) rfl (aa_cons (ae_var (pv 1)) aa_nil))))) (aw_or1 (at_cmp (op_neA hr) vo_ne (ae_cb (t:=tNil) (pe_callB call_len_seq rfl T.n_len boot_len (ad_cons (ae_var (pv 1)) ad_nil)) vc_len) (ae_cb (t:=tNil) (pe_callB call_len_seq rfl T.n_len boot_len (ad_cons (ae_ix ix_seq vo_ix (ae_var (pv 0)) ae_int (fun _ _=>rfl)) ad_nil)) vc_len) (nomark _)))))
  (ass_one (as_ret ae_bl))
  ass_nil)))
 (ass_one (as_ret (ae_cmp op_gt vo_cmp (ae_cb (t:=tNil) (pe_callB (call_maxD rfl) rfl T.n_max boot_max (ad_cons (ae_o (ao_lc (pe_lc N__law_is_day ["_law_line"] [] rfl (ai_seq (ae_var (pv 0))) (fun b=>(ag_name (pg_name (i:=0) (show ((bN N__law_is_day ["_law_line"] [])).Nodup by decide +kernel) rfl (Or.inl rfl)))) (fun b=>(ae_cb (t:=tNil) (pe_callB (call_maxD rfl) rfl T.n_max boot_max (ad_cons (ae_var (pv 0)) ad_nil)) vc_max1)) rfl (show BlkOk N__law_is_day (defScope s__law_is_day) _ [] from ⟨rfl,by decide +kernel,by decide +kernel,by decide +kernel,by decide +kernel⟩)) (pres_set (by decide)))) ad_nil)) vc_max1) ae_int (nomark _))))))
noncomputable def m_law_odd:List Sl→Tr Re:=aDef 2 1
 (aSeq (aSet 2 (aLst (aLo (aCons (aNeg (aC (.int 1))) (aCons (aC (.int 1001)) (aCons (aC (.int 1000)) (aCons (aBin powD (aC (.int 10)) (aC (.int 29))) (aCons (aC (.bool true)) (aCons (aC (.bool false)) (aCons (aC .none) (aCons (aCB strD (aCons (aVar 1) aNil)) (aCons (aTup (aCons (aVar 1) aNil)) (aCons (aLst (aLo (aCons (aVar 1) aNil))) (aCons (aC (.dict [])) (aCons (aC (.str "")) (aCons (aC (.int 0)) aNil))))))))))))))))
 (aRet (aBin ixD (aVar 2) (aRe (aCall m_law_draw (aaPen 0 (aaCons (aC (.int 13)) aaNil)))))))
set_option maxHeartbeats 2000000 in
theorem c_law_odd (T:Txt K mg):ACal (PK2 cn) P w K mg base "_law_odd" 2 ["_law_pen_here","_law_weight"] m_law_odd:=acal_of T.d__law_odd sc__law_odd rfl fun f cdv A outer sh H E hr=>by
  exact (ass_cons (as_set (ps_set (i:=2) sc__law_odd.nd rfl (Or.inl rfl) (by refine ae_o ?_; refine ao_lst ?_; refine ad_cK ?_ ?_; exact (ae_neg ae_int); refine ad_cK ?_ ?_; exact ae_int; refine ad_cK ?_ ?_; exact ae_int; refine ad_cK ?_ ?_; exact (ae_op op_pow vo_pow ae_int ae_int); refine ad_cK ?_ ?_; exact ae_bl; refine ad_cK ?_ ?_; exact ae_bl; refine ad_cK ?_ ?_; exact ae_non; refine ad_cK ?_ ?_; exact (ae_cb (t:=tNil) (pe_callTy call_str_int rfl T.n_str boot_str (ad_cons (ae_var (pv 1)) ad_nil)) vc_str); refine ad_cK ?_ ?_; exact (ae_tup (ad_cons (ae_var (pv 1)) ad_nil)); refine ad_cK ?_ ?_; exact (ae_o (ao_lst (ad_cons (ae_var (pv 1)) ad_nil))); refine ad_cK ?_ ?_; exact ae_dict0; refine ad_cK ?_ ?_; exact ae_str; refine ad_cK ?_ ?_; exact ae_int; exact ad_nil)))
 (ass_one (as_ret (ae_ix ix_seq vo_ix (ae_var (pv 2)) (ae_r (ar_call (c_law_draw T) (hr.mono (by decide)) rfl (aa_pen (pv 0) (aa_cons ae_int aa_nil)))) (fun _ _=>rfl)))))
noncomputable def q_is_line_1:List Sl→Tr PyData :=
 (aRe (aCall m_is_whole_within (aaCons (aVar 0) (aaCons (aC (.int 0)) (aaCons (aC (.int 1000)) aaNil)))))
noncomputable def m_is_line:List Sl→Tr Re:=aDef 1 0
 (aSeq (aIfS (aOr (aNot (aTru (aIsi "tuple" (aVar 0)))) (aNot (aTest (aChain (cmpD fun i j=>decide (i≤j)) (cmpD fun i j=>decide (i≤j)) (aC (.int 1)) (aCB lenD (aCons (aVar 0) aNil)) (aC (.int 3))))))
  (aRet (aC (.bool false)))
  aSkip)
 (aRet (aCB allD (aCons (aLst (aLc (aIt (aVar 0)) 1 [] (gSet 0) q_is_line_1)) aNil))))
set_option maxHeartbeats 2000000 in
theorem c_is_line (T:Txt K mg):ACal (PK2 cn) P w K mg base "is_line" 3 ["thing"] m_is_line:=acal_of T.d_is_line sc_is_line rfl fun f cdv A outer sh H E hr=>by
  exact (ass_cons (as_if (at_w (aw_or (at_not (at_tru (ae_isi (T:="tuple") (Or.inr (Or.inr (Or.inr (Or.inr (Or.inl rfl))))) rfl (pe_callB call_isi rfl T.n_isinstance boot_isinstance (pa_cons (ae_var (pv 0)) (pa_cons (pe_bltn (v:=.ty "tuple") rfl T.n_tuple boot_tuple rfl) pa_nil)))))) (aw_or1 (at_not (at_chain op_le vo_cmp op_le vo_cmp ae_int (ae_cb (t:=tNil) (pe_callB call_len_seq rfl T.n_len boot_len (ad_cons (ae_var (pv 0)) ad_nil)) vc_len) (ae_gint rfl T.g_MOST_DOUBLE))))))
  (ass_one (as_ret ae_bl))
  ass_nil)
 (ass_one (as_ret (ae_cb (t:=tNil) (pe_callB (call_allD rfl) rfl T.n_all boot_all (ad_cons (ae_o (ao_lc (pe_lc N_is_line ["weight"] [] rfl (ai_seq (ae_var (pv 0))) (fun b=>(ag_name (pg_name (i:=0) (show ((bN N_is_line ["weight"] [])).Nodup by decide +kernel) rfl (Or.inl rfl)))) (fun b=>(ae_r (ar_call (c_is_whole_within T) (hr.mono (by decide)) rfl (aa_cons (ae_var (pv 0)) (aa_cons ae_int (aa_cons (ae_gint rfl T.g_MOST_WEIGHT) aa_nil)))))) rfl (show BlkOk N_is_line (defScope s_is_line) _ [] from ⟨rfl,by decide +kernel,by decide +kernel,by decide +kernel,by decide +kernel⟩)) (pres_set (by decide)))) ad_nil)) vc_all))))
noncomputable def q_law_double_1:List Sl→Tr PyData :=
 (aRe (aCall m_law_double_day (aaPen 1 aaNil)))
noncomputable def m_law_double:List Sl→Tr Re:=aDef 1 0
 (aRet (aCB tupD (aCons (aLst (aLc (aRng1 (aCons (aBin addD (aC (.int 1)) (aRe (aCall m_law_draw (aaPen 0 (aaCons (aC (.int 3)) aaNil))))) aNil)) 1 [0] (gSet 0) q_law_double_1)) aNil)))
set_option maxHeartbeats 2000000 in
theorem c_law_double (T:Txt K mg):ACal (PK2 cn) P w K mg base "_law_double" 3 ["_law_pen_here"] m_law_double:=acal_of T.d__law_double sc__law_double rfl fun f cdv A outer sh H E hr=>by
  exact (ass_one (as_ret (ae_cb (t:=tNil) (pe_callTy call_tuple_of rfl T.n_tuple boot_tuple (ad_cons (ae_o (ao_lc (pe_lc N__law_double ["_law_k"] [0] rfl (ai_rng1 (pi_range1 rfl T.n_range (ad_cons (ae_op op_addD vo_add ae_int (ae_r (ar_call (c_law_draw T) (hr.mono (by decide)) rfl (aa_pen (pv 0) (aa_cons ae_int aa_nil))))) ad_nil))) (fun b=>(ag_name (pg_name (i:=0) (show ((bN N__law_double ["_law_k"] [0])).Nodup by decide +kernel) rfl (Or.inl rfl)))) (fun b=>(ae_r (ar_call (c_law_double_day T) (hr.mono (by decide)) rfl (aa_pen (pv 1) aa_nil)))) rfl (show BlkOk N__law_double (defScope s__law_double) _ [0] from ⟨rfl,by decide +kernel,by decide +kernel,by decide +kernel,by decide +kernel⟩)) (pres_set (by decide)))) ad_nil)) vc_tup)))
noncomputable def q_law_is_double_1:List Sl→Tr PyData :=
 (aVar 0)
noncomputable def p_law_is_double_1:List Sl→Tr Bool :=
 (aNot (aTru (aRe (aCall m_law_is_day (aaCons (aVar 0) aaNil)))))
noncomputable def m_law_is_double:List Sl→Tr Re:=aDef 1 0
 (aSeq (aIfS (aOr (aNot (aTru (aIsi "tuple" (aVar 0)))) (aTest (aBin (inD true) (aCB lenD (aCons (aVar 0) aNil)) (aTup (aCons (aC (.int 1)) (aCons (aC (.int 2)) (aCons (aC (.int 3)) aNil)))))))
  (aRet (aC (.bool false)))
  aSkip)
 (aRet (aBin eqN (aLst (aLcif (aIt (aVar 0)) 1 [] (gSet 0) p_law_is_double_1 q_law_is_double_1)) (aLst (aLo aNil)))))
set_option maxHeartbeats 2000000 in
theorem c_law_is_double (T:Txt K mg):ACal (PK2 cn) P w K mg base "_law_is_double" 3 ["_law_thing"] m_law_is_double:=acal_of T.d__law_is_double sc__law_is_double rfl fun f cdv A outer sh H E hr=>by
  exact (ass_cons (as_if (at_w (aw_or (at_not (at_tru (ae_isi (T:="tuple") (Or.inr (Or.inr (Or.inr (Or.inr (Or.inl rfl))))) rfl (pe_callB call_isi rfl T.n_isinstance boot_isinstance (pa_cons (ae_var (pv 0)) (pa_cons (pe_bltn (v:=.ty "tuple") rfl T.n_tuple boot_tuple rfl) pa_nil)))))) (aw_or1 (at_cmp op_notIn_seq vo_in (ae_cb (t:=tNil) (pe_callB call_len_seq rfl T.n_len boot_len (ad_cons (ae_var (pv 0)) ad_nil)) vc_len) (ae_tup (ad_cons ae_int (ad_cons ae_int (ad_cons ae_int ad_nil)))) (by with_unfolding_all rfl)))))
  (ass_one (as_ret ae_bl))
  ass_nil)
 (ass_one (as_ret (ae_cmp (op_eqN hr) vo_eqN (ae_o (ao_lcif (pe_lcif N__law_is_double ["_law_one"] [] rfl (ai_seq (ae_var (pv 0))) (fun b=>(ag_name (pg_name (i:=0) (show ((bN N__law_is_double ["_law_one"] [])).Nodup by decide +kernel) rfl (Or.inl rfl)))) (fun b=>(at_not (at_tru (ae_r (ar_call (c_law_is_day T) (hr.mono (by decide)) rfl (aa_cons (ae_var (pv 0)) aa_nil)))))) (fun b=>(ae_var (pv 0))) rfl (show BlkOk N__law_is_double (defScope s__law_is_double) _ [] from ⟨rfl,by decide +kernel,by decide +kernel,by decide +kernel,by decide +kernel⟩)) (pres_set (by decide)))) (ae_o (ao_lst ad_nil)) (nomark _)))))
noncomputable def m_law_bent_line:List Sl→Tr Re:=aDef 2 3
 (aSeq (aSet 2 (aRe (aCall m_law_draw (aaPen 0 (aaCons (aC (.int 8)) aaNil)))))
 (aSeq (aSet 3 (aRe (aCall m_law_draw (aaPen 0 (aaCons (aCB lenD (aCons (aVar 1) aNil)) aaNil)))))
 (aSeq (aSet 4 (aRe (aCall m_law_odd (aaPen 0 (aaCons (aBin ixD (aVar 1) (aVar 3)) aaNil)))))
 (aSeq (aIfS (aTest (aBin (cmpD fun i j=>decide (i < j)) (aVar 2) (aC (.int 3))))
  (aRet (aBin addE (aBin addE (aSl (aVar 1) aP0 (aP1 (aVar 3))) (aTup (aCons (aVar 4) aNil))) (aSl (aVar 1) (aP1 (aBin addD (aVar 3) (aC (.int 1)))) aP0)))
  aSkip)
 (aRet (aBin ixD (aLst (aLo (aCons (aBin addE (aVar 1) (aTup (aCons (aC (.int 1)) aNil))) (aCons (aBin addE (aSl (aVar 1) aP0 (aP1 (aVar 3))) (aSl (aVar 1) (aP1 (aBin addD (aVar 3) (aC (.int 1)))) aP0)) (aCons (aLst (aCBo lstD (aCons (aVar 1) aNil))) (aCons (aBin repD (aTup (aCons (aC (.int 0)) aNil)) (aCB lenD (aCons (aVar 1) aNil))) (aCons (aVar 4) aNil))))))) (aBin subD (aVar 2) (aC (.int 3)))))))))
set_option maxHeartbeats 2000000 in
theorem c_law_bent_line (T:Txt K mg):ACal (PK2 cn) P w K mg base "_law_bent_line" 3 ["_law_pen_here","_law_line"] m_law_bent_line:=acal_of T.d__law_bent_line sc__law_bent_line rfl fun f cdv A outer sh H E hr=>by
  exact (ass_cons (as_set (ps_set (i:=2) sc__law_bent_line.nd rfl (Or.inl rfl) (ae_r (ar_call (c_law_draw T) (hr.mono (by decide)) rfl (aa_pen (pv 0) (aa_cons ae_int aa_nil))))))
 (ass_cons (as_set (ps_set (i:=3) sc__law_bent_line.nd rfl (Or.inl rfl) (ae_r (ar_call (c_law_draw T) (hr.mono (by decide)) rfl (aa_pen (pv 0) (aa_cons (ae_cb (t:=tNil) (pe_callB call_len_seq rfl T.n_len boot_len (ad_cons (ae_var (pv 1)) ad_nil)) vc_len) aa_nil))))))
 (ass_cons (as_set (ps_set (i:=4) sc__law_bent_line.nd rfl (Or.inl rfl) (ae_r (ar_call (c_law_odd T) (hr.mono (by decide)) rfl (aa_pen (pv 0) (aa_cons (ae_ix ix_seq vo_ix (ae_var (pv 1)) (ae_var (pv 3)) (fun _ _=>rfl)) aa_nil))))))
 (ass_cons (as_if (at_cmp op_lt vo_cmp (ae_var (pv 2)) ae_int (nomark _))
  (ass_one (as_ret (ae_op op_addE vo_addE (ae_op op_addE vo_addE (ae_sl (ae_var (pv 1)) ap_none (ap_some (ae_var (pv 3)))) (ae_tup (ad_cons (ae_var (pv 4)) ad_nil))) (ae_sl (ae_var (pv 1)) (ap_some (ae_op op_addD vo_add (ae_var (pv 3)) ae_int)) ap_none))))
  ass_nil)
 (ass_one (as_ret (ae_ix ix_seq vo_ix (by refine ae_o ?_; refine ao_lst ?_; refine ad_cK ?_ ?_; exact (ae_op op_addE vo_addE (ae_var (pv 1)) (ae_tup (ad_cons ae_int ad_nil))); refine ad_cK ?_ ?_; exact (ae_op op_addE vo_addE (ae_sl (ae_var (pv 1)) ap_none (ap_some (ae_var (pv 3)))) (ae_sl (ae_var (pv 1)) (ap_some (ae_op op_addD vo_add (ae_var (pv 3)) ae_int)) ap_none)); refine ad_cK ?_ ?_; exact (ae_o (ao_cb (t:=tNil) (pe_callTy call_list_of rfl T.n_list boot_list (ad_cons (ae_var (pv 1)) ad_nil)) vc_lst)); refine ad_cK ?_ ?_; exact (ae_op op_repE vo_rep (ae_tup (ad_cons ae_int ad_nil)) (ae_cb (t:=tNil) (pe_callB call_len_seq rfl T.n_len boot_len (ad_cons (ae_var (pv 1)) ad_nil)) vc_len)); refine ad_cK ?_ ?_; exact (ae_var (pv 4)); exact ad_nil) (ae_op op_sub vo_sub (ae_var (pv 2)) ae_int) (fun _ _=>rfl))))))))
noncomputable def q_is_double_day_1:List Sl→Tr PyData :=
 (aRe (aCall m_is_line (aaCons (aVar 0) aaNil)))
noncomputable def q_is_double_day_2:List Sl→Tr PyData :=
 (aBin eqD (aCB lenD (aCons (aVar 0) aNil)) (aCB lenD (aCons (aBin ixD (aVar 1) (aC (.int 0))) aNil)))
noncomputable def m_is_double_day:List Sl→Tr Re:=aDef 1 0
 (aSeq (aIfS (aOr (aNot (aTru (aIsi "tuple" (aVar 0)))) (aNot (aTest (aChain (cmpD fun i j=>decide (i≤j)) (cmpD fun i j=>decide (i≤j)) (aC (.int 1)) (aCB lenD (aCons (aVar 0) aNil)) (aC (.int 3))))))
  (aRet (aC (.bool false)))
  aSkip)
 (aSeq (aIfS (aNot (aTru (aCB allD (aCons (aLst (aLc (aIt (aVar 0)) 1 [] (gSet 0) q_is_double_day_1)) aNil))))
  (aRet (aC (.bool false)))
  aSkip)
 (aRet (aAndV (aCB allD (aCons (aLst (aLc (aIt (aVar 0)) 1 [0] (gSet 0) q_is_double_day_2)) aNil)) (aBin (cmpD fun i j=>decide (i > j)) (aRe (aCall m_day_scale (aaCons (aVar 0) aaNil))) (aC (.int 0)))))))
set_option maxHeartbeats 2000000 in
theorem c_is_double_day (T:Txt K mg):ACal (PK2 cn) P w K mg base "is_double_day" 4 ["thing"] m_is_double_day:=acal_of T.d_is_double_day sc_is_double_day rfl fun f cdv A outer sh H E hr=>by
  exact (ass_cons (as_if (at_w (aw_or (at_not (at_tru (ae_isi (T:="tuple") (Or.inr (Or.inr (Or.inr (Or.inr (Or.inl rfl))))) rfl (pe_callB call_isi rfl T.n_isinstance boot_isinstance (pa_cons (ae_var (pv 0)) (pa_cons (pe_bltn (v:=.ty "tuple") rfl T.n_tuple boot_tuple rfl) pa_nil)))))) (aw_or1 (at_not (at_chain op_le vo_cmp op_le vo_cmp ae_int (ae_cb (t:=tNil) (pe_callB call_len_seq rfl T.n_len boot_len (ad_cons (ae_var (pv 0)) ad_nil)) vc_len) (ae_gint rfl T.g_MOST_DOUBLE))))))
  (ass_one (as_ret ae_bl))
  ass_nil)
 (ass_cons (as_if (at_not (at_tru (ae_cb (t:=tNil) (pe_callB (call_allD rfl) rfl T.n_all boot_all (ad_cons (ae_o (ao_lc (pe_lc N_is_double_day ["line"] [] rfl (ai_seq (ae_var (pv 0))) (fun b=>(ag_name (pg_name (i:=0) (show ((bN N_is_double_day ["line"] [])).Nodup by decide +kernel) rfl (Or.inl rfl)))) (fun b=>(ae_r (ar_call (c_is_line T) (hr.mono (by decide)) rfl (aa_cons (ae_var (pv 0)) aa_nil)))) rfl (show BlkOk N_is_double_day (defScope s_is_double_day) _ [] from ⟨rfl,by decide +kernel,by decide +kernel,by decide +kernel,by decide +kernel⟩)) (pres_set (by decide)))) ad_nil)) vc_all)))
  (ass_one (as_ret ae_bl))
  ass_nil)
 (ass_one (as_ret (ae_and (ae_cb (t:=tNil) (pe_callB (call_allD rfl) rfl T.n_all boot_all (ad_cons (ae_o (ao_lc (pe_lc N_is_double_day ["line"] [0] rfl (ai_seq (ae_var (pv 0))) (fun b=>(ag_name (pg_name (i:=0) (show ((bN N_is_double_day ["line"] [0])).Nodup by decide +kernel) rfl (Or.inl rfl)))) (fun b=>(ae_cmp (op_eqA hr) vo_eq (ae_cb (t:=tNil) (pe_callB call_len_seq rfl T.n_len boot_len (ad_cons (ae_var (pv 0)) ad_nil)) vc_len) (ae_cb (t:=tNil) (pe_callB call_len_seq rfl T.n_len boot_len (ad_cons (ae_ix ix_seq vo_ix (ae_var (pv 1)) ae_int (fun _ _=>rfl)) ad_nil)) vc_len) (nomark _))) rfl (show BlkOk N_is_double_day (defScope s_is_double_day) _ [0] from ⟨rfl,by decide +kernel,by decide +kernel,by decide +kernel,by decide +kernel⟩)) (pres_set (by decide)))) ad_nil)) vc_all) (ae_one (ae_cmp op_gt vo_cmp (ae_r (ar_call (c_day_scale T) (hr.mono (by decide)) rfl (aa_cons (ae_var (pv 0)) aa_nil))) ae_int (nomark _))))))))
noncomputable def q_law_bent_day_1:List Sl→Tr PyData :=
 (aBin addE (aVar 0) (aTup (aCons (aC (.int 3)) aNil)))
noncomputable def q_law_bent_day_2:List Sl→Tr PyData :=
 (aBin repD (aTup (aCons (aC (.int 0)) aNil)) (aCB lenD (aCons (aBin ixD (aVar 1) (aC (.int 0))) aNil)))
noncomputable def m_law_bent_day:List Sl→Tr Re:=aDef 2 5
 (aSeq (aSet 2 (aRe (aCall m_law_draw (aaPen 0 (aaCons (aC (.int 8)) aaNil)))))
 (aSeq (aSet 3 (aRe (aCall m_law_draw (aaPen 0 (aaCons (aCB lenD (aCons (aVar 1) aNil)) aaNil)))))
 (aSeq (aSet 4 (aRe (aCall m_law_bent_line (aaPen 0 (aaCons (aBin ixD (aVar 1) (aVar 3)) aaNil)))))
 (aSeq (aIfS (aTest (aBin (cmpD fun i j=>decide (i < j)) (aVar 2) (aC (.int 4))))
  (aRet (aBin addE (aBin addE (aSl (aVar 1) aP0 (aP1 (aVar 3))) (aTup (aCons (aVar 4) aNil))) (aSl (aVar 1) (aP1 (aBin addD (aVar 3) (aC (.int 1)))) aP0)))
  aSkip)
 (aSeq (aSet 5 (aCB tupD (aCons (aLst (aLc (aIt (aVar 1)) 1 [] (gSet 0) q_law_bent_day_1)) aNil)))
 (aSeq (aSet 6 (aCB tupD (aCons (aLst (aLc (aIt (aVar 1)) 1 [1] (gSet 0) q_law_bent_day_2)) aNil)))
 (aRet (aBin ixD (aLst (aLo (aCons (aBin addD (aVar 1) (aSl (aVar 1) (aP1 (aVar 3)) (aP1 (aBin addD (aVar 3) (aC (.int 1)))))) (aCons (aBin addE (aSl (aVar 1) aP0 (aP1 (aVar 3))) (aSl (aVar 1) (aP1 (aBin addD (aVar 3) (aC (.int 1)))) aP0)) (aCons (aVar 5) (aCons (aVar 6) aNil)))))) (aBin subD (aVar 2) (aC (.int 4)))))))))))
set_option maxHeartbeats 2000000 in
theorem c_law_bent_day (T:Txt K mg):ACal (PK2 cn) P w K mg base "_law_bent_day" 4 ["_law_pen_here","_law_day"] m_law_bent_day:=acal_of T.d__law_bent_day sc__law_bent_day rfl fun f cdv A outer sh H E hr=>by
  exact (ass_cons (as_set (ps_set (i:=2) sc__law_bent_day.nd rfl (Or.inl rfl) (ae_r (ar_call (c_law_draw T) (hr.mono (by decide)) rfl (aa_pen (pv 0) (aa_cons ae_int aa_nil))))))
 (ass_cons (as_set (ps_set (i:=3) sc__law_bent_day.nd rfl (Or.inl rfl) (ae_r (ar_call (c_law_draw T) (hr.mono (by decide)) rfl (aa_pen (pv 0) (aa_cons (ae_cb (t:=tNil) (pe_callB call_len_seq rfl T.n_len boot_len (ad_cons (ae_var (pv 1)) ad_nil)) vc_len) aa_nil))))))
 (ass_cons (as_set (ps_set (i:=4) sc__law_bent_day.nd rfl (Or.inl rfl) (ae_r (ar_call (c_law_bent_line T) (hr.mono (by decide)) rfl (aa_pen (pv 0) (aa_cons (ae_ix ix_seq vo_ix (ae_var (pv 1)) (ae_var (pv 3)) (fun _ _=>rfl)) aa_nil))))))
 (ass_cons (as_if (at_cmp op_lt vo_cmp (ae_var (pv 2)) ae_int (nomark _))
  (ass_one (as_ret (ae_op op_addE vo_addE (ae_op op_addE vo_addE (ae_sl (ae_var (pv 1)) ap_none (ap_some (ae_var (pv 3)))) (ae_tup (ad_cons (ae_var (pv 4)) ad_nil))) (ae_sl (ae_var (pv 1)) (ap_some (ae_op op_addD vo_add (ae_var (pv 3)) ae_int)) ap_none))))
  ass_nil)
 (ass_cons (as_set (ps_set (i:=5) sc__law_bent_day.nd rfl (Or.inl rfl) (ae_cb (t:=tNil) (pe_callTy call_tuple_of rfl T.n_tuple boot_tuple (ad_cons (ae_o (ao_lc (pe_lc N__law_bent_day ["_law_line_here"] [] rfl (ai_seq (ae_var (pv 1))) (fun b=>(ag_name (pg_name (i:=0) (show ((bN N__law_bent_day ["_law_line_here"] [])).Nodup by decide +kernel) rfl (Or.inl rfl)))) (fun b=>(ae_op op_addE vo_addE (ae_var (pv 0)) (ae_tup (ad_cons ae_int ad_nil)))) rfl (show BlkOk N__law_bent_day (defScope s__law_bent_day) _ [] from ⟨rfl,by decide +kernel,by decide +kernel,by decide +kernel,by decide +kernel⟩)) (pres_set (by decide)))) ad_nil)) vc_tup)))
 (ass_cons (as_set (ps_set (i:=6) sc__law_bent_day.nd rfl (Or.inl rfl) (ae_cb (t:=tNil) (pe_callTy call_tuple_of rfl T.n_tuple boot_tuple (ad_cons (ae_o (ao_lc (pe_lc N__law_bent_day ["_law_line_here"] [1] rfl (ai_seq (ae_var (pv 1))) (fun b=>(ag_name (pg_name (i:=0) (show ((bN N__law_bent_day ["_law_line_here"] [1])).Nodup by decide +kernel) rfl (Or.inl rfl)))) (fun b=>(ae_op op_repE vo_rep (ae_tup (ad_cons ae_int ad_nil)) (ae_cb (t:=tNil) (pe_callB call_len_seq rfl T.n_len boot_len (ad_cons (ae_ix ix_seq vo_ix (ae_var (pv 1)) ae_int (fun _ _=>rfl)) ad_nil)) vc_len))) rfl (show BlkOk N__law_bent_day (defScope s__law_bent_day) _ [1] from ⟨rfl,by decide +kernel,by decide +kernel,by decide +kernel,by decide +kernel⟩)) (pres_set (by decide)))) ad_nil)) vc_tup)))
 (ass_one (as_ret (ae_ix ix_seq vo_ix (by refine ae_o ?_; refine ao_lst ?_; refine ad_cK ?_ ?_; exact (ae_op op_addD vo_add (ae_var (pv 1)) (ae_sl (ae_var (pv 1)) (ap_some (ae_var (pv 3))) (ap_some (ae_op op_addD vo_add (ae_var (pv 3)) ae_int)))); refine ad_cK ?_ ?_; exact (ae_op op_addE vo_addE (ae_sl (ae_var (pv 1)) ap_none (ap_some (ae_var (pv 3)))) (ae_sl (ae_var (pv 1)) (ap_some (ae_op op_addD vo_add (ae_var (pv 3)) ae_int)) ap_none)); refine ad_cK ?_ ?_; exact (ae_var (pv 5)); refine ad_cK ?_ ?_; exact (ae_var (pv 6)); exact ad_nil) (ae_op op_sub vo_sub (ae_var (pv 2)) ae_int) (fun _ _=>rfl))))))))))
noncomputable def q_is_double_1:List Sl→Tr PyData :=
 (aRe (aCall m_is_double_day (aaCons (aVar 0) aaNil)))
noncomputable def m_is_double:List Sl→Tr Re:=aDef 1 0
 (aSeq (aIfS (aOr (aNot (aTru (aIsi "tuple" (aVar 0)))) (aNot (aTest (aChain (cmpD fun i j=>decide (i≤j)) (cmpD fun i j=>decide (i≤j)) (aC (.int 1)) (aCB lenD (aCons (aVar 0) aNil)) (aC (.int 3))))))
  (aRet (aC (.bool false)))
  aSkip)
 (aRet (aCB allD (aCons (aLst (aLc (aIt (aVar 0)) 1 [] (gSet 0) q_is_double_1)) aNil))))
set_option maxHeartbeats 2000000 in
theorem c_is_double (T:Txt K mg):ACal (PK2 cn) P w K mg base "is_double" 5 ["thing"] m_is_double:=acal_of T.d_is_double sc_is_double rfl fun f cdv A outer sh H E hr=>by
  exact (ass_cons (as_if (at_w (aw_or (at_not (at_tru (ae_isi (T:="tuple") (Or.inr (Or.inr (Or.inr (Or.inr (Or.inl rfl))))) rfl (pe_callB call_isi rfl T.n_isinstance boot_isinstance (pa_cons (ae_var (pv 0)) (pa_cons (pe_bltn (v:=.ty "tuple") rfl T.n_tuple boot_tuple rfl) pa_nil)))))) (aw_or1 (at_not (at_chain op_le vo_cmp op_le vo_cmp ae_int (ae_cb (t:=tNil) (pe_callB call_len_seq rfl T.n_len boot_len (ad_cons (ae_var (pv 0)) ad_nil)) vc_len) (ae_gint rfl T.g_MOST_DOUBLE))))))
  (ass_one (as_ret ae_bl))
  ass_nil)
 (ass_one (as_ret (ae_cb (t:=tNil) (pe_callB (call_allD rfl) rfl T.n_all boot_all (ad_cons (ae_o (ao_lc (pe_lc N_is_double ["day"] [] rfl (ai_seq (ae_var (pv 0))) (fun b=>(ag_name (pg_name (i:=0) (show ((bN N_is_double ["day"] [])).Nodup by decide +kernel) rfl (Or.inl rfl)))) (fun b=>(ae_r (ar_call (c_is_double_day T) (hr.mono (by decide)) rfl (aa_cons (ae_var (pv 0)) aa_nil)))) rfl (show BlkOk N_is_double (defScope s_is_double) _ [] from ⟨rfl,by decide +kernel,by decide +kernel,by decide +kernel,by decide +kernel⟩)) (pres_set (by decide)))) ad_nil)) vc_all))))
noncomputable def m_law_bent:List Sl→Tr Re:=aDef 2 3
 (aSeq (aSet 2 (aRe (aCall m_law_draw (aaPen 0 (aaCons (aC (.int 9)) aaNil)))))
 (aSeq (aSet 3 (aRe (aCall m_law_draw (aaPen 0 (aaCons (aCB lenD (aCons (aVar 1) aNil)) aaNil)))))
 (aSeq (aSet 4 (aRe (aCall m_law_bent_day (aaPen 0 (aaCons (aBin ixD (aVar 1) (aVar 3)) aaNil)))))
 (aSeq (aIfS (aTest (aBin (cmpD fun i j=>decide (i < j)) (aVar 2) (aC (.int 5))))
  (aRet (aBin addE (aBin addE (aSl (aVar 1) aP0 (aP1 (aVar 3))) (aTup (aCons (aVar 4) aNil))) (aSl (aVar 1) (aP1 (aBin addD (aVar 3) (aC (.int 1)))) aP0)))
  aSkip)
 (aSeq (aIfS (aTest (aBin eqD (aVar 2) (aC (.int 5))))
  (aRet (aBin addE (aVar 1) (aTup (aCons (aVar 4) aNil))))
  aSkip)
 (aSeq (aIfS (aTest (aBin eqD (aVar 2) (aC (.int 6))))
  (aRet (aBin addE (aSl (aVar 1) aP0 (aP1 (aVar 3))) (aSl (aVar 1) (aP1 (aBin addD (aVar 3) (aC (.int 1)))) aP0)))
  aSkip)
 (aSeq (aIfS (aTest (aBin eqD (aVar 2) (aC (.int 7))))
  (aRet (aBin addE (aBin addE (aSl (aVar 1) aP0 (aP1 (aVar 3))) (aTup (aCons (aLst (aCBo lstD (aCons (aBin ixD (aVar 1) (aVar 3)) aNil))) aNil))) (aSl (aVar 1) (aP1 (aBin addD (aVar 3) (aC (.int 1)))) aP0)))
  aSkip)
 (aRet (aBin ixD (aLst (aLo (aCons (aLst (aCBo lstD (aCons (aVar 1) aNil))) (aCons (aC .none) (aCons (aC (.int 3)) (aCons (aC (.bool true)) (aCons (aC (.str "1")) (aCons (aC (.dict [])) (aCons (aTup aNil) (aCons (aLst (aLo aNil)) (aCons (aBin ixD (aVar 1) (aC (.int 0))) (aCons (aTup (aCons (aVar 1) aNil)) aNil)))))))))))) (aRe (aCall m_law_draw (aaPen 0 (aaCons (aC (.int 10)) aaNil)))))))))))))
set_option maxHeartbeats 2000000 in
theorem c_law_bent (T:Txt K mg):ACal (PK2 cn) P w K mg base "_law_bent" 5 ["_law_pen_here","_law_double_here"] m_law_bent:=acal_of T.d__law_bent sc__law_bent rfl fun f cdv A outer sh H E hr=>by
  exact (ass_cons (as_set (ps_set (i:=2) sc__law_bent.nd rfl (Or.inl rfl) (ae_r (ar_call (c_law_draw T) (hr.mono (by decide)) rfl (aa_pen (pv 0) (aa_cons ae_int aa_nil))))))
 (ass_cons (as_set (ps_set (i:=3) sc__law_bent.nd rfl (Or.inl rfl) (ae_r (ar_call (c_law_draw T) (hr.mono (by decide)) rfl (aa_pen (pv 0) (aa_cons (ae_cb (t:=tNil) (pe_callB call_len_seq rfl T.n_len boot_len (ad_cons (ae_var (pv 1)) ad_nil)) vc_len) aa_nil))))))
 (ass_cons (as_set (ps_set (i:=4) sc__law_bent.nd rfl (Or.inl rfl) (ae_r (ar_call (c_law_bent_day T) (hr.mono (by decide)) rfl (aa_pen (pv 0) (aa_cons (ae_ix ix_seq vo_ix (ae_var (pv 1)) (ae_var (pv 3)) (fun _ _=>rfl)) aa_nil))))))
 (ass_cons (as_if (at_cmp op_lt vo_cmp (ae_var (pv 2)) ae_int (nomark _))
  (ass_one (as_ret (ae_op op_addE vo_addE (ae_op op_addE vo_addE (ae_sl (ae_var (pv 1)) ap_none (ap_some (ae_var (pv 3)))) (ae_tup (ad_cons (ae_var (pv 4)) ad_nil))) (ae_sl (ae_var (pv 1)) (ap_some (ae_op op_addD vo_add (ae_var (pv 3)) ae_int)) ap_none))))
  ass_nil)
 (ass_cons (as_if (at_cmp (op_eqA hr) vo_eq (ae_var (pv 2)) ae_int (nomark _))
  (ass_one (as_ret (ae_op op_addE vo_addE (ae_var (pv 1)) (ae_tup (ad_cons (ae_var (pv 4)) ad_nil)))))
  ass_nil)
 (ass_cons (as_if (at_cmp (op_eqA hr) vo_eq (ae_var (pv 2)) ae_int (nomark _))
  (ass_one (as_ret (ae_op op_addE vo_addE (ae_sl (ae_var (pv 1)) ap_none (ap_some (ae_var (pv 3)))) (ae_sl (ae_var (pv 1)) (ap_some (ae_op op_addD vo_add (ae_var (pv 3)) ae_int)) ap_none))))
  ass_nil)
 (ass_cons (as_if (at_cmp (op_eqA hr) vo_eq (ae_var (pv 2)) ae_int (nomark _))
  (ass_one (as_ret (ae_op op_addE vo_addE (ae_op op_addE vo_addE (ae_sl (ae_var (pv 1)) ap_none (ap_some (ae_var (pv 3)))) (ae_tup (ad_cons (ae_o (ao_cb (t:=tNil) (pe_callTy call_list_of rfl T.n_list boot_list (ad_cons (ae_ix ix_seq vo_ix (ae_var (pv 1)) (ae_var (pv 3)) (fun _ _=>rfl)) ad_nil)) vc_lst)) ad_nil))) (ae_sl (ae_var (pv 1)) (ap_some (ae_op op_addD vo_add (ae_var (pv 3)) ae_int)) ap_none))))
  ass_nil)
 (ass_one (as_ret (ae_ix ix_seq vo_ix (by refine ae_o ?_; refine ao_lst ?_; refine ad_cK ?_ ?_; exact (ae_o (ao_cb (t:=tNil) (pe_callTy call_list_of rfl T.n_list boot_list (ad_cons (ae_var (pv 1)) ad_nil)) vc_lst)); refine ad_cK ?_ ?_; exact ae_non; refine ad_cK ?_ ?_; exact ae_int; refine ad_cK ?_ ?_; exact ae_bl; refine ad_cK ?_ ?_; exact ae_str; refine ad_cK ?_ ?_; exact ae_dict0; refine ad_cK ?_ ?_; exact (ae_tup ad_nil); refine ad_cK ?_ ?_; exact (ae_o (ao_lst ad_nil)); refine ad_cK ?_ ?_; exact (ae_ix ix_seq vo_ix (ae_var (pv 1)) ae_int (fun _ _=>rfl)); refine ad_cK ?_ ?_; exact (ae_tup (ad_cons (ae_var (pv 1)) ad_nil)); exact ad_nil) (ae_r (ar_call (c_law_draw T) (hr.mono (by decide)) rfl (aa_pen (pv 0) (aa_cons ae_int aa_nil)))) (fun _ _=>rfl)))))))))))
noncomputable def l_law_right_1:List Sl→Tr Ou :=
 (aIfS (aOr (aTest (aBin neD (aCB reprX (aCons (aRe (aCall m_is_double (aaCons (aVar 0) aaNil))) aNil)) (aCB reprX (aCons (aVar 2) aNil)))) (aTest (aBin neD (aCB reprX (aCons (aVar 0) aNil)) (aVar 1))))
  (aRet (aC (.bool false)))
  aSkip)
noncomputable def m_law_right:List Sl→Tr Re:=aDef 1 3
 (aSeq (aSet 1 (aCB reprX (aCons (aVar 0) aNil)))
 (aSeq (aSet 2 (aRe (aCall m_law_is_double (aaCons (aVar 0) aaNil))))
 (aSeq (aFor (aRng1 (aCons (aC (.int 2)) aNil)) (gSet 3) l_law_right_1)
 (aRet (aC (.bool true))))))
set_option maxHeartbeats 2000000 in
theorem c_law_right (T:Txt K mg):ACal (PK2 cn) P w K mg base "_law_right" 6 ["_law_thing"] m_law_right:=acal_of T.d__law_right sc__law_right rfl fun f cdv A outer sh H E hr=>by
  exact (ass_cons (as_set (ps_set (i:=1) sc__law_right.nd rfl (Or.inl rfl) (ae_cb (t:=tNil) (pe_callB (call_reprX hr) rfl T.n_repr boot_repr (ad_cons (ae_var (pv 0)) ad_nil)) vc_reprX)))
 (ass_cons (as_set (ps_set (i:=2) sc__law_right.nd rfl (Or.inl rfl) (ae_r (ar_call (c_law_is_double T) (hr.mono (by decide)) rfl (aa_cons (ae_var (pv 0)) aa_nil)))))
 (ass_cons (as_for PassesOwn.never rfl (ai_rng1 (pi_range1 rfl T.n_range (ad_cons ae_int ad_nil))) (ag_name (pg_name (i:=3) sc__law_right.nd rfl (Or.inl rfl)))
  (ass_one (as_if (at_w (aw_or (at_cmp (op_neA hr) vo_ne (ae_cb (t:=tNil) (pe_callB (call_reprX hr) rfl T.n_repr boot_repr (ad_cons (ae_r (ar_call (c_is_double T) (hr.mono (by decide)) rfl (aa_cons (ae_var (pv 0)) aa_nil))) ad_nil)) vc_reprX) (ae_cb (t:=tNil) (pe_callB (call_reprX hr) rfl T.n_repr boot_repr (ad_cons (ae_var (pv 2)) ad_nil)) vc_reprX) (nomark _)) (aw_or1 (at_cmp (op_neA hr) vo_ne (ae_cb (t:=tNil) (pe_callB (call_reprX hr) rfl T.n_repr boot_repr (ad_cons (ae_var (pv 0)) ad_nil)) vc_reprX) (ae_var (pv 1)) (nomark _)))))
  (ass_one (as_ret ae_bl))
  ass_nil)))
 (ass_one (as_ret ae_bl)))))
noncomputable def l_law_1:List Sl→Tr Ou :=
 (aSeq (aSet 5 (aRe (aCall m_law_bent (aaPen 1 (aaCons (aVar 3) aaNil)))))
 (aSeq (aIfS (aNot (aTru (aRe (aCall m_law_right (aaCons (aVar 5) aaNil)))))
  (aRet (aC (.bool false)))
  aSkip)
 (aIfS (aAnd (aTru (aRe (aCall m_law_is_double (aaCons (aVar 5) aaNil)))) (aNot (aTru (aRe (aCall m_law_right (aaCons (aRe (aCall m_law_bent (aaPen 1 (aaCons (aVar 5) aaNil)))) aaNil))))))
  (aRet (aC (.bool false)))
  aSkip)))
noncomputable def l_law_2:List Sl→Tr Ou :=
 (aSeq (aSet 3 (aRe (aCall m_law_double (aaPen 1 aaNil))))
 (aSeq (aIfS (aTest (aBin isnBD (aRe (aCall m_is_double (aaCons (aVar 3) aaNil))) (aC (.bool true))))
  (aRet (aC (.bool false)))
  aSkip)
 (aFor (aRng1 (aCons (aC (.int 4)) aNil)) (gSet 4) l_law_1)))
noncomputable def m_law:List Sl→Tr Ou :=
 (aSeq (aFor (aRng1 (aCons (aC (.int 4)) aNil)) (gSet 2) l_law_2)
 (aRet (aC (.bool true))))
noncomputable abbrev law0:List Sl:=.un::.pen::List.replicate 4 .un
set_option maxHeartbeats 4000000 in
theorem ok_law (T:Txt K mg) {f:Addr} {fd:FuncData} (F:Fun K "law" "law" s_law f fd) (hl:(m_law law0).ok 0 fun _ o=>o=.ret (.d (.bool true))):FnOk P w K mg base CX0 7 f fd ["_law_script"] (spLaw K):=by
  refine F.ok sc_law (fun vs H Q E h=>?_) (fun cdv A outer s H vs Q E hr h=>?_)
  · obtain ⟨a,ns,rfl,_⟩:=h
    rfl
  · obtain ⟨a,ns,rfl,hS,hlen,k⟩:=h
    have hu:=hu_of hr
    refine ⟨_,(pss_cons (ps_set (i:=1) sc_law.nd rfl (Or.inl rfl) (pe_callC (ok_pen T) (hr.mono (by decide)) rfl (pa_cons (pv 0) pa_nil)))
 (pss_ex (t:=fun cn=>TAs (PK2 cn) m_law) fun cn=>(ass_cons (as_for PassesOwn.never rfl (ai_rng1 (pi_range1 rfl T.n_range (ad_cons ae_int ad_nil))) (ag_name (pg_name (i:=2) sc_law.nd rfl (Or.inl rfl)))
  (ass_cons (as_set (ps_set (i:=3) sc_law.nd rfl (Or.inl rfl) (ae_r (ar_call (c_law_double T) (hr.mono (by decide)) rfl (aa_pen (pv 1) aa_nil)))))
 (ass_cons (as_if (at_cmp op_isnotB vo_isnB (ae_r (ar_call (c_is_double T) (hr.mono (by decide)) rfl (aa_cons (ae_var (pv 3)) aa_nil))) ae_bl (nomark _))
  (ass_one (as_ret ae_bl))
  ass_nil)
 (ass_one (as_for PassesOwn.never rfl (ai_rng1 (pi_range1 rfl T.n_range (ad_cons ae_int ad_nil))) (ag_name (pg_name (i:=4) sc_law.nd rfl (Or.inl rfl)))
  (ass_cons (as_set (ps_set (i:=5) sc_law.nd rfl (Or.inl rfl) (ae_r (ar_call (c_law_bent T) (hr.mono (by decide)) rfl (aa_pen (pv 1) (aa_cons (ae_var (pv 3)) aa_nil))))))
 (ass_cons (as_if (at_not (at_tru (ae_r (ar_call (c_law_right T) (hr.mono (by decide)) rfl (aa_cons (ae_var (pv 5)) aa_nil)))))
  (ass_one (as_ret ae_bl))
  ass_nil)
 (ass_one (as_if (at_w (aw_and (at_tru (ae_r (ar_call (c_law_is_double T) (hr.mono (by decide)) rfl (aa_cons (ae_var (pv 5)) aa_nil)))) (aw_and1 (at_not (at_tru (ae_r (ar_call (c_law_right T) (hr.mono (by decide)) rfl (aa_cons (ae_r (ar_call (c_law_bent T) (hr.mono (by decide)) rfl (aa_pen (pv 1) (aa_cons (ae_var (pv 5)) aa_nil)))) aa_nil))))))))
  (ass_one (as_ret ae_bl))
  ass_nil)))))))))
 (ass_one (as_ret ae_bl))))),?_⟩
    refine ⟨_,rfl,a,ns,rfl,hS,hlen,fun p c H' hp hP hs=>?_⟩
    exact law_start (n:=4) hP rfl rfl (fun H'=>k H') hl
end
end My
set_option Elab.async false
set_option linter.all false
set_option maxRecDepth 100000
set_option exponentiation.threshold 9000
local macro_rules | `(tactic| simp_arith [$ls,*] $[$loc]?) => do let b : Lean.TSyntaxArray ``Lean.Parser.Tactic.simpLemma ← (("L2.ev_var0 L2.ev_varS L2.ev_C L2.ev_bin L2.ev_bin1 L2.ev_add L2.ev_addT L2.ev_addL L2.ev_sub L2.ev_cmp L2.ev_eqI L2.ev_neI L2.ev_eqB L2.ev_eqS L2.ev_neS L2.ev_isnB L2.ev_ixL L2.ev_ixT L2.at_0 L2.at_1 L2.at_2 L2.at_3 L2.at_4 L2.at_5 L2.at_6 L2.at_7 L2.at_8 L2.ev_neg L2.ev_neg1 L2.ev_test L2.ev_tst1 L2.ev_tru L2.ev_truB L2.ev_truI L2.ev_truL L2.ev_truT L2.ev_truN L2.ev_and L2.ev_or L2.ev_not L2.ev_and1t L2.ev_and1f L2.ev_or1t L2.ev_or1f L2.ev_not1 L2.ev_andV L2.ev_notV L2.ev_andV1t L2.ev_andV1f L2.ev_notV1 L2.ev_chain L2.ev_ch1 L2.ev_ch2 L2.ev_ch3 L2.ev_ch4t L2.ev_ch4f L2.ev_nil L2.ev_cons L2.ev_cons1 L2.ev_cons2 L2.ev_tup L2.ev_tup1 L2.ev_lst L2.ev_lst1 L2.ev_lo L2.ev_lo1 L2.small_le L2.ev_cb L2.ev_cbo L2.ev_lenL L2.ev_lenT L2.ev_tupL L2.ev_tupT L2.ev_lstL L2.ev_lstT L2.ev_sumL L2.ev_sumT L2.ev_maxL L2.ev_allL L2.ev_isi L2.ev_isi1 L2.ev_sl L2.ev_sl1 L2.ev_sl2 L2.ev_sl3L L2.ev_sl3T L2.ev_p0 L2.ev_p1 L2.ev_pa1 L2.ev_aaNil L2.ev_aaCons L2.ev_aa1 L2.ev_aa2 L2.ev_pen0 L2.ev_penS L2.ev_aaPen L2.ev_aap L2.ev_call L2.ev_re L2.ev_re1 L2.ev_def L2.ev_finN L2.ev_finR L2.ev_seq L2.ev_seqN L2.ev_seqR L2.ev_seqB L2.ev_seqC L2.ev_skip L2.ev_ifs L2.ev_ifst L2.ev_ifsf L2.ev_ret L2.ev_ret1 L2.ev_set L2.ev_set1 L2.ls_0 L2.ls_S L2.g_set L2.g_some L2.ev_it L2.ev_it1L L2.ev_it1T L2.ev_rng1 L2.ev_for L2.ev_for1 L2.for_nil L2.ev_for2 L2.ev_for3n L2.ev_for3c L2.ev_for3b L2.ev_for3r L2.ev_lc L2.ev_lc1 L2.ev_lc2 L2.mt_nil L2.mt_cons L2.mt_1 L2.mt_2 L2.ev_in0 L2.ev_lcif L2.ev_lci1 L2.ev_lci2 L2.ev_ifE L2.ev_if2t L2.ev_if2f L2.ev_if3 L2.ev_addE0 L2.ev_addE1 L2.rb2 L2.Tr.of_some L2.Tr.bind_assoc L2.Tr.draw_bind List.cons_append List.nil_append List.replicate_succ List.replicate_zero List.length_cons List.length_nil L2.Re.val_d L2.Re.val_own L2.blk L2.blS List.map_cons List.map_nil List.getElem?_cons_zero List.getElem?_cons_succ Option.getD_some Nat.reduceAdd Nat.reduceLeDiff List.isEmpty_cons".splitOn " ").toArray.map fun s => Lean.mkIdent s.toName).mapM fun i => `(Lean.Parser.Tactic.simpLemma| $i:ident); `(tactic| simp only [$b,*, $ls,*] $[$loc]?)
namespace My
open PySem PySem.Spec PyProof.Rows L2 Tw
noncomputable def isWh:PyData→Bool
  | .int _=>true
  | _=>false
noncomputable def wiB (x:PyData) (a b:Int):Bool:=match x with
  | .int n=>decide (a≤n) && decide (n≤b)
  | _=>false
noncomputable def L1 (x:PyData):Prop:=∀ xs,x=.tuple xs→xs.length≤200
noncomputable def T2 (x:PyData):Prop:=∀ xs,x=.tuple xs→xs.length≤200∧∀ y∈xs,L1 y
noncomputable def T3 (x:PyData):Prop:=∀ xs,x=.tuple xs→xs.length≤200∧∀ y∈xs,T2 y
noncomputable def len3 (n:Nat):Bool:=decide (1≤n) && decide (n≤3)
noncomputable def lnB:PyData→Bool
  | .tuple xs=>len3 xs.length && xs.all (fun x=>wiB x 0 1000)
  | _=>false
theorem lnB_tup (xs:List PyData):lnB (.tuple xs)=(len3 xs.length && xs.all (fun x=>wiB x 0 1000)):=rfl
noncomputable def lenP:PyData→Int
  | .tuple zs=>zs.length
  | _=>0
noncomputable def sumI:List PyData→Int
  | []=>0
  | .int n::xs=>n+sumI xs
  | _::xs=>sumI xs
noncomputable def sumP:PyData→Int
  | .tuple zs=>sumI zs
  | _=>0
noncomputable def sameL (xs:List PyData) (y:PyData):Bool:=lenP y == lenP (xs.headD .none)
noncomputable def dyB:PyData→Bool
  | .tuple xs=>len3 xs.length && (xs.all lnB && (xs.all (sameL xs) && decide ((xs.map sumP).sum > 0)))
  | _=>false
theorem dyB_tup (xs:List PyData):dyB (.tuple xs)=(len3 xs.length && (xs.all lnB && (xs.all (sameL xs) && decide ((xs.map sumP).sum > 0)))):=rfl
noncomputable def dbB:PyData→Bool
  | .tuple xs=>len3 xs.length && xs.all dyB
  | _=>false
theorem dbB_tup (xs:List PyData):dbB (.tuple xs)=(len3 xs.length && xs.all dyB):=rfl
theorem isi_no {x:PyData} (h:∀ xs,x≠.tuple xs):isiB "tuple" (tyD x)=false:=by
  cases x with
  | tuple xs=>exact absurd rfl (h xs)
  | none=>rfl
  | bool _=>rfl
  | int _=>rfl
  | str _=>rfl
  | list _=>rfl
  | dict _=>rfl
theorem isi_yes (xs:List PyData):isiB "tuple" (tyD (.tuple xs))=true:=rfl
theorem g_whole (x:PyData):m_is_whole [.d x]=.ret (.d (.bool (isWh x))):=by
  cases x <;> (simp_arith [m_is_whole]; rfl)
theorem g_within (x:PyData) (a b:Int):m_is_whole_within [.d x,.d (.int a),.d (.int b)]=.ret (.d (.bool (wiB x a b))):=by
  cases x with
  | int n =>
    have e:=g_whole (.int n)
    simp_arith [m_is_whole_within,e,isWh,wiB]
    cases h1:decide (a≤n) <;> cases h2:decide (n≤b) <;> simp_arith [h1,h2,Bool.true_and,Bool.false_and,Bool.and_true,Bool.and_false]
  | none=>have e:=g_whole .none; simp_arith [m_is_whole_within,e,isWh,wiB]
  | bool c=>have e:=g_whole (.bool c); simp_arith [m_is_whole_within,e,isWh,wiB]
  | str c=>have e:=g_whole (.str c); simp_arith [m_is_whole_within,e,isWh,wiB]
  | list c=>have e:=g_whole (.list c); simp_arith [m_is_whole_within,e,isWh,wiB]
  | tuple c=>have e:=g_whole (.tuple c); simp_arith [m_is_whole_within,e,isWh,wiB]
  | dict c=>have e:=g_whole (.dict c); simp_arith [m_is_whole_within,e,isWh,wiB]
theorem mapB {h:PyData→Tr PyData} {f:PyData→Bool}:∀ {xs:List PyData},(∀ x∈xs,h x=.ret (.bool (f x)))→mapT h xs=.ret ((xs.map f).map PyData.bool)
  | [],_=>rfl
  | x::xs,hx=>by
    rw [mapT,hx x List.mem_cons_self,Tr.ret_bind,mapB fun y hy=>hx y (List.mem_cons_of_mem _ hy)]
    rfl
theorem all_map {f:PyData→Bool}:∀ xs:List PyData,(xs.map f).all id=xs.all f
  | []=>rfl
  | x::xs=>by rw [List.map_cons,List.all_cons,List.all_cons,all_map xs]; rfl
theorem wi_int {x:PyData} {a b:Int} (h:wiB x a b=true):∃ n:Int,x=.int n∧a≤n∧n≤b:=by
  cases x with
  | int n =>
    have h':(decide (a≤n) && decide (n≤b))=true:=h
    rw [Bool.and_eq_true,decide_eq_true_eq,decide_eq_true_eq] at h'
    exact ⟨n,rfl,h'.1,h'.2⟩
  | _=>cases h
theorem ints_all {a b:Int}:∀ {xs:List PyData},xs.all (fun x=>wiB x a b)=true→∃ l:List Int,xs=l.map PyData.int∧(∀ n∈l,a≤n∧n≤b)
  | [],_=>⟨[],rfl,fun _ h=>nomatch h⟩
  | x::xs,h=>by
    rw [List.all_cons,Bool.and_eq_true] at h
    obtain ⟨n,rfl,h1,h2⟩:=wi_int h.1
    obtain ⟨l,rfl,hl⟩:=ints_all h.2
    refine ⟨n::l,rfl,fun k hk=>?_⟩
    rcases List.mem_cons.mp hk with e | e
    · subst e; exact ⟨h1,h2⟩
    · exact hl k e
theorem sumI_ints:∀ l:List Int,sumI (l.map PyData.int)=l.sum
  | []=>rfl
  | n::l=>by rw [List.map_cons,sumI,sumI_ints l,List.sum_cons]
theorem len3_i (n:Nat) (u v:Bool) (h1:decide ((1:Int)≤(n:Int))=u) (h2:decide ((n:Int)≤3)=v):len3 n=(u && v):=by
  subst h1 h2
  unfold len3
  rw [show decide (1≤n)=decide ((1:Int)≤(n:Int)) from decide_eq_decide.mpr (by omega),show decide (n≤3)=decide ((n:Int)≤3) from decide_eq_decide.mpr (by omega)]
noncomputable def lnOk (l:List Int):Prop:=1≤l.length∧l.length≤3∧∀ n∈l,0≤n∧n≤1000
theorem ln_ints {x:PyData} (h:lnB x=true):∃ l:List Int,x=tI l∧lnOk l:=by
  cases x with
  | tuple xs =>
    rw [lnB_tup,Bool.and_eq_true] at h
    obtain ⟨l,rfl,hl⟩:=ints_all h.2
    have h1:=h.1
    unfold len3 at h1
    rw [Bool.and_eq_true,decide_eq_true_eq,decide_eq_true_eq,List.length_map] at h1
    exact ⟨l,rfl,h1.1,h1.2,hl⟩
  | _=>cases h
theorem g_line {x:PyData} (hl:L1 x):m_is_line [.d x]=.ret (.d (.bool (lnB x))):=by
  by_cases ht:∃ xs,x=.tuple xs
  · obtain ⟨xs,rfl⟩:=ht
    have h200:=hl xs rfl
    have hs:small xs.length=true:=small_le (by omega)
    rw [lnB_tup]
    have e1:mapT (lc2 (gSet 0) q_is_line_1 [.un]) xs=.ret ((xs.map fun x=>wiB x 0 1000).map PyData.bool):=mapB fun y _=>by
      have e:=g_within y 0 1000
      simp_arith [q_is_line_1,e]
    cases h1:decide ((1:Int)≤(xs.length:Int))
    · rw [len3_i xs.length _ _ h1 rfl]
      simp_arith [m_is_line,isi_yes,h1,Bool.not_true,Bool.not_false,Bool.false_and]
    · cases h2:decide ((xs.length:Int)≤3)
      · rw [len3_i xs.length _ _ h1 h2]
        simp_arith [m_is_line,isi_yes,h1,h2,Bool.not_true,Bool.not_false,Bool.false_and,Bool.and_false]
      · rw [len3_i xs.length _ _ h1 h2]
        simp_arith [m_is_line,isi_yes,h1,h2,hs,e1,all_map,Bool.not_true,Bool.true_and]
  · have hn:=isi_no (x:=x) fun xs e=>ht ⟨xs,e⟩
    have hd:lnB x=false:=by
      cases x with
      | tuple xs=>exact absurd ⟨xs,rfl⟩ ht
      | _=>rfl
    rw [hd]
    simp_arith [m_is_line,hn,Bool.not_false]
theorem lns_ints:∀ {xs:List PyData},xs.all lnB=true→∃ L:List (List Int),xs=L.map tI∧∀ l∈L,lnOk l
  | [],_=>⟨[],rfl,fun _ h=>nomatch h⟩
  | x::xs,h=>by
    rw [List.all_cons,Bool.and_eq_true] at h
    obtain ⟨l,rfl,h1⟩:=ln_ints h.1
    obtain ⟨L,rfl,hL⟩:=lns_ints h.2
    refine ⟨l::L,rfl,fun k hk=>?_⟩
    rcases List.mem_cons.mp hk with e | e
    · subst e; exact h1
    · exact hL k e
theorem mapI {h:PyData→Tr PyData} {f:List Int→Int}:∀ {L:List (List Int)},(∀ l∈L,h (tI l)=.ret (.int (f l)))→mapT h (L.map tI)=.ret ((L.map f).map PyData.int)
  | [],_=>rfl
  | x::xs,hx=>by
    rw [List.map_cons,mapT,hx x List.mem_cons_self,Tr.ret_bind,mapI fun y hy=>hx y (List.mem_cons_of_mem _ hy)]
    rfl
theorem sumP_tI (l:List Int):sumP (tI l)=l.sum:=sumI_ints l
theorem sums_tI (L:List (List Int)):((L.map tI).map sumP).sum=(L.map List.sum).sum:=by
  rw [List.map_map]
  exact congrArg List.sum (List.map_congr_left fun l _=>sumP_tI l)
theorem g_scale {L:List (List Int)} (hl:L.length≤200):m_day_scale [.d (.tuple (L.map tI))]=.ret (.d (.int (L.map List.sum).sum)):=by
  have hs:small (L.map tI).length=true:=small_le (by rw [List.length_map]; omega)
  have e1:mapT (lc2 (gSet 0) q_day_scale_1 [.un]) (L.map tI)=.ret ((L.map List.sum).map PyData.int):=mapI fun l _=>by
    have e:=ev_sumT l
    simp_arith [q_day_scale_1,tI,e]
  have e2:=ev_sumL (L.map List.sum)
  simp_arith [m_day_scale,hs,e1,e2]
theorem at0 {x:PyData} {xs:List PyData}:atI (x::xs) 0=some x:=at_0
theorem len_tI (l:List Int):cb1 lenD [tI l]=.ret (.int l.length):=by
  show Tr.ret (PyData.int ((l.map PyData.int).length:Nat))=_
  rw [List.length_map]
theorem lenP_tI (l:List Int):lenP (tI l)=l.length:=by
  show (((l.map PyData.int).length:Nat):Int)=_
  rw [List.length_map]
theorem day_parts {xs:List PyData} (h1:decide ((1:Int)≤(xs.length:Int))=true) (h200:xs.length≤200) (h3:xs.all lnB=true) :
    ∃ l0:List Int,atI xs 0=some (tI l0)∧xs.headD .none=tI l0∧m_day_scale [.d (.tuple xs)]=.ret (.d (.int (xs.map sumP).sum))∧∀ y∈xs,∃ l,y=tI l∧lnOk l:=by
  obtain ⟨L,rfl,hL⟩:=lns_ints h3
  cases L with
  | nil=>cases h1
  | cons l0 L =>
    refine ⟨l0,at0,rfl,?_,fun y hy=>?_⟩
    · rw [sums_tI]
      exact g_scale (by rw [List.length_map] at h200; exact h200)
    · obtain ⟨l,hl,rfl⟩:=List.mem_map.mp hy
      exact ⟨l,rfl,hL l hl⟩
theorem g_dday {x:PyData} (hl:T2 x):m_is_double_day [.d x]=.ret (.d (.bool (dyB x))):=by
  by_cases ht:∃ xs,x=.tuple xs
  · obtain ⟨xs,rfl⟩:=ht
    obtain ⟨h200,hy⟩:=hl xs rfl
    have hs:small xs.length=true:=small_le (by omega)
    rw [dyB_tup]
    have e1:mapT (lc2 (gSet 0) q_is_double_day_1 [.un]) xs=.ret ((xs.map lnB).map PyData.bool):=mapB fun y hm=>by
      have e:=g_line (hy y hm)
      simp_arith [q_is_double_day_1,e]
    cases h1:decide ((1:Int)≤(xs.length:Int))
    · rw [len3_i xs.length _ _ h1 rfl]
      simp_arith [m_is_double_day,isi_yes,h1,Bool.not_true,Bool.not_false,Bool.false_and]
    · cases h2:decide ((xs.length:Int)≤3)
      · rw [len3_i xs.length _ _ h1 h2]
        simp_arith [m_is_double_day,isi_yes,h1,h2,Bool.not_true,Bool.not_false,Bool.false_and,Bool.and_false]
      · rw [len3_i xs.length _ _ h1 h2]
        cases h3:xs.all lnB
        · simp_arith [m_is_double_day,isi_yes,h1,h2,hs,e1,all_map,h3,Bool.not_true,Bool.not_false,Bool.true_and,Bool.false_and]
        · obtain ⟨l0,i0,hd0,e6,hm0⟩:=day_parts h1 (by omega) h3
          have e2:mapT (lc2 (gSet 0) q_is_double_day_2 [.un,.d (.tuple xs)]) xs=.ret ((xs.map (sameL xs)).map PyData.bool):=mapB fun y hm=>by
            obtain ⟨l,rfl,_⟩:=hm0 y hm
            have e3:=len_tI l
            have e4:=len_tI l0
            have e5:sameL xs (tI l)=((l.length:Int) == (l0.length:Int)):=by
              unfold sameL
              rw [hd0,lenP_tI,lenP_tI]
            simp_arith [q_is_double_day_2,i0,e3,e4,e5]
          cases h4:xs.all (sameL xs)
          · simp_arith [m_is_double_day,isi_yes,h1,h2,hs,e1,e2,all_map,h3,h4,Bool.not_true,Bool.not_false,Bool.true_and,Bool.false_and]
          · simp_arith [m_is_double_day,isi_yes,h1,h2,hs,e1,e2,e6,all_map,h3,h4,Bool.not_true,Bool.not_false,Bool.true_and]
  · have hn:=isi_no (x:=x) fun xs e=>ht ⟨xs,e⟩
    have hd:dyB x=false:=by
      cases x with
      | tuple xs=>exact absurd ⟨xs,rfl⟩ ht
      | _=>rfl
    rw [hd]
    simp_arith [m_is_double_day,hn,Bool.not_false]
theorem g_double {x:PyData} (hl:T3 x):m_is_double [.d x]=.ret (.d (.bool (dbB x))):=by
  by_cases ht:∃ xs,x=.tuple xs
  · obtain ⟨xs,rfl⟩:=ht
    obtain ⟨h200,hy⟩:=hl xs rfl
    have hs:small xs.length=true:=small_le (by omega)
    rw [dbB_tup]
    have e1:mapT (lc2 (gSet 0) q_is_double_1 [.un]) xs=.ret ((xs.map dyB).map PyData.bool):=mapB fun y hm=>by
      have e:=g_dday (hy y hm)
      simp_arith [q_is_double_1,e]
    cases h1:decide ((1:Int)≤(xs.length:Int))
    · rw [len3_i xs.length _ _ h1 rfl]
      simp_arith [m_is_double,isi_yes,h1,Bool.not_true,Bool.not_false,Bool.false_and]
    · cases h2:decide ((xs.length:Int)≤3)
      · rw [len3_i xs.length _ _ h1 h2]
        simp_arith [m_is_double,isi_yes,h1,h2,Bool.not_true,Bool.not_false,Bool.false_and,Bool.and_false]
      · rw [len3_i xs.length _ _ h1 h2]
        simp_arith [m_is_double,isi_yes,h1,h2,hs,e1,all_map,Bool.not_true,Bool.true_and]
  · have hn:=isi_no (x:=x) fun xs e=>ht ⟨xs,e⟩
    have hd:dbB x=false:=by
      cases x with
      | tuple xs=>exact absurd ⟨xs,rfl⟩ ht
      | _=>rfl
    rw [hd]
    simp_arith [m_is_double,hn,Bool.not_false]
end My
set_option Elab.async false
set_option linter.all false
set_option maxRecDepth 100000
set_option exponentiation.threshold 9000
namespace My
open PySem PySem.Spec PyProof.Rows L2 Tw
theorem turnD (X:Sl) (y:PyData):l_law_is_line_1 [X,.d y]=if wiB y 0 1000=true then .ret (.next [X,.d y]) else .ret (.ret (.d (.bool false))):=by
  cases y with
  | int n =>
    have i1:isiB "int" (tyD (.int n))=true:=rfl
    have i2:isiB "bool" (tyD (.int n))=false:=rfl
    have ew:wiB (.int n) 0 1000=(decide (0≤n) && decide (n≤1000)):=rfl
    rw [ew]
    by_cases h1:n < 0
    · have h1':decide (0≤n)=false:=decide_eq_false (by omega)
      simp_arith [l_law_is_line_1,i1,i2,decide_eq_true h1,h1',Bool.not_true,Bool.false_and,Bool.false_eq_true,↓reduceIte]
    · have h1':decide (0≤n)=true:=decide_eq_true (by omega)
      by_cases h2:n > 1000
      · have h2':decide (n≤1000)=false:=decide_eq_false (by omega)
        simp_arith [l_law_is_line_1,i1,i2,decide_eq_false h1,decide_eq_true h2,h1',h2',Bool.not_true,Bool.and_false,Bool.false_eq_true,↓reduceIte]
      · have h2':decide (n≤1000)=true:=decide_eq_true (by omega)
        simp_arith [l_law_is_line_1,i1,i2,decide_eq_false h1,decide_eq_false h2,h1',h2',Bool.not_true,Bool.and_true,↓reduceIte]
  | bool c =>
    have i1:isiB "int" (tyD (.bool c))=true:=rfl
    have i2:isiB "bool" (tyD (.bool c))=true:=rfl
    simp_arith [l_law_is_line_1,i1,i2,wiB,Bool.not_true,Bool.false_eq_true,↓reduceIte]
  | none =>
    have i1:isiB "int" (tyD .none)=false:=rfl
    simp_arith [l_law_is_line_1,i1,wiB,Bool.not_false,Bool.false_eq_true,↓reduceIte]
  | str c =>
    have i1:isiB "int" (tyD (.str c))=false:=rfl
    simp_arith [l_law_is_line_1,i1,wiB,Bool.not_false,Bool.false_eq_true,↓reduceIte]
  | list c =>
    have i1:isiB "int" (tyD (.list c))=false:=rfl
    simp_arith [l_law_is_line_1,i1,wiB,Bool.not_false,Bool.false_eq_true,↓reduceIte]
  | tuple c =>
    have i1:isiB "int" (tyD (.tuple c))=false:=rfl
    simp_arith [l_law_is_line_1,i1,wiB,Bool.not_false,Bool.false_eq_true,↓reduceIte]
  | dict c =>
    have i1:isiB "int" (tyD (.dict c))=false:=rfl
    simp_arith [l_law_is_line_1,i1,wiB,Bool.not_false,Bool.false_eq_true,↓reduceIte]
theorem loopD (X:Sl):∀ (xs:List PyData) (J:Sl),(xs.all (fun x=>wiB x 0 1000)=true→∃ K,forL (gSet 1) l_law_is_line_1 xs [X,J]=.ret (.next [X,K]))∧(xs.all (fun x=>wiB x 0 1000)=false→forL (gSet 1) l_law_is_line_1 xs [X,J]=.ret (.ret (.d (.bool false))))
  | [],J=>⟨fun _=>⟨J,rfl⟩,fun h=>by cases h⟩
  | x::xs,J=>by
    obtain ⟨i1,i2⟩:=loopD X xs (.d x)
    have t:=turnD X x
    rw [List.all_cons]
    cases h:wiB x 0 1000
    · rw [h] at t
      refine ⟨fun q=>absurd q (by rw [Bool.false_and]; decide),fun _=>?_⟩
      rw [for_cons]
      simp_arith [t,Bool.false_eq_true,↓reduceIte]
    · rw [h] at t
      refine ⟨fun q=>?_,fun q=>?_⟩
      · obtain ⟨K,e⟩:=i1 q
        refine ⟨K,?_⟩
        rw [for_cons]
        simp_arith [t,↓reduceIte,e]
      · have e:=i2 q
        rw [for_cons]
        simp_arith [t,↓reduceIte,e]
theorem in3:∀ n:Nat,bin2 (inD true) (.int (n:Int)) (.tuple [.int 1,.int 2,.int 3])=.ret (.bool (!len3 n))
  | 0=>rfl
  | 1=>rfl
  | 2=>rfl
  | 3=>rfl
  | n+4=>by
    have e:len3 (n+4)=false:=by unfold len3; rw [decide_eq_false (show ¬ (n+4≤3) by omega),Bool.and_false]
    rw [e]
    have h1:PyData.eqv (.int 1) (.int ((n+4:Nat):Int))=false:=by simp only [PyData.eqv]; exact beq_eq_false_iff_ne.mpr (by omega)
    have h2:PyData.eqv (.int 2) (.int ((n+4:Nat):Int))=false:=by simp only [PyData.eqv]; exact beq_eq_false_iff_ne.mpr (by omega)
    have h3:PyData.eqv (.int 3) (.int ((n+4:Nat):Int))=false:=by simp only [PyData.eqv]; exact beq_eq_false_iff_ne.mpr (by omega)
    show Tr.ret (PyData.bool (!([PyData.int 1,.int 2,.int 3].any fun z=>PyData.eqv z (.int ((n+4:Nat):Int)))))=_
    rw [List.any_cons,List.any_cons,List.any_cons,h1,h2,h3]
    rfl
theorem g_lline {x:PyData} (hl:L1 x):m_law_is_line [.d x]=.ret (.d (.bool (lnB x))):=by
  by_cases ht:∃ xs,x=.tuple xs
  · obtain ⟨xs,rfl⟩:=ht
    have h200:=hl xs rfl
    rw [lnB_tup]
    have i3:=in3 xs.length
    cases h1:len3 xs.length
    · rw [h1] at i3
      simp_arith [m_law_is_line,isi_yes,i3,Bool.not_true,Bool.not_false,Bool.false_and]
    · rw [h1] at i3
      obtain ⟨i1,i2⟩:=loopD (.d (.tuple xs)) xs .un
      cases h3:xs.all fun x=>wiB x 0 1000
      · have e:=i2 h3
        simp_arith [m_law_is_line,isi_yes,i3,e,Bool.not_true,Bool.and_false]
      · obtain ⟨K,e⟩:=i1 h3
        simp_arith [m_law_is_line,isi_yes,i3,e,Bool.not_true,Bool.and_true]
  · have hn:=isi_no (x:=x) fun xs e=>ht ⟨xs,e⟩
    have hd:lnB x=false:=by
      cases x with
      | tuple xs=>exact absurd ⟨xs,rfl⟩ ht
      | _=>rfl
    rw [hd]
    simp_arith [m_law_is_line,hn,Bool.not_false]
noncomputable def okL (n:Nat) (y:PyData):Bool:=lnB y && (lenP y == (n:Int))
theorem turnY {xs:List PyData} {l0:List Int} (h0:atI xs 0=some (tI l0)) {y:PyData} (hy:L1 y):l_law_is_day_1 [.d (.tuple xs),.d y]=if okL l0.length y=true then .ret (.next [.d (.tuple xs),.d y]) else .ret (.ret (.d (.bool false))):=by
  have e1:=g_lline hy
  have e4:=len_tI l0
  unfold okL
  cases h:lnB y
  · rw [h] at e1
    simp_arith [l_law_is_day_1,e1,Bool.not_false,Bool.false_and,Bool.false_eq_true,↓reduceIte]
  · rw [h] at e1
    obtain ⟨l,rfl,_⟩:=ln_ints h
    have e3:=len_tI l
    rw [lenP_tI]
    cases h5:((l.length:Int) == (l0.length:Int))
    · simp_arith [l_law_is_day_1,e1,h0,e3,e4,h5,Bool.not_true,Bool.not_false,Bool.and_false,Bool.false_eq_true,↓reduceIte]
    · simp_arith [l_law_is_day_1,e1,h0,e3,e4,h5,Bool.not_true,Bool.and_true,↓reduceIte]
theorem loopY {xs:List PyData} {l0:List Int} (h0:atI xs 0=some (tI l0)):∀ (ys:List PyData) (J:Sl),(∀ y∈ys,L1 y)→(ys.all (okL l0.length)=true→∃ K,forL (gSet 1) l_law_is_day_1 ys [.d (.tuple xs),J]=.ret (.next [.d (.tuple xs),K]))∧(ys.all (okL l0.length)=false→forL (gSet 1) l_law_is_day_1 ys [.d (.tuple xs),J]=.ret (.ret (.d (.bool false))))
  | [],J,_=>⟨fun _=>⟨J,rfl⟩,fun h=>by cases h⟩
  | y::ys,J,hy=>by
    obtain ⟨i1,i2⟩:=loopY h0 ys (.d y) fun z hz=>hy z (List.mem_cons_of_mem _ hz)
    have t:=turnY h0 (hy y List.mem_cons_self)
    rw [List.all_cons]
    cases h:okL l0.length y
    · rw [h] at t
      refine ⟨fun q=>absurd q (by rw [Bool.false_and]; decide),fun _=>?_⟩
      rw [for_cons]
      simp_arith [t,Bool.false_eq_true,↓reduceIte]
    · rw [h] at t
      refine ⟨fun q=>?_,fun q=>?_⟩
      · obtain ⟨K,e⟩:=i1 q
        refine ⟨K,?_⟩
        rw [for_cons]
        simp_arith [t,↓reduceIte,e]
      · have e:=i2 q
        rw [for_cons]
        simp_arith [t,↓reduceIte,e]
theorem sum_nn:∀ {l:List Int},(∀ n∈l,0≤n)→0≤l.sum∧∀ n∈l,n≤l.sum
  | [],_=>⟨Int.le_refl _,fun _ h=>nomatch h⟩
  | x::l,h=>by
    obtain ⟨h1,h2⟩:=sum_nn (l:=l) fun n hn=>h n (List.mem_cons_of_mem _ hn)
    have hx:=h x List.mem_cons_self
    rw [List.sum_cons]
    refine ⟨by omega,fun n hn=>?_⟩
    rcases List.mem_cons.mp hn with e | e
    · subst e; omega
    · have:=h2 n e; omega
theorem sum_z:∀ {l:List Int},(∀ n∈l,n≤0)→l.sum≤0
  | [],_=>Int.le_refl _
  | x::l,h=>by
    have h1:=sum_z (l:=l) fun n hn=>h n (List.mem_cons_of_mem _ hn)
    have hx:=h x List.mem_cons_self
    rw [List.sum_cons]
    omega
theorem max_sum {L:List (List Int)} (hL:∀ l∈L,lnOk l) (hne:L≠[]):decide (L2.maxL (L.map L2.maxL) > 0)=decide ((L.map List.sum).sum > 0):=by
  have hne':L.map L2.maxL≠[]:=fun e=>hne (List.map_eq_nil_iff.mp e)
  obtain ⟨m1,m2⟩:=maxL_spec hne'
  have nn:∀ n∈L.map List.sum,0≤n:=fun n hn=>by
    obtain ⟨l,hl,rfl⟩:=List.mem_map.mp hn
    exact (sum_nn fun k hk=>((hL l hl).2.2 k hk).1).1
  have one:∀ l∈L,l≠[]:=fun l hl e=>by
    have:=(hL l hl).1
    rw [e] at this
    cases this
  refine decide_eq_decide.mpr ⟨fun h=>?_,fun h=>?_⟩
  · obtain ⟨l,hl,e⟩:=List.mem_map.mp m1
    have q:=(maxL_spec (one l hl)).1
    have q2:=(sum_nn fun k hk=>((hL l hl).2.2 k hk).1).2 _ q
    have q3:=(sum_nn nn).2 l.sum (List.mem_map.mpr ⟨l,hl,rfl⟩)
    omega
  · refine Int.not_le.mp fun hle=>?_
    have z:(L.map List.sum).sum≤0:=sum_z fun n hn=>by
      obtain ⟨l,hl,rfl⟩:=List.mem_map.mp hn
      refine sum_z fun k hk=>?_
      have a:=(maxL_spec (one l hl)).2 k hk
      have b:=m2 _ (List.mem_map.mpr ⟨l,hl,rfl⟩)
      omega
    omega
theorem maxT_of (ns:List Int) (h:ns≠[]):cb1 max1D [.tuple (ns.map PyData.int)]=.ret (.int (L2.maxL ns)):=by
  unfold cb1 max1D onL
  simp [h]
theorem ok_all {xs:List PyData} {l0:List Int} (hd:xs.headD .none=tI l0):xs.all (okL l0.length)=(xs.all lnB && xs.all (sameL xs)):=by
  have e:∀ y,sameL xs y=(lenP y == (l0.length:Int)):=fun y=>by
    unfold sameL
    rw [hd,lenP_tI]
  have g:∀ ys:List PyData,ys.all (okL l0.length)=(ys.all lnB && ys.all (sameL xs)):=fun ys=>by
    induction ys with
    | nil=>rfl
    | cons y ys ih =>
      rw [List.all_cons,List.all_cons,List.all_cons,ih,e]
      unfold okL
      cases lnB y <;> cases (lenP y == (l0.length:Int)) <;> cases ys.all lnB <;> rfl
  exact g xs
theorem g_lday {x:PyData} (hl:T2 x):m_law_is_day [.d x]=.ret (.d (.bool (dyB x))):=by
  by_cases ht:∃ xs,x=.tuple xs
  · obtain ⟨xs,rfl⟩:=ht
    obtain ⟨h200,hy⟩:=hl xs rfl
    have hs:small xs.length=true:=small_le (by omega)
    rw [dyB_tup]
    have i3:=in3 xs.length
    cases h1:len3 xs.length
    · rw [h1] at i3
      simp_arith [m_law_is_day,isi_yes,i3,Bool.not_true,Bool.not_false,Bool.false_and]
    · rw [h1] at i3
      have h1':1≤xs.length:=by
        unfold len3 at h1
        rw [Bool.and_eq_true,decide_eq_true_eq] at h1
        exact h1.1
      obtain ⟨x0,i0,hd0,hm0⟩:∃ x0,atI xs 0=some x0∧xs.headD .none=x0∧∃ ys,xs=x0::ys:=by
        cases xs with
        | nil=>cases h1'
        | cons a l=>exact ⟨a,at0,rfl,l,rfl⟩
      cases h0:lnB x0
      · have e:forL (gSet 1) l_law_is_day_1 xs [.d (.tuple xs),.un]=.ret (.ret (.d (.bool false))):=by
          obtain ⟨ys,ex⟩:=hm0
          have e1:=g_lline (hy x0 (by rw [ex]; exact List.mem_cons_self))
          rw [h0] at e1
          have t:l_law_is_day_1 [.d (.tuple xs),.d x0]=.ret (.ret (.d (.bool false))):=by
            simp_arith [l_law_is_day_1,e1,Bool.not_false]
          generalize PyData.tuple xs=X at t
          rw [ex,for_cons]
          simp_arith [t]
        have h3:xs.all lnB=false:=by
          obtain ⟨ys,ex⟩:=hm0
          rw [ex,List.all_cons,h0]
          rfl
        simp_arith [m_law_is_day,isi_yes,i3,e,h3,Bool.not_true,Bool.true_and,Bool.false_and]
      · obtain ⟨l0,rfl,_⟩:=ln_ints h0
        obtain ⟨q1,q2⟩:=loopY i0 xs .un hy
        rw [ok_all hd0] at q1 q2
        rw [← Bool.and_assoc (xs.all lnB)]
        cases h3:(xs.all lnB && xs.all (sameL xs))
        · have e:=q2 h3
          simp_arith [m_law_is_day,isi_yes,i3,e,Bool.not_true,Bool.true_and,Bool.false_and]
        · obtain ⟨K,e⟩:=q1 h3
          rw [Bool.and_eq_true] at h3
          obtain ⟨L,ex,hL⟩:=lns_ints h3.1
          have hne:L≠[]:=fun z=>by
            subst z
            rw [ex] at h1'
            cases h1'
          have e1:mapT (lc2 (gSet 0) q_law_is_day_1 [.un]) xs=.ret ((L.map L2.maxL).map PyData.int):=by
            rw [ex]
            refine mapI fun l hl=>?_
            have e:=maxT_of l fun z=>by
              have:=(hL l hl).1
              rw [z] at this
              cases this
            simp_arith [q_law_is_day_1,tI,e]
          have e2:=max1_of (L.map L2.maxL) fun z=>hne (List.map_eq_nil_iff.mp z)
          have e3:=max_sum hL hne
          rw [← sums_tI,← ex] at e3
          simp_arith [m_law_is_day,isi_yes,i3,e,hs,e1,e2,e3,Bool.not_true,Bool.true_and]
  · have hn:=isi_no (x:=x) fun xs e=>ht ⟨xs,e⟩
    have hd:dyB x=false:=by
      cases x with
      | tuple xs=>exact absurd ⟨xs,rfl⟩ ht
      | _=>rfl
    rw [hd]
    simp_arith [m_law_is_day,hn,Bool.not_false]
theorem kept_all:∀ xs:List PyData,(xs.filterMap fun y=>if dyB y=true then none else some y).isEmpty=xs.all dyB
  | []=>rfl
  | x::xs=>by
    rw [List.all_cons,List.filterMap_cons]
    cases h:dyB x
    · rfl
    · exact (kept_all xs).trans (Bool.true_and _).symm
theorem g_ldouble {x:PyData} (hl:T3 x):m_law_is_double [.d x]=.ret (.d (.bool (dbB x))):=by
  by_cases ht:∃ xs,x=.tuple xs
  · obtain ⟨xs,rfl⟩:=ht
    obtain ⟨h200,hy⟩:=hl xs rfl
    have hs:small xs.length=true:=small_le (by omega)
    rw [dbB_tup]
    have i3:=in3 xs.length
    cases h1:len3 xs.length
    · rw [h1] at i3
      simp_arith [m_law_is_double,isi_yes,i3,Bool.not_true,Bool.not_false,Bool.false_and]
    · rw [h1] at i3
      have e2:mapO (lci2 (gSet 0) p_law_is_double_1 q_law_is_double_1 [.un]) xs=.ret (xs.filterMap fun y=>if dyB y=true then none else some y):=mapO_ret fun y hm=>by
        have e:=g_lday (hy y hm)
        cases hq:dyB y
        · rw [hq] at e
          simp_arith [p_law_is_double_1,q_law_is_double_1,e,Bool.not_false,Bool.false_eq_true,↓reduceIte]
        · rw [hq] at e
          simp_arith [p_law_is_double_1,q_law_is_double_1,e,Bool.not_true,↓reduceIte]
      have e3:=kept_all xs
      generalize (xs.filterMap fun y=>if dyB y=true then none else some y)=Z at e2 e3
      simp_arith [m_law_is_double,isi_yes,i3,hs,e2,ev_eqN,e3,Bool.not_true,Bool.true_and]
  · have hn:=isi_no (x:=x) fun xs e=>ht ⟨xs,e⟩
    have hd:dbB x=false:=by
      cases x with
      | tuple xs=>exact absurd ⟨xs,rfl⟩ ht
      | _=>rfl
    rw [hd]
    simp_arith [m_law_is_double,hn,Bool.not_false]
end My
set_option Elab.async false
set_option linter.all false
set_option maxRecDepth 100000
set_option exponentiation.threshold 9000
namespace My
open PySem PySem.Spec PyProof.Rows L2 Tw
structure Sz (d:PyData) (k n:Nat):Prop where
  sh:d.showable=true
  dp:d.depth≤k
  ln:d.shown.length≤n
theorem sz_mono {d:PyData} {k n k' n':Nat} (h:Sz d k n) (hk:k≤k') (hn:n≤n'):Sz d k' n':=⟨h.sh,Nat.le_trans h.dp hk,Nat.le_trans h.ln hn⟩
theorem sz_all {k n:Nat}:∀ {xs:List PyData},(∀ x∈xs,Sz x k n)→PyData.showableAll xs=true∧PyData.depthAll xs≤k∧((PyData.shownAll xs).map (·.length)).sum≤xs.length * n∧(PyData.shownAll xs).length=xs.length
  | [],_=>⟨rfl,Nat.zero_le _,by simp [PyData.shownAll],rfl⟩
  | x::xs,h=>by
    obtain ⟨h2,h3,h4,h5⟩:=sz_all (xs:=xs) fun y hy=>h y (List.mem_cons_of_mem _ hy)
    have hx:=h x (by simp)
    refine ⟨?_,?_,?_,?_⟩
    · rw [PyData.showableAll,hx.sh,h2]; rfl
    · rw [PyData.depthAll]; have:=hx.dp; omega
    · rw [PyData.shownAll,List.map_cons,List.sum_cons,List.length_cons,Nat.succ_mul]; have:=hx.ln; omega
    · rw [PyData.shownAll,List.length_cons,List.length_cons,h5]
theorem sz_tup {xs:List PyData} {k n:Nat} (h:∀ x∈xs,Sz x k n):Sz (.tuple xs) (k+1) (xs.length * n+2 * xs.length+10):=by
  obtain ⟨h2,h3,h4,h5⟩:=sz_all h
  have c3:=tupleText_len_le (PyData.shownAll xs)
  refine ⟨?_,?_,?_⟩
  · rw [PyData.showable,h2]
  · rw [PyData.depth]; omega
  · rw [PyData.shown]; omega
theorem sz_lst {xs:List PyData} {k n:Nat} (h:∀ x∈xs,Sz x k n):Sz (.list xs) (k+1) (xs.length * n+2 * xs.length+10):=by
  obtain ⟨h2,h3,h4,h5⟩:=sz_all h
  have c3:=listText_len_le (PyData.shownAll xs)
  refine ⟨?_,?_,?_⟩
  · rw [PyData.showable,h2]
  · rw [PyData.depth]; omega
  · rw [PyData.shown]; omega
theorem sz_of {d:PyData} {k n:Nat} (h:Rp d k n):Sz d k n:=⟨h.sh,h.dp,h.ln⟩
theorem sz_int {i:Int} (h:nb 1900 i):Sz (.int i) 0 1901:=sz_of (rp_int h)
theorem nb_small {i:Int} (h1:-100000≤i) (h2:i≤100000):nb 1900 i:=nb_mono (nb_le (k:=20) (b:=100000) ⟨h1,h2⟩ (by decide)) (by decide)
theorem noD_all:∀ {xs:List PyData},(∀ x∈xs,x.hasDict=false)→PyData.hasDictAll xs=false
  | [],_=>rfl
  | x::xs,h=>by rw [PyData.hasDictAll,h x (by simp),noD_all fun y hy=>h y (List.mem_cons_of_mem _ hy)]; rfl
theorem noL_all:∀ {xs:List PyData},(∀ x∈xs,hasL x=false)→hasLAll xs=false
  | [],_=>by rw [hasLAll]
  | x::xs,h=>by rw [hasLAll,h x (by simp),noL_all fun y hy=>h y (List.mem_cons_of_mem _ hy)]; rfl
noncomputable def Rq (d:PyData) (k n:Nat):Prop:=(d.hasDict=false∨hasL d=false)∧Sz d k n
theorem rq_ok {d:PyData} {k n:Nat} (h:Rq d k n) (hk:k≤32) (hn:n≤10000000):reprOkX d=true:=by
  unfold reprOkX
  rw [h.2.sh,decide_eq_true (Nat.le_trans h.2.dp hk),decide_eq_true (Nat.le_trans h.2.ln (Nat.le_trans hn (by rw [sizeLine_eq]; decide)))]
  rcases h.1 with q | q
  · rw [q]; rfl
  · rw [q]; cases d.hasDict <;> rfl
structure Pn (d:PyData) (k n:Nat):Prop where
  nd:d.hasDict=false
  nl:hasL d=false
  z:Sz d k n
theorem Pn.rq {d:PyData} {k n:Nat} (h:Pn d k n):Rq d k n:=⟨.inl h.nd,h.z⟩
theorem pn_mono {d:PyData} {k n k' n':Nat} (h:Pn d k n) (hk:k≤k') (hn:n≤n'):Pn d k' n':=⟨h.nd,h.nl,sz_mono h.z hk hn⟩
theorem rq_mono {d:PyData} {k n k' n':Nat} (h:Rq d k n) (hk:k≤k') (hn:n≤n'):Rq d k' n':=⟨h.1,sz_mono h.2 hk hn⟩
theorem pn_int {i:Int} (h:nb 1900 i):Pn (.int i) 0 1901:=⟨rfl,by rw [hasL],sz_int h⟩
theorem pn_tup {xs:List PyData} {k n:Nat} (h:∀ x∈xs,Pn x k n):Pn (.tuple xs) (k+1) (xs.length * n+2 * xs.length+10) :=
  ⟨by rw [PyData.hasDict]; exact noD_all fun x hx=>(h x hx).nd,by rw [hasL]; exact noL_all fun x hx=>(h x hx).nl,sz_tup fun x hx=>(h x hx).z⟩
theorem rq_lst {xs:List PyData} {k n:Nat} (h:∀ x∈xs,Pn x k n):Rq (.list xs) (k+1) (xs.length * n+2 * xs.length+10) :=
  ⟨.inl (by rw [PyData.hasDict]; exact noD_all fun x hx=>(h x hx).nd),sz_lst fun x hx=>(h x hx).z⟩
theorem rq_one {A B:List PyData} {x:PyData} {k n:Nat} (hA:∀ y∈A,Pn y k n) (hB:∀ y∈B,Pn y k n) (hx:Rq x k n):Rq (.tuple (A++[x]++B)) (k+1) ((A++[x]++B).length * n+2 * (A++[x]++B).length+10):=by
  have mem:∀ {P:PyData→Prop},(∀ y∈A,P y)→P x→(∀ y∈B,P y)→∀ y∈A++[x]++B,P y:=fun {P} a b c y hy=>by
    rcases List.mem_append.mp hy with h | h
    · rcases List.mem_append.mp h with h | h
      · exact a y h
      · rw [List.mem_singleton] at h; subst h; exact b
    · exact c y h
  refine ⟨?_,sz_tup (mem (fun y h=>(hA y h).z) hx.2 fun y h=>(hB y h).z)⟩
  rcases hx.1 with q | q
  · exact .inl (by rw [PyData.hasDict]; exact noD_all (mem (fun y h=>(hA y h).nd) q fun y h=>(hB y h).nd))
  · exact .inr (by rw [hasL]; exact noL_all (mem (fun y h=>(hA y h).nl) q fun y h=>(hB y h).nl))
end My
set_option Elab.async false
set_option linter.all false
set_option maxRecDepth 100000
set_option exponentiation.threshold 9000
namespace My
open PySem PySem.Spec PyProof.Rows L2 Tw
theorem ev_drw (n:Int):m_law_draw [.pen,.d (.int n)]=.draw n fun r=>.ret (.d (.int r)):=rfl
theorem fa {p:PyData→Prop} {a:PyData} {l:List PyData} (h:p a) (t:∀ x∈l,p x):∀ x∈a::l,p x:=fun x hx=>by
  rcases List.mem_cons.mp hx with e | e
  · subst e; exact h
  · exact t x e
theorem fn {p:PyData→Prop}:∀ x∈([]:List PyData),p x:=fun _ h=>nomatch h
theorem pl_app {p:PyData→Prop} {A B:List PyData} (hA:∀ y∈A,p y) (hB:∀ y∈B,p y):∀ y∈A++B,p y:=fun y hy=>by
  rcases List.mem_append.mp hy with q | q
  · exact hA y q
  · exact hB y q
theorem cu_to (xs:List PyData) (t:Nat) (h:t≤xs.length):L2.cutD xs none (some (t:Int))=xs.take t:=by
  unfold L2.cutD
  rw [HT.sIx_nat,HT.sIx_none,Nat.min_eq_left h,List.drop_zero,Nat.sub_zero]
theorem cu_from (xs:List PyData) (t:Nat):L2.cutD xs (some (t:Int)) none=xs.drop (min t xs.length):=by
  unfold L2.cutD
  rw [HT.sIx_nat,HT.sIx_none,List.take_of_length_le (by rw [List.length_drop]; exact Nat.le_refl _)]
theorem cu_mid (xs:List PyData) (t u:Nat):L2.cutD xs (some (t:Int)) (some (u:Int))=(xs.drop (min t xs.length)).take (min u xs.length - min t xs.length):=by
  unfold L2.cutD
  rw [HT.sIx_nat,HT.sIx_nat]
noncomputable def TT (P:PyData→Prop) (x:PyData):Prop:=∀ ys,x=.tuple ys→ys.length≤200∧∀ y∈ys,P y
theorem TT.l1 {P:PyData→Prop} {x:PyData} (h:TT P x):L1 x:=fun xs e=>(h xs e).1
theorem tt_no {P:PyData→Prop} {x:PyData} (h:∀ xs,x≠.tuple xs):TT P x:=fun xs e=>absurd e (h xs)
theorem tt_i {P:PyData→Prop} (i:Int) (h:P (.int i)):TT P (.tuple [.int i]):=fun xs e=>by cases e; exact ⟨(show 1≤200 by decide),fa h fn⟩
theorem l1_int (i:Int):L1 (.int i):=fun xs e=>by cases e
section
variable {k n:Nat} {P:PyData→Prop}
theorem nr_pl {Y:List PyData} (hl:Y.length≤4) (hp:∀ y∈Y,Pn y k n) (hP:∀ y∈Y,P y):Pn (.tuple Y) (k+1) (4 * n+18)∧TT P (.tuple Y):=by
  have hm:Y.length * n≤4 * n:=Nat.mul_le_mul_right _ hl
  refine ⟨pn_mono (pn_tup hp) (Nat.le_refl _) (by omega),fun zs e=>?_⟩
  cases e
  exact ⟨by omega,hP⟩
theorem nr_ls {Y:List PyData} (hl:Y.length≤4) (hp:∀ y∈Y,Pn y k n):Rq (.list Y) (k+1) (4 * n+18)∧TT P (.list Y):=by
  have hm:Y.length * n≤4 * n:=Nat.mul_le_mul_right _ hl
  exact ⟨rq_mono (rq_lst hp) (Nat.le_refl _) (by omega),tt_no (by intro zs e; cases e)⟩
theorem nr_one {A B:List PyData} {x:PyData} (hl:(A++[x]++B).length≤4) (hA:∀ y∈A,Pn y k n) (hB:∀ y∈B,Pn y k n) (hx:Rq x k n) (pA:∀ y∈A,P y) (pB:∀ y∈B,P y) (px:P x):Rq (.tuple (A++[x]++B)) (k+1) (4 * n+18)∧TT P (.tuple (A++[x]++B)):=by
  have hm:(A++[x]++B).length * n≤4 * n:=Nat.mul_le_mul_right _ hl
  refine ⟨rq_mono (rq_one hA hB hx) (Nat.le_refl _) (by omega),fun zs e=>?_⟩
  cases e
  exact ⟨by omega,pl_app (pl_app pA (fa px fn)) pB⟩
end
noncomputable def Od (x:PyData):Prop:=Rq x 1 3000∧TT L1 x
theorem od_c {x:PyData} (h:x.hasDict=false∨hasL x=false) (h2:x.showable=true) (h3:x.depth≤1) (h4:x.shown.length≤3000) (h5:∀ xs,x≠.tuple xs):Od x:=⟨⟨h,h2,h3,h4⟩,tt_no h5⟩
noncomputable def M29:Int:=100000000000000000000000000000
theorem pow29:bin2 powD (.int 10) (.int 29)=.ret (.int M29):=rfl
theorem M29_nb:nb 1900 M29:=nb_mono (show nb 100 M29 by unfold M29; show (100000000000000000000000000000:Int).natAbs < 2 ^ 100; decide) (by decide)
theorem od_i {i:Int} (h:nb 1900 i):Od (.int i):=⟨rq_mono (pn_int h).rq (by decide) (by decide),tt_no (by intro xs e; cases e)⟩
theorem log_of {i:Int} (h:nb 1900 i):i.natAbs.log2 < 1920:=by
  by_cases h0:i.natAbs=0
  · rw [h0]; decide
  · exact Nat.lt_trans ((Nat.log2_lt h0).mpr h) (by decide)
theorem od_s {i:Int} (h:nb 100 i):Od (.str (toString i)):=by
  have h1:i.natAbs.log2 < 100:=by
    by_cases h0:i.natAbs=0
    · rw [h0]; decide
    · exact (Nat.log2_lt h0).mpr h
  have h2:=int_text_length_le (k:=100) (by decide) h1
  have h3:((toString i:String):Str).length≤101:=by rw [PySem.ofString_length]; exact h2
  have h4:=PySem.StrLaws.reprText_len ((toString i:String):Str) (Codes.of _)
  refine od_c (.inl rfl) rfl (Nat.zero_le _) ?_ (by intro xs e; cases e)
  rw [PyData.shown]
  omega
theorem s_odd {v:Int} (h0:0≤v) (h1:v≤1000):Al (m_law_odd [.pen,.d (.int v)]) 1 fun r=>∃ x,r=.d x∧Od x:=by
  have nv:nb 1900 v:=nb_small (by omega) (by omega)
  have st:cb1 strD [.int v]=.ret (.str (toString v)):=ev_strI (log_of nv)
  have pv:Pn (.int v) 0 1901:=pn_int nv
  simp_arith [m_law_odd,ev_drw,pow29,st]
  refine al_drw (n:=0) (by decide) (by decide) (by decide) fun r r0 r1=>?_
  obtain ⟨x,hx,hm⟩:=pick (xs:=[PyData.int (-1),.int 1001,.int 1000,.int M29,.bool true,.bool false,.none,.str (toString v),.tuple [.int v],.list [.int v],.dict [],.str "",.int 0]) r0 r1
  simp_arith [ev_drw,hx]
  refine al_ret ⟨x,rfl,?_⟩
  refine (fa (p:=Od) (od_i (nb_small (by decide) (by decide))) (fa (od_i (nb_small (by decide) (by decide))) (fa (od_i (nb_small (by decide) (by decide))) (fa (od_i M29_nb) (fa (od_c (.inl rfl) rfl (Nat.zero_le _) (by decide +kernel) (by intro xs e; cases e)) (fa (od_c (.inl rfl) rfl (Nat.zero_le _) (by decide +kernel) (by intro xs e; cases e)) (fa (od_c (.inl rfl) rfl (Nat.zero_le _) (by decide +kernel) (by intro xs e; cases e)) ?_))))))) x hm
  refine fa (od_s (nb_le (k:=100) (b:=1000) ⟨by omega,h1⟩ (by decide))) (fa ⟨rq_mono (pn_tup (xs:=[.int v]) (fa pv fn)).rq (by decide) (show 1 * 1901+2 * 1+10≤3000 by decide),tt_i v (l1_int v)⟩ (fa ⟨rq_mono (rq_lst (xs:=[.int v]) (fa pv fn)) (by decide) (show 1 * 1901+2 * 1+10≤3000 by decide),tt_no (by intro xs e; cases e)⟩ ?_))
  exact fa (od_c (.inr (by rw [hasL]; rfl)) rfl (by decide) (by decide +kernel) (by intro xs e; cases e)) (fa (od_c (.inl rfl) rfl (Nat.zero_le _) (by decide +kernel) (by intro xs e; cases e)) (fa (od_i (nb_small (by decide) (by decide))) fn))
theorem rep0:∀ n:Nat,n≤3→bin2 repD (.tuple [.int 0]) (.int (n:Int))=.ret (.tuple (List.replicate n (.int 0)))
  | 0,_=>rfl
  | 1,_=>rfl
  | 2,_=>rfl
  | 3,_=>rfl
  | n+4,h=>by omega
theorem pn_in {y:PyData} (h:intIn 0 1000 y):Pn y 1 3000:=by
  obtain ⟨v,rfl,a,b⟩:=h
  exact pn_mono (pn_int (nb_small (by omega) (by omega))) (by decide) (by decide)
theorem l1_in {y:PyData} (h:intIn 0 1000 y):L1 y:=by
  obtain ⟨v,rfl,a,b⟩:=h
  exact l1_int v
theorem s_bline {xs:List PyData} (h1:1≤xs.length) (h3:xs.length≤3) (hi:∀ y∈xs,intIn 0 1000 y):Al (m_law_bent_line [.pen,.d (.tuple xs)]) 3 fun r=>∃ x,r=.d x∧Rq x 2 13000∧TT L1 x:=by
  have tk:∀ t:Nat,∀ y∈xs.take t,intIn 0 1000 y:=fun t y hy=>hi y (List.mem_of_mem_take hy)
  have dr:∀ t:Nat,∀ y∈xs.drop t,intIn 0 1000 y:=fun t y hy=>hi y (List.mem_of_mem_drop hy)
  simp_arith [m_law_bent_line,ev_drw]
  refine al_drw (n:=2) (by decide) (by decide) (by decide) fun w w0 w1=>?_
  try simp_arith [ev_drw]
  refine al_drw (n:=1) (by omega) (by omega) (by decide) fun r r0 r1=>?_
  obtain ⟨a,rfl⟩:=Int.eq_ofNat_of_zero_le r0
  have ha:a < xs.length:=by omega
  have ia:atI xs (a:Int)=some xs[a]:=atI_ge (Int.natCast_nonneg a) (by rw [Int.toNat_natCast]; exact List.getElem?_eq_getElem ha)
  obtain ⟨v,ev,v0,v1⟩:=hi _ (List.getElem_mem ha)
  rw [ev] at ia
  simp_arith [ev_drw,ia]
  refine al_bind (n:=1) (n':=0) (s_odd v0 v1) (by decide) ?_
  rintro _ ⟨o,rfl,ho⟩
  have kt:L2.cutD xs none (some (a:Int))=xs.take a:=cu_to xs a (Nat.le_of_lt ha)
  have kf1:L2.cutD xs (some ((a:Int)+1)) none=xs.drop (min (a+1) xs.length):=cu_from xs (a+1)
  have b4:=addE_of (xs:=xs.take a) (ys:=[o]) (small_le (by rw [List.length_take]; show _+1≤_; omega))
  have b6:=addE_of (xs:=xs.take a++[o]) (ys:=xs.drop (min (a+1) xs.length)) (small_le (by rw [List.length_append,List.length_take,List.length_drop]; show _+1+_≤_; omega))
  cases hw:decide (w < 3)
  · have b1:=addE_of (xs:=xs) (ys:=[.int 1]) (small_le (by show _+1≤_; omega))
    have b2:=addE_of (xs:=xs.take a) (ys:=xs.drop (min (a+1) xs.length)) (small_le (by rw [List.length_take,List.length_drop]; omega))
    have b3:=rep0 xs.length h3
    obtain ⟨x,hx,hm⟩:=pick (xs:=[PyData.tuple (xs++[.int 1]),.tuple (xs.take a++xs.drop (min (a+1) xs.length)),.list xs,.tuple (List.replicate xs.length (.int 0)),o]) (r:=w - 3) (by have:=of_decide_eq_false hw; omega) (by show w - 3 < 5; omega)
    simp_arith [ev_drw,hw,kt,kf1,b1,b2,b3,hx]
    refine al_ret ⟨x,rfl,?_⟩
    have i0:∀ i:Int,0≤i→i≤1000→intIn 0 1000 (.int i):=fun i a b=>⟨i,rfl,a,b⟩
    have q:∀ {Y:List PyData},Y.length≤4→(∀ y∈Y,intIn 0 1000 y)→Rq (.tuple Y) 2 13000∧TT L1 (.tuple Y):=fun {Y} hl hY=>by
      obtain ⟨q1,q2⟩:=nr_pl (k:=1) (n:=3000) (P:=L1) hl (fun y hy=>pn_in (hY y hy)) (fun y hy=>l1_in (hY y hy))
      exact ⟨rq_mono q1.rq (Nat.le_refl _) (by decide),q2⟩
    have q3:=nr_ls (k:=1) (n:=3000) (P:=L1) (Y:=xs) (by omega) (fun y hy=>pn_in (hi y hy))
    refine (fa (p:=fun x=>Rq x 2 13000∧TT L1 x) (q (by rw [List.length_append]; show _+1≤4; omega) (pl_app hi (fa (i0 1 (by decide) (by decide)) fn))) (fa (q (by rw [List.length_append,List.length_take,List.length_drop]; omega) (pl_app (tk _) (dr _))) (fa ⟨rq_mono q3.1 (Nat.le_refl _) (by decide),q3.2⟩ (fa (q (by rw [List.length_replicate]; omega) fun y hy=>by rw [(List.mem_replicate.mp hy).2]; exact i0 0 (by decide) (by decide)) (fa ⟨rq_mono ho.1 (by decide) (by decide),ho.2⟩ fn))))) x hm
  · simp_arith [ev_drw,hw,kt,kf1,b4,b6]
    have q:=nr_one (k:=1) (n:=3000) (P:=L1) (A:=xs.take a) (B:=xs.drop (min (a+1) xs.length)) (x:=o) (by rw [List.length_append,List.length_append,List.length_take,List.length_drop]; show _+1+_≤_; omega) (fun y hy=>pn_in (tk _ y hy)) (fun y hy=>pn_in (dr _ y hy)) ho.1 (fun y hy=>l1_in (tk _ y hy)) (fun y hy=>l1_in (dr _ y hy)) ho.2.l1
    exact al_ret ⟨_,rfl,rq_mono q.1 (Nat.le_refl _) (by decide),q.2⟩
end My
set_option Elab.async false
set_option linter.all false
set_option maxRecDepth 100000
set_option exponentiation.threshold 9000
namespace My
open PySem PySem.Spec PyProof.Rows L2 Tw
noncomputable def LneI (xs:List PyData):Prop:=1≤xs.length∧xs.length≤3∧∀ y∈xs,intIn 0 1000 y
noncomputable def Lne (y:PyData):Prop:=∃ xs,y=.tuple xs∧LneI xs
theorem pn_ints {Y:List PyData} (hl:Y.length≤4) (hY:∀ y∈Y,intIn 0 1000 y):Pn (.tuple Y) 2 13000∧TT L1 (.tuple Y):=by
  obtain ⟨q1,q2⟩:=nr_pl (k:=1) (n:=3000) (P:=L1) hl (fun y hy=>pn_in (hY y hy)) (fun y hy=>l1_in (hY y hy))
  exact ⟨pn_mono q1 (Nat.le_refl _) (by decide),q2⟩
theorem Lne.pn {y:PyData} (h:Lne y):Pn y 2 13000∧TT L1 y:=by
  obtain ⟨xs,rfl,h1,h3,hi⟩:=h
  exact pn_ints (by omega) hi
noncomputable def lng:PyData→PyData
  | .tuple zs=>.tuple (zs++[.int 3])
  | y=>y
theorem in_i {i:Int} (h0:0≤i) (h1:i≤1000):intIn 0 1000 (.int i):=⟨i,rfl,h0,h1⟩
theorem lng_ok {y:PyData} (h:Lne y):Pn (lng y) 2 13000∧TT L1 (lng y):=by
  obtain ⟨xs,rfl,h1,h3,hi⟩:=h
  exact pn_ints (Y:=xs++[.int 3]) (by rw [List.length_append]; show _+1≤4; omega) (pl_app hi (fa (in_i (by decide) (by decide)) fn))
theorem mapF {h:PyData→Tr PyData} {f:PyData→PyData}:∀ {xs:List PyData},(∀ x∈xs,h x=.ret (f x))→mapT h xs=.ret (xs.map f)
  | [],_=>rfl
  | x::xs,hx=>by
    rw [mapT,hx x List.mem_cons_self,Tr.ret_bind,mapF fun y hy=>hx y (List.mem_cons_of_mem _ hy)]
    rfl
theorem s_bday {xs:List PyData} (h1:1≤xs.length) (h3:xs.length≤3) (hi:∀ y∈xs,Lne y):Al (m_law_bent_day [.pen,.d (.tuple xs)]) 5 fun r=>∃ x,r=.d x∧Rq x 3 53000∧TT (TT L1) x:=by
  have tk:∀ t:Nat,∀ y∈xs.take t,Lne y:=fun t y hy=>hi y (List.mem_of_mem_take hy)
  have dr:∀ t:Nat,∀ y∈xs.drop t,Lne y:=fun t y hy=>hi y (List.mem_of_mem_drop hy)
  have hs:small xs.length=true:=small_le (by omega)
  simp_arith [m_law_bent_day,ev_drw]
  refine al_drw (n:=4) (by decide) (by decide) (by decide) fun w w0 w1=>?_
  try simp_arith [ev_drw]
  refine al_drw (n:=3) (by omega) (by omega) (by decide) fun r r0 r1=>?_
  obtain ⟨a,rfl⟩:=Int.eq_ofNat_of_zero_le r0
  have ha:a < xs.length:=by omega
  have ia:atI xs (a:Int)=some xs[a]:=atI_ge (Int.natCast_nonneg a) (by rw [Int.toNat_natCast]; exact List.getElem?_eq_getElem ha)
  obtain ⟨zs,ez,z1,z3,zi⟩:=hi _ (List.getElem_mem ha)
  rw [ez] at ia
  simp_arith [ev_drw,ia]
  refine al_bind (n:=3) (n':=0) (s_bline z1 z3 zi) (by decide) ?_
  rintro _ ⟨o,rfl,ho,hoT⟩
  have kt:L2.cutD xs none (some (a:Int))=xs.take a:=cu_to xs a (Nat.le_of_lt ha)
  have kf1:L2.cutD xs (some ((a:Int)+1)) none=xs.drop (min (a+1) xs.length):=cu_from xs (a+1)
  have km1:L2.cutD xs (some (a:Int)) (some ((a:Int)+1))=(xs.drop (min a xs.length)).take (min (a+1) xs.length - min a xs.length):=cu_mid xs a (a+1)
  have b4:=addE_of (xs:=xs.take a) (ys:=[o]) (small_le (by rw [List.length_take]; show _+1≤_; omega))
  have b6:=addE_of (xs:=xs.take a++[o]) (ys:=xs.drop (min (a+1) xs.length)) (small_le (by rw [List.length_append,List.length_take,List.length_drop]; show _+1+_≤_; omega))
  cases hw:decide (w < 4)
  · have hne:xs.isEmpty=false:=by
      cases xs with
      | nil=>cases h1
      | cons _ _=>rfl
    have b1:=ev_addT (xs:=xs) (ys:=(xs.drop (min a xs.length)).take (min (a+1) xs.length - min a xs.length)) hne (small_le (by rw [List.length_take,List.length_drop]; omega))
    have b2:=addE_of (xs:=xs.take a) (ys:=xs.drop (min (a+1) xs.length)) (small_le (by rw [List.length_take,List.length_drop]; omega))
    have e5:mapT (lc2 (gSet 0) q_law_bent_day_1 [.un]) xs=.ret (xs.map lng):=mapF fun y hy=>by
      obtain ⟨us,rfl,u1,u3,ui⟩:=hi y hy
      have b:=addE_of (xs:=us) (ys:=[.int 3]) (small_le (by show _+1≤_; omega))
      simp_arith [q_law_bent_day_1,ev_drw,b]
      rfl
    obtain ⟨us,eu,u1,u3,ui⟩:=hi xs[0] (List.getElem_mem (by omega))
    have i0:atI xs 0=some (.tuple us):=by
      have q:=atI_ge (xs:=xs) (n:=0) (v:=xs[0]) (by decide) (List.getElem?_eq_getElem (by omega))
      rw [q,eu]
    have e6:mapT (lc2 (gSet 0) q_law_bent_day_2 [.un,.d (.tuple xs)]) xs=.ret (xs.map fun _=>PyData.tuple (List.replicate us.length (.int 0))):=mapF fun y hy=>by
      have b:=rep0 us.length u3
      simp_arith [q_law_bent_day_2,ev_drw,i0,b]
    obtain ⟨x,hx,hm⟩:=pick (xs:=[PyData.tuple (xs++(xs.drop (min a xs.length)).take (min (a+1) xs.length - min a xs.length)),.tuple (xs.take a++xs.drop (min (a+1) xs.length)),.tuple (xs.map lng),.tuple (xs.map fun _=>PyData.tuple (List.replicate us.length (.int 0)))]) (r:=w - 4) (by have:=of_decide_eq_false hw; omega) (by show w - 4 < 4; omega)
    simp_arith [ev_drw,hw,kt,kf1,km1,b1,b2,e5,e6,hs,hx]
    refine al_ret ⟨x,rfl,?_⟩
    have q:∀ {Y:List PyData},Y.length≤4→(∀ y∈Y,Pn y 2 13000∧TT L1 y)→Rq (.tuple Y) 3 53000∧TT (TT L1) (.tuple Y):=fun {Y} hl hY=>by
      obtain ⟨q1,q2⟩:=nr_pl (k:=2) (n:=13000) (P:=TT L1) hl (fun y hy=>(hY y hy).1) (fun y hy=>(hY y hy).2)
      exact ⟨rq_mono q1.rq (Nat.le_refl _) (by decide),q2⟩
    refine (fa (p:=fun x=>Rq x 3 53000∧TT (TT L1) x) (q (by rw [List.length_append,List.length_take,List.length_drop]; omega) (pl_app (fun y hy=>(hi y hy).pn) fun y hy=>(dr _ y (List.mem_of_mem_take hy)).pn)) (fa (q (by rw [List.length_append,List.length_take,List.length_drop]; omega) (pl_app (fun y hy=>(tk _ y hy).pn) fun y hy=>(dr _ y hy).pn)) (fa (q (by rw [List.length_map]; omega) fun y hy=>?_) (fa (q (by rw [List.length_map]; omega) fun y hy=>?_) fn)))) x hm
    · obtain ⟨z,hz,rfl⟩:=List.mem_map.mp hy
      exact lng_ok (hi z hz)
    · obtain ⟨z,hz,rfl⟩:=List.mem_map.mp hy
      exact pn_ints (by rw [List.length_replicate]; omega) fun y hy=>by
        rw [(List.mem_replicate.mp hy).2]
        exact in_i (by decide) (by decide)
  · simp_arith [ev_drw,hw,kt,kf1,b4,b6]
    have q:=nr_one (k:=2) (n:=13000) (P:=TT L1) (A:=xs.take a) (B:=xs.drop (min (a+1) xs.length)) (x:=o) (by rw [List.length_append,List.length_append,List.length_take,List.length_drop]; show _+1+_≤_; omega) (fun y hy=>(tk _ y hy).pn.1) (fun y hy=>(dr _ y hy).pn.1) ho (fun y hy=>(tk _ y hy).pn.2) (fun y hy=>(dr _ y hy).pn.2) hoT
    exact al_ret ⟨_,rfl,rq_mono q.1 (Nat.le_refl _) (by decide),q.2⟩
noncomputable def DyeI (xs:List PyData):Prop:=1≤xs.length∧xs.length≤3∧∀ y∈xs,Lne y
noncomputable def Dye (y:PyData):Prop:=∃ xs,y=.tuple xs∧DyeI xs
theorem Dye.pn {y:PyData} (h:Dye y):Pn y 3 53000∧TT (TT L1) y:=by
  obtain ⟨xs,rfl,h1,h3,hi⟩:=h
  obtain ⟨q1,q2⟩:=nr_pl (k:=2) (n:=13000) (P:=TT L1) (Y:=xs) (by omega) (fun y hy=>(hi y hy).pn.1) (fun y hy=>(hi y hy).pn.2)
  exact ⟨pn_mono q1 (Nat.le_refl _) (by decide),q2⟩
noncomputable def Thg (x:PyData):Prop:=Rq x 5 900000∧T3 x
theorem th_c {x:PyData} (h:x.hasDict=false∨hasL x=false) (h2:x.showable=true) (h3:x.depth≤5) (h4:x.shown.length≤900000) (h5:∀ xs,x≠.tuple xs):Thg x:=⟨⟨h,h2,h3,h4⟩,fun xs e=>absurd e (h5 xs)⟩
theorem t2_of {x:PyData} (h:TT (TT L1) x):T2 x:=fun ys e=>⟨(h ys e).1,fun y hy=>((h ys e).2 y hy).l1⟩
theorem l1_t2 {l:List PyData} (h:LneI l):T2 (.tuple l):=fun xs e=>by
  cases e
  exact ⟨by have:=h.2.1; omega,fun y hy=>l1_in (h.2.2 y hy)⟩
theorem s_bent {xs:List PyData} (h1:1≤xs.length) (h3:xs.length≤3) (hi:∀ y∈xs,Dye y):Al (m_law_bent [.pen,.d (.tuple xs)]) 8 fun r=>∃ x,r=.d x∧Thg x:=by
  have tk:∀ t:Nat,∀ y∈xs.take t,Dye y:=fun t y hy=>hi y (List.mem_of_mem_take hy)
  have dr:∀ t:Nat,∀ y∈xs.drop t,Dye y:=fun t y hy=>hi y (List.mem_of_mem_drop hy)
  have up:∀ {x:PyData},Rq x 4 212018∧TT T2 x→Thg x:=fun h=>⟨rq_mono h.1 (by decide) (by decide),h.2⟩
  have q:∀ {Y:List PyData},Y.length≤4→(∀ y∈Y,Dye y)→Pn (.tuple Y) 4 212018∧TT T2 (.tuple Y):=fun {Y} hl hY=>nr_pl (k:=3) (n:=53000) (P:=T2) hl (fun y hy=>(hY y hy).pn.1) (fun y hy=>t2_of (hY y hy).pn.2)
  have qq:∀ {Y:List PyData},Y.length≤4→(∀ y∈Y,Dye y)→Thg (.tuple Y):=fun hl hY=>up ⟨(q hl hY).1.rq,(q hl hY).2⟩
  simp_arith [m_law_bent,ev_drw]
  refine al_drw (n:=7) (by decide) (by decide) (by decide) fun w w0 w1=>?_
  try simp_arith [ev_drw]
  refine al_drw (n:=6) (by omega) (by omega) (by decide) fun r r0 r1=>?_
  obtain ⟨a,rfl⟩:=Int.eq_ofNat_of_zero_le r0
  have ha:a < xs.length:=by omega
  have ia:atI xs (a:Int)=some xs[a]:=atI_ge (Int.natCast_nonneg a) (by rw [Int.toNat_natCast]; exact List.getElem?_eq_getElem ha)
  obtain ⟨zs,ez,z1,z3,zi⟩:=hi _ (List.getElem_mem ha)
  rw [ez] at ia
  simp_arith [ev_drw,ia]
  refine al_bind (n:=5) (n':=1) (s_bday z1 z3 zi) (by decide) ?_
  rintro _ ⟨o,rfl,ho,hoT⟩
  have kt:L2.cutD xs none (some (a:Int))=xs.take a:=cu_to xs a (Nat.le_of_lt ha)
  have kf1:L2.cutD xs (some ((a:Int)+1)) none=xs.drop (min (a+1) xs.length):=cu_from xs (a+1)
  have one:∀ {x:PyData},Rq x 3 53000→T2 x→Thg (.tuple (xs.take a++[x]++xs.drop (min (a+1) xs.length))):=fun {x} hx hx2=>up (nr_one (k:=3) (n:=53000) (P:=T2) (by rw [List.length_append,List.length_append,List.length_take,List.length_drop]; show _+1+_≤_; omega) (fun y hy=>(tk _ y hy).pn.1) (fun y hy=>(dr _ y hy).pn.1) hx (fun y hy=>t2_of (tk _ y hy).pn.2) (fun y hy=>t2_of (dr _ y hy).pn.2) hx2)
  have b4:∀ o:PyData,bin2 addE (.tuple (xs.take a)) (.tuple [o])=.ret (.tuple (xs.take a++[o])):=fun o=>addE_of (small_le (by rw [List.length_take]; show _+1≤_; omega))
  have b6:∀ o:PyData,bin2 addE (.tuple (xs.take a++[o])) (.tuple (xs.drop (min (a+1) xs.length)))=.ret (.tuple (xs.take a++[o]++xs.drop (min (a+1) xs.length))):=fun o=>addE_of (small_le (by rw [List.length_append,List.length_take,List.length_drop]; show _+1+_≤_; omega))
  cases hw:decide (w < 5)
  · cases h5:(w == 5)
    · cases h6:(w == 6)
      · cases h7:(w == 7)
        · obtain ⟨us,eu,u1,u3,ui⟩:=hi xs[0] (List.getElem_mem (by omega))
          have i0:atI xs 0=some (.tuple us):=by
            have q:=atI_ge (xs:=xs) (n:=0) (v:=xs[0]) (by decide) (List.getElem?_eq_getElem (by omega))
            rw [q,eu]
          simp_arith [ev_drw,hw,h5,h6,h7,i0]
          refine al_drw (n:=0) (by decide) (by decide) (by decide) fun r r0 r1=>?_
          obtain ⟨x,hx,hm⟩:=pick (xs:=[PyData.list xs,.none,.int 3,.bool true,.str "1",.dict [],.tuple [],.list [],.tuple us,.tuple [.tuple xs]]) r0 r1
          simp_arith [ev_drw,hx]
          refine al_ret ⟨x,rfl,?_⟩
          have qs:=nr_ls (k:=3) (n:=53000) (P:=T2) (Y:=xs) (by omega) (fun y hy=>(hi y hy).pn.1)
          have qd:=Dye.pn (y:=.tuple us) ⟨us,rfl,u1,u3,ui⟩
          have qx:=q (Y:=xs) (by omega) hi
          have qw:=pn_tup (xs:=[PyData.tuple xs]) (fa qx.1 fn)
          refine (fa (p:=Thg) (up qs) (fa (th_c (.inl rfl) rfl (Nat.zero_le _) (by decide +kernel) (by intro xs e; cases e)) (fa ⟨rq_mono (pn_int (nb_small (by decide) (by decide))).rq (by decide) (by decide),fun xs e=>by cases e⟩ (fa (th_c (.inl rfl) rfl (Nat.zero_le _) (by decide +kernel) (by intro xs e; cases e)) (fa (th_c (.inl rfl) rfl (Nat.zero_le _) (by decide +kernel) (by intro xs e; cases e)) (fa (th_c (.inr (by rw [hasL]; rfl)) rfl (by decide) (by decide +kernel) (by intro xs e; cases e)) ?_)))))) x hm
          refine fa ⟨⟨.inl rfl,rfl,by decide,by decide +kernel⟩,fun xs e=>by cases e; exact ⟨Nat.zero_le _,fn⟩⟩ (fa (th_c (.inl rfl) rfl (by decide) (by decide +kernel) (by intro xs e; cases e)) (fa ⟨rq_mono qd.1.rq (by decide) (by decide),fun ys e=>?_⟩ (fa ⟨rq_mono qw.rq (Nat.le_refl _) (show 1 * 212018+2 * 1+10≤900000 by decide),fun ys e=>?_⟩ fn)))
          · cases e
            refine ⟨by omega,fun y hy=>?_⟩
            obtain ⟨l,rfl,hl⟩:=ui y hy
            exact l1_t2 hl
          · cases e
            refine ⟨(show 1≤200 by decide),fa (fun ys e=>?_) fn⟩
            cases e
            exact ⟨by omega,fun y hy=>(hi y hy).pn.2.l1⟩
        · have ql:=nr_ls (k:=2) (n:=13000) (P:=L1) (Y:=zs) (by omega) (fun y hy=>(zi y hy).pn.1)
          simp_arith [ev_drw,hw,h5,h6,h7,ia,kt,kf1,b4,b6]
          exact al_ret ⟨_,rfl,one (rq_mono ql.1 (Nat.le_refl _) (by decide)) ql.2⟩
      · have b2:=addE_of (xs:=xs.take a) (ys:=xs.drop (min (a+1) xs.length)) (small_le (by rw [List.length_take,List.length_drop]; omega))
        simp_arith [ev_drw,hw,h5,h6,kt,kf1,b2]
        exact al_ret ⟨_,rfl,qq (by rw [List.length_append,List.length_take,List.length_drop]; omega) (pl_app (tk _) (dr _))⟩
    · have b1:=addE_of (xs:=xs) (ys:=[o]) (small_le (by show _+1≤_; omega))
      simp_arith [ev_drw,hw,h5,b1]
      have qo:=nr_one (k:=3) (n:=53000) (P:=T2) (A:=xs) (B:=[]) (x:=o) (by rw [List.append_nil,List.length_append]; show _+1≤_; omega) (fun y hy=>(hi y hy).pn.1) fn ho (fun y hy=>t2_of (hi y hy).pn.2) fn (t2_of hoT)
      rw [List.append_nil] at qo
      exact al_ret ⟨_,rfl,up qo⟩
  · simp_arith [ev_drw,hw,kt,kf1,b4,b6]
    exact al_ret ⟨_,rfl,one ho (t2_of hoT)⟩
theorem g_right {x:PyData} (h:Thg x):m_law_right [.d x]=.ret (.d (.bool true)):=by
  have r:=ev_reprX (rq_ok h.1 (by decide) (by decide))
  have e1:=g_double h.2
  have e2:=g_ldouble h.2
  have rb:∀ b:Bool,cb1 reprX [.bool b]=.ret (.str (PyData.bool b).shown):=fun b=>ev_reprX (by cases b <;> decide +kernel)
  have rr:rng1 [.int 2]=.ret (rngL 0 2):=ev_rg1 (inR_of (by decide) (by decide))
  have t:∀ J:Sl,l_law_right_1 [.d x,.d (.str x.shown),.d (.bool (dbB x)),J]=.ret (.next [.d x,.d (.str x.shown),.d (.bool (dbB x)),J]):=fun J=>by
    simp_arith [l_law_right_1,e1,rb,r,str_self,Bool.not_true]
  have lp:forL (gSet 3) l_law_right_1 (rngL 0 2) [.d x,.d (.str x.shown),.d (.bool (dbB x)),.un]=.ret (.next [.d x,.d (.str x.shown),.d (.bool (dbB x)),.d (.int 1)]):=by
    have e:rngL 0 2=[.int 0,.int 1]:=rfl
    rw [e,for_cons]
    simp_arith [t]
    rw [for_cons]
    simp_arith [t]
  simp_arith [m_law_right,r,e2,rr,lp]
end My
set_option Elab.async false
set_option linter.all false
set_option maxRecDepth 100000
set_option exponentiation.threshold 9000
namespace My
open PySem PySem.Spec PyProof.Rows L2 Tw
noncomputable abbrev rl (rows:List (List PyData)):Sl:=.d (.list (rows.map PyData.list))
section
variable {A:List Sl→Tr (List (List PyData))} {v i j:List Sl→Tr PyData} {t:List Sl→Tr Ou} {a b c d:Sl} {rows:List (List PyData)} {x y z:PyData}
noncomputable def rw5 (t:List Sl→Tr Ou) (a b c:Sl) (rows:List (List PyData)):Tr Ou:=t [a,b,c,rl rows]
noncomputable def rw4 (t:List Sl→Tr Ou) (a b c:Sl) (rows:List (List PyData)) (x y z:PyData):Tr Ou:=(Tr.of (put2 rows y z x)).bind (rw5 t a b c)
noncomputable def rw3 (j:List Sl→Tr PyData) (t:List Sl→Tr Ou) (a b c:Sl) (rows:List (List PyData)) (x y:PyData):Tr Ou:=(j [a,b,c,rl rows]).bind (rw4 t a b c rows x y)
noncomputable def rw2 (i j:List Sl→Tr PyData) (t:List Sl→Tr Ou) (a b c:Sl) (rows:List (List PyData)) (x:PyData):Tr Ou:=(i [a,b,c,rl rows]).bind (rw3 j t a b c rows x)
noncomputable def rw1 (v i j:List Sl→Tr PyData) (t:List Sl→Tr Ou) (a b c:Sl) (rows:List (List PyData)):Tr Ou:=(v [a,b,c,rl rows]).bind (rw2 i j t a b c rows)
theorem ev_rows:aRows 3 A v i j t [a,b,c,d]=(A [a,b,c,d]).bind (rw1 v i j t a b c):=rfl
theorem ev_rw1:rw1 v i j t a b c rows=(v [a,b,c,rl rows]).bind (rw2 i j t a b c rows):=rfl
theorem ev_rw2:rw2 i j t a b c rows x=(i [a,b,c,rl rows]).bind (rw3 j t a b c rows x):=rfl
theorem ev_rw3:rw3 j t a b c rows x y=(j [a,b,c,rl rows]).bind (rw4 t a b c rows x y):=rfl
theorem ev_rw4:rw4 t a b c rows x y z=(Tr.of (put2 rows y z x)).bind (rw5 t a b c):=rfl
theorem ev_rw5:rw5 t a b c rows=t [a,b,c,rl rows]:=rfl
end
noncomputable def lr1 (el:List Sl→Tr (List PyData)) (ρ:List Sl) (x:PyData):Tr (List PyData):=el (.d x::ρ)
noncomputable def lr0 (el:List Sl→Tr (List PyData)) (ρ:List Sl) (xs:List PyData):Tr (List (List PyData)):=if small xs.length=true then mapR (lr1 el ρ) xs else .fail
theorem blk4 {x y:PyData} {d:Sl}:blk 1 [0,1,2] [.pen,.d x,.d y,d]=[.un,.pen,.d x,.d y]:=rfl
theorem ev_lcR {is el:List Sl→Tr (List PyData)} {x y:PyData} {d:Sl}:aLc2 is 1 [0,1,2] (gSet 0) el [.pen,.d x,.d y,d]=(is [.pen,.d x,.d y,d]).bind (lr0 el [.pen,.d x,.d y]):=by
  unfold aLc2
  rw [blk4]
  rfl
theorem ev_lr0 {el:List Sl→Tr (List PyData)} {ρ:List Sl} {xs:List PyData} (h:small xs.length=true):lr0 el ρ xs=mapR (lr1 el ρ) xs:=if_pos h
theorem ev_lr1 {el:List Sl→Tr (List PyData)} {ρ:List Sl} {x:PyData}:lr1 el ρ x=el (.d x::ρ):=rfl
theorem al_mapR {h:PyData→Tr (List PyData)} {P:List PyData→Prop} {n:Nat}:∀ {xs:List PyData},(∀ x∈xs,Al (h x) n P)→Al (mapR h xs) (xs.length * n) fun ys=>ys.length=xs.length∧∀ y∈ys,P y
  | [],_=>al_ret ⟨rfl,fun _ h=>nomatch h⟩
  | x::xs,hx=>by
    unfold mapR
    refine al_bind (n:=n) (n':=xs.length * n) (hx x List.mem_cons_self) (by rw [List.length_cons,Nat.succ_mul]; omega) fun y hy=>?_
    refine al_bind (n:=xs.length * n) (n':=0) (al_mapR fun z hz=>hx z (List.mem_cons_of_mem _ hz)) (by omega) fun ys hys=>?_
    refine al_ret ⟨by rw [List.length_cons,List.length_cons,hys.1],fun z hz=>?_⟩
    rcases List.mem_cons.mp hz with e | e
    · subst e; exact hy
    · exact hys.2 z e
theorem sumI_nn:∀ {l:List PyData},(∀ y∈l,intIn 0 1000 y)→0≤sumI l∧∀ n:Int,.int n∈l→n≤sumI l
  | [],_=>⟨Int.le_refl _,fun _ h=>nomatch h⟩
  | x::l,h=>by
    obtain ⟨h1,h2⟩:=sumI_nn (l:=l) fun n hn=>h n (List.mem_cons_of_mem _ hn)
    obtain ⟨v,rfl,v0,v1⟩:=h x List.mem_cons_self
    rw [sumI]
    refine ⟨by omega,fun n hn=>?_⟩
    rcases List.mem_cons.mp hn with e | e
    · cases e; omega
    · have:=h2 n e; omega
structure Rowd (R:List (List PyData)) (w:Nat):Prop where
  l1:1≤R.length
  l3:R.length≤3
  w1:1≤w
  w3:w≤3
  row:∀ r∈R,r.length=w∧∀ y∈r,intIn 0 1000 y
theorem Rowd.lne {R:List (List PyData)} {w:Nat} (h:Rowd R w):∀ y∈R.map PyData.tuple,Lne y:=fun y hy=>by
  obtain ⟨r,hr,rfl⟩:=List.mem_map.mp hy
  obtain ⟨e,q⟩:=h.row r hr
  exact ⟨r,rfl,by rw [e]; exact h.w1,by rw [e]; exact h.w3,q⟩
theorem wi_of {y:PyData} (h:intIn 0 1000 y):wiB y 0 1000=true:=by
  obtain ⟨v,rfl,a,b⟩:=h
  show (decide (0≤v) && decide (v≤1000))=true
  rw [decide_eq_true a,decide_eq_true b]
  rfl
theorem len3_of {n:Nat} (h1:1≤n) (h2:n≤3):len3 n=true:=by
  unfold len3
  rw [decide_eq_true h1,decide_eq_true h2]
  rfl
theorem Rowd.dy {R:List (List PyData)} {w:Nat} (h:Rowd R w) {r:List PyData} {n:Int} (hr:r∈R) (hn:.int n∈r) (h0:0 < n):dyB (.tuple (R.map PyData.tuple))=true:=by
  have a1:(R.map PyData.tuple).all lnB=true:=List.all_eq_true.mpr fun y hy=>by
    obtain ⟨r,hr,rfl⟩:=List.mem_map.mp hy
    obtain ⟨e,q⟩:=h.row r hr
    rw [lnB_tup,e,len3_of h.w1 h.w3]
    exact List.all_eq_true.mpr fun y hy=>wi_of (q y hy)
  have hd:lenP ((R.map PyData.tuple).headD .none)=(w:Int):=by
    have l1:=h.l1
    have row:=h.row
    cases R with
    | nil=>cases l1
    | cons r0 R0 =>
      show ((r0.length:Nat):Int)=_
      rw [(row r0 List.mem_cons_self).1]
  have a2:(R.map PyData.tuple).all (sameL (R.map PyData.tuple))=true:=List.all_eq_true.mpr fun y hy=>by
    obtain ⟨r,hr,rfl⟩:=List.mem_map.mp hy
    obtain ⟨e,q⟩:=h.row r hr
    unfold sameL
    rw [hd]
    show (((r.length:Nat):Int) == (w:Int))=true
    rw [e]
    exact beq_self_eq_true _
  have a3:((R.map PyData.tuple).map sumP).sum > 0:=by
    have nn:∀ k∈(R.map PyData.tuple).map sumP,0≤k:=fun k hk=>by
      obtain ⟨y,hy,rfl⟩:=List.mem_map.mp hk
      obtain ⟨r,hr,rfl⟩:=List.mem_map.mp hy
      exact (sumI_nn (h.row r hr).2).1
    have q:=(sum_nn nn).2 (sumI r) (List.mem_map.mpr ⟨.tuple r,List.mem_map.mpr ⟨r,hr,rfl⟩,rfl⟩)
    have q2:=(sumI_nn (h.row r hr).2).2 n hn
    omega
  rw [dyB_tup,List.length_map,len3_of h.l1 h.l3,a1,a2,decide_eq_true a3]
  rfl
theorem s_dday:Al (m_law_double_day [.pen]) 15 fun r=>∃ y,r=.d y∧Dye y∧dyB y=true:=by
  simp_arith [m_law_double_day,ev_drw]
  refine al_drw (n:=14) (by decide) (by decide) (by decide) fun q q0 q1=>?_
  obtain ⟨b,hb,b0,b1⟩:=pickI (xs:=[PyData.int 2,.int 4,.int 20,.int 1001]) (lo:=2) (hi:=1001) (by simp [intIn]) q0 q1
  simp_arith [ev_drw,hb]
  refine al_drw (n:=13) (by decide) (by decide) (by decide) fun w w0 w1=>?_
  simp_arith [ev_drw,ev_rows,ev_lcR]
  refine al_drw (n:=12) (by decide) (by decide) (by decide) fun c c0 c1=>?_
  have rr:rng1 [.int (1+c)]=.ret (rngL 0 (1+c)):=ev_rg1 (inR_of (by omega) (by omega))
  have hs:small (rngL 0 (1+c)).length=true:=small_le (by rw [rngL_len]; omega)
  have rw':rng1 [.int (1+w)]=.ret (rngL 0 (1+w)):=ev_rg1 (inR_of (by omega) (by omega))
  have hw:small (rngL 0 (1+w)).length=true:=small_le (by rw [rngL_len]; omega)
  simp_arith [ev_drw,rr,ev_lr0 hs]
  refine al_bind (n:=9) (n':=3) (P:=fun R=>Rowd R (1+w).toNat) (al_mono (al_mapR (n:=3) (P:=fun r=>r.length=(1+w).toNat∧∀ y∈r,intIn 0 1000 y) fun x hx=>?_) (by rw [rngL_len]; omega) fun R hR=>?_) (by decide) ?_
  · rw [ev_lr1]
    simp_arith [q_law_double_day_2,ev_drw,rw',hw]
    refine al_map (n:=1) (P:=intIn 0 1000) (by rw [rngL_len]; omega) (fun y hy=>?_) fun ys hl hys=>⟨by rw [hl,rngL_len]; omega,hys⟩
    simp_arith [q_law_double_day_1,ev_drw]
    refine al_drw (n:=0) (by omega) (by omega) (by decide) fun v v0 v1=>?_
    try simp_arith [ev_drw]
    exact al_ret ⟨v,rfl,v0,by omega⟩
  · rw [rngL_len] at hR
    exact ⟨by omega,by omega,by omega,by omega,hR.2⟩
  · intro R hR
    simp_arith [ev_drw,ev_rw1]
    refine al_drw (n:=2) (by omega) (by omega) (by decide) fun v v0 v1=>?_
    simp_arith [ev_drw,ev_rw2,List.length_map]
    have l1:=hR.l1
    have l3:=hR.l3
    refine al_drw (n:=1) (by omega) (by omega) (by decide) fun i i0 i1=>?_
    simp_arith [ev_drw,ev_rw3]
    refine al_drw (n:=0) (by omega) (by omega) (by decide) fun j j0 j1=>?_
    obtain ⟨i,rfl⟩:=Int.eq_ofNat_of_zero_le i0
    obtain ⟨j,rfl⟩:=Int.eq_ofNat_of_zero_le j0
    have hi:i < R.length:=by omega
    obtain ⟨el,ei⟩:=hR.row R[i] (List.getElem_mem hi)
    have hj:j < R[i].length:=by rw [el]; omega
    have n1:L2.ixN R.length (i:Int)=some i:=by
      unfold L2.ixN
      rw [if_pos (by omega),if_pos (by omega),Int.toNat_natCast]
    have n2:L2.ixN R[i].length (j:Int)=some j:=by
      unfold L2.ixN
      rw [if_pos (by omega),if_pos (by omega),Int.toNat_natCast]
    have ep:put2 R (.int (i:Int)) (.int (j:Int)) (.int (1+v))=some (R.set i (R[i].set j (.int (1+v)))):=by
      show ((L2.ixN R.length (i:Int)).bind fun n=>(R[n]?).bind fun r=>(L2.ixN r.length (j:Int)).bind fun l=>if flatD (.int (1+v))=true then some (R.set n (r.set l (.int (1+v)))) else none)=_
      rw [n1]
      show ((R[i]?).bind fun r=>(L2.ixN r.length (j:Int)).bind fun l=>if flatD (.int (1+v))=true then some (R.set i (r.set l (.int (1+v)))) else none)=_
      rw [List.getElem?_eq_getElem hi]
      show ((L2.ixN R[i].length (j:Int)).bind fun l=>if flatD (.int (1+v))=true then some (R.set i (R[i].set l (.int (1+v)))) else none)=_
      rw [n2]
      rfl
    have hR2:Rowd (R.set i (R[i].set j (.int (1+v)))) (1+w).toNat:=by
      refine ⟨by rw [List.length_set]; exact l1,by rw [List.length_set]; exact l3,hR.w1,hR.w3,fun r hr=>?_⟩
      rcases List.mem_or_eq_of_mem_set hr with q | q
      · exact hR.row r q
      · subst q
        refine ⟨by rw [List.length_set]; exact el,fun y hy=>?_⟩
        rcases List.mem_or_eq_of_mem_set hy with q | q
        · exact ei y q
        · subst q; exact ⟨1+v,rfl,by omega,by omega⟩
    have hin:R[i].set j (.int (1+v))∈R.set i (R[i].set j (.int (1+v))):=List.mem_set hi _
    have hin2:PyData.int (1+v)∈R[i].set j (.int (1+v)):=List.mem_set hj _
    have hdy:=hR2.dy hin hin2 (by omega)
    have hlen:(R.set i (R[i].set j (.int (1+v)))).length=R.length:=List.length_set ..
    generalize R.set i (R[i].set j (.int (1+v)))=R' at ep hR2 hdy hlen
    have hs2:small (R'.map PyData.list).length=true:=small_le (by rw [List.length_map]; omega)
    have em:mapT (lc2 (gSet 0) q_law_double_day_3 [.un]) (R'.map PyData.list)=.ret (R'.map PyData.tuple):=by
      have g:∀ R:List (List PyData),mapT (lc2 (gSet 0) q_law_double_day_3 [.un]) (R.map PyData.list)=.ret (R.map PyData.tuple):=fun R=>by
        induction R with
        | nil=>rfl
        | cons r R ih =>
          rw [List.map_cons,mapT,ih]
          simp_arith [q_law_double_day_3]
      exact g R'
    simp_arith [ev_drw,ev_rw4,ep,ev_rw5,hs2,em]
    exact al_ret ⟨_,rfl,⟨_,rfl,by rw [List.length_map]; omega,by rw [List.length_map]; omega,hR2.lne⟩,hdy⟩
theorem s_double:Al (m_law_double [.pen]) 46 fun r=>∃ xs,r=.d (.tuple xs)∧1≤xs.length∧xs.length≤3∧∀ y∈xs,Dye y∧dyB y=true:=by
  simp_arith [m_law_double,ev_drw]
  refine al_drw (n:=45) (by decide) (by decide) (by decide) fun c c0 c1=>?_
  have rr:rng1 [.int (1+c)]=.ret (rngL 0 (1+c)):=ev_rg1 (inR_of (by omega) (by omega))
  have hs:small (rngL 0 (1+c)).length=true:=small_le (by rw [rngL_len]; omega)
  simp_arith [ev_drw,rr,hs]
  refine al_bind (n:=45) (n':=0) (al_map (n:=15) (P:=fun y=>Dye y∧dyB y=true) (Q:=fun ys=>1≤ys.length∧ys.length≤3∧∀ y∈ys,Dye y∧dyB y=true) (by rw [rngL_len]; omega) (fun x hx=>?_) fun ys hl hys=>?_) (by decide) ?_
  · simp_arith [q_law_double_1,ev_drw]
    refine al_bind (n:=15) (n':=0) s_dday (by decide) ?_
    rintro _ ⟨y,rfl,hy⟩
    simp_arith [ev_drw]
    exact al_ret hy
  · rw [rngL_len] at hl
    exact ⟨by omega,by omega,hys⟩
  · rintro ys ⟨h1,h3,hy⟩
    try simp_arith [ev_drw]
    exact al_ret ⟨ys,rfl,h1,h3,hy⟩
theorem dye_of {y:PyData} (h:dyB y=true):Dye y:=by
  cases y with
  | tuple xs =>
    rw [dyB_tup,Bool.and_eq_true,Bool.and_eq_true] at h
    obtain ⟨h1,h2,_⟩:=h
    unfold len3 at h1
    rw [Bool.and_eq_true,decide_eq_true_eq,decide_eq_true_eq] at h1
    refine ⟨xs,rfl,h1.1,h1.2,fun z hz=>?_⟩
    obtain ⟨l,rfl,q1,q3,q⟩:=ln_ints (List.all_eq_true.mp h2 z hz)
    refine ⟨l.map PyData.int,rfl,by rw [List.length_map]; exact q1,by rw [List.length_map]; exact q3,fun u hu=>?_⟩
    obtain ⟨n,hn,rfl⟩:=List.mem_map.mp hu
    exact ⟨n,rfl,(q n hn).1,(q n hn).2⟩
  | _=>cases h
theorem db_of {x:PyData} (h:dbB x=true):∃ xs,x=.tuple xs∧1≤xs.length∧xs.length≤3∧∀ y∈xs,Dye y:=by
  cases x with
  | tuple xs =>
    rw [dbB_tup,Bool.and_eq_true] at h
    obtain ⟨h1,h2⟩:=h
    unfold len3 at h1
    rw [Bool.and_eq_true,decide_eq_true_eq,decide_eq_true_eq] at h1
    exact ⟨xs,rfl,h1.1,h1.2,fun z hz=>dye_of (List.all_eq_true.mp h2 z hz)⟩
  | _=>cases h
theorem law_one {xs:List PyData} (h1:1≤xs.length) (h3:xs.length≤3) (hi:∀ y∈xs,Dye y) (J2 J4 J5:Sl):Al (l_law_1 [.un,.pen,J2,.d (.tuple xs),J4,J5]) 16 fun o=>∃ K5:Sl,o=.next [.un,.pen,J2,.d (.tuple xs),J4,K5]:=by
  simp_arith [l_law_1,ev_drw]
  refine al_bind (n:=8) (n':=8) (s_bent h1 h3 hi) (by decide) ?_
  rintro _ ⟨x,rfl,hx⟩
  have e1:=g_right hx
  have e2:=g_ldouble hx.2
  cases hb:dbB x
  · rw [hb] at e2
    simp_arith [ev_drw,e1,e2,Bool.not_true]
    exact al_ret ⟨_,rfl⟩
  · rw [hb] at e2
    obtain ⟨zs,rfl,z1,z3,zi⟩:=db_of hb
    simp_arith [ev_drw,e1,e2,Bool.not_true]
    refine al_bind (n:=8) (n':=0) (s_bent z1 z3 zi) (by decide) ?_
    rintro _ ⟨u,rfl,hu⟩
    have e3:=g_right hu
    simp_arith [ev_drw,e3,Bool.not_true]
    exact al_ret ⟨_,rfl⟩
theorem law_turn (J2 J3 J4 J5:Sl):Al (l_law_2 [.un,.pen,J2,J3,J4,J5]) 110 fun o=>∃ K3 K4 K5:Sl,o=.next [.un,.pen,J2,K3,K4,K5]:=by
  simp_arith [l_law_2,ev_drw]
  refine al_bind (n:=46) (n':=64) s_double (by decide) ?_
  rintro _ ⟨xs,rfl,h1,h3,hi⟩
  have hT:T3 (.tuple xs):=fun ys e=>by
    cases e
    exact ⟨by omega,fun y hy=>t2_of (hi y hy).1.pn.2⟩
  have e1:=g_double hT
  have hd:dbB (.tuple xs)=true:=by
    rw [dbB_tup,len3_of h1 h3]
    exact List.all_eq_true.mpr fun y hy=>(hi y hy).2
  rw [hd] at e1
  have rr:rng1 [.int 4]=.ret (rngL 0 4):=ev_rg1 (inR_of (by decide) (by decide))
  simp_arith [ev_drw,e1,rr,beq_self_eq_true,Bool.not_true]
  refine al_mono (N:=64) (n:=64) (P:=fun o=>∃ K4 K5:Sl,o=.next [.un,.pen,J2,.d (.tuple xs),K4,K5]) ?_ (Nat.le_refl _) ?_
  · refine al_for (n:=16) (fun ρ=>∃ K4 K5:Sl,ρ=[.un,.pen,J2,.d (.tuple xs),K4,K5]) ⟨_,_,rfl⟩ (by rw [rngL_len]; decide) ?_ ?_
    · rintro x ρ hx ⟨K4,K5,rfl⟩
      refine ⟨_,rfl,al_mono (law_one h1 h3 (fun y hy=>(hi y hy).1) _ _ _) (by decide) ?_⟩
      rintro _ ⟨A5,rfl⟩
      exact ⟨_,rfl,_,_,rfl⟩
    · rintro ρ ⟨K4,K5,rfl⟩
      exact ⟨_,_,rfl⟩
  · rintro _ ⟨K4,K5,rfl⟩
    exact ⟨_,_,_,rfl⟩
theorem law_true:Al (m_law law0) 3000 fun o=>o=.ret (.d (.bool true)):=by
  have rr:rng1 [.int 4]=.ret (rngL 0 4):=ev_rg1 (inR_of (by decide) (by decide))
  simp_arith [m_law,law0,ev_drw,rr]
  refine al_bind (n:=440) (n':=500) (P:=fun o=>∃ K2 K3 K4 K5:Sl,o=.next [.un,.pen,K2,K3,K4,K5]) ?_ (by decide) ?_
  · refine al_for (n:=110) (fun ρ=>∃ K2 K3 K4 K5:Sl,ρ=[.un,.pen,K2,K3,K4,K5]) ⟨_,_,_,_,rfl⟩ (by rw [rngL_len]; decide) ?_ ?_
    · rintro x ρ hx ⟨K2,K3,K4,K5,rfl⟩
      refine ⟨_,rfl,al_mono (law_turn _ _ _ _) (by decide) ?_⟩
      rintro _ ⟨A3,A4,A5,rfl⟩
      exact ⟨_,rfl,_,_,_,_,rfl⟩
    · rintro ρ ⟨K2,K3,K4,K5,rfl⟩
      exact ⟨_,_,_,_,rfl⟩
  · rintro _ ⟨K2,K3,K4,K5,rfl⟩
    simp_arith [ev_drw]
    exact al_ret rfl
end My
set_option Elab.async false
set_option linter.all false
set_option maxRecDepth 100000
open PySem PySem.W PyProof.Rows L2
set_option maxRecDepth 100000 in
set_option maxHeartbeats 0 in
theorem PySem.Challenge.cw_twomarks_k46_double_falls_known_holds : PySem.Challenge.rw_twomarks_k46_double_falls_known.Holds := by
  refine My.hd ?_
  k_fill
  refine L2.walk_ofK (l:=PySem.Challenge.rw_twomarks_k46_double_falls_known) (n:=63) (k:=7) (x:="_law_script") (CX:=CX0) (sp:=L2.spLaw) rfl (by decide) rfl ⟨rfl,by decide,by decide,rfl⟩ (fun w h Y=>PySem.W.kIn_of Y) ?F ?S ?C
  case F =>
    intro w mg fa h KX G hmg
    have d_is_whole:Def (L2.KOf KX) mg "is_whole" My.s_is_whole ["thing"]:=by
      dsimp only [L2.KOf]
      refine' L2.def_mk KX G ?a ?l ?c ?k ?b
      (case a=>k_is); (case l=>k_is); (case c=>k_is); (case k=>k_is)
      (case b=>intro _ _ _ _ _ _ us hl; obtain ⟨_,rfl⟩:=L2.len1 hl; rfl)
    have d_is_whole_within:Def (L2.KOf KX) mg "is_whole_within" My.s_is_whole_within ["thing","lowest","highest"]:=by
      dsimp only [L2.KOf]
      refine' L2.def_mk KX G ?a ?l ?c ?k ?b
      (case a=>k_is); (case l=>k_is); (case c=>k_is); (case k=>k_is)
      (case b=>intro _ _ _ _ _ _ us hl; obtain ⟨_,_,_,rfl⟩:=L2.len3 hl; rfl)
    have d_is_line:Def (L2.KOf KX) mg "is_line" My.s_is_line ["thing"]:=by
      dsimp only [L2.KOf]
      refine' L2.def_mk KX G ?a ?l ?c ?k ?b
      (case a=>k_is); (case l=>k_is); (case c=>k_is); (case k=>k_is)
      (case b=>intro _ _ _ _ _ _ us hl; obtain ⟨_,rfl⟩:=L2.len1 hl; rfl)
    have d_day_scale:Def (L2.KOf KX) mg "day_scale" My.s_day_scale ["day"]:=by
      dsimp only [L2.KOf]
      refine' L2.def_mk KX G ?a ?l ?c ?k ?b
      (case a=>k_is); (case l=>k_is); (case c=>k_is); (case k=>k_is)
      (case b=>intro _ _ _ _ _ _ us hl; obtain ⟨_,rfl⟩:=L2.len1 hl; rfl)
    have d_is_double_day:Def (L2.KOf KX) mg "is_double_day" My.s_is_double_day ["thing"]:=by
      dsimp only [L2.KOf]
      refine' L2.def_mk KX G ?a ?l ?c ?k ?b
      (case a=>k_is); (case l=>k_is); (case c=>k_is); (case k=>k_is)
      (case b=>intro _ _ _ _ _ _ us hl; obtain ⟨_,rfl⟩:=L2.len1 hl; rfl)
    have d_is_double:Def (L2.KOf KX) mg "is_double" My.s_is_double ["thing"]:=by
      dsimp only [L2.KOf]
      refine' L2.def_mk KX G ?a ?l ?c ?k ?b
      (case a=>k_is); (case l=>k_is); (case c=>k_is); (case k=>k_is)
      (case b=>intro _ _ _ _ _ _ us hl; obtain ⟨_,rfl⟩:=L2.len1 hl; rfl)
    have d__law_pen:Def (L2.KOf KX) mg "_law_pen" My.s__law_pen ["_law_script"]:=by
      dsimp only [L2.KOf]
      refine' L2.def_mk KX G ?a ?l ?c ?k ?b
      (case a=>k_is); (case l=>k_is); (case c=>k_is); (case k=>k_is)
      (case b=>intro _ _ _ _ _ _ us hl; obtain ⟨_,rfl⟩:=L2.len1 hl; rfl)
    have d__law_draw:Def (L2.KOf KX) mg "_law_draw" My.s__law_draw ["_law_pen_here","_law_many"]:=by
      dsimp only [L2.KOf]
      refine' L2.def_mk KX G ?a ?l ?c ?k ?b
      (case a=>k_is); (case l=>k_is); (case c=>k_is); (case k=>k_is)
      (case b=>intro _ _ _ _ _ _ us hl; obtain ⟨_,_,rfl⟩:=L2.len2 hl; rfl)
    have d__law_double_day:Def (L2.KOf KX) mg "_law_double_day" My.s__law_double_day ["_law_pen_here"]:=by
      dsimp only [L2.KOf]
      refine' L2.def_mk KX G ?a ?l ?c ?k ?b
      (case a=>k_is); (case l=>k_is); (case c=>k_is); (case k=>k_is)
      (case b=>intro _ _ _ _ _ _ us hl; obtain ⟨_,rfl⟩:=L2.len1 hl; rfl)
    have d__law_double:Def (L2.KOf KX) mg "_law_double" My.s__law_double ["_law_pen_here"]:=by
      dsimp only [L2.KOf]
      refine' L2.def_mk KX G ?a ?l ?c ?k ?b
      (case a=>k_is); (case l=>k_is); (case c=>k_is); (case k=>k_is)
      (case b=>intro _ _ _ _ _ _ us hl; obtain ⟨_,rfl⟩:=L2.len1 hl; rfl)
    have d__law_is_line:Def (L2.KOf KX) mg "_law_is_line" My.s__law_is_line ["_law_thing"]:=by
      dsimp only [L2.KOf]
      refine' L2.def_mk KX G ?a ?l ?c ?k ?b
      (case a=>k_is); (case l=>k_is); (case c=>k_is); (case k=>k_is)
      (case b=>intro _ _ _ _ _ _ us hl; obtain ⟨_,rfl⟩:=L2.len1 hl; rfl)
    have d__law_is_day:Def (L2.KOf KX) mg "_law_is_day" My.s__law_is_day ["_law_thing"]:=by
      dsimp only [L2.KOf]
      refine' L2.def_mk KX G ?a ?l ?c ?k ?b
      (case a=>k_is); (case l=>k_is); (case c=>k_is); (case k=>k_is)
      (case b=>intro _ _ _ _ _ _ us hl; obtain ⟨_,rfl⟩:=L2.len1 hl; rfl)
    have d__law_is_double:Def (L2.KOf KX) mg "_law_is_double" My.s__law_is_double ["_law_thing"]:=by
      dsimp only [L2.KOf]
      refine' L2.def_mk KX G ?a ?l ?c ?k ?b
      (case a=>k_is); (case l=>k_is); (case c=>k_is); (case k=>k_is)
      (case b=>intro _ _ _ _ _ _ us hl; obtain ⟨_,rfl⟩:=L2.len1 hl; rfl)
    have d__law_odd:Def (L2.KOf KX) mg "_law_odd" My.s__law_odd ["_law_pen_here","_law_weight"]:=by
      dsimp only [L2.KOf]
      refine' L2.def_mk KX G ?a ?l ?c ?k ?b
      (case a=>k_is); (case l=>k_is); (case c=>k_is); (case k=>k_is)
      (case b=>intro _ _ _ _ _ _ us hl; obtain ⟨_,_,rfl⟩:=L2.len2 hl; rfl)
    have d__law_bent_line:Def (L2.KOf KX) mg "_law_bent_line" My.s__law_bent_line ["_law_pen_here","_law_line"]:=by
      dsimp only [L2.KOf]
      refine' L2.def_mk KX G ?a ?l ?c ?k ?b
      (case a=>k_is); (case l=>k_is); (case c=>k_is); (case k=>k_is)
      (case b=>intro _ _ _ _ _ _ us hl; obtain ⟨_,_,rfl⟩:=L2.len2 hl; rfl)
    have d__law_bent_day:Def (L2.KOf KX) mg "_law_bent_day" My.s__law_bent_day ["_law_pen_here","_law_day"]:=by
      dsimp only [L2.KOf]
      refine' L2.def_mk KX G ?a ?l ?c ?k ?b
      (case a=>k_is); (case l=>k_is); (case c=>k_is); (case k=>k_is)
      (case b=>intro _ _ _ _ _ _ us hl; obtain ⟨_,_,rfl⟩:=L2.len2 hl; rfl)
    have d__law_bent:Def (L2.KOf KX) mg "_law_bent" My.s__law_bent ["_law_pen_here","_law_double_here"]:=by
      dsimp only [L2.KOf]
      refine' L2.def_mk KX G ?a ?l ?c ?k ?b
      (case a=>k_is); (case l=>k_is); (case c=>k_is); (case k=>k_is)
      (case b=>intro _ _ _ _ _ _ us hl; obtain ⟨_,_,rfl⟩:=L2.len2 hl; rfl)
    have d__law_right:Def (L2.KOf KX) mg "_law_right" My.s__law_right ["_law_thing"]:=by
      dsimp only [L2.KOf]
      refine' L2.def_mk KX G ?a ?l ?c ?k ?b
      (case a=>k_is); (case l=>k_is); (case c=>k_is); (case k=>k_is)
      (case b=>intro _ _ _ _ _ _ us hl; obtain ⟨_,rfl⟩:=L2.len1 hl; rfl)
    have d_law:Def (L2.KOf KX) mg "law" My.s_law ["_law_script"]:=by
      dsimp only [L2.KOf]
      refine' L2.def_mk KX G ?a ?l ?c ?k ?b
      (case a=>k_is); (case l=>k_is); (case c=>k_is); (case k=>k_is)
      (case b=>intro _ _ _ _ _ _ us hl; obtain ⟨_,rfl⟩:=L2.len1 hl; rfl)
    have T:My.Txt (L2.KOf KX) mg:=by
      dsimp only [L2.KOf] at *
      refine' My.txt_mk KX G ?z_len ?z_abs ?z_max ?z_repr ?z_int ?z_list ?z_tuple ?z_str ?z_bool ?z_range ?z_isinstance ?z_sum ?z_all ?z_MOST_WEIGHT ?z_MOST_DOUBLE d_is_whole d_is_whole_within d_is_line d_day_scale d_is_double_day d_is_double d__law_pen d__law_draw d__law_double_day d__law_double d__law_is_line d__law_is_day d__law_is_double d__law_odd d__law_bent_line d__law_bent_day d__law_bent d__law_right d_law
      (case z_len=>k_is)
      (case z_abs=>k_is)
      (case z_max=>k_is)
      (case z_repr=>k_is)
      (case z_int=>k_is)
      (case z_list=>k_is)
      (case z_tuple=>k_is)
      (case z_str=>k_is)
      (case z_bool=>k_is)
      (case z_range=>k_is)
      (case z_isinstance=>k_is)
      (case z_sum=>k_is)
      (case z_all=>k_is)
      (case z_MOST_WEIGHT=>k_is)
      (case z_MOST_DOUBLE=>k_is)
    obtain ⟨f,fd,F,hm,_⟩:=T.d_law.ex
    have e0:=hmg.symm.trans hm
    cases e0
    refine ⟨fd,?_,fun base _ _=>My.ok_law T F (L2.Tr.ok_mono (L2.Tr.all_ok My.law_true.out (by decide)) fun _ _ h=>h.2)⟩
    obtain ⟨oc,od,kV,doc,pm,an,cdv,ct,osl,rfl,lk,hcd⟩:=F.ex
    exact fun s u=>.of_eq rfl
  case S=>exact fun K H a ns hl _ hS=>⟨a,ns,rfl,hS,hl,fun _=>rfl⟩
  case C=>exact fun _ _ _ _ z=>z

