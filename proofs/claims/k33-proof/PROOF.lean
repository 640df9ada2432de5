import PyProof.Rows.All
import Wide.All
import OpenK.AllK
import Wide.FinOn
import Lean
import PyProof.EqAt
import PyProof.EqKinds
import PyProof.TupleCall
import PySem.Challenge.RW_twomarks_k33_whole_dearer_lacking_and_ke
set_option Elab.async false
set_option linter.all false
set_option maxRecDepth 100000
set_option maxHeartbeats 0
noncomputable abbrev My.vw : PySem.Program := PySem.W.view
  PySem.Challenge.rw_twomarks_k33_whole_dearer_lacking_and_ke.row.prog [1, 2, 3, 4, 5, 6, 7, 8, 9, 10, 11, 12, 13, 14, 16, 17, 19, 20, 21, 22, 24, 25, 26, 28, 30, 31, 32, 33, 34, 35, 36, 37, 38, 39]
local macro_rules
  | `(tactic| o_head $H:term) => `(tactic| (
    refine PySem.W.holds_open (q := My.vw) (loose := [])
      (Xt := fun s => PySem.W.xlAt My.vw [] s && PySem.W.recOk
        (PySem.W.RowW.records PySem.Challenge.rw_twomarks_k33_whole_dearer_lacking_and_ke.row.toRowW) s)
      (XP := PySem.W.XL My.vw []) (Yf := ($H).obs)
      (Ya := ($H).val) (YP := ($H).says) (N := 20000) ?hl
      ($H).of ($H).keeps (fun s e => PySem.W.xl_of s
        (Bool.and_eq_true_iff.mp e).1) PySem.W.XL.keeps
      (by rfl) (by rfl) (by rfl)
      (fun s e => PySem.W.recFacts_of
        (Bool.and_eq_true_iff.mp e).2)
      (by rfl) (by assumption) (by decide +kernel)
      ⟨rfl, rfl, rfl, rfl, rfl, by decide +kernel⟩ ?hw ?hc
    (case hl => intro w; kernel_rfl)))
open_top My.hd for PySem.Challenge.rw_twomarks_k33_whole_dearer_lacking_and_ke
set_option maxHeartbeats 200000
set_option Elab.async false
set_option linter.all false
set_option maxRecDepth 100000
namespace L2
open PySem PySem.Spec PyProof.Rows
noncomputable abbrev Key:=Sum Int Str
noncomputable def keyIs:Key→Value→Bool
  | .inl k,v=>Value.isInt k v
  | .inr x,v=>Value.isStrOf x v
noncomputable def keyH (w:World):Key→Int
  | .inl k=>hashInt k
  | .inr x=>hashStr w x
theorem keyIs_shape:∀ {k:Key} {v:Value},keyIs k v=true→(∃ i t,k=Sum.inl i∧v=Value.int i t)∨(∃ x t,k=Sum.inr x∧v=Value.str x t)
  | .inl i,v,h=>by
    obtain ⟨t,e⟩:=Value.isInt_shape (k:=i) (v:=v) h
    exact .inl ⟨i,t,rfl,e⟩
  | .inr x,v,h=>by
    obtain ⟨t,e⟩:=Value.isStrOf_shape (x:=x) (v:=v) h
    exact .inr ⟨x,t,rfl,e⟩
theorem keyIs_int (i:Int) (t:Tok):keyIs (.inl i) (.int i t)=true:=by simp [keyIs,Value.isInt]
theorem keyIs_str (x:Str) (t:Tok):keyIs (.inr x) (.str x t)=true:=by simp [keyIs,Value.isStrOf]
theorem key_ll (a b:Int):decide ((Sum.inl a:Key)=Sum.inl b)=(a == b):=by
  by_cases e:a=b
  · subst e; simp
  · have h:¬ (Sum.inl a:Key)=Sum.inl b:=fun q=>e (Sum.inl.inj q)
    rw [decide_eq_false h]
    exact (beq_eq_false_iff_ne.mpr e).symm
theorem key_rr (a b:Str):decide ((Sum.inr a:Key)=Sum.inr b)=decide (a=b):=by
  by_cases e:a=b
  · subst e; simp
  · have h:¬ (Sum.inr a:Key)=Sum.inr b:=fun q=>e (Sum.inr.inj q)
    rw [decide_eq_false h,decide_eq_false e]
theorem key_lr (a:Int) (b:Str):decide ((Sum.inl a:Key)=Sum.inr b)=false:=decide_eq_false (fun q=>nomatch q)
theorem key_rl (a:Str) (b:Int):decide ((Sum.inr a:Key)=Sum.inl b)=false:=decide_eq_false (fun q=>nomatch q)

noncomputable def mixKind (prog:Program) (w:World):PySem.KeyKind prog w Key where
  is:=keyIs
  hash:=keyH w
  inj:=fun v a b ha hb=>by
    rcases keyIs_shape ha with ⟨i,t,rfl,rfl⟩ | ⟨x,t,rfl,rfl⟩
    · rcases keyIs_shape hb with ⟨j,u,rfl,e⟩ | ⟨y,u,rfl,e⟩
      · injection e with e1 _; rw [e1]
      · exact nomatch e
    · rcases keyIs_shape hb with ⟨j,u,rfl,e⟩ | ⟨y,u,rfl,e⟩
      · exact nomatch e
      · injection e with e1 _; rw [e1]
  byValue:=fun k v h=>by
    rcases keyIs_shape h with ⟨i,t,rfl,rfl⟩ | ⟨x,t,rfl,rfl⟩ <;> rfl
  pyHash:=fun hv h=>by
    rcases keyIs_shape hv with ⟨i,t,rfl,rfl⟩ | ⟨x,t,rfl,rfl⟩
    · exact wpAny_pyHash_int h
    · exact wpAny_pyHash_str h
  eqBool:=fun hu hv h=>by
    rcases keyIs_shape hu with ⟨i,t,rfl,rfl⟩ | ⟨x,t,rfl,rfl⟩
    · rcases keyIs_shape hv with ⟨j,u,rfl,rfl⟩ | ⟨y,u,rfl,rfl⟩
      · rw [key_ll] at h; exact wpAny_eqBool_int h
      · rw [key_lr] at h; exact SeqAt.EqAt.int_str i t y u _ _ _ _ h
    · rcases keyIs_shape hv with ⟨j,u,rfl,rfl⟩ | ⟨y,u,rfl,rfl⟩
      · rw [key_rl] at h; exact SeqAt.EqAt.str_int x t j u _ _ _ _ h
      · rw [key_rr] at h; exact wpAny_eqBool_str h
  «strs»:=fun k x t v h=>by
    rcases keyIs_shape h with ⟨i,u,rfl,e⟩ | ⟨y,u,rfl,e⟩
    · exact nomatch e
    · injection e with e1 _
      subst e1
      cases v <;> rfl

theorem mixKind_int (prog:Program) (w:World) (i:Int) (t:Tok):(mixKind prog w).is (.inl i) (.int i t)=true:=keyIs_int i t
theorem mixKind_str (prog:Program) (w:World) (x:Str) (t:Tok):(mixKind prog w).is (.inr x) (.str x t)=true:=keyIs_str x t
end L2
namespace L2
open PySem PySem.Spec PyProof.Rows
inductive V where
  | non | bl (b:Bool) | int (i:Int) | str (x:Str) | byt (b:Array UInt8) | flt (b:UInt64) | ref (a:Addr) | ty (n:String)
  deriving DecidableEq

noncomputable def RelV:V→Value→Prop
  | .non,u=>u=Value.none
  | .bl b,u=>u=Value.bool b
  | .int i,u=>∃ t,u=Value.int i t
  | .str x,u=>∃ t,u=Value.str x t
  | .byt b,u=>∃ t,u=Value.bytes b t
  | .flt b,u=>∃ t,u=Value.float b t
  | .ref a,u=>u=Value.ref a
  | .ty n,u=>u=Value.type n

noncomputable abbrev Vals:List V→List Value→Prop:=Paired RelV
theorem Vals.length {xs:List V} {us:List Value} (r:Vals xs us):xs.length=us.length:=Paired.length r
theorem Vals.get {xs:List V} {us:List Value} {i:Nat} {x:V} (h:Vals xs us) (e:xs[i]?=some x):∃ u,us[i]?=some u∧RelV x u:=by
  induction h generalizing i with
  | nil=>cases e
  | cons r t ih=>cases i with | zero=>cases e; exact ⟨_,rfl,r⟩ | succ i=>exact ih (i:=i) e
theorem Vals.set {x:V} {u:Value} (r:RelV x u) {xs:List V} {us:List Value} (i:Nat) (h:Vals xs us):Vals (xs.set i x) (us.set i u):=by
  induction h generalizing i with
  | nil=>exact .nil
  | cons q t ih=>cases i with | zero=>exact .cons r t | succ i=>exact .cons q (ih i)
theorem Vals.append {xs ys:List V} {us ws:List Value} (h:Vals xs us) (s:Vals ys ws):Vals (xs++ys) (us++ws):=by
  induction h with
  | nil=>exact s
  | cons r t ih=>exact .cons r ih
theorem Vals.take {xs:List V} {us:List Value} (n:Nat) (h:Vals xs us):Vals (xs.take n) (us.take n):=by
  induction h generalizing n with
  | nil=>rw [List.take_nil,List.take_nil]; exact .nil
  | cons r t ih=>cases n with | zero=>exact .nil | succ n=>exact .cons r (ih n)
theorem Vals.drop {xs:List V} {us:List Value} (n:Nat) (h:Vals xs us):Vals (xs.drop n) (us.drop n):=by
  induction h generalizing n with
  | nil=>rw [List.drop_nil,List.drop_nil]; exact .nil
  | cons r t ih=>cases n with | zero=>exact .cons r t | succ n=>exact ih n
noncomputable def RelO:Option V→Option Value→Prop
  | some v,some u=>RelV v u
  | none,none=>True
  | _,_=>False
noncomputable def KV {κ:Type}:List (κ×V)→List (κ×Value)→Prop:=Paired fun (p:κ×V) (q:κ×Value)=>p.1=q.1∧RelV p.2 q.2

noncomputable def kV:Key→V
  | .inl i=>.int i
  | .inr x=>.str x

inductive HO where
  /-- a list -/
  | lst (xs:List V)
  /-- a tuple (never changes) -/
  | tup (xs:List V)
  /-- a dict whose keys are ints and texts; one whose keys are tuples of ints and texts (the empty one is both) -/
  | dK (kvs:List (Key×V)) | dT (kvs:List (List Key×V))
  /-- a set of ints: its members,its size -/
  | set (S:Int→Bool) (n:Nat)
  /-- an instance of the class at C,its dict at dx,its attributes -/
  | ins (C dx:Addr) (fs:List (Str×V))
  /-- the dict of the instance at x -/
  | own (x:Addr)
  /-- the dict of an exception -/
  | xd (fs:List (Str×V))
  /-- a bound method,f of x -/
  | met (f x:Addr)
  /-- a range object lo,lo+1,.. below hi -/
  | rng (lo hi:Int)
  /-- a thing that is known to the object (the script; a dict while a loop walks it): read,never written while it is so -/
  | frz (o:Obj) (u:HO)
  /-- a code object's table -/
  | tbl (ps:Array Value)
  /-- any other thing,by what is true of its one object (a def of one's own: SetO a S n:=HO.ext fun h=>..) -/
  | ext (φ:Heap→Prop)

noncomputable abbrev Hp:=Addr→Option HO
noncomputable def upd (H:Hp) (a:Addr) (o:HO):Hp:=fun b=>if b=a then some o else H b
theorem upd_same {H:Hp} {a:Addr} {o:HO}:upd H a o a=some o:=by unfold upd; rw [if_pos rfl]
theorem upd_ne {H:Hp} {a b:Addr} {o:HO} (h:b≠a):upd H a o b=H b:=by unfold upd; rw [if_neg h]
theorem ne_of {H:Hp} {a b:Addr} {o u:HO} (h:H a=some o) (h':H b=some u) (d:o≠u):a≠b:=by
  intro e; subst e; rw [h] at h'; exact d (Option.some.inj h')
theorem ne_of_none {H:Hp} {a b:Addr} {o:HO} (h:H a=some o) (h':H b=none):a≠b:=by
  intro e; subst e; rw [h] at h'; cases h'

section
variable (P:Program) (w:World)
noncomputable def ObjOk (H:Hp) (h:Heap) (a:Addr):HO→Prop
  | .lst xs=>xs.length≤sizeLine∧∃ (its:List Value) (n:Nat),Vals xs its∧h.get? a=some { cls:=.type "list",data:=.seq its.toArray n }
  | .tup xs=>xs.length≤sizeLine∧∃ its:List Value,Vals xs its∧IsTup h a its.toArray
  | .dK kvs=>kvs.length≤sizeLine∧(a == sysModules)=false∧∃ vs,KV kvs vs∧h.DictOf (mixKind P w) a vs
  | .dT kvs=>kvs.length≤sizeLine∧(a == sysModules)=false∧∃ xs:List (List Key×Addr×Value),
      Paired (fun (p:List Key×V) (q:List Key×Addr×Value)=>p.1=q.1∧H q.2.1=some (.tup (p.1.map kV))∧RelV p.2 q.2.2) kvs xs ∧
      ∃ o es ep,h.get? a=some o∧o.ExactDict∧o.data=.dict es ep∧es.toList=xs.map (entryOfKey (tupleKind (mixKind P w)))∧(xs.map (·.1)).Nodup
  | .set S n=>h.SetOf (intKind P w) a S n
  | .ins C dx fs=>H dx=some (.own a)∧fs.length≤1000∧dx≠a∧h.get? a=some (PySem.W.instObj C dx) ∧
      ∃ mA,h.Ns1 dx mA∧(∀ f,RelO (fs.lookup f) (mA f))∧PySem.Within mA (fs.map (·.1))
  | .own _=>∃ o,h.get? a=some o
  | .xd fs=>∃ mA,h.Ns1 a mA∧∀ f,RelO (fs.lookup f) (mA f)
  | .rng lo hi=>∃ t u v,h.get? a=some { cls:=.type "range",data:=.fields #[.int lo t,.int hi u,.int 1 v] }
  | .frz o u=>h.get? a=some o∧ObjOk H h a u
  | .tbl ps=>h.get? a=some { cls:=.none,data:=.fields ps }
  | .met f x=>h.get? a=some (PySem.W.methodObj (.ref f) (.ref x))
  | .ext φ=>φ h∧(∃ o,h.get? a=some o)∧∀ h1 h2:Heap,φ h1→(∀ o,h1.get? a=some o→h2.get? a=some o)→φ h2
noncomputable def HOk (H:Hp) (h:Heap):Prop:=∀ a o,H a=some o→ObjOk P w H h a o
end
section
variable {P:Program} {w:World} {H H':Hp} {h h':Heap} {a:Addr} {o:HO}
theorem ObjOk.lt (x:ObjOk P w H h a o):a < h.objs.size:=by
  cases o with
  | lst xs=>obtain ⟨_,_,_,_,e⟩:=x; exact Heap.lt_size e
  | tup xs=>obtain ⟨_,_,_,p⟩:=x; exact p.lt
  | dK kvs=>obtain ⟨_,_,_,_,o,_,_,e,_⟩:=x; exact Heap.lt_size e
  | dT kvs=>obtain ⟨_,_,_,_,o,_,_,e,_⟩:=x; exact Heap.lt_size e
  | set S n=>obtain ⟨o,_,_,_,e,_⟩:=x; exact Heap.lt_size e
  | ins C dx fs=>obtain ⟨_,_,_,e,_⟩:=x; exact Heap.lt_size e
  | own y=>obtain ⟨_,e⟩:=x; exact Heap.lt_size e
  | xd fs=>obtain ⟨_,⟨_,_,_,e,_⟩,_⟩:=x; exact Heap.lt_size e
  | rng lo hi=>obtain ⟨_,_,_,e⟩:=x; exact Heap.lt_size e
  | frz ob u=>obtain ⟨e,_⟩:=x; exact Heap.lt_size e
  | tbl ps=>exact Heap.lt_size (show h.get? a=some _ from x)
  | met f y=>exact Heap.lt_size (show h.get? a=some _ from x)
  | ext φ=>obtain ⟨_,⟨_,e⟩,_⟩:=x; exact Heap.lt_size e
theorem Paired.mapP {α β:Type} {F G:α→β→Prop} {l₁:List α} {l₂:List β} (h:Paired F l₁ l₂) (f:∀ a b,F a b→G a b):Paired G l₁ l₂:=by
  induction h with
  | nil=>exact .nil
  | cons r t ih=>exact .cons (f _ _ r) ih
theorem ObjOk.stay (x:ObjOk P w H h a o) (k:∀ b u,(b=a∨H b=some (.own a))→h.get? b=some u→h'.get? b=some u)
    (ho:∀ b,H b=some (.own a)→H' b=some (.own a)) (ht:∀ b xs,H b=some (.tup xs)→H' b=some (.tup xs)):ObjOk P w H' h' a o:=by
  induction o with
  | lst xs=>obtain ⟨z,its,n,r,e⟩:=x; exact ⟨z,its,n,r,k _ _ (.inl rfl) e⟩
  | tup xs=>obtain ⟨z,its,r,ob,e,c⟩:=x; exact ⟨z,its,r,ob,k _ _ (.inl rfl) e,c⟩
  | dK kvs=>obtain ⟨z,y,vs,r,ob,es,ep,e,c⟩:=x; exact ⟨z,y,vs,r,ob,es,ep,k _ _ (.inl rfl) e,c⟩
  | dT kvs =>
    obtain ⟨z,y,xs,r,ob,es,ep,e,c⟩:=x
    exact ⟨z,y,xs,Paired.mapP r fun p q z=>⟨z.1,ht _ _ z.2.1,z.2.2⟩,ob,es,ep,k _ _ (.inl rfl) e,c⟩
  | set S n=>obtain ⟨ob,es,ep,t,e,c⟩:=x; exact ⟨ob,es,ep,t,k _ _ (.inl rfl) e,c⟩
  | ins C dx fs =>
    obtain ⟨d,z,ne,e,mA,⟨od,es,ep,e2,c⟩,r⟩:=x
    exact ⟨ho _ d,z,ne,k _ _ (.inl rfl) e,mA,⟨od,es,ep,k _ _ (.inr d) e2,c⟩,r⟩
  | own y=>obtain ⟨ob,e⟩:=x; exact ⟨ob,k _ _ (.inl rfl) e⟩
  | xd fs=>obtain ⟨mA,⟨od,es,ep,e,c⟩,r⟩:=x; exact ⟨mA,⟨od,es,ep,k _ _ (.inl rfl) e,c⟩,r⟩
  | rng lo hi=>obtain ⟨t,u,v,e⟩:=x; exact ⟨t,u,v,k _ _ (.inl rfl) e⟩
  | frz ob u ih=>obtain ⟨e,q⟩:=x; exact ⟨k _ _ (.inl rfl) e,ih q⟩
  | tbl ps =>
    have e:h.get? a=some { cls:=.none,data:=.fields ps }:=x
    show h'.get? a=some { cls:=.none,data:=.fields ps }
    exact k a _ (.inl rfl) e
  | met f y =>
    have e:h.get? a=some (PySem.W.methodObj (.ref f) (.ref y)):=x
    show h'.get? a=some (PySem.W.methodObj (.ref f) (.ref y))
    exact k a _ (.inl rfl) e
  | ext φ=>obtain ⟨p,⟨o,e⟩,st⟩:=x; exact ⟨st _ _ p fun o q=>k _ _ (.inl rfl) q,⟨o,k _ _ (.inl rfl) e⟩,st⟩
theorem HOk.lt (x:HOk P w H h) (e:H a=some o):a < h.objs.size:=(x a o e).lt
theorem HOk.fresh (x:HOk P w H h) (e:h.objs.size≤a):H a=none:=by
  cases q:H a with
  | none=>rfl
  | some u=>exact absurd (Nat.lt_of_lt_of_le (x.lt q) e) (Nat.lt_irrefl _)
theorem HOk.kept (x:HOk P w H h) (k:∀ b u,h.get? b=some u→h'.get? b=some u):HOk P w H h':=fun a o e =>
  (x a o e).stay (fun b u _ q=>k b u q) (fun _ q=>q) fun _ _ q=>q
theorem HOk.laid (x:HOk P w H h) (k:∀ b u,h.get? b=some u→h'.get? b=some u) (hp:h.objs.size≤a) (new:ObjOk P w (upd H a o) h' a o):HOk P w (upd H a o) h':=fun b u e=>by
  have hn:=x.fresh hp
  by_cases hb:b=a
  · subst hb; rw [upd_same] at e; cases e; exact new
  · rw [upd_ne hb] at e
    exact (x b u e).stay (fun c v _ q=>k c v q) (fun c q=>by rw [upd_ne (ne_of_none q hn)]; exact q) fun c xs q=>by rw [upd_ne (ne_of_none q hn)]; exact q
end
noncomputable def Rd (H:Hp) (a:Addr) (u:HO):Prop:=H a=some u∨∃ o,H a=some (.frz o u)
theorem Rd.ok {P:Program} {w:World} {H:Hp} {h:Heap} {a:Addr} {u:HO} (r:Rd H a u) (x:HOk P w H h):ObjOk P w H h a u:=by
  rcases r with r | ⟨o,r⟩
  · exact x a u r
  · obtain ⟨_,q⟩:=x a _ r
    exact q
noncomputable def Mut:Option HO→Prop
  | some (.lst _)=>True
  | some (.dK _)=>True
  | some (.dT _)=>True
  | some (.set _ _)=>True
  | some (.ins _ _ _)=>True
  | some (.ext _)=>True
  | _=>False
section
variable {P:Program} {w:World} {H:Hp} {h h':Heap} {x e:Addr} {o':HO}
theorem HOk.write (ok:HOk P w H h) (mu:Mut (H x)) (he:e=x∨H e=some (.own x)) (k:∀ b u,b≠e→h.get? b=some u→h'.get? b=some u) (heo:∃ u,h'.get? e=some u)
    (new:ObjOk P w (upd H x o') h' x o'):HOk P w (upd H x o') h':=fun b u q=>by
  have nown:∀ c y,H c=some (.own y)→c≠x:=fun c y r z=>by subst z; rw [r] at mu; exact mu
  have ntup:∀ c xs,H c=some (.tup xs)→c≠x:=fun c xs r z=>by subst z; rw [r] at mu; exact mu
  by_cases hb:b=x
  · subst hb; rw [upd_same] at q; cases q; exact new
  · rw [upd_ne hb] at q
    by_cases hbe:b=e
    · have q':H b=some (.own x):=by
        rcases he with z | z
        · exact absurd (hbe.trans z) hb
        · rw [hbe]; exact z
      rw [q] at q'; cases q'
      obtain ⟨v,hv⟩:=heo
      exact ⟨v,by rw [hbe]; exact hv⟩
    · refine (ok b u q).stay (fun c v hc r=>k c v ?_ r) (fun c r=>by rw [upd_ne (nown c b r)]; exact r) fun c xs r=>by rw [upd_ne (ntup c xs r)]; exact r
      rcases hc with rfl | hc
      · exact hbe
      · rintro rfl
        rcases he with z | z
        · exact nown c b hc z
        · rw [hc] at z; cases z; exact hb rfl
end
structure Un (fs ex:List Addr) (H H':Hp) (h h':Heap):Prop where
  keep:∀ b o,h.get? b=some o→H b=none→b ∉ fs→b ∉ ex→h'.get? b=some o
  slot:∀ b o,h.get? b=some o→H b=none→b∈fs→b ∉ ex→∃ sl,h'.get? b=some { o with slots:=sl }
  free:∀ b o,h.get? b=some o→H b=none→b ∉ ex→H' b=none
  there:∀ b o,h.get? b=some o→b ∉ ex→∃ o',h'.get? b=some o'
  tups:∀ b xs,H b=some (.tup xs)→H' b=some (.tup xs)
  frzs:∀ b o u,H b=some (.frz o u)→H' b=some (.frz o u)
  tbls:∀ b ps,H b=some (.tbl ps)→∃ more,H' b=some (.tbl (ps++more))
section
variable {fs fs' ex ex':List Addr} {H H1 H2:Hp} {h h1 h2 h':Heap} {a x e:Addr} {o:HO}
theorem Un.any (u:Un fs ex H H1 h h1) {b:Addr} {ob:Obj} (q:h.get? b=some ob) (n:H b=none) (hx:b ∉ ex):∃ sl,h1.get? b=some { ob with slots:=sl }:=by
  by_cases hb:b∈fs
  · exact u.slot b ob q n hb hx
  · exact ⟨ob.slots,u.keep b ob q n hb hx⟩
theorem Un.kept (k:∀ b u,h.get? b=some u→h'.get? b=some u):Un fs ex H H h h' :=
  ⟨fun b ob q _ _ _=>k b ob q,fun b ob q _ _ _=>⟨ob.slots,k b ob q⟩,fun _ _ _ n _=>n,fun b ob q _=>⟨ob,k b ob q⟩,fun _ _ q=>q,fun _ _ _ q=>q,fun _ ps q=>⟨#[],by rw [q]; simp⟩⟩
theorem Un.refl:Un fs ex H H h h:=Un.kept fun _ _ q=>q
theorem Un.laid (k:∀ b u,h.get? b=some u→h'.get? b=some u) (hp:h.objs.size≤a) (hn:H a=none):Un fs ex H (upd H a o) h h' where
  keep:=fun b u q _ _ _=>k b u q
  slot:=fun b u q _ _ _=>⟨u.slots,k b u q⟩
  free:=fun b u q n _=>by rw [upd_ne (Nat.ne_of_lt (Nat.lt_of_lt_of_le (Heap.lt_size q) hp))]; exact n
  there:=fun b u q _=>⟨u,k b u q⟩
  tups:=fun b xs q=>by rw [upd_ne (ne_of_none q hn)]; exact q
  frzs:=fun b u xs q=>by rw [upd_ne (ne_of_none q hn)]; exact q
  tbls:=fun b ps q=>⟨#[],by rw [upd_ne (ne_of_none q hn),q]; simp⟩
theorem Un.write (mu:Mut (H x)) (he:e=x∨H e=some (.own x)) (k:∀ b u,b≠e→h.get? b=some u→h'.get? b=some u) (heo:∃ u,h'.get? e=some u):Un fs ex H (upd H x o) h h':=by
  have hx:∀ b,H b=none→b≠x:=fun b n z=>by subst z; rw [n] at mu; exact mu
  have hb:∀ b,H b=none→b≠e:=fun b n z=>by
    subst z
    rcases he with r | r
    · exact hx b n r
    · rw [n] at r; cases r
  have hm:∀ b u,H b=some u→¬ Mut (some u)→b≠x:=fun b u q nm z=>by subst z; rw [q] at mu; exact nm mu
  refine ⟨fun b u q n _ _=>k b u (hb b n) q,fun b u q n _ _=>⟨u.slots,k b u (hb b n) q⟩,fun b u q n _=>by rw [upd_ne (hx b n)]; exact n,fun b u q _=>?_,
    fun b xs q=>by rw [upd_ne (hm b _ q fun z=>z)]; exact q,fun b u xs q=>by rw [upd_ne (hm b _ q fun z=>z)]; exact q,fun b ps q=>⟨#[],by rw [upd_ne (hm b _ q fun z=>z),q]; simp⟩⟩
  by_cases hbe:b=e
  · subst hbe; exact heo
  · exact ⟨u,k b u hbe q⟩
end
noncomputable def trk (h:Heap) (H:Hp):List Addr:=(List.range h.objs.size).filter fun a=>(H a).isSome
noncomputable def hidT (h:Heap) (H:Hp):Heap:=PySem.W.hideAll h (trk h H)
theorem hidT_size (h:Heap) (H:Hp):(hidT h H).objs.size=h.objs.size:=PySem.W.hideAll_size _ _
theorem hidT_get {h:Heap} {H:Hp} {b:Addr} {o:Obj} (e:h.get? b=some o) (n:H b=none):(hidT h H).get? b=some o :=
  PySem.W.hideAll_get _ e fun hm=>by
    have q:(H b).isSome=true:=(List.mem_filter.mp hm).2
    rw [n] at q; simp at q
theorem of_hidT {h:Heap} {H:Hp} {b:Addr} {o:Obj} (e:(hidT h H).get? b=some o):h.get? b=some o∧H b=none:=by
  have e':h.get? b=some o:=PySem.W.of_hideAll (trk h H) e
  refine ⟨e',?_⟩
  cases q:H b with
  | none=>rfl
  | some x =>
    have hm:b∈trk h H:=List.mem_filter.mpr ⟨List.mem_range.mpr (Heap.lt_size e'),by simp [q]⟩
    have z:(hidT h H).get? b=none:=PySem.W.hideAll_none (trk h H) hm
    rw [z] at e; cases e

noncomputable def allNews (g h:Heap) (L:Addr):List (Addr×Obj):=(List.range h.objs.size).filterMap fun a=>if a=L∨(g.get? a).isSome=true then none else (h.get? a).map fun o=>(a,o)
noncomputable def rest (g h:Heap) (L d:Addr):List (Addr×Obj):=(allNews g h L).filter fun p=>decide (p.1≠d)
end L2
namespace L2
open PySem PySem.Spec PyProof.Rows
structure Mod (K:PySem.W.Frag) (mg:Str→Option Value) (base:Heap):Prop where
  kin:K.In base
  glob:base.Ns mainGlobals mg
  blt:∃ mb,base.Ns builtinsNs mb∧∀ x:Str,x≠"__name__"→mb x=bootBuiltins x
  nolimit:base.NoLimit
  nodig:base.NoDigits

structure Cx where
  prog:Program
  w:World
  K:PySem.W.Frag
  mg:Str→Option Value
  base:Heap
  A:Around
  N:List Str
  s₀:Shared
  H₀:Hp
  env:Env
  outer:List Env
  stack:List Env
  ex:List Addr
  fn:Str→Bool
  calm:Bool
  pn:List (Addr×Obj)
  xe:Value→Shared→Prop
noncomputable def frs (l:List Env):List Addr:=l.filterMap (·.frame)
noncomputable abbrev Cx.fs (X:Cx):List Addr:=frs X.outer

noncomputable def Vis (sc:Scope) (x:Str):Prop:=sc.names.lookup x=some .local∨sc.names.lookup x=some .cell∨sc.names.lookup x=some .free
noncomputable def Loc (sc:Scope) (x:Str):Prop:=sc.names.lookup x=some .local∨sc.names.lookup x=some .cell
noncomputable def Look (env:Env) (h:Heap) (m:Str→Option Value) (x:Str) (u:Value):Prop :=
  (env.kindOf x=some .local∧m x=some u)∨((env.kindOf x=some .cell∨env.kindOf x=some .free)∧∃ c,env.cells.lookup x=some c∧h.IsCell c (some u))

structure Cx.Ok (X:Cx):Prop where
  mod:Mod X.K X.mg X.base
  kind:X.env.scope.kind=.function
  glob:X.env.globals=mainGlobals
  blt:X.env.builtins=builtinsNs
  above:X.s₀.heap.objs.size≤X.env.locals
  inj:∀ x y c,X.env.cells.lookup x=some c→X.env.cells.lookup y=some c→x=y
  has:∀ x,(X.env.kindOf x=some .cell∨X.env.kindOf x=some .free)→∃ c,X.env.cells.lookup x=some c
  cab:∀ x c,X.fn x=true→X.env.cells.lookup x=some c→X.s₀.heap.objs.size≤c
  hd:X.calm=true→X.A.handled=none
  frames:X.A.frames=some X.stack
  stk:X.stack=X.outer∨(X.stack=X.env::X.outer∧X.env.frame=some X.env.locals)
  exf:∀ b∈X.ex,b≠X.env.locals∧∀ x c,X.env.cells.lookup x=some c→c≠b
  bs:∀ b o,X.base.get? b=some o→X.s₀.heap.get? b=some o∧X.H₀ b=none
  bsz:X.base.objs.size≤X.s₀.heap.objs.size
  noex:∀ b o,X.base.get? b=some o→b ∉ X.ex
  exfs:∀ b∈X.ex,b ∉ X.fs
  funs:X.s₀.heap.FunFrames X.base X.outer
  frf:∀ b∈X.fs,X.H₀ b=none

structure Inv (X:Cx) (pins:List (Addr×Obj)) (σ:List (Option V)) (H:Hp) (s:Shared):Prop where
  ok:X.Ok
  os:s.os=X.s₀.os
  bare:AllBare s.gens
  base:Un X.fs X.ex X.H₀ H X.s₀.heap s.heap
  loc:∃ m,s.heap.Ns X.env.locals m∧∀ (i:Nat) (x:Str) (v:V),X.N[i]?=some x→σ[i]?=some (some v)→Vis X.env.scope x→∃ u,RelV v u∧Look X.env s.heap m x u
  cell:∀ x c,X.env.cells.lookup x=some c→∃ v,s.heap.IsCell c v
  free:H X.env.locals=none
  freeC:∀ x c,X.env.cells.lookup x=some c→H c=none
  pin:∀ p∈X.pn++pins,s.heap.get? p.1=some p.2∧H p.1=none∧p.1≠X.env.locals∧p.1 ∉ X.fs∧∀ v,p.2.data≠.cell v
  hok:HOk X.prog X.w H s.heap
  len:σ.length=X.N.length

section
variable {X:Cx} {pins:List (Addr×Obj)} {σ:List (Option V)} {H H':Hp} {s:Shared} {h':Heap}
theorem Cx.Ok.nofr (ok:X.Ok) {b:Addr} {o:Obj} (e:X.base.get? b=some o):b ∉ X.fs:=fun hb=>by
  have:=(ok.funs.mem hb).1
  rw [e] at this; cases this
theorem Inv.bs (I:Inv X pins σ H s):∀ b o,X.base.get? b=some o→s.heap.get? b=some o∧H b=none:=fun b o e =>
  ⟨I.base.keep b o (I.ok.bs b o e).1 (I.ok.bs b o e).2 (I.ok.nofr e) (I.ok.noex b o e),I.base.free b o (I.ok.bs b o e).1 (I.ok.bs b o e).2 (I.ok.noex b o e)⟩
theorem Inv.bk (I:Inv X pins σ H s):∀ b o,X.base.get? b=some o→s.heap.get? b=some o:=fun b o e=>(I.bs b o e).1
theorem Inv.mod (I:Inv X pins σ H s):Mod X.K X.mg X.base:=I.ok.mod
theorem Inv.kIn (I:Inv X pins σ H s):X.K.In s.heap:=I.ok.mod.kin.keeps I.bk
theorem Inv.lt (I:Inv X pins σ H s):X.env.locals < s.heap.objs.size:=let ⟨_,hn,_⟩:=I.loc; hn.lt
theorem Inv.sz (I:Inv X pins σ H s):X.s₀.heap.objs.size≤s.heap.objs.size:=Nat.le_trans I.ok.above (Nat.le_of_lt I.lt)
theorem Inv.nofs (I:Inv X pins σ H s) {a:Addr} (h:s.heap.objs.size≤a):a ∉ X.fs:=fun hb=>by
  obtain ⟨_,o,ho,_⟩:=I.ok.funs.mem hb
  exact absurd (Nat.lt_of_lt_of_le (Heap.lt_size ho) (Nat.le_trans I.sz h)) (Nat.lt_irrefl _)
theorem Inv.cne (I:Inv X pins σ H s):∀ x c,X.env.cells.lookup x=some c→c≠X.env.locals:=fun x c e z=>by
  obtain ⟨v,o,ho,hd⟩:=I.cell x c e
  obtain ⟨m,⟨o',es,ep,ho',hd',_⟩,_⟩:=I.loc
  rw [z,ho'] at ho; cases ho; rw [hd'] at hd; cases hd
theorem Inv.funs (I:Inv X pins σ H s):s.heap.FunFrames X.base X.outer:=by
  have all:∀ (l:List Env),(∀ b∈frs l,b∈X.fs)→X.s₀.heap.FunFrames X.base l→s.heap.FunFrames X.base l:=by
    intro l
    induction l with
    | nil=>intro _ _; trivial
    | cons env r ih =>
      intro hs hl
      obtain ⟨hk,⟨L,o,hf,hn,ho,hd⟩,hr⟩:=hl
      have hL:L∈X.fs:=hs L (by unfold frs; rw [List.filterMap_cons,hf]; exact List.mem_cons_self)
      obtain ⟨sl,e⟩:=I.base.slot L o ho (I.ok.frf L hL) hL fun z=>I.ok.exfs L z hL
      exact ⟨hk,⟨L,_,hf,hn,e,hd⟩,ih (fun b hb=>hs b (by unfold frs; rw [List.filterMap_cons,hf]; exact List.mem_cons_of_mem _ hb)) hr⟩
  exact all X.outer (fun _ hb=>hb) I.ok.funs

theorem Inv.stack (I:Inv X pins σ H s):s.heap.FunFrames X.base X.stack:=by
  rcases I.ok.stk with e | ⟨e,hf⟩
  · rw [e]; exact I.funs
  · rw [e]
    obtain ⟨m,hn,_⟩:=I.loc
    refine .cons (by rw [I.ok.kind]; decide) hf hn ?_ I.funs
    exact Heap.get?_none_of_le (Nat.le_trans I.ok.bsz I.ok.above)
theorem Inv.stkSub (I:Inv X pins σ H s):∀ b∈frs X.stack,b∈X.env.locals::X.fs:=fun b hb=>by
  rcases I.ok.stk with e | ⟨e,hf⟩
  · rw [e] at hb; exact List.mem_cons_of_mem _ hb
  · rw [e] at hb
    unfold frs at hb
    rw [List.filterMap_cons,hf] at hb
    exact hb
theorem Inv.stkFree (I:Inv X pins σ H s):∀ b∈frs X.stack,H b=none:=fun b hb=>by
  rcases List.mem_cons.mp (I.stkSub b hb) with e | hb
  · rw [e]; exact I.free
  · obtain ⟨_,o,ho,_⟩:=I.ok.funs.mem hb
    exact I.base.free b o ho (I.ok.frf b hb) fun z=>I.ok.exfs b z hb

theorem Inv.step {g':Array GenState} {t':Nat} {d':Drawn} {ch:List Addr} (I:Inv X pins σ H s)
    (hch:∀ b∈ch,(b∈X.ex∨X.s₀.heap.objs.size≤b)∧b≠X.env.locals∧(∀ x c,X.env.cells.lookup x=some c→c≠b)∧∀ p∈X.pn++pins,p.1≠b)
    (keep:∀ b o,b≠X.env.locals→b ∉ X.fs→b ∉ ch→s.heap.get? b=some o→H b=none→h'.get? b=some o)
    (slot:∀ b o,b≠X.env.locals→b∈X.fs→b ∉ ch→s.heap.get? b=some o→H b=none→∃ sl,h'.get? b=some { o with slots:=sl }) (free:∀ b o,b ∉ ch→s.heap.get? b=some o→H b=none→H' b=none)
    (there:∀ b o,b ∉ ch→s.heap.get? b=some o→∃ o',h'.get? b=some o')
    (tups:∀ b xs,H b=some (.tup xs)→H' b=some (.tup xs)) (frzs:∀ b o u,H b=some (.frz o u)→H' b=some (.frz o u)) (tbls:∀ b ps,H b=some (.tbl ps)→∃ more,H' b=some (.tbl (ps++more)))
    (ns:∀ m,s.heap.Ns X.env.locals m→h'.Ns X.env.locals m) (hok:HOk X.prog X.w H' h') (hg:AllBare g') :
    Inv X pins σ H' { s with heap:=h',gens:=g',drawn:=d',toks:=t' }:=by
  have neL:∀ b o,X.s₀.heap.get? b=some o→b≠X.env.locals:=fun b o e=>Nat.ne_of_lt (Nat.lt_of_lt_of_le (Heap.lt_size e) I.ok.above)
  have neC:∀ b o,X.s₀.heap.get? b=some o→b ∉ X.ex→b ∉ ch:=fun b o e hx hb=>by
    rcases (hch b hb).1 with z | z
    · exact hx z
    · exact absurd (Nat.lt_of_lt_of_le (Heap.lt_size e) z) (Nat.lt_irrefl _)
  have cellK:∀ x c,X.env.cells.lookup x=some c→∀ v,s.heap.IsCell c v→h'.IsCell c v:=fun x c e v hz0=>by
    obtain ⟨o,ho,hd⟩:=hz0
    have nch:c ∉ ch:=fun z=>(hch c z).2.2.1 x c e rfl
    by_cases hc:c∈X.fs
    · obtain ⟨sl,q⟩:=slot c o (I.cne x c e) hc nch ho (I.freeC x c e)
      exact ⟨_,q,hd⟩
    · exact ⟨o,keep c o (I.cne x c e) hc nch ho (I.freeC x c e),hd⟩
  refine ⟨I.ok,I.os,hg,⟨fun b o e n hb hx=>?_,fun b o e n hb hx=>?_,fun b o e n hx=>?_,fun b o e hx=>?_,fun b xs e=>tups b xs (I.base.tups b xs e),fun b o xs e=>frzs b o xs (I.base.frzs b o xs e),fun b ps e=>?_⟩,?_,fun x c e=>?_,?_,fun x c e=>?_,fun p hp=>?_,hok,I.len⟩
  · exact keep b o (neL b o e) hb (neC b o e hx) (I.base.keep b o e n hb hx) (I.base.free b o e n hx)
  · obtain ⟨sl,e1⟩:=I.base.slot b o e n hb hx
    obtain ⟨sl',e2⟩:=slot b _ (neL b o e) hb (neC b o e hx) e1 (I.base.free b o e n hx)
    exact ⟨sl',e2⟩
  · obtain ⟨o',e1⟩:=I.base.there b o e hx
    exact free b o' (neC b o e hx) e1 (I.base.free b o e n hx)
  · obtain ⟨o',e1⟩:=I.base.there b o e hx
    exact there b o' (neC b o e hx) e1
  · obtain ⟨m1,e1⟩:=I.base.tbls b ps e
    obtain ⟨m2,e2⟩:=tbls b _ e1
    exact ⟨m1++m2,by rw [e2,Array.append_assoc]⟩
  · obtain ⟨m,hn,hl⟩:=I.loc
    refine ⟨m,ns m hn,fun i x v e1 e2 e3=>?_⟩
    obtain ⟨u,r,l⟩:=hl i x v e1 e2 e3
    refine ⟨u,r,?_⟩
    rcases l with l | ⟨k,c,e,z⟩
    · exact .inl l
    · exact .inr ⟨k,c,e,cellK x c e _ z⟩
  · obtain ⟨v,z⟩:=I.cell x c e
    exact ⟨v,cellK x c e v z⟩
  · obtain ⟨m,⟨o,_,_,ho,_⟩,_⟩:=I.loc
    exact free _ o (fun z=>(hch _ z).2.1 rfl) ho I.free
  · obtain ⟨v,o,ho,hd⟩:=I.cell x c e
    exact free c o (fun z=>(hch c z).2.2.1 x c e rfl) ho (I.freeC x c e)
  · obtain ⟨e,n,ne,nf,d⟩:=I.pin p hp
    have nch:p.1 ∉ ch:=fun z=>(hch p.1 z).2.2.2 p hp rfl
    exact ⟨keep p.1 p.2 ne nf nch e n,free p.1 p.2 nch e n,ne,nf,d⟩
theorem Inv.un {t':Nat} (I:Inv X pins σ H s) (u:Un X.fs [] H H' s.heap h') (hok:HOk X.prog X.w H' h'):Inv X pins σ H' { s with heap:=h',toks:=t' }:=by
  obtain ⟨m,⟨o,es,ep,ho,r⟩,_⟩:=id I.loc
  obtain ⟨sl,hL⟩:=u.any ho I.free (by simp)
  exact I.step (g':=s.gens) (d':=s.drawn) (ch:=[]) (fun _ z=>nomatch z) (fun b o _ hb _ e n=>u.keep b o e n hb (by simp)) (fun b o _ hb _ e n=>u.slot b o e n hb (by simp)) (fun b o _ e n=>u.free b o e n (by simp)) (fun b o _ e=>u.there b o e (by simp)) u.tups u.frzs u.tbls (fun m' hm=>by
    obtain ⟨o',es',ep',ho',r'⟩:=hm
    rw [ho] at ho'; cases ho'
    exact ⟨_,es',ep',hL,r'⟩) hok I.bare
theorem Inv.call {g':Array GenState} {t':Nat} {d':Drawn} {ch:List Addr} (I:Inv X pins σ H s) (u:Un (frs X.stack) ch H H' s.heap h') (hok:HOk X.prog X.w H' h') (hg:AllBare g')
    (hch:∀ b∈ch,(b∈X.ex∨X.s₀.heap.objs.size≤b)∧b≠X.env.locals∧(∀ x c,X.env.cells.lookup x=some c→c≠b)∧∀ p∈X.pn++pins,p.1≠b) :
    Inv X pins σ H' { s with heap:=h',gens:=g',drawn:=d',toks:=t' }:=by
  obtain ⟨m,⟨o,es,ep,ho,r⟩,_⟩:=id I.loc
  obtain ⟨sl,hL⟩:=u.any ho I.free fun z=>(hch _ z).2.1 rfl
  exact I.step (ch:=ch) hch (fun b o hL hb hc e n=>u.keep b o e n (fun z=>(List.mem_cons.mp (I.stkSub b z)).elim hL hb) hc) (fun b o _ _ hc e n=>u.any e n hc) (fun b o hc e n=>u.free b o e n hc) (fun b o hc e=>u.there b o e hc) u.tups u.frzs u.tbls (fun m' hm=>by
    obtain ⟨o',es',ep',ho',r'⟩:=hm
    rw [ho] at ho'; cases ho'
    exact ⟨_,es',ep',hL,r'⟩) hok hg
theorem Inv.turned {t':Nat} {it:Addr} (I:Inv X pins σ H s) (k:∀ b o,b≠it→s.heap.get? b=some o→h'.get? b=some o) (hn:H it=none) (hL:it≠X.env.locals)
    (h1:it∈X.ex∨X.s₀.heap.objs.size≤it) (h2:∀ x c,X.env.cells.lookup x=some c→c≠it) (h3:∀ p∈X.pn++pins,p.1≠it):Inv X pins σ H { s with heap:=h',toks:=t' }:=by
  have nit:∀ b u,H b=some u→b≠it:=fun b u e z=>by rw [z,hn] at e; cases e
  refine I.step (g':=s.gens) (d':=s.drawn) (ch:=[it]) (fun b hb=>?_) (fun b o _ _ hc e _=>k b o (fun z=>hc (by simp [z])) e) (fun b o _ _ hc e _=>⟨o.slots,k b o (fun z=>hc (by simp [z])) e⟩) (fun _ _ _ _ n=>n)
    (fun b o hc e=>⟨o,k b o (fun z=>hc (by simp [z])) e⟩) (fun _ _ e=>e) (fun _ _ _ e=>e) (fun b ps e=>⟨#[],by rw [e]; simp⟩) (fun m hm=>?_) (fun b u e=>?_) I.bare
  · have e:b=it:=by simpa using hb
    subst e
    exact ⟨h1,hL,h2,h3⟩
  · obtain ⟨o,es,ep,ho,r⟩:=hm
    exact ⟨o,es,ep,k _ o (Ne.symm hL) ho,r⟩
  · refine (I.hok b u e).stay (fun c v hc q=>k c v ?_ q) (fun _ q=>q) fun _ _ q=>q
    rcases hc with z | z
    · rw [z]; exact nit b u e
    · exact nit c _ z
theorem Inv.tok (I:Inv X pins σ H s) (t:Nat):Inv X pins σ H { s with toks:=t }:=I.un (h':=s.heap) (t':=t) Un.refl I.hok
theorem Inv.kept {t':Nat} (I:Inv X pins σ H s) (k:∀ b u,s.heap.get? b=some u→h'.get? b=some u):Inv X pins σ H { s with heap:=h',toks:=t' }:=I.un (Un.kept k) (I.hok.kept k)
theorem Inv.laid {a:Addr} {o:HO} {t':Nat} (I:Inv X pins σ H s) (k:∀ b u,s.heap.get? b=some u→h'.get? b=some u) (hp:s.heap.objs.size≤a) (new:ObjOk X.prog X.w (upd H a o) h' a o) :
    Inv X pins σ (upd H a o) { s with heap:=h',toks:=t' }:=I.un (Un.laid k hp (I.hok.fresh hp)) (I.hok.laid k hp new)
theorem Inv.write {x e:Addr} {o:HO} {t':Nat} (I:Inv X pins σ H s) (mu:Mut (H x)) (he:e=x∨H e=some (.own x)) (k:∀ b u,b≠e→s.heap.get? b=some u→h'.get? b=some u) (heo:∃ u,h'.get? e=some u)
    (new:ObjOk X.prog X.w (upd H x o) h' x o):Inv X pins σ (upd H x o) { s with heap:=h',toks:=t' }:=I.un (Un.write mu he k heo) (I.hok.write mu he k heo new)
theorem Inv.pins_of {pins':List (Addr×Obj)} (I:Inv X pins σ H s) (h:∀ p∈pins',s.heap.get? p.1=some p.2∧H p.1=none∧p.1≠X.env.locals∧p.1 ∉ X.fs∧∀ v,p.2.data≠.cell v):Inv X pins' σ H s :=
  ⟨I.ok,I.os,I.bare,I.base,I.loc,I.cell,I.free,I.freeC,fun p hp=>(List.mem_append.mp hp).elim (fun z=>I.pin p (List.mem_append_left _ z)) (h p),I.hok,I.len⟩

theorem nodup_ix {N:List Str} (hN:N.Nodup) {i j:Nat} {x:Str} (a:N[i]?=some x) (b:N[j]?=some x):i=j:=by
  obtain ⟨h1,e1⟩:=List.getElem?_eq_some_iff.mp a
  obtain ⟨h2,e2⟩:=List.getElem?_eq_some_iff.mp b
  exact (List.getElem_inj hN).mp (e1.trans e2.symm)

theorem store_ok2 {M:Model} {A:Around} {E:Value→Shared→Prop} {i:Nat} {x:Str} {v:V} {u:Value} {Q:Unit→Shared→Prop} (I:Inv X pins σ H s) (hN:X.N.Nodup) (hi:X.N[i]?=some x) (hx:Loc X.env.scope x) (r:RelV v u)
    (h:∀ s',Inv X pins (σ.set i (some v)) H s'→(∃ a,Heap.SameBut a s.heap s'.heap∧(a=X.env.locals∨X.env.cells.lookup x=some a))→Q () s') (hf:X.fn x=true∨X.env.scope.names.lookup x=some .local:=by first | exact .inl rfl | exact .inr rfl | assumption):wpAny M A (storeName X.env x u) Q E s:=by
  obtain ⟨m,hn,hl⟩:=id I.loc
  have hcls:(X.env.scope.kind == .class || (X.env.scope.kind == .module && X.env.locals != X.env.globals))=false:=by rw [I.ok.kind]; rfl
  have hiσ:i < σ.length:=by rw [I.len]; exact (List.getElem?_eq_some_iff.mp hi).1
  have cne:=I.cne
  have tracked:∀ {a:Addr} {h':Heap},(∃ o,s.heap.get? a=some o∧H a=none)→Heap.SameBut a s.heap h'→HOk X.prog X.w H h':=fun {a h'} ha hs b ob e=>by
    obtain ⟨_,_,hfree⟩:=ha
    refine (I.hok b ob e).stay (fun c w' hc q=>(hs.2 c ?_).trans q) (fun _ q=>q) fun _ _ q=>q
    rintro rfl
    rcases hc with rfl | hc
    · rw [hfree] at e; cases e
    · rw [hfree] at hc; cases hc
  rcases hx with hk | hk
  · refine wpAny_storeName_local hk hn (fun h' hn' hs=>?_) hcls
    obtain ⟨oL,_,_,hoL,_⟩:=id hn
    refine h _ ⟨I.ok,I.os,I.bare,⟨fun b o e n hb hx=>?_,fun b o e n hb hx=>?_,I.base.free,fun b o e hx=>?_,I.base.tups,I.base.frzs,I.base.tbls⟩,⟨_,hn',fun j y v' e1 e2 e3=>?_⟩,fun y c e=>?_,I.free,I.freeC,fun p hp=>?_,tracked ⟨oL,hoL,I.free⟩ hs,by simpa using I.len⟩ ⟨_,hs,.inl rfl⟩
    · exact (hs.2 b (Nat.ne_of_lt (Nat.lt_of_lt_of_le (Heap.lt_size e) I.ok.above))).trans (I.base.keep b o e n hb hx)
    · obtain ⟨sl,e1⟩:=I.base.slot b o e n hb hx
      exact ⟨sl,(hs.2 b (Nat.ne_of_lt (Nat.lt_of_lt_of_le (Heap.lt_size e) I.ok.above))).trans e1⟩
    · obtain ⟨o',e1⟩:=I.base.there b o e hx
      exact ⟨o',(hs.2 b (Nat.ne_of_lt (Nat.lt_of_lt_of_le (Heap.lt_size e) I.ok.above))).trans e1⟩
    · by_cases hj:j=i
      · subst hj
        rw [hi] at e1; cases e1
        rw [List.getElem?_set_self hiσ] at e2
        cases e2
        exact ⟨u,r,.inl ⟨hk,by simp⟩⟩
      · rw [List.getElem?_set_ne (Ne.symm hj)] at e2
        obtain ⟨u',r',q⟩:=hl j y v' e1 e2 e3
        refine ⟨u',r',?_⟩
        rcases q with ⟨k,e⟩ | ⟨k,c,e,z⟩
        · refine .inl ⟨k,?_⟩
          have:y≠x:=fun e=>hj (nodup_ix hN e1 (e ▸ hi))
          simp [this,e]
        · exact .inr ⟨k,c,e,z.sameBut hs (cne y c e)⟩
    · obtain ⟨w',z⟩:=I.cell y c e
      exact ⟨w',z.sameBut hs (cne y c e)⟩
    · obtain ⟨e,n,ne,nf,d⟩:=I.pin p hp
      exact ⟨(hs.2 p.1 ne).trans e,n,ne,nf,d⟩
  · have hfn:X.fn x=true:=by
      rcases hf with z | z
      · exact z
      · rw [z] at hk; cases hk
    obtain ⟨c,hc⟩:=I.ok.has x (.inl hk)
    obtain ⟨w',z⟩:=I.cell x c hc
    refine wpAny_storeName_cell I.ok.kind hk hc z (fun h' hc' hs=>?_)
    obtain ⟨oc,hoc,hocd⟩:=id z
    refine h { s with heap:=h' } ⟨I.ok,I.os,I.bare,⟨fun b o e n hb hx=>?_,fun b o e n hb hx=>?_,I.base.free,fun b o e hx=>?_,I.base.tups,I.base.frzs,I.base.tbls⟩,⟨m,hn.sameBut hs (Ne.symm (cne x c hc)),fun j y v' e1 e2 e3=>?_⟩,fun y c' e=>?_,I.free,I.freeC,fun p hp=>?_,tracked ⟨oc,hoc,I.freeC x c hc⟩ hs,by simpa using I.len⟩ ⟨c,hs,.inr hc⟩
    · exact (hs.2 b (Nat.ne_of_lt (Nat.lt_of_lt_of_le (Heap.lt_size e) (I.ok.cab x c hfn hc)))).trans (I.base.keep b o e n hb hx)
    · obtain ⟨sl,e1⟩:=I.base.slot b o e n hb hx
      exact ⟨sl,(hs.2 b (Nat.ne_of_lt (Nat.lt_of_lt_of_le (Heap.lt_size e) (I.ok.cab x c hfn hc)))).trans e1⟩
    · obtain ⟨o',e1⟩:=I.base.there b o e hx
      exact ⟨o',(hs.2 b (Nat.ne_of_lt (Nat.lt_of_lt_of_le (Heap.lt_size e) (I.ok.cab x c hfn hc)))).trans e1⟩
    · by_cases hj:j=i
      · subst hj
        rw [hi] at e1; cases e1
        rw [List.getElem?_set_self hiσ] at e2
        cases e2
        exact ⟨u,r,.inr ⟨.inl hk,c,hc,hc'⟩⟩
      · rw [List.getElem?_set_ne (Ne.symm hj)] at e2
        obtain ⟨u',r',q⟩:=hl j y v' e1 e2 e3
        refine ⟨u',r',?_⟩
        rcases q with q | ⟨k,c',e,z'⟩
        · exact .inl q
        · refine .inr ⟨k,c',e,z'.sameBut hs ?_⟩
          rintro rfl
          exact hj (nodup_ix hN e1 (I.ok.inj _ _ _ e hc ▸ hi))
    · by_cases hcc:c'=c
      · subst hcc; exact ⟨_,hc'⟩
      · obtain ⟨w2,z2⟩:=I.cell y c' e
        exact ⟨w2,z2.sameBut hs hcc⟩
    · obtain ⟨e,n,ne,nf,d⟩:=I.pin p hp
      refine ⟨(hs.2 p.1 ?_).trans e,n,ne,nf,d⟩
      intro q
      rw [q,hoc] at e
      have q':oc=p.2:=Option.some.inj e
      exact d w' (by rw [← q']; exact hocd)
theorem store_ok {M:Model} {A:Around} {E:Value→Shared→Prop} {i:Nat} {x:Str} {v:V} {u:Value} {Q:Unit→Shared→Prop} (I:Inv X pins σ H s) (hN:X.N.Nodup) (hi:X.N[i]?=some x) (hx:Loc X.env.scope x) (r:RelV v u)
    (h:∀ s',Inv X pins (σ.set i (some v)) H s'→Q () s') (hf:X.fn x=true∨X.env.scope.names.lookup x=some .local:=by first | exact .inl rfl | exact .inr rfl | assumption):wpAny M A (storeName X.env x u) Q E s :=
  store_ok2 I hN hi hx r (fun s' I' _=>h s' I') hf
theorem Inv.call' {s':Shared} {ch:List Addr} (I:Inv X pins σ H s) (ho:s'.os=s.os) (u:Un (frs X.stack) ch H H' s.heap s'.heap) (hok:HOk X.prog X.w H' s'.heap) (hg:AllBare s'.gens)
    (hch:∀ b∈ch,(b∈X.ex∨X.s₀.heap.objs.size≤b)∧b≠X.env.locals∧(∀ x c,X.env.cells.lookup x=some c→c≠b)∧∀ p∈X.pn++pins,p.1≠b):Inv X pins σ H' s':=by
  obtain ⟨h',g',d',t',o'⟩:=s'
  have e:o'=s.os:=ho
  subst e
  exact I.call (g':=g') (t':=t') (d':=d') u hok hg hch
end
noncomputable abbrev XK:=Value→Option Addr→Hp→Prop
noncomputable abbrev St:=List (Option V)
noncomputable abbrev VK:=V→Hp→Prop
noncomputable abbrev TE:=St→Hp→VK→Prop
noncomputable abbrev TT:=St→Hp→(Bool→Hp→Prop)→Prop
noncomputable abbrev TA:=St→Hp→(List V→Hp→Prop)→Prop
structure Ends where
  nx:St→Hp→Prop
  rt:VK
  bk:St→Hp→Prop:=fun _ _=>False
  ct:St→Hp→Prop:=fun _ _=>False
noncomputable abbrev TS:=Ends→St→Hp→Prop

noncomputable def EP (X:Cx) (pins:List (Addr×Obj)) (σ:St) (Q:VK) (u:Value) (s':Shared):Prop:=∃ v H',Inv X pins σ H' s'∧RelV v u∧Q v H'
noncomputable def TP (X:Cx) (pins:List (Addr×Obj)) (σ:St) (Q:Bool→Hp→Prop) (b:Bool) (s':Shared):Prop:=∃ H',Inv X pins σ H' s'∧Q b H'
noncomputable def AP (X:Cx) (pins:List (Addr×Obj)) (σ:St) (Q:List V→Hp→Prop) (us:List Value) (s':Shared):Prop:=∃ vs H',Inv X pins σ H' s'∧Vals vs us∧Q vs H'
noncomputable def SP (X:Cx) (pins:List (Addr×Obj)) (D:Ends) (f:Flow) (s':Shared):Prop :=
  match f with
  | .next=>∃ σ' H',Inv X pins σ' H' s'∧D.nx σ' H'
  | .brk=>∃ σ' H',Inv X pins σ' H' s'∧D.bk σ' H'
  | .cont=>∃ σ' H',Inv X pins σ' H' s'∧D.ct σ' H'
  | .ret u=>∃ v σ' H',Inv X pins σ' H' s'∧RelV v u∧D.rt v H'

noncomputable def PE (X:Cx) (e:Expr) (t:TE):Prop :=
  ∀ (pins:List (Addr×Obj)) (s:Shared) (σ:St) (H:Hp) (Q:VK),Inv X pins σ H s→t σ H Q→wpAny (model X.prog X.w) X.A (eval e X.env) (EP X pins σ Q) X.xe s
noncomputable def PT (X:Cx) (e:Expr) (t:TT):Prop :=
  ∀ (pins:List (Addr×Obj)) (s:Shared) (σ:St) (H:Hp) (Q:Bool→Hp→Prop),Inv X pins σ H s→t σ H Q→wpAny (model X.prog X.w) X.A (isTrue e X.env (eval e X.env)) (TP X pins σ Q) X.xe s
noncomputable def PW (X:Cx) (e:Expr) (t:TT):Prop :=
  ∀ (whole:Sem Value) (pins:List (Addr×Obj)) (s:Shared) (σ:St) (H:Hp) (Q:Bool→Hp→Prop),Inv X pins σ H s→t σ H Q→wpAny (model X.prog X.w) X.A (isTrue e X.env whole) (TP X pins σ Q) X.xe s
theorem PW.pt {X:Cx} {e:Expr} {t:TT} (h:PW X e t):PT X e t:=h _
noncomputable def PA (X:Cx) (es:List Expr) (t:TA):Prop :=
  ∀ (pos:Pos) (pins:List (Addr×Obj)) (s:Shared) (σ:St) (H:Hp) (Q:List V→Hp→Prop),Inv X pins σ H s→t σ H Q→wpAny (model X.prog X.w) X.A (spliced (backTo pos (starEach es X.env))) (AP X pins σ Q) X.xe s
noncomputable def PS (X:Cx) (st:Stmt) (t:TS):Prop :=
  ∀ (pins:List (Addr×Obj)) (s:Shared) (σ:St) (H:Hp) (D:Ends),Inv X pins σ H s→t D σ H→wpAny (model X.prog X.w) X.A (exec st X.env) (SP X pins D) X.xe s
noncomputable def PSs (X:Cx) (st:List Stmt) (t:TS):Prop :=
  ∀ (pins:List (Addr×Obj)) (s:Shared) (σ:St) (H:Hp) (D:Ends),Inv X pins σ H s→t D σ H→wpAny (model X.prog X.w) X.A (execs st X.env) (SP X pins D) X.xe s
theorem thn {α:Type} {t:Sem α} {Q Q':α→Shared→Prop} {M:Model} {A:Around} {E:Value→Shared→Prop} {s:Shared} (h:wpAny M A t Q E s) (hQ:∀ a s,Q a s→Q' a s):wpAny M A t Q' E s:=wpAny_mono h hQ fun _ _ x=>x
end L2
namespace L2
open PySem PySem.Spec PyProof.Rows
section
variable {X:Cx}
noncomputable def tVar (i:Nat):TE:=fun σ H Q=>∃ v,σ[i]?=some (some v)∧Q v H
noncomputable def tC (v:V):TE:=fun _ H Q=>Q v H
theorem pe_var {i:Nat} {x:Str} {pos:Pos} (hN:X.N[i]?=some x) (hv:Vis X.env.scope x) (hd:(x == ("__debug__":Str))=false:=by decide) (hcd:(x == ("__classdict__":Str))=false:=by decide):PE X (.Name x pos) (tVar i):=by
  intro pins s σ H Q I h
  obtain ⟨v,e,h⟩:=h
  obtain ⟨m,hn,hl⟩:=I.loc
  obtain ⟨u,r,l⟩:=hl i x v hN e hv
  have fin:EP X pins σ Q u s:=⟨v,H,I,r,h⟩
  rcases l with ⟨hk,hm⟩ | ⟨hk,c,hc,hcell⟩
  · exact wpAny_Name (wpAny_loadName_local I.ok.kind hk hn hm fin) hd
  · rcases hk with hk | hk
    · exact wpAny_Name (wpAny_loadName_cell I.ok.kind hk hc hcell fin) hd
    · exact wpAny_Name (wpAny_loadName_free I.ok.kind hk hc hcell fin hcd) hd
theorem pe_int {i j pos}:PE X (.Constant (.int i) j pos) (tC (.int i)):=fun _ _ _ H _ I h=>wpAny_Constant_int ⟨.int i,H,I.tok _,⟨_,rfl⟩,h⟩
theorem pe_bl {b j pos}:PE X (.Constant (.bool b) j pos) (tC (.bl b)):=fun _ _ _ H _ I h=>Constant_bool ⟨.bl b,H,I,rfl,h⟩
theorem pe_str {x j pos}:PE X (.Constant (.str x) j pos) (tC (.str x)):=fun _ _ _ H _ I h=>Calls.Constant_str ⟨.str x,H,I.tok _,⟨_,rfl⟩,h⟩

noncomputable def Gl (X:Cx) (x:Str):Prop:=X.env.kindOf x=some .globalImplicit
theorem ld_glob {E:Value→Shared→Prop} {pins:List (Addr×Obj)} {s:Shared} {σ:St} {H:Hp} {x:Str} {u:Value} {pos:Pos} {Q:Value→Shared→Prop} (I:Inv X pins σ H s) (hg:Gl X x) (hm:X.mg x=some u) (h:Q u s)
    (hd:(x == ("__debug__":Str))=false:=by decide):wpAny (model X.prog X.w) X.A (eval (.Name x pos) X.env) Q E s :=
  Calls.Name_function_global I.ok.kind hg (Calls.loadGlobal_global (by rw [I.ok.glob]; exact I.mod.glob.keeps I.bk) hm h) hd
theorem ld_blt {E:Value→Shared→Prop} {pins:List (Addr×Obj)} {s:Shared} {σ:St} {H:Hp} {x:Str} {u:Value} {pos:Pos} {Q:Value→Shared→Prop} (I:Inv X pins σ H s) (hg:Gl X x) (hm:X.mg x=none) (hv:bootBuiltins x=some u) (h:Q u s)
    (hn:x≠"__name__":=by decide) (hd:(x == ("__debug__":Str))=false:=by decide):wpAny (model X.prog X.w) X.A (eval (.Name x pos) X.env) Q E s:=by
  obtain ⟨mb,h1,h2⟩:=I.mod.blt
  exact Calls.Name_function_global I.ok.kind hg (Calls.loadGlobal_builtin (by rw [I.ok.glob]; exact I.mod.glob.keeps I.bk) hm (by rw [I.ok.blt]; exact h1.keeps I.bk) ((h2 x hn).trans hv) h) hd
theorem pe_glob {x:Str} {v:V} {u:Value} {pos:Pos} (hg:Gl X x) (hm:X.mg x=some u) (r:RelV v u) (hd:(x == ("__debug__":Str))=false:=by decide):PE X (.Name x pos) (tC v) :=
  fun _ _ _ H _ I h=>ld_glob I hg hm ⟨v,H,I,r,h⟩ hd
variable {a b:Expr} {ta tb:TE} {pos:Pos}
variable {tA tB':TT} {rest:List Expr}
noncomputable def tAnd (t u:TT):TT:=fun σ H Q=>t σ H fun c H1=>if c=true then u σ H1 Q else Q false H1
noncomputable def tOr (t u:TT):TT:=fun σ H Q=>t σ H fun c H1=>if c=true then Q true H1 else u σ H1 Q
noncomputable def tNot (t:TT):TT:=fun σ H Q=>t σ H fun c H1=>Q (!c) H1
theorem pw_and1 (ha:PT X a tA):PW X (.BoolOp .And [a] pos) tA:=by
  intro wh pins s σ H Q I h
  refine isTrue_and (thn (ha pins s σ H Q I h) fun c s1 e=>?_)
  cases c with
  | true=>exact isTrue_and_nil e
  | false=>exact e
theorem pw_or1 (ha:PT X a tA):PW X (.BoolOp .Or [a] pos) tA:=by
  intro wh pins s σ H Q I h
  refine isTrue_or (thn (ha pins s σ H Q I h) fun c s1 e=>?_)
  cases c with
  | false=>exact isTrue_or_nil e
  | true=>exact e
theorem pw_and (ha:PT X a tA) (hb:PW X (.BoolOp .And (b::rest) pos) tB'):PW X (.BoolOp .And (a::b::rest) pos) (tAnd tA tB'):=by
  intro wh pins s σ H Q I h
  refine isTrue_and (thn (ha pins s σ H _ I h) fun c s1 hz0=>?_)
  obtain ⟨H1,I1,q1⟩:=hz0
  cases c with
  | true=>exact hb wh pins s1 σ H1 Q I1 q1
  | false=>exact ⟨H1,I1,q1⟩
theorem pw_or (ha:PT X a tA) (hb:PW X (.BoolOp .Or (b::rest) pos) tB'):PW X (.BoolOp .Or (a::b::rest) pos) (tOr tA tB'):=by
  intro wh pins s σ H Q I h
  refine isTrue_or (thn (ha pins s σ H _ I h) fun c s1 hz0=>?_)
  obtain ⟨H1,I1,q1⟩:=hz0
  cases c with
  | true=>exact ⟨H1,I1,q1⟩
  | false=>exact hb wh pins s1 σ H1 Q I1 q1
theorem pt_not (ha:PT X a tA):PT X (.UnaryOp .Not a pos) (tNot tA):=by
  intro pins s σ H Q I h
  exact isTrue_not (ha pins s σ H (fun c H1=>Q (!c) H1) I h)
noncomputable def tAndV (ta tb:TE):TE:=fun σ H Q=>ta σ H fun x H1=>∃ c,x=.bl c∧if c=true then tb σ H1 Q else Q (.bl false) H1
theorem pe_one {op} {t:TE} (h:PE X a t):PE X (.BoolOp op [a] pos) t:=fun pins s σ H Q I hw=>BoolOp_one (h pins s σ H Q I hw)
theorem pe_and (ha:PE X a ta) (hb:PE X (.BoolOp .And (b::rest) pos) tb):PE X (.BoolOp .And (a::b::rest) pos) (tAndV ta tb):=by
  intro pins s σ H Q I h
  refine BoolOp_and (thn (ha pins s σ H _ I h) fun v s1 hz0=>?_)
  obtain ⟨x,H1,I1,r1,q1⟩:=hz0
  obtain ⟨c,rfl,q1⟩:=q1
  cases r1
  refine wpAny_truthy_bool ?_
  cases c with
  | true=>exact hb pins s1 σ H1 Q I1 q1
  | false=>exact ⟨.bl false,H1,I1,rfl,q1⟩
noncomputable def tIf (t:TT) (ta tb:TE):TE:=fun σ H Q=>t σ H fun c H1=>if c=true then ta σ H1 Q else tb σ H1 Q
theorem pe_ifExp {c:Expr} (hc:PT X c tA) (ha:PE X a ta) (hb:PE X b tb):PE X (.IfExp c a b pos) (tIf tA ta tb):=by
  intro pins s σ H Q I h
  refine wpAny_IfExp (thn (hc pins s σ H _ I h) fun d s1 hz0=>?_)
  obtain ⟨H1,I1,q1⟩:=hz0
  cases d with
  | true=>exact ha pins s1 σ H1 Q I1 q1
  | false=>exact hb pins s1 σ H1 Q I1 q1
end
end L2
namespace L2
open PySem PySem.Spec PyProof.Rows
noncomputable def SqL (K:PySem.W.Frag) (H:Hp) (a:Addr) (xs:List V):Prop :=
  Rd H a (.lst xs) ∨
    ∃ (o:Obj) (its:Array Value) (n:Nat),K.lookup a=some o∧o.cls=.type "list"∧o.dict=none∧o.data=.seq its n∧its.size≤sizeLine∧Vals xs its.toList
noncomputable def SqT (K:PySem.W.Frag) (H:Hp) (a:Addr) (xs:List V):Prop :=
  Rd H a (.tup xs) ∨
    ∃ (o:Obj) (its:Array Value) (n:Nat),K.lookup a=some o∧o.cls=.type "tuple"∧o.data=.seq its n∧its.size≤sizeLine∧Vals xs its.toList
noncomputable def absV:Value→Option V
  | .none=>some .non
  | .bool b=>some (.bl b)
  | .int i _=>some (.int i)
  | .str x _=>some (.str x)
  | .bytes b _=>some (.byt b)
  | .float b _=>some (.flt b)
  | .ref a=>some (.ref a)
  | .type n=>some (.ty n)
  | _=>none
theorem RelV.abs {x:V} {u:Value} (r:RelV x u):absV u=some x:=by
  cases x with
  | non=>cases r; rfl
  | bl _=>cases r; rfl
  | int _=>obtain ⟨t,rfl⟩:=r; rfl
  | str _=>obtain ⟨t,rfl⟩:=r; rfl
  | byt _=>obtain ⟨t,rfl⟩:=r; rfl
  | flt _=>obtain ⟨t,rfl⟩:=r; rfl
  | ref _=>cases r; rfl
  | ty _=>cases r; rfl
theorem RelV.inj {x y:V} {u:Value} (r:RelV x u) (q:RelV y u):x=y:=Option.some.inj (r.abs.symm.trans q.abs)
theorem Vals.inj {xs ys:List V} {us:List Value} (h:Vals xs us) (h':Vals ys us):xs=ys:=by
  induction h generalizing ys with
  | nil=>cases h'; rfl
  | cons r t ih=>cases h' with | cons r' t'=>rw [r.inj r',ih t']
section
variable {X:Cx} {pins:List (Addr×Obj)} {σ:St} {H:Hp} {s:Shared} {a:Addr} {xs ys:List V}
theorem SqL.of {K:PySem.W.Frag} (h:H a=some (.lst xs)):SqL K H a xs:=.inl (.inl h)
theorem SqT.of {K:PySem.W.Frag} (h:H a=some (.tup xs)):SqT K H a xs:=.inl (.inl h)
theorem Inv.list (I:Inv X pins σ H s) (h:SqL X.K H a xs):∃ its:List Value,Vals xs its∧PlainL s.heap a its.toArray∧xs.length≤sizeLine:=by
  rcases h with h | ⟨o,its,n,hk,hc,hd,hs,hz,r⟩
  · obtain ⟨z,its,n,r,e⟩:=h.ok I.hok
    exact ⟨its,r,⟨_,n,e,rfl,rfl,rfl⟩,z⟩
  · refine ⟨its.toList,r,⟨o,n,I.kIn a o hk,hc,hd,by simpa using hs⟩,?_⟩
    have e:=r.length
    simp only [Array.length_toList] at e
    omega
theorem Inv.tuple (I:Inv X pins σ H s) (h:SqT X.K H a xs):∃ its:List Value,Vals xs its∧IsTup s.heap a its.toArray∧xs.length≤sizeLine:=by
  rcases h with h | ⟨o,its,n,hk,hc,hs,hz,r⟩
  · obtain ⟨z,its,r,p⟩:=h.ok I.hok
    exact ⟨its,r,p,z⟩
  · refine ⟨its.toList,r,⟨o,I.kIn a o hk,hc,n,by simpa using hs⟩,?_⟩
    have e:=r.length
    simp only [Array.length_toList] at e
    omega
theorem Inv.list_inj (I:Inv X pins σ H s) (h:SqL X.K H a xs) (h':SqL X.K H a ys):xs=ys:=by
  obtain ⟨its,r,⟨o,n,e,_,_,d⟩,_⟩:=I.list h
  obtain ⟨its',r',⟨o',n',e',_,_,d'⟩,_⟩:=I.list h'
  rw [e] at e'; cases e'
  rw [d] at d'
  injection d' with d1 _
  have:its=its':=by simpa using congrArg Array.toList d1
  subst this
  exact r.inj r'
theorem Inv.tuple_inj (I:Inv X pins σ H s) (h:SqT X.K H a xs) (h':SqT X.K H a ys):xs=ys:=by
  obtain ⟨its,r,⟨o,e,_,n,d⟩,_⟩:=I.tuple h
  obtain ⟨its',r',⟨o',e',_,n',d'⟩,_⟩:=I.tuple h'
  rw [e] at e'; cases e'
  rw [d] at d'
  injection d' with d1 _
  have:its=its':=by simpa using congrArg Array.toList d1
  subst this
  exact r.inj r'
end
noncomputable abbrev Cx.wish (X:Cx) (E:Value→Shared→Prop):Cx:={ X with xe:=E }
noncomputable abbrev Cx.nox (X:Cx):Cx:=X.wish fun _ _=>False
theorem Cx.Ok.wish {X:Cx} (ok:X.Ok) (E:Value→Shared→Prop):(X.wish E).Ok :=
  ⟨ok.mod,ok.kind,ok.glob,ok.blt,ok.above,ok.inj,ok.has,ok.cab,ok.hd,ok.frames,ok.stk,ok.exf,ok.bs,ok.bsz,ok.noex,ok.exfs,ok.funs,ok.frf⟩
theorem Cx.Ok.unwish {X:Cx} {E:Value→Shared→Prop} (ok:(X.wish E).Ok):X.Ok :=
  ⟨ok.mod,ok.kind,ok.glob,ok.blt,ok.above,ok.inj,ok.has,ok.cab,ok.hd,ok.frames,ok.stk,ok.exf,ok.bs,ok.bsz,ok.noex,ok.exfs,ok.funs,ok.frf⟩
section
variable {X:Cx} {pins:List (Addr×Obj)} {σ:St} {H:Hp} {s:Shared} {E:Value→Shared→Prop}
theorem Inv.wish (I:Inv X pins σ H s) (E:Value→Shared→Prop):Inv (X.wish E) pins σ H s:=⟨I.ok.wish E,I.os,I.bare,I.base,I.loc,I.cell,I.free,I.freeC,I.pin,I.hok,I.len⟩
theorem Inv.unwish (I:Inv (X.wish E) pins σ H s):Inv X pins σ H s:=⟨I.ok.unwish,I.os,I.bare,I.base,I.loc,I.cell,I.free,I.freeC,I.pin,I.hok,I.len⟩
theorem SP.unwish {D:Ends} {f:Flow} {s':Shared} (h:SP (X.wish E) pins D f s'):SP X pins D f s':=by
  cases f with
  | next=>obtain ⟨σ',H',I,q⟩:=h; exact ⟨σ',H',I.unwish,q⟩
  | brk=>obtain ⟨σ',H',I,q⟩:=h; exact ⟨σ',H',I.unwish,q⟩
  | cont=>obtain ⟨σ',H',I,q⟩:=h; exact ⟨σ',H',I.unwish,q⟩
  | ret u=>obtain ⟨v,σ',H',I,r,q⟩:=h; exact ⟨v,σ',H',I.unwish,r,q⟩
theorem PSs.nox {st:List Stmt} {t:TS} (h:PSs X.nox st t):PSs X st t:=fun pins s σ H D I hw =>
  wpAny_mono (h pins s σ H D (I.wish _) hw) (fun _ _ q=>q.unwish) fun _ _ z=>False.elim z
end
section
variable {X:Cx} {st:Stmt} {rest:List Stmt} {t u:TS} {e:Expr} {te:TE} {pos:Pos}
noncomputable def tNext:TS:=fun D σ H=>D.nx σ H
noncomputable def tSeq (t u:TS):TS:=fun D σ H=>t { D with nx:=u D } σ H
theorem pss_nil:PSs X [] tNext:=fun _ _ σ H _ I h=>wpAny_execs_nil ⟨σ,H,I,h⟩
theorem pss_cons (h1:PS X st t) (h2:PSs X rest u):PSs X (st::rest) (tSeq t u):=by
  intro pins s σ H D I h
  refine wpAny_execs_cons (thn (h1 pins s σ H { D with nx:=u D } I h) fun f s1 q=>?_)
  cases f with
  | next =>
    obtain ⟨σ',H',I',q⟩:=q
    exact h2 pins s1 σ' H' D I' q
  | ret v=>exact q
  | brk=>exact q
  | cont=>exact q
theorem pss_one (h1:PS X st t):PSs X [st] t:=by
  intro pins s σ H D I h
  refine wpAny_execs_cons (thn (h1 pins s σ H D I h) fun f s1 q=>?_)
  cases f with
  | next=>exact wpAny_execs_nil q
  | ret v=>exact q
  | brk=>exact q
  | cont=>exact q
theorem Inv.quiet {pins:List (Addr×Obj)} {σ:St} {H:Hp} {s:Shared} (I:Inv X pins σ H s):interactive X.env=false:=by simp [interactive,I.ok.kind]
noncomputable def tDrop (te:TE):TS:=fun D σ H=>te σ H fun _ H1=>D.nx σ H1
theorem ps_expr (he:PE X e te) (hs:swapsWith e none pos.line X.env=pure false:=by rfl):PS X (.Expr e pos) (tDrop te):=by
  intro pins s σ H D I h
  exact wpAny_Expr_any (thn (he pins s σ H _ I h) fun v s1 ⟨x,H1,I1,r1,q1⟩=>⟨σ,H1,I1,q1⟩) I.quiet hs
noncomputable def tRet (te:TE):TS:=fun D σ H=>te σ H D.rt
theorem ps_ret (he:PE X e te):PS X (.Return (some e) pos) (tRet te):=by
  intro pins s σ H D I h
  exact wpAny_Return_some (thn (he pins s σ H _ I h) fun v s1 ⟨x,H1,I1,r1,q1⟩=>⟨x,σ,H1,I1,r1,q1⟩)
noncomputable def tIfS (c:TT) (t u:TS):TS:=fun D σ H=>c σ H fun b H1=>if b=true then t D σ H1 else u D σ H1
theorem ps_if {c:Expr} {a b:List Stmt} {tc:TT} (hc:PT X c tc) (ha:PSs X a t) (hb:PSs X b u):PS X (.If c a b pos) (tIfS tc t u):=by
  intro pins s σ H D I h
  refine wpAny_If (thn (hc pins s σ H _ I h) fun d s1 hz0=>?_)
  obtain ⟨H1,I1,q1⟩:=hz0
  cases d with
  | true=>exact ha pins s1 σ H1 D I1 q1
  | false=>exact hb pins s1 σ H1 D I1 q1
end
noncomputable abbrev TG:=V→St→Hp→(St→Hp→Prop)→Prop
noncomputable abbrev TGs:=List V→St→Hp→(St→Hp→Prop)→Prop
noncomputable def PG (X:Cx) (target:Expr) (t:TG):Prop :=
  ∀ (pins:List (Addr×Obj)) (s:Shared) (σ:St) (H:Hp) (v:V) (u:Value) (Q:St→Hp→Prop),Inv X pins σ H s→RelV v u→t v σ H Q →
    wpAny (model X.prog X.w) X.A (assign target X.env u) (fun _ s'=>∃ σ' H',Inv X pins σ' H' s'∧Q σ' H') X.xe s
noncomputable def PGs (X:Cx) (ts:List Expr) (t:TGs):Prop :=
  ∀ (pins:List (Addr×Obj)) (s:Shared) (σ:St) (H:Hp) (vs:List V) (us:List Value) (Q:St→Hp→Prop),Inv X pins σ H s→Vals vs us→t vs σ H Q →
    wpAny (model X.prog X.w) X.A (assignInOrder ((assignEach ts X.env).map (·.2)) us) (fun _ s'=>∃ σ' H',Inv X pins σ' H' s'∧Q σ' H') X.xe s
noncomputable abbrev TSet:=V→V→V→Hp→(Hp→Prop)→Prop
noncomputable def PSet (X:Cx) (t:TSet):Prop :=
  ∀ (pins:List (Addr×Obj)) (s:Shared) (σ:St) (H:Hp) (o i v:V) (ov iv u:Value) (Q:Hp→Prop),Inv X pins σ H s→RelV o ov→RelV i iv→RelV v u→t o i v H Q →
    wpAny (model X.prog X.w) X.A (setItem ov iv u) (fun _ s'=>∃ H',Inv X pins σ H' s'∧Q H') X.xe s
noncomputable abbrev TIp:=V→V→Hp→VK→Prop
noncomputable def PIp (X:Cx) (op:Operator) (t:TIp):Prop :=
  ∀ (pins:List (Addr×Obj)) (s:Shared) (σ:St) (H:Hp) (x y:V) (v u:Value) (Q:VK),Inv X pins σ H s→RelV x v→RelV y u→t x y H Q →
    wpAny (model X.prog X.w) X.A (inplaceOp op v u) (EP X pins σ Q) X.xe s
section
variable {X:Cx} {pos:Pos}
noncomputable def gName (i:Nat):TG:=fun v σ H Q=>Q (σ.set i (some v)) H
theorem pg_name {i:Nat} {x:Str} (hN:X.N.Nodup) (hi:X.N[i]?=some x) (hx:Loc X.env.scope x) (hf:X.fn x=true∨X.env.scope.names.lookup x=some .local:=by first | exact .inl rfl | exact .inr rfl | assumption):PG X (.Name x pos) (gName i):=by
  intro pins s σ H v u Q I r h
  exact wpAny_assign_Name (store_ok I hN hi hx r (fun s' I'=>⟨_,H,I',h⟩) hf)
noncomputable def gNil:TGs:=fun vs σ H Q=>vs=[]∧Q σ H
noncomputable def gCons (t:TG) (u:TGs):TGs:=fun vs σ H Q=>∃ v r,vs=v::r∧t v σ H fun σ' H'=>u r σ' H' Q
theorem pgs_nil:PGs X [] gNil:=by
  intro pins s σ H vs us Q I r h
  obtain ⟨e,h⟩:=h
  subst e
  cases r
  exact assignInOrder_nil ⟨σ,H,I,h⟩
theorem pgs_cons {e:Expr} {es:List Expr} {t:TG} {u:TGs} (h1:PG X e t) (h2:PGs X es u)
    (hs:(assignEach (e::es) X.env).map (·.2)=assign e X.env::(assignEach es X.env).map (·.2):=by rfl):PGs X (e::es) (gCons t u):=by
  intro pins s σ H vs us Q I r h
  obtain ⟨v,vr,e1,h⟩:=h
  subst e1
  cases r with
  | cons r rr =>
    rw [hs]
    refine assignInOrder_cons (thn (h1 pins s σ H _ _ _ I r h) fun _ s1 hz0=>?_)
    obtain ⟨σ1,H1,I1,q1⟩:=hz0
    exact h2 pins s1 σ1 H1 _ _ Q I1 rr q1
noncomputable def gTup (K:PySem.W.Frag) (n:Nat) (t:TGs):TG:=fun v σ H Q=>∃ a xs,v=.ref a∧SqT K H a xs∧xs.length=n∧t xs σ H Q
theorem pg_tup {es:List Expr} {k:Nat} {t:TGs} {n:Nat} (hc:X.calm=true) (h:PGs X es t)
    (hn:(assignEach es X.env).length=n:=by rfl) (hst:(assignEach es X.env).findIdx? (·.1)=none:=by rfl):PG X (.Tuple es k pos) (gTup X.K n t):=by
  intro pins s σ H v u Q I r hw
  obtain ⟨a,xs,e1,hq,hl,hw⟩:=hw
  subst e1
  cases r
  obtain ⟨its,rv,ht,hz⟩:=I.tuple hq
  refine assign_Tuple_tuple (I.ok.hd hc) ht (by simp [hn,← hl,rv.length]) hst fun h' hx=>?_
  have I1:Inv X pins σ H { s with heap:=h' }:=I.kept (t':=s.toks) fun b o e=>hx b o (Nat.ne_of_lt (Heap.lt_size e)) e
  exact h pins _ σ H xs _ Q I1 (by simpa using rv) hw
noncomputable def gSub (to ti:TE) (t:TSet):TG:=fun v σ H Q=>to σ H fun o H1=>ti σ H1 fun i H2=>t o i v H2 fun H3=>Q σ H3
theorem pg_sub {o i:Expr} {to ti:TE} {t:TSet} (ho:PE X o to) (hi:PE X i ti) (hs:PSet X t)
    (ha:∀ v,assign (.Subscript o i pos) X.env v=(do
      let ov ← holding [v] (eval o X.env)
      let iv ← holding [v,ov] (eval i X.env)
      standAt pos
      holding [v,ov,iv] (setItem ov iv v)
      release [v,ov,iv] []):=by intro _; rfl):PG X (.Subscript o i pos) (gSub to ti t):=by
  intro pins s σ H v u Q I r h
  rw [ha]
  refine wpAny_bind (wpAny_holding (thn (ho pins s σ H _ I h) fun ov s1 hz0=>?_))
  obtain ⟨x,H1,I1,r1,q1⟩:=hz0
  refine wpAny_bind (wpAny_holding (thn (hi pins s1 σ H1 _ I1 q1) fun iv s2 hz0=>?_))
  obtain ⟨y,H2,I2,r2,q2⟩:=hz0
  refine wpAny_bind (wpAny_standAt (wpAny_bind (wpAny_holding (thn (hs pins s2 σ H2 x y v ov iv u _ I2 r1 r2 r q2) fun _ s3 hz0=>?_))))
  obtain ⟨H3,I3,q3⟩:=hz0
  exact wpAny_release ⟨σ,H3,I3,q3⟩
noncomputable def tAsg (te:TE) (g:TG):TS:=fun D σ H=>te σ H fun x H1=>g x σ H1 D.nx
theorem ps_asg {tg e:Expr} {te:TE} {g:TG} (he:PE X e te) (hg:PG X tg g) (hs:swapsWithSole [tg] e pos.line X.env=pure false:=by rfl) (hw:swappedStores [tg] e X.env=pure none:=by rfl)
    (h1:(assignEach [tg] X.env).map (·.2)=[assign tg X.env]:=by rfl):PS X (.Assign [tg] e pos) (tAsg te g):=by
  intro pins s σ H D I h
  refine wpAny_Assign_stores (thn (he pins s σ H _ I h) fun v s1 hz0=>?_) hs hw
  obtain ⟨x,H1,I1,r1,q1⟩:=hz0
  rw [h1]
  exact thn (hg pins s1 σ H1 x v _ I1 r1 q1) fun _ s2 q=>q
theorem ps_set {i:Nat} {x:Str} {e:Expr} {te:TE} {pos':Pos} (hN:X.N.Nodup) (hi:X.N[i]?=some x) (hx:Loc X.env.scope x) (he:PE X e te) (hs:swapsWith e (some (.Name x pos')) pos.line X.env=pure false:=by rfl) (hf:X.fn x=true∨X.env.scope.names.lookup x=some .local:=by first | exact .inl rfl | exact .inr rfl | assumption) :
    PS X (.Assign [.Name x pos'] e pos) (tAsg te (gName i)):=by
  intro pins s σ H D I h
  refine wpAny_Assign_Name (thn (he pins s σ H _ I h) fun v s1 hz0=>?_) hs
  obtain ⟨y,H1,I1,r1,q1⟩:=hz0
  exact store_ok I1 hN hi hx r1 (fun s2 I2=>⟨_,H1,I2,q1⟩) hf
noncomputable def tAug (i:Nat) (te:TE) (ti:TIp):TS:=fun D σ H=>∃ x,σ[i]?=some (some x)∧te σ H fun y H1=>ti x y H1 fun z H2=>D.nx (σ.set i (some z)) H2
theorem ps_aug {i:Nat} {x:Str} {e:Expr} {te:TE} {op:Operator} {ti:TIp} {pos':Pos} (hN:X.N.Nodup) (hi:X.N[i]?=some x) (hx:Loc X.env.scope x) (he:PE X e te) (ho:PIp X op ti) (hf:X.fn x=true∨X.env.scope.names.lookup x=some .local:=by first | exact .inl rfl | exact .inr rfl | assumption) :
    PS X (.AugAssign (.Name x pos') op e pos) (tAug i te ti):=by
  intro pins s σ H D I h
  obtain ⟨v,e1,h⟩:=h
  obtain ⟨m,hn,hl⟩:=I.loc
  have vis:Vis X.env.scope x:=by rcases hx with k | k; exact .inl k; exact .inr (.inl k)
  obtain ⟨u,r,l⟩:=hl i x v hi e1 vis
  refine wpAny_AugAssign_Name ?_
  have go:wpAny (model X.prog X.w) X.A (eval e X.env) (fun w s₂=>wpAny (model X.prog X.w) X.A (inplaceOp op u w) (fun r s₃=>wpAny (model X.prog X.w) X.A (storeName X.env x r) (fun _=>SP X pins D .next) X.xe s₃) X.xe s₂) X.xe s:=by
    refine thn (he pins s σ H _ I h) fun w s1 hz0=>?_
    obtain ⟨y,H1,I1,r1,q1⟩:=hz0
    refine thn (ho pins s1 σ H1 v y u w _ I1 r r1 q1) fun z s2 hz0=>?_
    obtain ⟨zv,H2,I2,r2,q2⟩:=hz0
    exact store_ok I2 hN hi hx r2 (fun s3 I3=>⟨_,H2,I3,q2⟩) hf
  rcases l with ⟨hk,hm⟩ | ⟨hk,c,hc,hcell⟩
  · exact wpAny_loadName_local I.ok.kind hk hn hm go
  · rcases hk with hk | hk
    · exact wpAny_loadName_cell I.ok.kind hk hc hcell go
    · rcases hx with k | k
      · have:X.env.scope.names.lookup x=some .free:=hk
        rw [k] at this; cases this
      · have:X.env.scope.names.lookup x=some .free:=hk
        rw [k] at this; cases this
end
section
variable {X:Cx} {pos:Pos}
noncomputable def tWhile (c:TT) (tb:TS):TS:=fun D σ H=>∃ W:Nat→St→Hp→Prop,(∃ m,W m σ H)∧∀ m σ H,W m σ H →
  c σ H fun b H1=>if b=true then ∃ N:St→Hp→Prop,(∀ σ' H',N σ' H'→∃ m',m' < m∧W m' σ' H')∧tb { D with nx:=N,ct:=N,bk:=D.nx } σ H1 else D.nx σ H1
theorem ps_while {c:Expr} {body:List Stmt} {tc:TT} {tb:TS} (hp:PassesOwn (model X.prog X.w) X.A X.env X.xe) (hc:PT X c tc) (hb:PSs X body tb):PS X (.While c body [] pos) (tWhile tc tb):=by
  intro pins s σ H D I h
  obtain ⟨W,⟨m0,w0⟩,turn⟩:=h
  refine wpAny_While (codeAny_whileLoop (fun n s'=>∃ σ' H',Inv X pins σ' H' s'∧W n σ' H') ?_ m0 ⟨σ,H,I,w0⟩)
  rintro n s1 ⟨σ1,H1,I1,w1⟩
  refine wpAny_passesOwn hp (thn (hc pins s1 σ1 H1 _ I1 (turn n σ1 H1 w1)) fun b s2 hz0=>?_)
  obtain ⟨H2,I2,q2⟩:=hz0
  cases b with
  | true =>
    obtain ⟨N,hN,q2⟩:=q2
    rw [if_pos rfl]
    refine wpAny_passesOwn hp (thn (hb pins s2 σ1 H2 _ I2 q2) fun f s3 q3=>?_)
    cases f with
    | next =>
      obtain ⟨σ3,H3,I3,n3⟩:=q3
      obtain ⟨m',hm,w3⟩:=hN σ3 H3 n3
      exact ⟨m',hm,σ3,H3,I3,w3⟩
    | cont =>
      obtain ⟨σ3,H3,I3,n3⟩:=q3
      obtain ⟨m',hm,w3⟩:=hN σ3 H3 n3
      exact ⟨m',hm,σ3,H3,I3,w3⟩
    | brk=>exact q3
    | ret v=>exact q3
  | false =>
    rw [if_neg Bool.false_ne_true]
    exact wpAny_execs_nil ⟨σ1,H2,I2,q2⟩
end
structure It where
  go:Nat→Hp→Prop
  yld:Nat→Hp→V→Hp→Prop
  stop:Nat→Hp→Prop
noncomputable def FpOk (X:Cx) (pins:List (Addr×Obj)) (H:Hp) (b:Addr):Prop :=
  H b=none∧b≠X.env.locals∧b ∉ X.fs∧(b∈X.ex∨X.s₀.heap.objs.size≤b)∧(∀ x c,X.env.cells.lookup x=some c→c≠b)∧∀ p∈X.pn++pins,p.1≠b
theorem Inv.fpOk {X:Cx} {pins:List (Addr×Obj)} {σ:St} {H H':Hp} {s:Shared} {b:Addr} (I:Inv X pins σ H s) (hb:s.heap.objs.size≤b) (hn:H' b=none):FpOk X pins H' b:=by
  refine ⟨hn,Nat.ne_of_gt (Nat.lt_of_lt_of_le I.lt hb),I.nofs hb,.inr (Nat.le_trans I.sz hb),fun x c e z=>?_,fun p hp z=>?_⟩
  · obtain ⟨v,q⟩:=I.cell x c e
    exact absurd (Nat.lt_of_lt_of_le q.lt (by rw [z]; exact hb)) (Nat.lt_irrefl _)
  · exact absurd (Nat.lt_of_lt_of_le (Heap.lt_size (I.pin p hp).1) (by rw [z]; exact hb)) (Nat.lt_irrefl _)
structure Turn (P:Program) (w:World) (K:PySem.W.Frag) (tg:Expr) (J:It) (fp:List Addr) (it:Addr) (tn:Nat→Heap→Prop):Prop where
  mem:it∈fp
  obj:∀ i h,tn i h→∀ b∈fp,∃ o,h.get? b=some o∧∀ v,o.data≠.cell v
  keep:∀ i h h',tn i h→(∀ b∈fp,∀ o,h.get? b=some o→h'.get? b=some o)→tn i h'
  item:∀ (X:Cx),X.prog=P→X.w=w→X.K=K→X.calm=true→∀ (i:Nat) (pins:List (Addr×Obj)) (s:Shared) (σ:St) (H:Hp) (E:Value→Shared→Prop),Inv X pins σ H s→(∀ b∈fp,FpOk X pins H b)→tn i s.heap→J.go i H →
    wpAny (model P w) X.A (pyNext (.ref it)) (fun r s1=>∃ u,r=some u ∧
      wpAny (model P w) X.A (letOwnedTupleGo tg (.ref it) u) (fun _ s2=>∃ x H',Inv X pins σ H' s2∧RelV x u∧J.yld i H x H'∧tn (i+1) s2.heap∧∀ b∈fp,H' b=none) E s1) E s
  done:∀ (X:Cx),X.prog=P→X.w=w→X.K=K→X.calm=true→∀ (i:Nat) (pins:List (Addr×Obj)) (s:Shared) (σ:St) (H:Hp) (E:Value→Shared→Prop),Inv X pins σ H s→(∀ b∈fp,FpOk X pins H b)→tn i s.heap→J.stop i H →
    wpAny (model P w) X.A (pyNext (.ref it)) (fun r s1=>r=none∧Inv X pins σ H s1) E s
  self:∀ (A:Around) (i:Nat) (s:Shared) (Q:Value→Shared→Prop) (E:Value→Shared→Prop),tn i s.heap→Q (.ref it) s→wpAny (model P w) A (pyIter (.ref it)) Q E s
noncomputable abbrev TI:=St→Hp→(It→Hp→Prop)→Prop
noncomputable def PIE (X:Cx) (pins:List (Addr×Obj)) (σ:St) (tg:Expr) (R:It→Hp→Prop) (itv:Value) (s2:Shared):Prop :=
  ∃ (it:Addr) (fp:List Addr) (tn:Nat→Heap→Prop) (J:It) (H':Hp),itv=.ref it∧Inv X pins σ H' s2∧Turn X.prog X.w X.K tg J fp it tn∧tn 0 s2.heap∧(∀ b∈fp,FpOk X pins H' b)∧R J H'
noncomputable def PI (X:Cx) (tg iter:Expr) (wi:TI):Prop :=
  ∀ (pins:List (Addr×Obj)) (s:Shared) (σ:St) (H:Hp) (R:It→Hp→Prop),Inv X pins σ H s→wi σ H R →
    wpAny (model X.prog X.w) X.A (eval iter X.env) (fun v s1=>wpAny (model X.prog X.w) X.A (pyIter v) (PIE X pins σ tg R) X.xe s1) X.xe s

theorem go_of {M:Model} {A:Around} {E:Value→Shared→Prop} {s:Shared} {tg:Expr} {it:Addr} {u:Value} {o:Obj} {n:String} {vs:Array Value} {Q:Unit→Shared→Prop} (ho:s.heap.get? it=some o) (hc:o.cls=.type n) (hd:o.data=.fields vs)
    (hn:["enumerate","zip","dict_itemiterator","dict_reverseitemiterator","odict_iterator","itertools.zip_longest","itertools.pairwise"].contains n=false) (hQ:Q () s):wpAny M A (letOwnedTupleGo tg (.ref it) u) Q E s:=by
  unfold letOwnedTupleGo
  cases tg <;> first
    | exact wpAny_pure hQ
    | (cases u <;> first
        | exact wpAny_pure hQ
        | (refine wpAny_bind (wpAny_load ho ?_)
           rw [hc,hd]
           show wpAny M A (if (["enumerate","zip","dict_itemiterator","dict_reverseitemiterator","odict_iterator","itertools.zip_longest","itertools.pairwise"].contains n && vs[0]? == some (rawInt _))=true then _ else _) Q E s
           rw [if_neg (by intro h; rw [hn,Bool.false_and] at h; cases h)]
           exact wpAny_pure hQ))

noncomputable def Itl (K:PySem.W.Frag) (a:Addr):It :=
  ⟨fun i H=>∃ xs x,SqL K H a xs∧xs[i]?=some x,fun i H x H'=>H'=H∧∀ xs,SqL K H a xs→xs[i]?=some x,fun i H=>∃ xs,SqL K H a xs∧xs.length≤i⟩
noncomputable def Itt (K:PySem.W.Frag) (a:Addr):It :=
  ⟨fun i H=>∃ xs x,SqT K H a xs∧xs[i]?=some x,fun i H x H'=>H'=H∧∀ xs,SqT K H a xs→xs[i]?=some x,fun i H=>∃ xs,SqT K H a xs∧xs.length≤i⟩
noncomputable def Itr (lo:Int) (n:Nat):It:=⟨fun i _=>i < n,fun i H x H'=>H'=H∧x=.int (lo+i),fun i _=>n≤i⟩
theorem turn_list {P:Program} {w:World} {K:PySem.W.Frag} {tg:Expr} (a it:Addr):Turn P w K tg (Itl K a) [it] it (fun i h=>h.IsListIter it a i) where
  mem:=by simp
  obj:=fun i h st b hb=>by
    have e:b=it:=by simpa using hb
    subst e
    obtain ⟨o,e,c,d⟩:=st
    exact ⟨o,e,fun v z=>by rw [d] at z; cases z⟩
  keep:=fun i h h' st k=>st.at fun o e=>k it (by simp) o e
  item:=by
    intro X hP hw hK hc i pins s σ H E I hf st hg
    subst hP hw hK
    obtain ⟨xs,x,hq,hx⟩:=hg
    obtain ⟨its,rv,p,hz⟩:=I.list hq
    obtain ⟨u,hu,ru⟩:=rv.get hx
    obtain ⟨f0,f1,f2,f3,f4,f5⟩:=hf it (by simp)
    refine wpAny_pyNext_list_item st p.isList (x:=u) (by simpa using hu) fun h' st' sb=>?_
    have I1:Inv X pins σ H { s with heap:=h' }:=I.turned (t':=s.toks) (fun b o hb e=>(sb.2 b hb).trans e) f0 f1 f3 f4 f5
    obtain ⟨o,e,c,d⟩:=id st'
    exact ⟨u,rfl,go_of (s:={ s with heap:=h' }) e c d (by decide) ⟨x,H,I1,ru,⟨rfl,fun ys hy=>by rw [I.list_inj hy hq]; exact hx⟩,st',fun b hb=>(hf b hb).1⟩⟩
  done:=by
    intro X hP hw hK hc i pins s σ H E I hf st hg
    subst hP hw hK
    obtain ⟨xs,hq,hx⟩:=hg
    obtain ⟨its,rv,p,hz⟩:=I.list hq
    obtain ⟨f0,f1,f2,f3,f4,f5⟩:=hf it (by simp)
    have hl:=rv.length
    exact wpAny_pyNext_list_end (I.ok.hd hc) st p.isList (by simp; omega) fun h' eb=>⟨rfl,I.turned (t':=s.toks) (fun b o hb e=>eb b o hb e) f0 f1 f3 f4 f5⟩
  self:=fun _ _ _ _ _ st h=>wpAny_pyIter_listiter st h
theorem turn_tuple {P:Program} {w:World} {K:PySem.W.Frag} {tg:Expr} (a it:Addr):Turn P w K tg (Itt K a) [it] it (fun i h=>h.IsTupleIter it a i) where
  mem:=by simp
  obj:=fun i h st b hb=>by
    have e:b=it:=by simpa using hb
    subst e
    obtain ⟨o,e,c,d⟩:=st
    exact ⟨o,e,fun v z=>by rw [d] at z; cases z⟩
  keep:=fun i h h' st k=>st.at fun o e=>k it (by simp) o e
  item:=by
    intro X hP hw hK hc i pins s σ H E I hf st hg
    subst hP hw hK
    obtain ⟨xs,x,hq,hx⟩:=hg
    obtain ⟨its,rv,p,hz⟩:=I.tuple hq
    obtain ⟨u,hu,ru⟩:=rv.get hx
    obtain ⟨f0,f1,f2,f3,f4,f5⟩:=hf it (by simp)
    refine wpAny_pyNext_tuple_item st (show s.heap.IsTuple a its.toArray from p) (x:=u) (by simpa using hu) fun h' st' sb=>?_
    have I1:Inv X pins σ H { s with heap:=h' }:=I.turned (t':=s.toks) (fun b o hb e=>(sb.2 b hb).trans e) f0 f1 f3 f4 f5
    obtain ⟨o,e,c,d⟩:=id st'
    exact ⟨u,rfl,go_of (s:={ s with heap:=h' }) e c d (by decide) ⟨x,H,I1,ru,⟨rfl,fun ys hy=>by rw [I.tuple_inj hy hq]; exact hx⟩,st',fun b hb=>(hf b hb).1⟩⟩
  done:=by
    intro X hP hw hK hc i pins s σ H E I hf st hg
    subst hP hw hK
    obtain ⟨xs,hq,hx⟩:=hg
    obtain ⟨its,rv,p,hz⟩:=I.tuple hq
    obtain ⟨f0,f1,f2,f3,f4,f5⟩:=hf it (by simp)
    have hl:=rv.length
    exact wpAny_pyNext_tuple_end (I.ok.hd hc) st (show s.heap.IsTuple a its.toArray from p) (by simp; omega) fun h' eb=>⟨rfl,I.turned (t':=s.toks) (fun b o hb e=>eb b o hb e) f0 f1 f3 f4 f5⟩
  self:=fun _ _ _ _ _ st h=>wpAny_pyIter_tupleiter st h
theorem turn_range {P:Program} {w:World} {K:PySem.W.Frag} {tg:Expr} (it:Addr) (lo:Int) (n:Nat):Turn P w K tg (Itr lo n) [it] it (fun i h=>IsRangeIter h it (lo+(i:Nat) * 1) ((n:Int) - (i:Nat)) 1) where
  mem:=by simp
  obj:=fun i h st b hb=>by
    have e:b=it:=by simpa using hb
    subst e
    exact ⟨_,st,fun v z=>by
      have z':Data.fields _=Data.cell v:=z
      cases z'⟩
  keep:=fun i h h' st k=>k it (by simp) _ st
  item:=by
    intro X hP hw hK hc i pins s σ H E I hf st hg
    subst hP hw hK
    obtain ⟨f0,f1,f2,f3,f4,f5⟩:=hf it (by simp)
    have W:=Walks.range (prog:=X.prog) (w:=X.w) (I.ok.hd hc) it lo 1 n
    refine W.item i s _ _ hg st fun v h' tk hv st' kk=>?_
    obtain ⟨t,rfl⟩:=hv
    have I1:Inv X pins σ H { s with heap:=h',toks:=tk }:=I.turned (fun b o hb e=>kk b o (by simpa using hb) e) f0 f1 f3 f4 f5
    refine ⟨_,rfl,go_of (s:={ s with heap:=h',toks:=tk }) (n:="range_iterator") st' rfl rfl (by decide) ⟨.int (lo+i),H,I1,⟨t,?_⟩,⟨rfl,rfl⟩,st',fun b hb=>(hf b hb).1⟩⟩
    rw [Int.mul_one]
  done:=by
    intro X hP hw hK hc i pins s σ H E I hf st hg
    subst hP hw hK
    obtain ⟨f0,f1,f2,f3,f4,f5⟩:=hf it (by simp)
    exact wpAny_pyNext_range_end (I.ok.hd hc) st (by have:n≤i:=hg; omega) fun h' eb=>⟨rfl,I.turned (t':=s.toks) (fun b o hb e=>eb b o hb e) f0 f1 f3 f4 f5⟩
  self:=fun _ _ _ _ _ st h=>wpAny_pyIter_rangeiter st h
end L2
namespace L2
open PySem PySem.Spec PyProof.Rows
section
variable {X:Cx} {tg:Expr}
theorem range_it {pins:List (Addr×Obj)} {σ:St} {H:Hp} {s:Shared} {R:It→Hp→Prop} {E:Value→Shared→Prop} {lo hi:Int} {t u v:Tok} {tk:Nat} (I:Inv X pins σ H s) (h1:-(2 ^ 62)≤lo) (h2:lo < 2 ^ 62) (h3:-(2 ^ 62)≤hi) (h4:hi < 2 ^ 62)
    (q:R (Itr lo (hi - lo).toNat) H):wpAny (model X.prog X.w) X.A (pyIter (.ref s.heap.objs.size)) (PIE X pins σ tg R) E { s with heap:=s.heap.push { cls:=.type "range",data:=.fields #[.int lo t,.int hi u,.int 1 v] },toks:=tk }:=by
  refine wpAny_pyIter_range (IsRange.new ..) (small_one h1 h2 h3 h4) ?_
  have I1:Inv X pins σ H { s with heap:=s.heap.push { cls:=.type "range",data:=.fields #[.int lo t,.int hi u,.int 1 v] },toks:=tk }:=I.kept fun b o e=>Heap.get?_push_of_some _ e
  refine ⟨(s.heap.push { cls:=.type "range",data:=.fields #[.int lo t,.int hi u,.int 1 v] }).objs.size,[(s.heap.push { cls:=.type "range",data:=.fields #[.int lo t,.int hi u,.int 1 v] }).objs.size],_,_,H,rfl,
    I1.kept (t':=tk) fun b o e=>Heap.get?_push_of_some _ e,turn_range _ lo (hi - lo).toNat,?_,fun b hb=>?_,q⟩
  · have e1:lo+((0:Nat):Int) * 1=lo:=by simp
    have e2:(((hi - lo).toNat:Nat):Int) - ((0:Nat):Int)=Builtin.Range.rangeSize lo hi 1:=by rw [rangeSize_one]; split <;> omega
    show IsRangeIter _ _ (lo+((0:Nat):Int) * 1) ((((hi - lo).toNat:Nat):Int) - ((0:Nat):Int)) 1
    rw [e1,e2]
    exact Heap.get?_push_size _ rfl
  · have e:b=(s.heap.push { cls:=.type "range",data:=.fields #[.int lo t,.int hi u,.int 1 v] }).objs.size:=by simpa using hb
    subst e
    exact I1.fpOk (Nat.le_refl _) (I1.hok.fresh (Nat.le_refl _))
noncomputable def iRng1 (ta:TA):TI:=fun σ H R=>ta σ H fun vs H1=>∃ j:Int,vs=[.int j]∧-(2 ^ 62)≤j∧j < 2 ^ 62∧R (Itr 0 j.toNat) H1
theorem pi_range1 {a:Expr} {ta:TA} {p pos:Pos} (hg:Gl X "range") (hm:X.mg "range"=none) (ha:PA X [a] ta) (hs:starEach [a] X.env=[(false,eval a X.env)]:=by rfl):PI X tg (.Call (.Name "range" p) [a] [] pos) (iRng1 ta):=by
  intro pins s σ H R I h
  refine Call_ (ld_blt I hg hm boot_range (PyProof.Rows.callWith_type1 (thn (ha pos pins s σ H _ I h) fun us s1 hz0=>?_) hs rfl))
  obtain ⟨vs,H1,I1,r1,q1⟩:=hz0
  obtain ⟨j,e,q1,q2,q⟩:=q1
  subst e
  cases r1 with
  | cons r rr =>
    cases rr
    obtain ⟨t,rfl⟩:=r
    exact call_range_1 (range_it I1 (by omega) (by omega) q1 q2 (by simpa using q))
noncomputable def tFor (wi:TI) (g:TG) (tb:TS):TS:=fun D σ H=>wi σ H fun J H1=>∃ W:Nat→Nat→St→Hp→Prop,(∃ m,W 0 m σ H1)∧∀ i m σ H,W i m σ H →
  (J.stop i H∧D.nx σ H)∨(J.go i H∧∃ N:St→Hp→Prop,(∀ σ' H',N σ' H'→∃ m',m' < m∧W (i+1) m' σ' H')∧∀ x H',J.yld i H x H'→g x σ H' fun σ2 H2=>tb { D with nx:=N,ct:=N,bk:=D.nx } σ2 H2)
noncomputable def pinsAt (fp:List Addr) (h:Heap):List (Addr×Obj):=fp.filterMap fun b=>(h.get? b).map fun o=>(b,o)
theorem mem_pinsAt {fp:List Addr} {h:Heap} {b:Addr} {o:Obj} (hb:b∈fp) (e:h.get? b=some o):(b,o)∈pinsAt fp h:=List.mem_filterMap.mpr ⟨b,hb,by rw [e]; rfl⟩
theorem of_pinsAt {fp:List Addr} {h:Heap} {p:Addr×Obj} (hp:p∈pinsAt fp h):p.1∈fp∧h.get? p.1=some p.2:=by
  obtain ⟨b,hb,e⟩:=List.mem_filterMap.mp hp
  cases q:h.get? b with
  | none=>rw [q] at e; cases e
  | some o =>
    rw [q] at e
    have e':(b,o)=p:=Option.some.inj e
    subst e'
    exact ⟨hb,q⟩
theorem Inv.pinned {pins:List (Addr×Obj)} {σ:St} {H:Hp} {s:Shared} {fp:List Addr} (I:Inv X pins σ H s) (hf:∀ b∈fp,FpOk X pins H b) (ho:∀ b∈fp,∃ o,s.heap.get? b=some o∧∀ v,o.data≠.cell v):Inv X (pins++pinsAt fp s.heap) σ H s :=
  I.pins_of fun p hp=>(List.mem_append.mp hp).elim (fun z=>I.pin p (List.mem_append_right _ z)) fun z=>by
    obtain ⟨hb,e⟩:=of_pinsAt z
    obtain ⟨f0,f1,f2,_⟩:=hf p.1 hb
    obtain ⟨o,e',d⟩:=ho p.1 hb
    rw [e] at e'; cases e'
    exact ⟨e,f0,f1,f2,d⟩
theorem Inv.unpinned {pins pl:List (Addr×Obj)} {σ:St} {H:Hp} {s:Shared} (I:Inv X (pins++pl) σ H s):Inv X pins σ H s:=I.pins_of fun p hp=>I.pin p (List.mem_append_right _ (List.mem_append_left _ hp))
theorem ps_for {iter:Expr} {body:List Stmt} {wi:TI} {g:TG} {tb:TS} {pos:Pos} (hp:PassesOwn (model X.prog X.w) X.A X.env X.xe) (hc:X.calm=true) (hi:PI X tg iter wi) (hg:PG X tg g) (hb:PSs X body tb)
    (hs:∀ x,foldedSetIterable iter X.env x=pure x:=by intro _; rfl):PS X (.For tg iter body [] pos) (tFor wi g tb):=by
  intro pins s σ H D I h
  refine wpAny_For (thn (hi pins s σ H _ I h) fun v s1 h1=>thn h1 fun itv s2 h2=>?_) hs
  obtain ⟨it,fp,tn,J,H2,e,I2,T,st2,f2,W,⟨m0,w0⟩,turn⟩:=h2
  subst e
  -- what stays true of the iterator's objects through the loop
  have stat:∀ {H':Hp},(∀ b∈fp,H' b=none)→∀ b∈fp,FpOk X pins H' b:=fun hn b hb=>⟨hn b hb,(f2 b hb).2⟩
  refine codeAny_forLoop_any (fun n s'=>∃ i σ' H',Inv X pins σ' H' s'∧tn i s'.heap∧(∀ b∈fp,H' b=none)∧W i n σ' H') ?_ m0 ⟨0,σ,H2,I2,st2,fun b hb=>(f2 b hb).1,w0⟩
  rintro n s3 ⟨i,σ3,H3,I3,st3,fr3,w3⟩
  rcases turn i n σ3 H3 w3 with ⟨stop,qn⟩ | ⟨go,N,hN,step⟩
  · refine wpAny_passesOwn hp (thn (T.done X rfl rfl rfl hc i pins s3 σ3 H3 X.xe I3 (stat fr3) st3 stop) fun r s4 hz0=>?_)
    obtain ⟨hr,I4⟩:=hz0
    subst hr
    exact wpAny_execs_nil ⟨σ3,H3,I4,qn⟩
  · refine wpAny_passesOwn hp (thn (T.item X rfl rfl rfl hc i pins s3 σ3 H3 X.xe I3 (stat fr3) st3 go) fun r s4 hz0=>?_)
    obtain ⟨u,hr,h4⟩:=hz0
    subst hr
    refine wpAny_passesOwn hp (thn h4 fun _ s5 hz0=>?_)
    obtain ⟨x,H5,I5,r5,y5,st5,fr5⟩:=hz0
    have I5':=I5.pinned (stat fr5) (T.obj _ _ st5)
    refine wpAny_passesOwn hp (thn (hg _ s5 σ3 H5 x u _ I5' r5 (step x H5 y5)) fun _ s6 hz0=>?_)
    obtain ⟨σ6,H6,I6,q6⟩:=hz0
    refine wpAny_passesOwn hp (thn (hb _ s6 σ6 H6 _ I6 q6) fun f s7 q7=>?_)
    have again:∀ {σ7:St} {H7:Hp},Inv X (pins++pinsAt fp s5.heap) σ7 H7 s7→N σ7 H7→∃ m,m < n∧∃ i σ' H',Inv X pins σ' H' s7∧tn i s7.heap∧(∀ b∈fp,H' b=none)∧W i m σ' H':=fun {σ7 H7} I7 n7=>by
      obtain ⟨m',hm,w7⟩:=hN σ7 H7 n7
      refine ⟨m',hm,i+1,σ7,H7,I7.unpinned,T.keep _ _ _ st5 fun b hb o e=>(I7.pin (b,o) (List.mem_append_right _ (List.mem_append_right _ (mem_pinsAt hb e)))).1,fun b hb=>?_,w7⟩
      obtain ⟨o,e,d⟩:=T.obj _ _ st5 b hb
      exact (I7.pin (b,o) (List.mem_append_right _ (List.mem_append_right _ (mem_pinsAt hb e)))).2.1
    cases f with
    | next=>obtain ⟨σ7,H7,I7,n7⟩:=q7; exact again I7 n7
    | cont=>obtain ⟨σ7,H7,I7,n7⟩:=q7; exact again I7 n7
    | brk=>obtain ⟨σ7,H7,I7,q7⟩:=q7; exact ⟨σ7,H7,I7.unpinned,q7⟩
    | ret v=>obtain ⟨x7,σ7,H7,I7,r7,q7⟩:=q7; exact ⟨x7,σ7,H7,I7.unpinned,r7,q7⟩
end
end L2
namespace L2
open PySem PySem.Spec PyProof.Rows
noncomputable abbrev R2:=V→V→Hp→VK→Prop
noncomputable def OpR (X:Cx) (f:Value→Value→Sem Value) (r:R2):Prop :=
  ∀ (pins:List (Addr×Obj)) (s:Shared) (σ:St) (H:Hp) (x y:V) (v u:Value) (Q:VK),Inv X pins σ H s→RelV x v→RelV y u→r x y H Q →
    wpAny (model X.prog X.w) X.A (f v u) (EP X pins σ Q) X.xe s
noncomputable def UnR (X:Cx) (f:Value→Sem Value) (r:V→Hp→VK→Prop):Prop :=
  ∀ (pins:List (Addr×Obj)) (s:Shared) (σ:St) (H:Hp) (x:V) (v:Value) (Q:VK),Inv X pins σ H s→RelV x v→r x H Q →
    wpAny (model X.prog X.w) X.A (f v) (EP X pins σ Q) X.xe s
noncomputable def CallR (X:Cx) (f:Value) (r:List V→Hp→VK→Prop):Prop :=
  ∀ (pins:List (Addr×Obj)) (s:Shared) (σ:St) (H:Hp) (xs:List V) (us:List Value) (Q:VK),Inv X pins σ H s→Vals xs us→r xs H Q →
    wpAny (model X.prog X.w) X.A (call f us) (EP X pins σ Q) X.xe s
noncomputable def TruR (X:Cx) (r:V→Hp→(Bool→Hp→Prop)→Prop):Prop :=
  ∀ (pins:List (Addr×Obj)) (s:Shared) (σ:St) (H:Hp) (x:V) (v:Value) (Q:Bool→Hp→Prop),Inv X pins σ H s→RelV x v→r x H Q →
    wpAny (model X.prog X.w) X.A (truthy v) (TP X pins σ Q) X.xe s

noncomputable def tOp (r:R2) (ta tb:TE):TE:=fun σ H Q=>ta σ H fun x H1=>tb σ H1 fun y H2=>r x y H2 Q
noncomputable def tUn (r:V→Hp→VK→Prop) (ta:TE):TE:=fun σ H Q=>ta σ H fun x H1=>r x H1 Q
noncomputable def rI (C:Int→Int→Prop) (g:Int→Int→V):R2:=fun x y H Q=>∃ i j,x=.int i∧y=.int j∧C i j∧Q (g i j) H
noncomputable def rI0 (g:Int→Int→V):R2:=fun x y H Q=>∃ i j,x=.int i∧y=.int j∧Q (g i j) H
noncomputable def rU (g:Int→V):V→Hp→VK→Prop:=fun x H Q=>∃ i,x=.int i∧Q (g i) H

section
variable {X:Cx} {a b c:Expr} {ta tb tc:TE} {pos:Pos}
theorem binT (ha:PE X a ta) (hb:PE X b tb) {pins:List (Addr×Obj)} {s:Shared} {σ:St} {H:Hp} {R:V→V→Hp→Prop} (I:Inv X pins σ H s)
    (h:ta σ H fun x H1=>tb σ H1 fun y H2=>R x y H2) {Q:Value→Shared→Prop} {f:Value→Value→Sem Value}
    (hf:∀ v u s2 x y H2,Inv X pins σ H2 s2→RelV x v→RelV y u→R x y H2→wpAny (model X.prog X.w) X.A (f v u) Q X.xe s2) :
    wpAny (model X.prog X.w) X.A (eval a X.env) (fun v s₁=>wpAny (model X.prog X.w) X.A (eval b X.env) (fun u s₂=>wpAny (model X.prog X.w) X.A (f v u) Q X.xe s₂) X.xe s₁) X.xe s:=by
  refine thn (ha pins s σ H _ I h) fun v s1 hz0=>?_
  obtain ⟨x,H1,I1,r1,q1⟩:=hz0
  refine thn (hb pins s1 σ H1 _ I1 q1) fun u s2 hz0=>?_
  obtain ⟨y,H2,I2,r2,q2⟩:=hz0
  exact hf v u s2 x y H2 I2 r1 r2 q2

theorem pe_op {op:Operator} {r:R2} (ho:OpR X (binaryOp op) r) (ha:PE X a ta) (hb:PE X b tb):PE X (.BinOp a op b pos) (tOp r ta tb):=by
  intro pins s σ H Q I h
  exact wpAny_BinOp (binT ha hb I h fun v u s2 x y H2 I2 rx ry q=>ho pins s2 σ H2 x y v u Q I2 rx ry q)
theorem pe_un {op:UnaryOp} {r:V→Hp→VK→Prop} (ho:UnR X (unaryOp op) r) (ha:PE X a ta):PE X (.UnaryOp op a pos) (tUn r ta):=by
  intro pins s σ H Q I h
  exact UnaryOp_ (thn (ha pins s σ H _ I h) fun v s1 ⟨x,H1,I1,r1,q1⟩=>ho pins s1 σ H1 x v Q I1 r1 q1)
theorem opI {f:Value→Value→Sem Value} {C:Int→Int→Prop} {g:Int→Int→Int}
    (rule:∀ (i j:Int) (t u:Tok) (s:Shared) (Q:Value→Shared→Prop) (E:Value→Shared→Prop),C i j→Q (.int (g i j) s.toks) { s with toks:=s.toks+1 }→wpAny (model X.prog X.w) X.A (f (.int i t) (.int j u)) Q E s) :
    OpR X f (rI C fun i j=>.int (g i j)):=by
  intro pins s σ H x y v u Q I rx ry h
  obtain ⟨i,j,rfl,rfl,hc,q⟩:=h
  obtain ⟨t,rfl⟩:=rx
  obtain ⟨t',rfl⟩:=ry
  exact rule i j t t' s _ _ hc ⟨.int (g i j),H,I.tok _,⟨_,rfl⟩,q⟩
theorem opI0 {f:Value→Value→Sem Value} {g:Int→Int→Int}
    (rule:∀ (i j:Int) (t u:Tok) (s:Shared) (Q:Value→Shared→Prop) (E:Value→Shared→Prop),Q (.int (g i j) s.toks) { s with toks:=s.toks+1 }→wpAny (model X.prog X.w) X.A (f (.int i t) (.int j u)) Q E s) :
    OpR X f (rI0 fun i j=>.int (g i j)):=by
  intro pins s σ H x y v u Q I rx ry h
  obtain ⟨i,j,rfl,rfl,q⟩:=h
  obtain ⟨t,rfl⟩:=rx
  obtain ⟨t',rfl⟩:=ry
  exact rule i j t t' s _ _ ⟨.int (g i j),H,I.tok _,⟨_,rfl⟩,q⟩
theorem opB0 {f:Value→Value→Sem Value} {g:Int→Int→Bool}
    (rule:∀ (i j:Int) (t u:Tok) (s:Shared) (Q:Value→Shared→Prop) (E:Value→Shared→Prop),Q (.bool (g i j)) s→wpAny (model X.prog X.w) X.A (f (.int i t) (.int j u)) Q E s) :
    OpR X f (rI0 fun i j=>.bl (g i j)):=by
  intro pins s σ H x y v u Q I rx ry h
  obtain ⟨i,j,rfl,rfl,q⟩:=h
  obtain ⟨t,rfl⟩:=rx
  obtain ⟨t',rfl⟩:=ry
  exact rule i j t t' s _ _ ⟨.bl (g i j),H,I,rfl,q⟩

noncomputable def CDiv (i j:Int):Prop:=0 < j∧j < 1073741824
noncomputable def CPow (i j:Int):Prop:=0≤j∧j≤1000000∧i.natAbs < 2 ^ 64
noncomputable def CMul (i j:Int):Prop:=(-(2 ^ 64) < i∧i < 2 ^ 64)∨(-(2 ^ 64) < j∧j < 2 ^ 64)
theorem CMul.ok {i j:Int} (h:CMul i j):IntMulOk i j:=by
  rcases h with ⟨h1,h2⟩ | ⟨h1,h2⟩
  · exact .of_left (intBits_le_64 h1 h2)
  · exact .of_right (intBits_le_64 h1 h2)
theorem op_add:OpR X (binaryOp .Add) (rI0 fun i j=>.int (i+j)):=opI0 fun _ _ _ _ _ _ _ q=>add_int q
theorem op_sub:OpR X (binaryOp .Sub) (rI0 fun i j=>.int (i - j)):=opI0 fun _ _ _ _ _ _ _ q=>sub_int q
theorem op_mul:OpR X (binaryOp .Mult) (rI CMul fun i j=>.int (i * j)):=opI fun _ _ _ _ _ _ _ hc q=>mul_int q hc.ok
theorem op_fdiv:OpR X (binaryOp .FloorDiv) (rI CDiv fun i j=>.int (i / j)):=opI fun i j _ _ _ _ _ hc q=>by
  have h1:(0:Int) < j:=hc.1
  have h2:j < 1073741824:=hc.2
  exact floordiv_int (by omega) (by rw [Int.fdiv_eq_ediv_of_nonneg i (by omega)]; exact q) (.inl (PyProof.noPylong_small (by omega)))
theorem op_mod:OpR X (binaryOp .Mod) (rI (fun _ j=>0 < j) fun i j=>.int (i % j)):=opI fun i j _ _ _ _ _ hc q=>by
  have h1:(0:Int) < j:=hc
  exact mod_int' (by omega) (by rw [Int.fmod_eq_emod_of_nonneg i (by omega)]; exact q)
theorem op_pow:OpR X (binaryOp .Pow) (rI CPow fun i j=>.int (i ^ j.toNat)):=opI fun _ _ _ _ _ _ _ hc q=>pow_int_small hc.1 hc.2.1 hc.2.2 q
theorem iop_add:OpR X (inplaceOp .Add) (rI0 fun i j=>.int (i+j)):=opI0 fun _ _ _ _ _ _ _ q=>iadd_int q
theorem iop_sub:OpR X (inplaceOp .Sub) (rI0 fun i j=>.int (i - j)):=opI0 fun _ _ _ _ _ _ _ q=>isub_int q
theorem unI {f:Value→Sem Value} {g:Int→Int}
    (rule:∀ (i:Int) (t:Tok) (s:Shared) (Q:Value→Shared→Prop) (E:Value→Shared→Prop),Q (.int (g i) s.toks) { s with toks:=s.toks+1 }→wpAny (model X.prog X.w) X.A (f (.int i t)) Q E s) :
    UnR X f (rU fun i=>.int (g i)):=by
  intro pins s σ H x v Q I rx h
  obtain ⟨i,rfl,q⟩:=h
  obtain ⟨t,rfl⟩:=rx
  exact rule i t s _ _ ⟨.int (g i),H,I.tok _,⟨_,rfl⟩,q⟩
theorem un_neg:UnR X (unaryOp .USub) (rU fun i=>.int (-i)):=unI fun _ _ _ _ _ q=>neg_int q
end
noncomputable def scal:V→V→Bool
  | .non,.non=>true | .non,.int _=>true | .int _,.non=>true | .non,.bl _=>true | .bl _,.non=>true | .non,.str _=>true | .str _,.non=>true
  | .int _,.int _=>true | .bl _,.bl _=>true | .str _,.str _=>true | .byt _,.byt _=>true
  | .int _,.str _=>true | .str _,.int _=>true | .bl _,.str _=>true | .str _,.bl _=>true
  | _,_=>false
noncomputable def rEq:R2:=fun x y H Q=>scal x y=true∧Q (.bl (decide (x=y))) H
noncomputable def rNe:R2:=fun x y H Q=>scal x y=true∧Q (.bl (!decide (x=y))) H

theorem dec_int {i j:Int}:decide (V.int i=V.int j)=(i == j):=by
  rw [Bool.eq_iff_iff]
  simp
theorem dec_bl {i j:Bool}:decide (V.bl i=V.bl j)=(i == j):=by
  rw [Bool.eq_iff_iff]
  simp
theorem dec_str {i j:Str}:decide (V.str i=V.str j)=(i == j):=by
  rw [Bool.eq_iff_iff]
  simp
theorem dec_byt {i j:Array UInt8}:decide (V.byt i=V.byt j)=(i.toList == j.toList):=by
  rw [Bool.eq_iff_iff]
  cases i
  cases j
  simp

section
variable {X:Cx} {a b c:Expr} {ta tb tc:TE} {pos:Pos}
theorem fin_bl {pins:List (Addr×Obj)} {σ:St} {H:Hp} {s:Shared} {Q:VK} {k k':Bool} (I:Inv X pins σ H s) (q:Q (.bl k) H) (e:k=k'):EP X pins σ Q (.bool k') s:=by
  subst e
  exact ⟨.bl k,H,I,rfl,q⟩
theorem op_eq:OpR X (compareOp .Eq) rEq:=by
  intro pins s σ H x y v u Q I rx ry h
  obtain ⟨hs,q⟩:=h
  cases x with
  | non =>
    cases rx
    cases y with
    | non=>cases ry; exact PySem.EqNone.eq_none_none (fin_bl I q (by simp))
    | bl j=>cases ry; exact PySem.EqNone.eq_none_bool (fin_bl I q (by simp))
    | int j=>obtain ⟨t',rfl⟩:=ry; exact PySem.EqNone.eq_none_int (fin_bl I q (by simp))
    | str j=>obtain ⟨t',rfl⟩:=ry; exact PySem.EqNone.eq_none_str (fin_bl I q (by simp))
    | _=>exact absurd (show false=true from hs) Bool.false_ne_true
  | bl i =>
    cases rx
    cases y with
    | non=>cases ry; exact PySem.EqNone.eq_bool_none (fin_bl I q (by simp))
    | bl j=>cases ry; exact eq_bool (fin_bl I q dec_bl)
    | str j=>obtain ⟨t',rfl⟩:=ry; exact PySem.EqMixed.eq_bool_str (fin_bl I q (by simp))
    | _=>exact absurd (show false=true from hs) Bool.false_ne_true
  | int i =>
    obtain ⟨t,rfl⟩:=rx
    cases y with
    | non=>cases ry; exact PySem.EqNone.eq_int_none (fin_bl I q (by simp))
    | int j=>obtain ⟨t',rfl⟩:=ry; exact eq_int (fin_bl I q dec_int)
    | str j=>obtain ⟨t',rfl⟩:=ry; exact PySem.EqMixed.eq_int_str (fin_bl I q (by simp))
    | _=>exact absurd (show false=true from hs) Bool.false_ne_true
  | str i =>
    obtain ⟨t,rfl⟩:=rx
    cases y with
    | non=>cases ry; exact PySem.EqNone.eq_str_none (fin_bl I q (by simp))
    | bl j=>cases ry; exact PySem.EqMixed.eq_str_bool (fin_bl I q (by simp))
    | int j=>obtain ⟨t',rfl⟩:=ry; exact PySem.EqMixed.eq_str_int (fin_bl I q (by simp))
    | str j=>obtain ⟨t',rfl⟩:=ry; exact eq_str (fin_bl I q dec_str)
    | _=>exact absurd (show false=true from hs) Bool.false_ne_true
  | byt i =>
    obtain ⟨t,rfl⟩:=rx
    cases y with
    | byt j=>obtain ⟨t',rfl⟩:=ry; exact PySem.W.eq_bytes (fin_bl I q dec_byt)
    | _=>exact absurd (show false=true from hs) Bool.false_ne_true
  | _=>cases y <;> exact absurd (show false=true from hs) Bool.false_ne_true
theorem op_ne:OpR X (compareOp .NotEq) rNe:=by
  intro pins s σ H x y v u Q I rx ry h
  obtain ⟨hs,q⟩:=h
  cases x with
  | non =>
    cases rx
    cases y with
    | non=>cases ry; exact PySem.EqNone.ne_none_none (fin_bl I q (by simp))
    | bl j=>cases ry; exact PySem.EqNone.ne_none_bool (fin_bl I q (by simp))
    | int j=>obtain ⟨t',rfl⟩:=ry; exact PySem.EqNone.ne_none_int (fin_bl I q (by simp))
    | str j=>obtain ⟨t',rfl⟩:=ry; exact PySem.EqNone.ne_none_str (fin_bl I q (by simp))
    | _=>exact absurd (show false=true from hs) Bool.false_ne_true
  | bl i =>
    cases rx
    cases y with
    | non=>cases ry; exact PySem.EqNone.ne_bool_none (fin_bl I q (by simp))
    | bl j=>cases ry; exact ne_bool (fin_bl I q (congrArg not dec_bl))
    | str j=>obtain ⟨t',rfl⟩:=ry; exact PySem.EqMixed.ne_bool_str (fin_bl I q (by simp))
    | _=>exact absurd (show false=true from hs) Bool.false_ne_true
  | int i =>
    obtain ⟨t,rfl⟩:=rx
    cases y with
    | non=>cases ry; exact PySem.EqNone.ne_int_none (fin_bl I q (by simp))
    | int j=>obtain ⟨t',rfl⟩:=ry; exact ne_int (fin_bl I q (congrArg not dec_int))
    | str j=>obtain ⟨t',rfl⟩:=ry; exact PySem.EqMixed.ne_int_str (fin_bl I q (by simp))
    | _=>exact absurd (show false=true from hs) Bool.false_ne_true
  | str i =>
    obtain ⟨t,rfl⟩:=rx
    cases y with
    | non=>cases ry; exact PySem.EqNone.ne_str_none (fin_bl I q (by simp))
    | bl j=>cases ry; exact PySem.EqMixed.ne_str_bool (fin_bl I q (by simp))
    | int j=>obtain ⟨t',rfl⟩:=ry; exact PySem.EqMixed.ne_str_int (fin_bl I q (by simp))
    | str j=>obtain ⟨t',rfl⟩:=ry; exact ne_str (fin_bl I q (congrArg not dec_str))
    | _=>exact absurd (show false=true from hs) Bool.false_ne_true
  | byt i =>
    obtain ⟨t,rfl⟩:=rx
    cases y with
    | byt j=>obtain ⟨t',rfl⟩:=ry; exact PySem.W.ne_bytes (fin_bl I q (congrArg not dec_byt))
    | _=>exact absurd (show false=true from hs) Bool.false_ne_true
  | _=>cases y <;> exact absurd (show false=true from hs) Bool.false_ne_true

theorem op_lt:OpR X (compareOp .Lt) (rI0 fun i j=>.bl (decide (i < j))):=opB0 fun _ _ _ _ _ _ _ q=>lt_int q
theorem op_le:OpR X (compareOp .LtE) (rI0 fun i j=>.bl (decide (i≤j))):=opB0 fun _ _ _ _ _ _ _ q=>le_int q
theorem op_gt:OpR X (compareOp .Gt) (rI0 fun i j=>.bl (decide (j < i))):=opB0 fun _ _ _ _ _ _ _ q=>gt_int q
theorem op_ge:OpR X (compareOp .GtE) (rI0 fun i j=>.bl (decide (j≤i))):=opB0 fun _ _ _ _ _ _ _ q=>ge_int q
theorem OpR.or {f:Value→Value→Sem Value} {r r':R2} (h:OpR X f r) (h':OpR X f r'):OpR X f (fun x y H Q=>r x y H Q∨r' x y H Q):=by
  intro pins s σ H x y v u Q I rx ry q
  rcases q with q | q
  · exact h pins s σ H x y v u Q I rx ry q
  · exact h' pins s σ H x y v u Q I rx ry q

theorem nomark (b:Expr) {op:CmpOp} (h:op≠.In:=by decide) (h2:op≠.NotIn:=by decide):behindInMarks op b=false:=by
  have e1:(op == CmpOp.In)=false:=by cases op <;> first | rfl | exact absurd rfl h
  have e2:(op == CmpOp.NotIn)=false:=by cases op <;> first | rfl | exact absurd rfl h2
  cases b <;> first | rfl | (show (_ && (op == CmpOp.In || op == CmpOp.NotIn) && _)=false; rw [e1,e2,Bool.or_false,Bool.and_false,Bool.false_and])
theorem pe_cmpR {op:CmpOp} {r:R2} (ho:OpR X (compareOp op) r) (ha:PE X a ta) (hb:PE X b tb) (hm:behindInMarks op b=false):PE X (.Compare a [op] [b] pos) (tOp r ta tb):=by
  intro pins s σ H Q I h
  exact wpAny_Compare1 (binT ha hb I h fun v u s2 x y H2 I2 rx ry q=>ho pins s2 σ H2 x y v u Q I2 rx ry q) hm
noncomputable def tTest (t:TE):TT:=fun σ H Q=>t σ H fun x H'=>∃ k,x=.bl k∧Q k H'
theorem pt_cmpR {op:CmpOp} {r:R2} (ho:OpR X (compareOp op) r) (ha:PE X a ta) (hb:PE X b tb) (hm:behindInMarks op b=false):PT X (.Compare a [op] [b] pos) (tTest (tOp r ta tb)):=by
  intro pins s σ H Q I h
  refine wpAny_isTrue_Compare1 (thn (ha pins s σ H _ I h) fun v s1 ⟨x,H1,I1,r1,q1⟩=>thn (hb pins s1 σ H1 _ I1 q1) fun u s2 ⟨y,H2,I2,r2,q2⟩ =>
    thn (ho pins s2 σ H2 x y v u _ I2 r1 r2 q2) fun c s3 ⟨z,H3,I3,r3,k,e,q3⟩=>?_) hm
  subst e
  cases r3
  exact wpAny_truthy_bool ⟨H3,I3,q3⟩
noncomputable def TruV (K:PySem.W.Frag) (x:V) (H:Hp) (k:Bool):Prop :=
  match x with
  | .non=>k=false
  | .bl b=>k=b
  | .int i=>k=(i != 0)
  | .str y=>y.length≤sizeLine∧k=((y.length:Int) != 0)
  | .byt y=>y.size≤sizeLine∧k=((y.size:Int) != 0)
  | .ref p=>(∃ xs,SqL K H p xs∧k=!xs.isEmpty)∨(∃ xs,SqT K H p xs∧k=!xs.isEmpty)∨∃ kvs,H p=some (.dK kvs)∧k=!kvs.isEmpty
  | _=>False
theorem isEmpty_kv {κ:Type} {kvs:List (κ×V)} {vs:List (κ×Value)} (r:KV kvs vs):(!vs.isEmpty)=!kvs.isEmpty:=by
  cases r <;> rfl
theorem isEmpty_of {xs:List V} {its:List Value} (r:Vals xs its):(!its.toArray.isEmpty)=!xs.isEmpty:=by
  cases r <;> simp
theorem line63:(sizeLine:Nat) < 2 ^ 63:=by rw [sizeLine_eq]; decide
theorem tru_ok:TruR X (fun x H Q=>∃ k,TruV X.K x H k∧Q k H):=by
  intro pins s σ H x v Q I rx h
  obtain ⟨k,e,q⟩:=h
  have hl:=line63
  have hs:sizeLine=16777216:=sizeLine_eq
  cases x with
  | non =>
    cases rx
    have e':k=false:=e
    subst e'
    exact truthy_none ⟨H,I,q⟩
  | bl b =>
    cases rx
    have e':k=b:=e
    subst e'
    exact wpAny_truthy_bool ⟨H,I,q⟩
  | int i =>
    obtain ⟨t,rfl⟩:=rx
    have e':k=(i != 0):=e
    subst e'
    exact PySem.P.truthy_int ⟨H,I,q⟩
  | str y =>
    obtain ⟨t,rfl⟩:=rx
    obtain ⟨hy,e'⟩:y.length≤sizeLine∧k=((y.length:Int) != 0):=e
    subst e'
    exact PySem.P.truthy_str (by omega) ⟨H,I.tok _,q⟩
  | byt y =>
    obtain ⟨t,rfl⟩:=rx
    obtain ⟨hy,e'⟩:y.size≤sizeLine∧k=((y.size:Int) != 0):=e
    subst e'
    exact PySem.W.truthy_bytes (by omega) ⟨H,I.tok _,q⟩
  | ref p =>
    cases rx
    have e':(∃ xs,SqL X.K H p xs∧k=!xs.isEmpty)∨(∃ xs,SqT X.K H p xs∧k=!xs.isEmpty)∨∃ kvs,H p=some (.dK kvs)∧k=!kvs.isEmpty:=e
    rcases e' with ⟨xs,hx,e'⟩ | ⟨xs,hx,e'⟩ | ⟨kvs,hx,e'⟩
    · subst e'
      obtain ⟨its,r,pl,hz⟩:=I.list hx
      have hlen:=r.length
      exact wpAny_truthy_list pl.isList (by simp only [List.size_toArray]; omega) ⟨H,I.tok _,by rw [isEmpty_of r]; exact q⟩
    · subst e'
      obtain ⟨its,r,pl,hz⟩:=I.tuple hx
      have hlen:=r.length
      exact truthy_tuple pl (by simp only [List.size_toArray]; omega) ⟨H,I.tok _,by rw [isEmpty_of r]; exact q⟩
    · subst e'
      obtain ⟨hz,hS,vs,r,m⟩:kvs.length≤sizeLine∧(p == sysModules)=false∧∃ vs,KV kvs vs∧s.heap.DictOf (mixKind X.prog X.w) p vs:=I.hok p _ hx
      have hlen:kvs.length=vs.length:=Paired.length r
      exact wpAny_truthy_dict hS m (by omega) ⟨H,I.tok _,by rw [isEmpty_kv r]; exact q⟩
  | _=>exact (show False from e).elim
theorem pt_truth (ha:PE X a ta) (he:∀ whole,isTrue a X.env whole=(do let v ← whole; standAt a.pos; holding [v] (truthy v))) :
    PT X a (fun σ H Q=>ta σ H fun x H'=>∃ k,TruV X.K x H' k∧Q k H'):=by
  intro pins s σ H Q I h
  exact isTrue_plain (thn (ha pins s σ H _ I h) fun v s1 ⟨x,H1,I1,r1,q1⟩=>tru_ok pins s1 σ H1 x v Q I1 r1 q1) (he _)

theorem vals1 {x:V} {us:List Value} (r:Vals [x] us):∃ u,us=[u]∧RelV x u:=by
  cases r with
  | cons r1 r2=>cases r2; exact ⟨_,rfl,r1⟩
theorem vals2 {x y:V} {us:List Value} (r:Vals [x,y] us):∃ u w',us=[u,w']∧RelV x u∧RelV y w':=by
  cases r with
  | cons r1 r2 =>
    cases r2 with
    | cons r3 r4=>cases r4; exact ⟨_,_,rfl,r1,r3⟩
theorem call_abs:CallR X (.builtin "abs") (fun xs H Q=>∃ i,xs=[.int i]∧Q (.int (if i < 0 then -i else i)) H):=by
  intro pins s σ H xs us Q I r h
  obtain ⟨i,rfl,q⟩:=h
  obtain ⟨u,rfl,t,rfl⟩:=vals1 r
  exact call_abs_int fun u tk=>⟨.int (if i < 0 then -i else i),H,I.tok _,⟨_,rfl⟩,q⟩
theorem call_max2 (hc:X.calm=true):CallR X (.builtin "max") (fun xs H Q=>∃ i j,xs=[.int i,.int j]∧Q (.int (if j > i then j else i)) H):=by
  intro pins s σ H xs us Q I r h
  obtain ⟨i,j,rfl,q⟩:=h
  obtain ⟨u,w',rfl,⟨t,rfl⟩,⟨t',rfl⟩⟩:=vals2 r
  refine max_two_ints (I.ok.hd hc) fun h' tk k=>⟨_,H,I.kept k,?_,q⟩
  by_cases hj:j > i
  · rw [if_pos hj,if_pos hj]; exact ⟨_,rfl⟩
  · rw [if_neg hj,if_neg hj]; exact ⟨_,rfl⟩
theorem call_min2 (hc:X.calm=true):CallR X (.builtin "min") (fun xs H Q=>∃ i j,xs=[.int i,.int j]∧Q (.int (if j < i then j else i)) H):=by
  intro pins s σ H xs us Q I r h
  obtain ⟨i,j,rfl,q⟩:=h
  obtain ⟨u,w',rfl,⟨t,rfl⟩,⟨t',rfl⟩⟩:=vals2 r
  refine min_two_ints (I.ok.hd hc) fun h' tk k=>⟨_,H,I.kept k,?_,q⟩
  by_cases hj:j < i
  · rw [if_pos hj,if_pos hj]; exact ⟨_,rfl⟩
  · rw [if_neg hj,if_neg hj]; exact ⟨_,rfl⟩
end
end L2
namespace L2
open PySem PySem.Spec PyProof.Rows
section
variable {prog:Program} {w:World} {A:Around} {E:Value→Shared→Prop} {s:Shared} {K:PySem.W.Frag} {x dx C f:Addr} {mA:Str→Option Value} {name:Str} {v:Value}
end
theorem RelO.some_of {v:V} {o:Option Value} (r:RelO (some v) o):∃ u,o=some u∧RelV v u:=by
  cases o with
  | none=>exact (show False from r).elim
  | some u=>exact ⟨u,rfl,r⟩
section
variable {P:Program} {w:World} {H H':Hp} {h h':Heap} {a C dx:Addr} {fs fs':List (Str×V)}
end
section
variable {X:Cx} {pins:List (Addr×Obj)} {σ:St} {H:Hp} {s:Shared} {a C dx:Addr} {fs:List (Str×V)} {f:Str} {v:V} {A:Around} {E:Value→Shared→Prop}
end
section
variable {X:Cx} {o e value:Expr} {f:Str} {pos pos' tpos:Pos} {ta tv:TE}
end
section
variable {X:Cx} {pins:List (Addr×Obj)} {σ:St} {H:Hp} {s:Shared} {A:Around} {E:Value→Shared→Prop} {Q:Value→Shared→Prop} {c:Value} {b:Bool}
end
end L2
namespace L2
open PySem PySem.Spec PyProof.Rows
structure Room (k:Nat) (A:Around):Prop where
  hd:A.handled=none
  dp:A.depth+3 * k+5 < recursionLimit
  un:A.units+16 * k+200 < cLine
  gd:A.guards=some []
theorem Room.mono {j k:Nat} {A:Around} (r:Room k A) (h:j≤k):Room j A:=⟨r.hd,by have:=r.dp; omega,by have:=r.un; omega,r.gd⟩
theorem Room.deeper {k:Nat} {A:Around} (r:Room (k+1) A) (env:Env):Room k (A.deeper env) :=
  ⟨r.hd,by have:=r.dp; show A.depth+1+3 * k+5 < _; omega,by have:=r.un; show A.units+3+16 * k+200 < _; omega,r.gd⟩
theorem Room.depth {k:Nat} {A:Around} (r:Room k A):A.depth < recursionLimit:=by have:=r.dp; omega
theorem Room.units {k:Nat} {A:Around} (r:Room k A):A.units+64 < cLine:=by have:=r.un; omega
noncomputable def tNil:TA:=fun _ H Q=>Q [] H
noncomputable def tCons (ta:TE) (tr:TA):TA:=fun σ H Q=>ta σ H fun x H1=>tr σ H1 fun xs H2=>Q (x::xs) H2
section
variable {X:Cx} {e:Expr} {es:List Expr} {te:TE} {t:TA} {pos:Pos}
theorem pa_nil:PA X [] tNil:=fun _ _ _ _ H Q I h=>Calls.spliced_nil ⟨[],H,I,.nil,h⟩
theorem pa_cons (ha:PE X e te) (hr:PA X es t) (hs:starEach (e::es) X.env=(false,eval e X.env)::starEach es X.env:=by rfl):PA X (e::es) (tCons te t):=by
  intro pos pins s σ H Q I h
  rw [hs]
  show wpAny _ _ (spliced ((false,eval e X.env)::backTo pos (starEach es X.env))) _ _ s
  refine Calls.spliced_cons (thn (ha pins s σ H _ I h) fun u s1 hz0=>?_)
  obtain ⟨x,H1,I1,r1,q1⟩:=hz0
  exact thn (hr pos pins s1 σ H1 _ I1 q1) fun us s2 hz0=>by
    obtain ⟨xs,H2,I2,r2,q2⟩:=hz0
    exact ⟨x::xs,H2,I2,.cons r1 r2,q2⟩

noncomputable def tTup (t:TA):TE:=fun σ H Q=>t σ H fun xs H1=>xs.length≤sizeLine∧∀ p,H1 p=none→Q (.ref p) (upd H1 p (.tup xs))
noncomputable def tLst (t:TA):TE:=fun σ H Q=>t σ H fun xs H1=>xs.length≤sizeLine∧∀ p,H1 p=none→Q (.ref p) (upd H1 p (.lst xs))
theorem pe_tup {x1} (h:PA X es t):PE X (.Tuple es x1 pos) (tTup t):=by
  intro pins s σ H Q I hq
  refine wpAny_Tuple_spliced (thn (h pos pins s σ H _ I hq) fun us s1 ⟨xs,H1,I1,r,z,q⟩=>⟨by rw [← r.length]; exact z,?_⟩)
  have hf:H1 s1.heap.objs.size=none:=I1.hok.fresh (Nat.le_refl _)
  refine ⟨.ref s1.heap.objs.size,upd H1 s1.heap.objs.size (.tup xs),I1.laid (t':=s1.toks) (fun b u e=>Heap.get?_push_of_some _ e) (Nat.le_refl _) ?_,rfl,q _ hf⟩
  exact ⟨z,us,r,⟨_,Heap.get?_push_size _ rfl,rfl,_,rfl⟩⟩
theorem pe_lst (h:PA X es t):PE X (.List es pos) (tLst t):=by
  intro pins s σ H Q I hq
  refine wpAny_List_spliced (thn (h pos pins s σ H _ I hq) fun us s1 ⟨xs,H1,I1,r,z,q⟩=>⟨by rw [← r.length]; exact z,?_⟩)
  have hf:H1 s1.heap.objs.size=none:=I1.hok.fresh (Nat.le_refl _)
  refine ⟨.ref s1.heap.objs.size,upd H1 s1.heap.objs.size (.lst xs),I1.laid (t':=s1.toks) (fun b u e=>Heap.get?_push_of_some _ e) (Nat.le_refl _) ?_,rfl,q _ hf⟩
  exact ⟨z,us,0,r,Heap.get?_push_size _ rfl⟩
end
noncomputable abbrev Sp:=List V→Hp→VK→XK→Prop
noncomputable abbrev CXT:=List Env→Hp→Shared→XK→Value→Shared→Prop

structure Env0 (P:Program) (w:World) (K:PySem.W.Frag) (mg:Str→Option Value) (base:Heap) (A:Around) (outer:List Env) (s:Shared) (H:Hp):Prop where
  frames:A.frames=some outer
  mod:Mod K mg base
  bs:∀ b o,base.get? b=some o→s.heap.get? b=some o∧H b=none
  bsz:base.objs.size≤s.heap.objs.size
  funs:s.heap.FunFrames base outer
  frf:∀ b∈frs outer,H b=none
  hok:HOk P w H s.heap
  bare:AllBare s.gens
noncomputable def CE (outer:List Env) (P:Program) (w:World) (H:Hp) (s:Shared) (Q:VK) (u:Value) (s':Shared):Prop :=
  ∃ v H',s'.os=s.os∧AllBare s'.gens∧Un (frs outer) [] H H' s.heap s'.heap∧HOk P w H' s'.heap∧RelV v u∧Q v H'
noncomputable def CR (CX:CXT) (outer:List Env) (P:Program) (w:World) (H:Hp) (s:Shared) (Q:VK) (E:XK) (r:Result) (s':Shared):Prop :=
  match r with
  | .ok (.ret u)=>CE outer P w H s Q u s'
  | .ok _=>False
  | .error e=>CX outer H s E e s'
structure FnOk (P:Program) (w:World) (K:PySem.W.Frag) (mg:Str→Option Value) (base:Heap) (CX:CXT) (k:Nat) (f:Addr) (fd:FuncData) (ps:List Str) (sp:Sp):Prop where
  len:∀ vs H Q E,sp vs H Q E→vs.length=ps.length
  run:∀ (A:Around) (outer:List Env) (s:Shared) (H:Hp) (args:Args) (us:List Value) (vs:List V) (Q:VK) (E:XK),Room k A→Env0 P w K mg base A outer s H→BindsTo s fd args (ps.zip us)→Vals vs us→sp vs H Q E →
    codeAny (model P w) A (.call (.ref f) args) (CR CX outer P w H s Q E) s
theorem FnOk.imp {P:Program} {w:World} {K:PySem.W.Frag} {mg:Str→Option Value} {base:Heap} {CX:CXT} {k:Nat} {f:Addr} {fd:FuncData} {ps:List Str} {sp sp':Sp} (F:FnOk P w K mg base CX k f fd ps sp)
    (h:∀ vs H Q E,sp' vs H Q E→sp vs H Q E):FnOk P w K mg base CX k f fd ps sp' :=
  ⟨fun vs H Q E q=>F.len vs H Q E (h _ _ _ _ q),fun A outer s H args us vs Q E hr he hb hv hs=>F.run A outer s H args us vs Q E hr he hb hv (h _ _ _ _ hs)⟩

section
variable {X:Cx} {pins:List (Addr×Obj)} {σ:St} {H:Hp} {s s':Shared}
theorem Inv.env0 (I:Inv X pins σ H s):Env0 X.prog X.w X.K X.mg X.base X.A X.stack s H :=
  ⟨I.ok.frames,I.ok.mod,I.bs,Nat.le_trans I.ok.bsz I.sz,I.stack,I.stkFree,I.hok,I.bare⟩
theorem Inv.after {Q:VK} {u:Value} (I:Inv X pins σ H s) (h:CE X.stack X.prog X.w H s Q u s'):EP X pins σ Q u s':=by
  obtain ⟨v,H',os,bare,un,hok,r,q⟩:=h
  obtain ⟨hh,g,d,t,os'⟩:=s'
  obtain rfl:os'=s.os:=os
  exact ⟨v,H',I.call (h':=hh) (g':=g) (d':=d) (t':=t) (ch:=[]) un hok bare (fun b z=>absurd z (by simp)),r,q⟩
end
noncomputable def tCall (sp:Sp) (dvs:List V) (E:XK) (t:TA):TE:=fun σ H Q=>t σ H fun vs H1=>sp (vs++dvs) H1 Q E
noncomputable def Binds (K:PySem.W.Frag) (fd:FuncData) (ps:List Str) (ds:List Value):Prop :=
  ∀ (s:Shared) (us:List Value),K.In s.heap→(us++ds).length=ps.length→BindsTo s fd ⟨us,[]⟩ (ps.zip (us++ds))
theorem Binds.all {K:PySem.W.Frag} {fd:FuncData} {ps:List Str} (h:∀ us:List Value,us.length=ps.length→bindArgs fd ⟨us,[]⟩=pure (ps.zip us)):Binds K fd ps []:=fun s us _ hl=>by
  rw [List.append_nil] at hl ⊢
  exact .of_eq (h us hl)

noncomputable def Passes (CX:CXT) (X:Cx) (E:XK):Prop:=∀ (pins:List (Addr×Obj)) (σ:St) (H:Hp) (s:Shared) (e:Value) (s':Shared),Inv X pins σ H s→CX X.stack H s E e s'→X.xe e s'

section
variable {X:Cx} {CX:CXT} {k:Nat} {f C:Addr} {fd:FuncData} {ps:List Str} {sp:Sp} {dvs:List V} {ds:List Value} {E:XK} {x m:Str} {p pos apos:Pos} {e o:Expr} {es:List Expr} {ta:TE} {t:TA}
theorem run_fn {pins:List (Addr×Obj)} {σ:St} {H:Hp} {s:Shared} {Q:VK} {us:List Value} {vs:List V} (F:FnOk X.prog X.w X.K X.mg X.base CX k f fd ps sp) (hr:Room k X.A) (hb:Binds X.K fd ps ds) (hd:Vals dvs ds) (hx:Passes CX X E)
    (I:Inv X pins σ H s) (r:Vals vs us) (h:sp (vs++dvs) H Q E):wpAny (model X.prog X.w) X.A (call (.ref f) us) (EP X pins σ Q) X.xe s:=by
  have r2:Vals (vs++dvs) (us++ds):=r.append hd
  have hl:(us++ds).length=ps.length:=by rw [← r2.length]; exact F.len _ _ _ _ h
  refine wpAny_call (codeAny_mono (F.run X.A X.stack s H ⟨us,[]⟩ (us++ds) (vs++dvs) Q E hr I.env0 (hb s us I.kIn hl) r2 h) fun r s' hq=>?_)
  cases r with
  | error e=>exact hx pins σ H s e s' I hq
  | ok fl =>
    cases fl with
    | ret u=>exact I.after hq
    | next=>exact False.elim hq
    | brk=>exact False.elim hq
    | cont=>exact False.elim hq

theorem pe_call (F:FnOk X.prog X.w X.K X.mg X.base CX k f fd ps sp) (hr:Room k X.A) (hg:Gl X x) (hm:X.mg x=some (.ref f)) (hk:PySem.W.keepIn X.K (.ref f)=true) (hb:Binds X.K fd ps ds) (hd:Vals dvs ds) (hx:Passes CX X E)
    (ha:PA X (e::es) t) (hdb:(x == ("__debug__":Str))=false:=by decide) (he:starEach (e::es) X.env=(false,eval e X.env)::starEach es X.env:=by rfl) (hpl:(backTo pos (starEach es X.env)).any (·.1)=false:=by rfl) :
    PE X (.Call (.Name x p) (e::es) [] pos) (tCall sp dvs E t):=by
  intro pins s σ H Q I h
  refine wpAny_Call_Name_kw (ld_glob I hg hm ?_ hdb)
  refine PySem.W.callWith_K (h₀:=X.base) I.ok.mod.kin hk (thn (ha pos pins s σ H _ I h) fun us s1 ⟨vs,H1,I1,r,q⟩=>⟨I1.kIn,?_⟩) he hpl
  exact run_fn F hr hb hd hx I1 r q
structure Mk (K:PySem.W.Frag) (C f:Addr):Prop where
  makes:PySem.W.makesIn K C=true
  init:PySem.W.findIn K (.ref C) "__init__"=some (some (.ref f))
  fn:PySem.W.isFn K (.ref f)=true
  kp:PySem.W.keepIn K (.ref C)=true

end
noncomputable def PK (X:Cx) (kws:List Keyword) (t:TA):Prop :=
  ∀ (pos:Pos) (pins:List (Addr×Obj)) (s:Shared) (σ:St) (H:Hp) (Q:List V→Hp→Prop),Inv X pins σ H s→t σ H Q→wpAny (model X.prog X.w) X.A (evalAll ((backToKw pos (keywordEach kws X.env)).map (·.2))) (AP X pins σ Q) X.xe s
section
variable {X:Cx} {CX:CXT} {k:Nat} {f C:Addr} {fd:FuncData} {ps ks:List Str} {sp:Sp} {E:XK} {x m:Str} {p pos apos kpos:Pos} {e o:Expr} {es:List Expr} {kws:List Keyword} {te ta:TE} {t tk:TA} {nm:Option Str}
variable {g:List Value→List Value→List Value} {gV:List V→List V→List V}
end
structure FnScope (N P:List Str) (sc:Scope):Prop where
  kind:sc.kind=.function
  co:sc.isCoroutine=false
  gen:sc.isGenerator=false
  nd:N.Nodup
  pre:N.take P.length=P
  par:∀ x∈P,sc.names.lookup x=some .local∨sc.names.lookup x=some .cell
  nofree:∀ y∈sc.names,y.2≠.free

theorem bindL_out {kindOf:Str→Option NameKind} {x:Str}:∀ {binds:List (Str×Value)} {m:Str→Option Value},(∀ v,(x,v) ∉ binds)→bindL kindOf binds m x=m x
  | [],_,_=>rfl
  | (n,v)::r,m,h=>by
    unfold bindL
    rw [bindL_out fun w hw=>h w (List.mem_cons_of_mem _ hw)]
    split
    · have:x≠n:=by rintro rfl; exact h v List.mem_cons_self
      simp [this]
    · rfl
theorem bindC_out {kindOf:Str→Option NameKind} {x:Str}:∀ {binds:List (Str×Value)} {m:Str→Option Value},(∀ v,(x,v) ∉ binds)→bindC kindOf binds m x=m x
  | [],_,_=>rfl
  | (n,v)::r,m,h=>by
    unfold bindC
    rw [bindC_out fun w hw=>h w (List.mem_cons_of_mem _ hw)]
    split
    · rfl
    · have:x≠n:=by rintro rfl; exact h v List.mem_cons_self
      simp [this]
theorem bindL_get {kindOf:Str→Option NameKind} {x:Str} {v:Value}:∀ {P:List Str} {vs:List Value} {i:Nat} {m:Str→Option Value},P.Nodup→P[i]?=some x→vs[i]?=some v→kindOf x=some .local →
    bindL kindOf (P.zip vs) m x=some v
  | [],_,_,_,_,h,_,_=>by simp at h
  | _::_,[],_,_,_,_,h,_=>by simp at h
  | p::P,w::vs,0,m,nd,h1,h2,hk=>by
    simp at h1 h2; subst h1; subst h2
    show bindL kindOf ((p,w)::P.zip vs) m p=_
    unfold bindL
    rw [bindL_out fun v hv=>(List.nodup_cons.mp nd).1 (List.of_mem_zip hv).1,if_pos hk]
    simp
  | p::P,w::vs,i+1,m,nd,h1,h2,hk=>by
    show bindL kindOf ((p,w)::P.zip vs) m x=_
    unfold bindL
    exact bindL_get (i:=i) (List.nodup_cons.mp nd).2 (by simpa using h1) (by simpa using h2) hk
theorem bindC_get {kindOf:Str→Option NameKind} {x:Str} {v:Value}:∀ {P:List Str} {vs:List Value} {i:Nat} {m:Str→Option Value},P.Nodup→P[i]?=some x→vs[i]?=some v→kindOf x≠some .local →
    bindC kindOf (P.zip vs) m x=some v
  | [],_,_,_,_,h,_,_=>by simp at h
  | _::_,[],_,_,_,_,h,_=>by simp at h
  | p::P,w::vs,0,m,nd,h1,h2,hk=>by
    simp at h1 h2; subst h1; subst h2
    show bindC kindOf ((p,w)::P.zip vs) m p=_
    unfold bindC
    rw [bindC_out fun v hv=>(List.nodup_cons.mp nd).1 (List.of_mem_zip hv).1,if_neg hk]
    simp
  | p::P,w::vs,i+1,m,nd,h1,h2,hk=>by
    show bindC kindOf ((p,w)::P.zip vs) m x=_
    unfold bindC
    exact bindC_get (i:=i) (List.nodup_cons.mp nd).2 (by simpa using h1) (by simpa using h2) hk

noncomputable def start (N:List Str) (vs:List V):St:=vs.map some++List.replicate (N.length - vs.length) none

noncomputable def cxOf (CX:CXT) (P:Program) (w:World) (K:PySem.W.Frag) (mg:Str→Option Value) (base:Heap) (N:List Str) (qual:Str) (scope:Scope) (f:Addr) (cd:Value) (A:Around) (outer:List Env) (s:Shared) (H:Hp) (E:XK):Cx where
  prog:=P
  w:=w
  K:=K
  mg:=mg
  base:=base
  A:=A.deeper (envOfC qual scope s.heap.objs.size f cd)
  N:=N
  s₀:=s
  H₀:=H
  env:=envOfC qual scope s.heap.objs.size f cd
  outer:=outer
  stack:=envOfC qual scope s.heap.objs.size f cd::outer
  ex:=[]
  calm:=true
  fn:=fun _=>true
  pn:=[]
  xe:=fun e s'=>wpAny (model P w) (A.deeper (envOfC qual scope s.heap.objs.size f cd)) (leaving (envOfC qual scope s.heap.objs.size f cd) e) (fun _ s''=>CX outer H s E e s'') (fun e' s''=>CX outer H s E e' s'') s'

theorem cell_has {sc:Scope} {n:Nat} {x:Str} (h:sc.names.lookup x=some .cell):∃ c,(cellsFrom n sc.names []).lookup x=some c:=by
  have q:=PySem.W.cellsFrom_some sc.names n [] (.inl h)
  exact Option.isSome_iff_exists.mp q

theorem inv_start {CX:CXT} {P:Program} {w:World} {K:PySem.W.Frag} {mg:Str→Option Value} {base:Heap} {N ps:List Str} {qual:Str} {scope:Scope} {f:Addr} {cd:Value} {A:Around} {outer:List Env} {s s1:Shared} {H:Hp} {E:XK} {us:List Value} {vs:List V}
    (S:FnScope N ps scope) (hd:A.handled=none) (e0:Env0 P w K mg base A outer s H) (hl:vs.length=ps.length) (r:Vals vs us)
    (x:InCallC s s.heap.objs.size (bindL (envOfC qual scope s.heap.objs.size f cd).kindOf (ps.zip us) fun _=>none) (cellsFrom (s.heap.objs.size+1) scope.names []) (bindC (envOfC qual scope s.heap.objs.size f cd).kindOf (ps.zip us) fun _=>none) s1) :
    Inv (cxOf CX P w K mg base N qual scope f cd A outer s H E) [] (start N vs) H s1:=by
  have hpl:ps.length≤N.length:=by have:=congrArg List.length S.pre; rw [List.length_take] at this; omega
  obtain ⟨h1,tk,rfl,hk⟩:=x.done
  have noA:∀ b:Addr,b ∉ (cxOf CX P w K mg base N qual scope f cd A outer s H E).ex:=fun b z=>absurd (show b∈([]:List Addr) from z) (by simp)
  refine ⟨⟨e0.mod,S.kind,rfl,rfl,Nat.le_refl _,fun y z c h1 h2=>?_,fun y hy=>?_,fun y c _ h=>?_,fun _=>hd,Around.frames_deeper e0.frames,.inr ⟨rfl,rfl⟩,fun b z=>absurd z (noA b),e0.bs,e0.bsz,fun b _ _=>noA b,fun b z=>absurd z (noA b),e0.funs,e0.frf⟩,
    rfl,e0.bare,Un.kept hk,⟨_,x.toInCall.ns,fun i y v h1 h2 h3=>?_⟩,fun y c h=>⟨_,x.cell y c h⟩,e0.hok.fresh (Nat.le_refl _),fun y c h=>?_,fun p hp=>absurd (show p∈([]:List (Addr×Obj)) from hp) (by simp),e0.hok.kept hk,?_⟩
  · exact name_of_addr x.apart (PySem.mem_of_lookup h1) (PySem.mem_of_lookup h2)
  · have hy:scope.names.lookup y=some .cell∨scope.names.lookup y=some .free:=hy
    rcases hy with hy | hy
    · exact cell_has hy
    · exact absurd rfl (S.nofree _ (PySem.mem_of_lookup hy))
  · exact Nat.le_of_lt (x.above y c (PySem.mem_of_lookup h))
  · have hi:i < vs.length:=by
      unfold start at h2
      by_cases hi:i < vs.length
      · exact hi
      · rw [List.getElem?_append_right (by simpa using hi)] at h2
        rw [List.getElem?_replicate] at h2
        split at h2 <;> cases h2
    have ha:vs[i]?=some v:=by
      unfold start at h2
      rw [List.getElem?_append_left (by simpa using hi),List.getElem?_map] at h2
      cases e:vs[i]? with
      | none=>rw [e] at h2; cases h2
      | some a=>rw [e] at h2; cases h2; rfl
    obtain ⟨u,hu,rv⟩:=r.get ha
    have hp:ps[i]?=some y:=by
      rw [← S.pre,List.getElem?_take_of_lt (by omega)]; exact h1
    have ndP:ps.Nodup:=by rw [← S.pre]; exact S.nd.sublist (List.take_sublist _ _)
    refine ⟨u,rv,?_⟩
    rcases S.par y (List.mem_of_getElem? hp) with k | k
    · exact .inl ⟨k,bindL_get ndP hp hu k⟩
    · obtain ⟨c,e⟩:=cell_has (n:=s.heap.objs.size+1) k
      refine .inr ⟨.inl k,c,e,?_⟩
      have q:=x.cell y c e
      rw [bindC_get ndP hp hu (by show scope.names.lookup y≠_; rw [k]; decide)] at q
      exact q
  · exact e0.hok.fresh (Nat.le_of_lt (x.above y c (PySem.mem_of_lookup h)))
  · unfold start
    show _=N.length
    rw [List.length_append,List.length_map,List.length_replicate]
    omega

theorem fn_of {CX:CXT} {P:Program} {w:World} {K:PySem.W.Frag} {mg:Str→Option Value} {base:Heap} {k:Nat} {f:Addr} {name qual:Str} {params:Arguments} {body:List Stmt} {scope:Scope} {dV kV doc pm cdv ct oc:Value} {an od:Option Addr}
    {osl:Array (Option Value)} {N ps:List Str} {sp:Sp} (lk:K.lookup f=some ⟨oc,od,.func (PySem.W.fnOf name qual params body scope dV kV doc pm an cdv ct),osl⟩) (hcd:PySem.W.codeIn K cdv qual=true) (S:FnScope N ps scope)
    (len:∀ vs H Q E,sp vs H Q E→vs.length=ps.length)
    (hbody:∀ (A:Around) (outer:List Env) (s:Shared) (H:Hp) (vs:List V) (Q:VK) (E:XK),Room k (A.deeper (envOfC qual scope s.heap.objs.size f cdv))→sp vs H Q E →
      ∃ t,PSs (cxOf CX P w K mg base N qual scope f cdv A outer s H E) body t∧t { nx:=fun _ H'=>Q .non H',rt:=Q } (start N vs) H) :
    FnOk P w K mg base CX (k+1) f (PySem.W.fnOf name qual params body scope dV kV doc pm an cdv ct) ps sp:=by
  refine ⟨len,fun A outer s H args us vs Q E hr e0 hb r hsp=>?_⟩
  have hl:=len _ _ _ _ hsp
  have KX:K.In s.heap:=e0.mod.kin.keeps fun b o e=>(e0.bs b o e).1
  have lim:s.heap.NoLimit:=e0.mod.nolimit.keeps fun b o e=>(e0.bs b o e).1
  have hkind:∀ y∈ps.zip us,scope.names.lookup y.1=some .local∨(scope.names.lookup y.1=some .cell∧((cellsFrom (s.heap.objs.size+1) scope.names []).lookup y.1).isSome=true):=fun ⟨n,v⟩ hy=>by
    rcases S.par n (List.of_mem_zip hy).1 with q | q
    · exact .inl q
    · exact .inr ⟨q,PySem.W.cellsFrom_some _ _ _ (.inl q)⟩
  refine codeAny_call_function hr.depth (KX _ _ lk) rfl S.co S.gen rfl (PySem.W.codeRec_of KX hcd) (hb _ _ _ _ ?_)
  refine wpAny_newFunctionEnv_cells S.kind hkind fun env he s1 x=>?_
  subst he
  refine ⟨lim.keeps x.toInCall.keep,codeAny_func ?_⟩
  obtain ⟨t,ht,hq⟩:=hbody A outer s H vs Q E (hr.deeper _) hsp
  have I:Inv (cxOf CX P w K mg base N qual scope f cdv A outer s H E) [] (start N vs) H s1:=inv_start S hr.hd e0 hl r x
  refine wpAny_mono (ht [] s1 (start N vs) H _ I hq) (fun fl s' hs=>?_) fun e s' hs=>hs
  have fin:∀ {σ':St} {H':Hp} {v:V} {u:Value},Inv (cxOf CX P w K mg base N qual scope f cdv A outer s H E) [] σ' H' s'→RelV v u→Q v H'→CE outer P w H s Q u s' :=
    fun {σ' H' v u} J rv q=>⟨v,H',J.os,J.bare,J.base,J.hok,rv,q⟩
  cases fl with
  | ret u =>
    obtain ⟨v,σ',H',J,rv,q⟩:=hs
    exact fin J rv q
  | next =>
    obtain ⟨σ',H',J,q⟩:=hs
    exact fin (v:=V.non) (u:=Value.none) J rfl q
  | brk =>
    obtain ⟨_,_,_,q⟩:=hs
    exact False.elim q
  | cont =>
    obtain ⟨_,_,_,q⟩:=hs
    exact False.elim q
end L2
namespace L2
open PySem PySem.Spec PyProof.Rows
section
variable {X:Cx} {x:Str} {p pos:Pos} {e:Expr} {es:List Expr} {t:TA} {id T:String} {r:List V→Hp→VK→Prop}
noncomputable def tCB (r:List V→Hp→VK→Prop) (t:TA):TE:=fun σ H Q=>t σ H fun vs H1=>r vs H1 Q
theorem pe_callB (hc:CallR X (.builtin id) r) (hg:Gl X x) (hm:X.mg x=none) (hv:bootBuiltins x=some (.builtin id)) (ha:PA X (e::es) t) (hn:x≠"__name__":=by decide) (hdb:(x == ("__debug__":Str))=false:=by decide)
    (he:starEach (e::es) X.env=(false,eval e X.env)::starEach es X.env:=by rfl) (hpl:(backTo pos (starEach es X.env)).any (·.1)=false:=by rfl):PE X (.Call (.Name x p) (e::es) [] pos) (tCB r t):=by
  intro pins s σ H Q I h
  refine wpAny_Call_Name_kw (ld_blt I hg hm hv ?_ hn hdb)
  exact PyProof.Rows.callWith_builtin1 (thn (ha pos pins s σ H _ I h) fun us s1 ⟨vs,H1,I1,r1,q1⟩=>hc pins s1 σ H1 vs us Q I1 r1 q1) he hpl
theorem pe_callTy (hc:CallR X (.type T) r) (hg:Gl X x) (hm:X.mg x=none) (hv:bootBuiltins x=some (.type T)) (ha:PA X (e::es) t) (hn:x≠"__name__":=by decide) (hdb:(x == ("__debug__":Str))=false:=by decide)
    (he:starEach (e::es) X.env=(false,eval e X.env)::starEach es X.env:=by rfl) (hpl:(backTo pos (starEach es X.env)).any (·.1)=false:=by rfl):PE X (.Call (.Name x p) (e::es) [] pos) (tCB r t):=by
  intro pins s σ H Q I h
  refine wpAny_Call_Name_kw (ld_blt I hg hm hv ?_ hn hdb)
  exact PyProof.Rows.callWith_type1 (thn (ha pos pins s σ H _ I h) fun us s1 ⟨vs,H1,I1,r1,q1⟩=>hc pins s1 σ H1 vs us Q I1 r1 q1) he hpl
end
end L2
namespace HT
open PySem PyProof.Rows
noncomputable def lexLt:List Int→List Int→Bool
  | [],[]=>false
  | [],_::_=>true
  | _::_,[]=>false
  | x::xs,y::ys=>if x=y then lexLt xs ys else decide (x < y)
theorem lexLt_cons (x y:Int) (xs ys:List Int):lexLt (x::xs) (y::ys)=if x=y then lexLt xs ys else decide (x < y):=rfl
theorem lexLt_nil_nil:lexLt [] []=false:=rfl
theorem lexLt_nil_cons (y:Int) (ys:List Int):lexLt [] (y::ys)=true:=rfl
theorem lexLt_cons_nil (x:Int) (xs:List Int):lexLt (x::xs) []=false:=rfl

theorem eqAt_int (A:Around) (s:Shared) (a:Int) (t:Tok) (c:Int) (u:Tok):∃ e,SeqAt.EqAt A s (.int a t) (.int c u) e∧(e=true ↔ a=c) :=
  ⟨(a == c),SeqAt.EqAt.int_int a t c u,by simp⟩
theorem rcLt_int (A:Around) (s:Shared) (a:Int) (t:Tok) (c:Int) (u:Tok) (prog:Program) (w:World) (E:Value→Shared→Prop) (Q:Value→Shared→Prop) (h:Q (.bool (decide (a < c))) s) :
    wpAny (model prog w) A (richCompare .Lt (.int a t) (.int c u)) Q E s :=
  (PyProof.Rows.lt_int h:wpAny (model prog w) A (compareOp .Lt (.int a t) (.int c u)) Q E s)

section
open PySem.SeqAt
open PySem.AutoSeq1 (wpAny_loadPart')
open PySem.MeetsSeq PySem.MeetsSeq2 PySem.MeetsSeq3
theorem tuple_lt_ints (l b:Addr) (items items2:Array Value) (n n2:Nat) (dd dd2:Option Addr) (sl sl2:Array (Option Value)) (ns ms:List Int) (hi:IntsAre items.toList ns) (hj:IntsAre items2.toList ms) :
    Meets (Builtin.«tuple.__lt__» ⟨[.ref l,.ref b],[]⟩)
      (fun _ R s=>s.heap.get? l=some { cls:=.type "tuple",dict:=dd,data:=.seq items n,slots:=sl }∧s.heap.get? b=some { cls:=.type "tuple",dict:=dd2,data:=.seq items2 n2,slots:=sl2 } ∧
        R (.ok (.ret (.bool (lexLt ns ms)))) s) :=
  .of_wp fun prog w A R s h=>by
    obtain ⟨hp,g,d,tk,os⟩:=s; obtain ⟨hl,hb,h⟩:=h
    have f2:=AutoSeq1.sub_tuple_tuple
    have z1:items.size=ns.length:=by rw [← hi.length]; simp
    have z2:items2.size=ms.length:=by rw [← hj.length]; simp
    wp_walk using wpAny_loadPart' hl,wpAny_loadPart' hb,wpAny_forIn_list _ (fun rest b s'=>b.1=none∧s'=⟨hp,g,d,tk,os⟩∧∃ (vs ws:List Value) (ns' ms':List Int),rest=vs.zip ws ∧
      IntsAre vs ns'∧IntsAre ws ms'∧ns'.length+items2.size=ms'.length+items.size∧R (.ok (.ret (.bool (lexLt ns' ms')))) ⟨hp,g,d,tk,os⟩) _
    case turn =>
      rintro ⟨y,x⟩ rest b s' ⟨hb',rfl,vs,ws,ns',ms',hz,hvi,hwi,hlen,hR⟩
      cases hvi with
      | nil=>rw [List.zip_nil_left] at hz; cases hz
      | cons a t hvi' =>
        cases hwi with
        | nil=>rw [List.zip_nil_right] at hz; cases hz
        | cons c u hwi' =>
          rw [List.zip_cons_cons] at hz
          injection hz with hyx hrest
          injection hyx with hy hx
          subst hy hx
          rw [lexLt_cons] at hR
          simp only [List.length_cons] at hlen
          obtain ⟨e,he,hiff⟩:=eqAt_int A.in1 ⟨hp,g,d,tk,os⟩ a t c u
          refine wpAny_bind (he prog w _ _ ?_)
          cases e with
          | true =>
            rw [if_pos (hiff.mp rfl)] at hR
            wp_walk
            exact ⟨rfl,rfl,_,_,_,_,hrest,hvi',hwi',by omega,hR⟩
          | false =>
            rw [if_neg (fun q=>absurd (hiff.mpr q) Bool.false_ne_true)] at hR
            have hri:=rcLt_int A.in1 ⟨hp,g,d,tk,os⟩ a t c u prog w
            wp_walk using hri
            exact ⟨_,rfl,by simpa using hR⟩
    case fin =>
      rintro ⟨b1,b2⟩ s' ⟨hb',rfl,vs,ws,ns',ms',hz,hvi,hwi,hlen,hR⟩
      simp only at hb'
      subst hb'
      have hv:lexLt ns' ms'=decide (items.size < items2.size):=by
        cases hvi with
        | nil =>
          cases hwi with
          | nil =>
            simp only [List.length_nil] at hlen
            rw [lexLt_nil_nil]
            exact (decide_eq_false (by omega)).symm
          | cons c u hw =>
            simp only [List.length_nil,List.length_cons] at hlen
            rw [lexLt_nil_cons]
            exact (decide_eq_true (by omega)).symm
        | cons a t hv =>
          cases hwi with
          | nil =>
            simp only [List.length_nil,List.length_cons] at hlen
            rw [lexLt_cons_nil]
            exact (decide_eq_false (by omega)).symm
          | cons c u hw =>
            rw [List.zip_cons_cons] at hz
            cases hz
      rw [hv] at hR
      wp_walk
      exact ⟨_,rfl,by simpa [Builtin.Tuple.tupleCompareSizes] using hR⟩
    case h =>
      exact ⟨rfl,rfl,items.toList,items2.toList,ns,ms,rfl,hi,hj,by omega,h⟩
end
section
variable {prog:Program} {w:World} {A:Around} {E:Value→Shared→Prop} {s:Shared}
theorem lt_tupInts {l b:Addr} {items items2:Array Value} {ns ms:List Int} {Q:Value→Shared→Prop} (hl:IsTup s.heap l items) (hb:IsTup s.heap b items2) (hi:IntsAre items.toList ns) (hj:IntsAre items2.toList ms)
    (hu:A.units < cLine) (h:Q (.bool (lexLt ns ms)) s):wpAny (model prog w) A (compareOp .Lt (.ref l) (.ref b)) Q E s:=by
  obtain ⟨⟨cls,dd,data,sl⟩,ho,hc,n,hd⟩:=id hl
  obtain ⟨⟨cls2,dd2,data2,sl2⟩,ho2,hc2,n2,hd2⟩:=id hb
  simp only at hc hd hc2 hd2
  subst hc hd hc2 hd2
  exact richCompare_meets_room (op:=.Lt) ⟨_,ho,rfl⟩ ⟨_,ho2,rfl⟩ PySem.F.slot_tuple_lt PySem.F.entry_tuple_lt (PySem.F.args_tuple_lt_2 _ _) (tuple_lt_ints l b items items2 n n2 dd dd2 sl sl2 ns ms hi hj)
    ⟨ho,ho2,show Value.bool (lexLt ns ms)≠Value.notImplemented∧Q (.bool (lexLt ns ms)) s from ⟨(fun x=>nomatch x),h⟩⟩ hu

theorem cat_tup {t b:Addr} {vs ws:List Value} {Q:Value→Shared→Prop} (ht:IsTup s.heap t vs.toArray) (hb:IsTup s.heap b ws.toArray) (hv:vs≠[])
    (h1:ws=[]→Q (.ref t) s) (h2:ws≠[]→Q (.ref s.heap.objs.size) { s with heap:=s.heap.push { cls:=.type "tuple",data:=.seq (vs++ws).toArray } })
    (hsz:vs.length+ws.length≤sizeLine):wpAny (model prog w) A (binaryOp .Add (.ref t) (.ref b)) Q E s:=by
  obtain ⟨⟨cls,dd,data,sl⟩,ho,hc,n,hd⟩:=id ht
  obtain ⟨⟨cls2,dd2,data2,sl2⟩,ho2,hc2,n2,hd2⟩:=id hb
  simp only at hc hd hc2 hd2
  subst hc hd hc2 hd2
  have e:vs.toArray++ws.toArray=(vs++ws).toArray:=by simp
  by_cases hw:ws=[]
  · exact concat_meets ⟨_,ho,rfl⟩ ⟨_,ho2,rfl⟩ noFill_tuple_add seq_tuple_add PySem.F.slot_tuple_add PySem.F.entry_tuple_add (PySem.F.args_tuple_add_2 _ _)
      (tuple_addW1 t b vs.toArray ws.toArray n n2 dd dd2 sl sl2 (by simpa using hv) (by simp [hw])) ⟨ho,ho2,h1 hw⟩
  · refine concat_meets ⟨_,ho,rfl⟩ ⟨_,ho2,rfl⟩ noFill_tuple_add seq_tuple_add PySem.F.slot_tuple_add PySem.F.entry_tuple_add (PySem.F.args_tuple_add_2 _ _)
      (tuple_addW2 t b vs.toArray ws.toArray n n2 dd dd2 sl sl2 (by simpa using hv) (by simpa using hw) (by rw [List.size_toArray,List.size_toArray]; exact hsz)) ⟨ho,ho2,?_⟩
    rw [e]
    exact h2 hw

noncomputable def sIx (n d:Nat):Option Int→Nat
  | none=>d
  | some v=>if v < 0 then (v+(n:Int)).toNat else min v.toNat n
theorem sIx_none (n d:Nat):sIx n d none=d:=rfl
theorem sIx_nat (n d k:Nat):sIx n d (some (k:Int))=min k n:=by
  show (if (k:Int) < 0 then ((k:Int)+(n:Int)).toNat else min (k:Int).toNat n)=min k n
  rw [if_neg (by omega),Int.toNat_natCast]
theorem sIx_le (n d:Nat) (hd:d≤n) (o:Option Int):sIx n d o≤n:=by
  cases o with
  | none=>exact hd
  | some v =>
    show (if v < 0 then (v+(n:Int)).toNat else min v.toNat n)≤n
    by_cases hv:v < 0
    · rw [if_pos hv]; omega
    · rw [if_neg hv]; exact Nat.min_le_right _ _
theorem clip_eq (v:Int) (n d:Nat):(if v < 0 then max (v+(n:Int)) 0 else min v (n:Int))=((sIx n d (some v):Nat):Int):=by
  show (if v < 0 then max (v+(n:Int)) 0 else min v (n:Int))=(((if v < 0 then (v+(n:Int)).toNat else min v.toNat n):Nat):Int)
  by_cases hv:v < 0
  · rw [if_pos hv,if_pos hv,Int.ofNat_toNat]
  · rw [if_neg hv,if_neg hv]
    obtain ⟨k,rfl⟩:=Int.eq_ofNat_of_zero_le (Int.not_lt.mp hv)
    rw [Int.toNat_natCast,← Lean.Omega.Int.ofNat_min]
theorem adjust_gen (lo hi:Option Int) (n:Nat):Builtin.Slice.sliceAdjust lo hi 1 (n:Int)=(((sIx n 0 lo:Nat):Int),((sIx n n hi:Nat):Int)):=by
  have h1:¬ ((1:Int) < 0):=by omega
  unfold Builtin.Slice.sliceAdjust
  simp only [h1,if_false]
  refine Prod.ext ?_ ?_
  · cases lo with
    | none=>rfl
    | some v=>exact clip_eq v n 0
  · cases hi with
    | none=>rfl
    | some v=>exact clip_eq v n n
theorem places_gen (i j:Nat):Builtin.Slice.slicePlaces (i:Int) (j:Int) 1=j - i:=by
  unfold Builtin.Slice.slicePlaces
  have h1:(1:Int) > 0:=by omega
  simp only [h1,if_true,Int.ediv_one]
  split <;> omega
theorem slicePart_ {v:Value} {o:Option Int} {Q:Option Int→Shared→Prop} (p:IsPart v o) (h:Q o s):wpAny (model prog w) A (Builtin.Slice.slicePartIndex v) Q E s:=by
  cases p with
  | none=>exact slicePart_none h
  | int i t=>exact slicePart_int h
theorem sliceApplied_gen {sl:Addr} {vl vu:Value} {lo hi:Option Int} {n:Nat} {Q:Int×Int×Nat→Shared→Prop} (hs:s.heap.IsSliceOf sl vl vu .none) (pl:IsPart vl lo) (pu:IsPart vu hi)
    (h:Q (((sIx n 0 lo:Nat):Int),1,sIx n n hi - sIx n 0 lo) s):wpAny (model prog w) A (Builtin.Slice.sliceApplied (.ref sl) (pure (n:Int))) Q E s:=by
  obtain ⟨os,hos,hcs,hds⟩:=id hs
  unfold Builtin.Slice.sliceApplied Builtin.Slice.sliceFields
  refine wpAny_bind (wpAny_bind (wpAny_field hos hds (x:=vl) rfl (wpAny_bind (wpAny_field hos hds (x:=vu) rfl (wpAny_bind (wpAny_field hos hds (x:=.none) rfl (wpAny_pure ?_)))))))
  refine wpAny_bind (slicePart_none ?_)
  show wpAny _ _ (if ((1:Int) == 0)=true then _ else _) _ _ s
  rw [if_neg (by decide)]
  refine wpAny_bind (slicePart_ pl (wpAny_bind (slicePart_ pu (wpAny_bind (wpAny_pure ?_)))))
  show wpAny _ _ (match Builtin.Slice.sliceAdjust lo hi 1 (n:Int) with | (lo,hi)=>pure (lo,(1:Int),Builtin.Slice.slicePlaces lo hi 1)) _ _ s
  rw [adjust_gen lo hi n]
  show wpAny _ _ (pure (((sIx n 0 lo:Nat):Int),(1:Int),Builtin.Slice.slicePlaces ((sIx n 0 lo:Nat):Int) ((sIx n n hi:Nat):Int) 1)) _ _ s
  rw [places_gen]
  exact wpAny_pure h
theorem pick_gen (xs:Array Value) (i k:Nat):((List.range k).filterMap fun (m:Nat)=>xs[((i:Int)+(m:Int) * 1).toNat]?).toArray=((xs.toList.drop i).take k).toArray:=by
  have e:(fun (m:Nat)=>xs[((i:Int)+(m:Int) * 1).toNat]?)=fun m=>xs[i+m]?:=by
    funext m
    have:((i:Int)+(m:Int) * 1).toNat=i+m:=by omega
    rw [this]
  rw [e]
  have:=pick_run xs i k
  rw [List.filterMap_map] at this
  have e2:((fun x=>xs[x]?) ∘ fun x=>i+x)=fun m=>xs[i+m]?:=rfl
  rw [e2] at this
  rw [this]

theorem getItem_tuple_cut {t sl:Addr} {items:Array Value} {vl vu:Value} {lo hi:Option Int} {Q:Value→Shared→Prop} (ht:IsTup s.heap t items) (hs:s.heap.IsSliceOf sl vl vu .none) (pl:IsPart vl lo) (pu:IsPart vu hi)
    (hw:¬ (sIx items.size 0 lo=0∧sIx items.size items.size hi=items.size))
    (h:Q (.ref s.heap.objs.size) { s with heap:=s.heap.push { cls:=.type "tuple",data:=.seq ((items.toList.drop (sIx items.size 0 lo)).take (sIx items.size items.size hi - sIx items.size 0 lo)).toArray } })
    (hsz:items.size≤sizeLine):wpAny (model prog w) A (getItem (.ref t) (.ref sl)) Q E s:=by
  have htake:sizeOk (.seq ((items.toList.drop (sIx items.size 0 lo)).take (sIx items.size items.size hi - sIx items.size 0 lo)).toArray):=by
    show ((items.toList.drop (sIx items.size 0 lo)).take (sIx items.size items.size hi - sIx items.size 0 lo)).toArray.size≤sizeLine
    rw [List.size_toArray,List.length_take,List.length_drop,Array.length_toList]
    exact Nat.le_trans (Nat.min_le_right _ _) (Nat.le_trans (Nat.sub_le _ _) hsz)
  have hj:sIx items.size items.size hi≤items.size:=sIx_le _ _ (Nat.le_refl _) hi
  obtain ⟨os,hos,hcs,hds⟩:=id hs
  have hTs:s.TypeIs (.ref sl) "slice":=⟨os,hos,hcs⟩
  unfold getItem
  try with_reducible refine wpAny_holding ?_
  first | refine wpAny_bind (wpAny_pure ?_) | skip
  refine wpAny_bind (wpAny_sequenceKey ht.typeIs (by decide) ?_)
  refine wpAny_bind (wpAny_callSpecial?_slot (name:=Str.ofString "__getitem__") ht.typeIs PyProof.Rows.slot_tuple_getitem
    (wpAny_call_entry PyProof.Rows.slot_tuple_getitem ht.typeIs entry_tuple_getitem ?_ (args_tuple_getitem _ _)))
  show wpAny _ _ (Builtin.Tuple.tupleItemsOf (.ref t) >>= _) _ _ s
  refine wpAny_bind (tupleItemsOf_ ht ?_)
  refine wpAny_bind (wpAny_typeOf hTs ?_)
  rw [if_pos (by decide)]
  refine wpAny_bind (sliceApplied_gen hs pl pu ?_)
  have hno:¬ ((((sIx items.size 0 lo:Nat):Int) == 0 && (1:Int) == 1 && (sIx items.size items.size hi - sIx items.size 0 lo) == items.size)=true):=by
    intro q
    rw [Bool.and_eq_true,Bool.and_eq_true] at q
    have q1:((sIx items.size 0 lo:Nat):Int)=0:=eq_of_beq q.1.1
    have q2:sIx items.size items.size hi - sIx items.size 0 lo=items.size:=eq_of_beq q.2
    exact hw ⟨by omega,by omega⟩
  show wpAny _ _ (if (((sIx items.size 0 lo:Nat):Int) == 0 && (1:Int) == 1 && (sIx items.size items.size hi - sIx items.size 0 lo) == items.size)=true then _ else _) _ _ s
  rw [if_neg hno,pick_gen]
  first
    | exact wpAny_bind (m:=Builtin.Tuple.tupleExact _) (wpAny_newObj_type (wpAny_pure ⟨_,rfl,wpAny_pure h⟩) htake)
    | exact wpAny_bind (m:=Builtin.Tuple.tupleExact _) (wpAny_newObj_type (wpAny_bind (wpAny_pure (wpAny_pure ⟨_,rfl,wpAny_pure h⟩))) htake)
    | exact wpAny_bind (wpAny_bind (m:=Builtin.Tuple.tupleExact _) (wpAny_newObj_type (wpAny_pure (wpAny_pure ⟨_,rfl,wpAny_pure h⟩)) htake))
    | exact wpAny_bind (wpAny_bind (m:=Builtin.Tuple.tupleExact _) (wpAny_newObj_type (wpAny_pure ⟨_,rfl,wpAny_pure h⟩) htake))
end
end HT
namespace L2
open PySem PySem.Spec PyProof.Rows
noncomputable abbrev TO:=St→Hp→(Option Int→Hp→Prop)→Prop
noncomputable def PO (X:Cx) (e:Option Expr) (t:TO):Prop :=
  ∀ (pins:List (Addr×Obj)) (s:Shared) (σ:St) (H:Hp) (Q:Option Int→Hp→Prop),Inv X pins σ H s→t σ H Q →
    wpAny (model X.prog X.w) X.A (evalPart e X.env) (fun u s'=>∃ o H',Inv X pins σ H' s'∧IsPart u o∧Q o H') X.xe s
noncomputable def tNoPart:TO:=fun _ H Q=>Q none H
noncomputable def tPart (t:TE):TO:=fun σ H Q=>t σ H fun x H1=>∃ i,x=.int i∧Q (some i) H1

theorem intsAre_of {ns:List Int}:∀ {us:List Value},Vals (ns.map V.int) us→IntsAre us ns:=by
  induction ns with
  | nil=>intro us r; rw [List.map_nil] at r; cases r; exact .nil
  | cons n ns ih =>
    intro us r
    rw [List.map_cons] at r
    cases r with
    | cons r1 r2 =>
      obtain ⟨t,e⟩:=r1
      subst e
      exact .cons n t (ih r2)

section
variable {X:Cx} {e:Expr} {te:TE} {lo hi:Option Expr} {tl th:TO} {pos p2:Pos}
theorem po_none:PO X none tNoPart:=by
  intro pins s σ H Q I h
  rw [evalPart_none]
  exact wpAny_pure ⟨none,H,I,.none,h⟩
theorem po_some (h:PE X e te):PO X (some e) (tPart te):=by
  intro pins s σ H Q I hw
  rw [evalPart_some]
  refine thn (h pins s σ H _ I hw) fun u s1 hz0=>?_
  obtain ⟨x,H1,I1,r1,q1⟩:=hz0
  obtain ⟨i,rfl,q⟩:=q1
  obtain ⟨t,rfl⟩:=r1
  exact ⟨some i,H1,I1,.int i t,q⟩

noncomputable def SlR (X:Cx) (r:V→Option Int→Option Int→Hp→VK→Prop):Prop :=
  ∀ (pins:List (Addr×Obj)) (s:Shared) (σ:St) (H:Hp) (x:V) (v vl vu:Value) (lo hi:Option Int) (sl:Addr) (Q:VK),Inv X pins σ H s→RelV x v→s.heap.IsSliceOf sl vl vu .none→IsPart vl lo→IsPart vu hi→r x lo hi H Q →
    ∃ T id,typeLookup (.type T) "__getitem__"=pure (some (.builtin id))∧s.TypeIs v T∧wpAny (model X.prog X.w) X.A (getItem v (.ref sl)) (EP X pins σ Q) X.xe s
theorem SlR.or {r r':V→Option Int→Option Int→Hp→VK→Prop} (h:SlR X r) (h':SlR X r'):SlR X (fun x lo hi H Q=>r x lo hi H Q∨r' x lo hi H Q):=by
  intro pins s σ H x v vl vu lo hi sl Q I rx hs pl pu q
  rcases q with q | q
  · exact h pins s σ H x v vl vu lo hi sl Q I rx hs pl pu q
  · exact h' pins s σ H x v vl vu lo hi sl Q I rx hs pl pu q
noncomputable def tSl (r:V→Option Int→Option Int→Hp→VK→Prop) (te:TE) (tl th:TO):TE:=fun σ H Q=>te σ H fun x H1=>tl σ H1 fun l H2=>th σ H2 fun u H3=>r x l u H3 Q
theorem pe_slice {r:V→Option Int→Option Int→Hp→VK→Prop} (hr:SlR X r) (he:PE X e te) (hl:PO X lo tl) (hu:PO X hi th):PE X (.Subscript e (.Slice lo hi none p2) pos) (tSl r te tl th):=by
  intro pins s σ H Q I h
  refine Subscript_ (thn (he pins s σ H _ I h) fun v s1 hz0=>?_)
  obtain ⟨x,H1,I1,r1,q1⟩:=hz0
  refine wpAny_Slice (thn (hl pins s1 σ H1 _ I1 q1) fun vl s2 ⟨l,H2,I2,pl,q2⟩=>thn (hu pins s2 σ H2 _ I2 q2) fun vu s3 hz0=>?_)
  obtain ⟨u,H3,I3,pu,q3⟩:=hz0
  rw [evalPart_none]
  refine wpAny_pure ?_
  have I4:Inv X pins σ H3 { s3 with heap:=s3.heap.push { cls:=.type "slice",data:=.fields #[vl,vu,.none] } }:=I3.kept (t':=s3.toks) fun b ob q=>Heap.get?_push_of_some _ q
  obtain ⟨T,id,hT,ht,hg⟩:=hr pins { s3 with heap:=s3.heap.push { cls:=.type "slice",data:=.fields #[vl,vu,.none] } } σ H3 x v vl vu l u s3.heap.objs.size Q I4 r1 (Heap.IsSliceOf.new ..) pl pu q3
  show wpAny (model X.prog X.w) X.A (subscriptTail e (.Slice lo hi none p2) v (.ref s3.heap.objs.size)) (EP X pins σ Q) X.xe { s3 with heap:=s3.heap.push { cls:=.type "slice",data:=.fields #[vl,vu,.none] } }
  exact tail_any (ops:=[.ref s3.heap.objs.size,v]) ht hT hg (by with_unfolding_all rfl)

noncomputable def cutV (xs:List V) (lo hi:Option Int):List V:=(xs.drop (HT.sIx xs.length 0 lo)).take (HT.sIx xs.length xs.length hi - HT.sIx xs.length 0 lo)
theorem cutV_length (xs:List V) (lo hi:Option Int):(cutV xs lo hi).length≤xs.length:=by
  unfold cutV
  rw [List.length_take,List.length_drop]
  exact Nat.le_trans (Nat.min_le_right _ _) (Nat.sub_le _ _)
noncomputable def rSlT (K:PySem.W.Frag):V→Option Int→Option Int→Hp→VK→Prop:=fun x lo hi H Q=>∃ a xs,x=.ref a∧SqT K H a xs ∧
  ¬ (HT.sIx xs.length 0 lo=0∧HT.sIx xs.length xs.length hi=xs.length)∧∀ p,H p=none→Q (.ref p) (upd H p (.tup (cutV xs lo hi)))
theorem sl_tup:SlR X (rSlT X.K):=by
  intro pins s σ H x v vl vu lo hi sl Q I rx hs pl pu h
  obtain ⟨a,xs,rfl,hx,hw,q⟩:=h
  cases rx
  obtain ⟨its,r,ht,hz⟩:=I.tuple hx
  have hlen:its.toArray.size=xs.length:=by rw [List.size_toArray]; exact r.length.symm
  refine ⟨"tuple",_,PyProof.Rows.slot_tuple_getitem.lookup,ht.typeIs,?_⟩
  refine HT.getItem_tuple_cut ht hs pl pu (by rw [hlen]; exact hw) ?_ (by rw [hlen]; exact hz)
  rw [hlen]
  refine ⟨.ref s.heap.objs.size,_,I.laid (t':=s.toks) (o:=.tup (cutV xs lo hi)) (fun b ob q=>Heap.get?_push_of_some _ q) (Nat.le_refl _) ?_,rfl,q _ (I.hok.fresh (Nat.le_refl _))⟩
  exact ⟨Nat.le_trans (cutV_length xs lo hi) hz,_,(r.drop (HT.sIx xs.length 0 lo)).take (HT.sIx xs.length xs.length hi - HT.sIx xs.length 0 lo),IsTup.new _ _⟩

noncomputable def rCatT (K:PySem.W.Frag):R2:=fun x y H Q=>∃ a b xs ys,x=.ref a∧y=.ref b∧SqT K H a xs∧SqT K H b ys∧xs≠[]∧xs.length+ys.length≤sizeLine ∧
  (ys=[]→Q (.ref a) H)∧(ys≠[]→∀ p,H p=none→Q (.ref p) (upd H p (.tup (xs++ys))))
theorem Vals.nil_iff {xs:List V} {us:List Value} (r:Vals xs us):us=[] ↔ xs=[]:=by
  cases r with
  | nil=>simp
  | cons _ _=>simp
theorem op_catT:OpR X (binaryOp .Add) (rCatT X.K):=by
  intro pins s σ H x y v u Q I rx ry h
  obtain ⟨a,b,xs,ys,rfl,rfl,ha,hb,hx,hz,q1,q2⟩:=h
  cases rx
  cases ry
  obtain ⟨its,r1,p1,_⟩:=I.tuple ha
  obtain ⟨its2,r2,p2,_⟩:=I.tuple hb
  refine HT.cat_tup p1 p2 (fun z=>hx (r1.nil_iff.mp z)) (fun z=>⟨.ref a,H,I,rfl,q1 (r2.nil_iff.mp z)⟩) (fun z=>?_) (by rw [← r1.length,← r2.length]; exact hz)
  refine ⟨.ref s.heap.objs.size,_,I.laid (t':=s.toks) (o:=.tup (xs++ys)) (fun b ob q=>Heap.get?_push_of_some _ q) (Nat.le_refl _) ?_,rfl,q2 (fun w=>z (r2.nil_iff.mpr w)) _ (I.hok.fresh (Nat.le_refl _))⟩
  exact ⟨by rw [List.length_append]; exact hz,_,r1.append r2,IsTup.new _ _⟩
end
end L2
namespace L2
open PySem PySem.Spec PyProof.Rows
noncomputable def ixN (n:Nat) (i:Int):Option Nat:=if 0≤i then (if i < n then some i.toNat else none) else if -(n:Int)≤i then some (i+n).toNat else none
noncomputable def atI {α:Type} (xs:List α) (i:Int):Option α:=(ixN xs.length i).bind fun j=>xs[j]?
theorem ixN_seq {n:Nat} {i:Int} {j:Nat} (h:ixN n i=some j):seqIndex? i n=some j∧j < n∧-(n:Int)≤i∧i < n:=by
  unfold ixN at h
  by_cases h0:0≤i
  · rw [if_pos h0] at h
    by_cases h1:i < n
    · rw [if_pos h1] at h
      have e:i.toNat=j:=Option.some.inj h
      exact ⟨by rw [seqIndex_of h0 h1,e],by omega,by omega,h1⟩
    · rw [if_neg h1] at h; cases h
  · rw [if_neg h0] at h
    by_cases h1:-(n:Int)≤i
    · rw [if_pos h1] at h
      have e:(i+n).toNat=j:=Option.some.inj h
      exact ⟨by rw [seqIndex_neg (by omega) h1,e],by omega,h1,by omega⟩
    · rw [if_neg h1] at h; cases h
theorem atI_get {α:Type} {xs:List α} {i:Int} {v:α} (h:atI xs i=some v):∃ j,seqIndex? i xs.length=some j∧xs[j]?=some v∧j < xs.length∧-(xs.length:Int)≤i∧i < xs.length:=by
  unfold atI at h
  cases e:ixN xs.length i with
  | none=>rw [e] at h; cases h
  | some j =>
    rw [e] at h
    obtain ⟨h1,h2,h3,h4⟩:=ixN_seq e
    exact ⟨j,h1,h,h2,h3,h4⟩
theorem atI_nat {α:Type} {xs:List α} {j:Nat} {v:α} (h:xs[j]?=some v):atI xs (j:Int)=some v:=by
  have hj:j < xs.length:=(List.getElem?_eq_some_iff.mp h).1
  have e:ixN xs.length (j:Int)=some j:=by
    unfold ixN
    rw [if_pos (by omega),if_pos (by omega)]; simp
  unfold atI; rw [e]; exact h
noncomputable def PlainIx (b:Expr):Prop:=∀ o i,subscripted b false o i=operate [o,i] (getItem o i)
noncomputable def IxR (X:Cx) (r:R2):Prop :=
  ∀ (value slice:Expr) (pins:List (Addr×Obj)) (s:Shared) (σ:St) (H:Hp) (x y:V) (v u:Value) (Q:VK),Inv X pins σ H s→RelV x v→RelV y u→r x y H Q →
    subscripted slice false v u=operate [v,u] (getItem v u)→wpAny (model X.prog X.w) X.A (subscriptTail value slice v u) (EP X pins σ Q) X.xe s
noncomputable def MtR (X:Cx) (id:String) (r:V→List V→Hp→VK→Prop):Prop :=
  ∀ (pins:List (Addr×Obj)) (s:Shared) (σ:St) (H:Hp) (x:V) (xs:List V) (v:Value) (us:List Value) (Q:VK),Inv X pins σ H s→RelV x v→Vals xs us→r x xs H Q →
    wpAny (model X.prog X.w) X.A (call (.builtin id) (v::us)) (EP X pins σ Q) X.xe s
section
variable {X:Cx} {a b:Expr} {ta tb:TE} {pos:Pos}
theorem IxR.or {r r':R2} (h:IxR X r) (h':IxR X r'):IxR X (fun x y H Q=>r x y H Q∨r' x y H Q):=by
  intro value slice pins s σ H x y v u Q I rx ry q hs
  rcases q with q | q
  · exact h value slice pins s σ H x y v u Q I rx ry q hs
  · exact h' value slice pins s σ H x y v u Q I rx ry q hs
theorem pe_ix {r:R2} (hr:IxR X r) (ha:PE X a ta) (hb:PE X b tb) (hs:PlainIx b):PE X (.Subscript a b pos) (tOp r ta tb):=by
  intro pins s σ H Q I h
  exact Subscript_ (binT ha hb I h fun v u s2 x y H2 I2 rx ry q=>hr a b pins s2 σ H2 x y v u Q I2 rx ry q (hs _ _))

noncomputable def rIxL (K:PySem.W.Frag):R2:=fun x y H Q=>∃ p xs i v,x=.ref p∧y=.int i∧SqL K H p xs∧atI xs i=some v∧Q v H
noncomputable def rIxT (K:PySem.W.Frag):R2:=fun x y H Q=>∃ p xs i v,x=.ref p∧y=.int i∧SqT K H p xs∧atI xs i=some v∧Q v H
noncomputable def rIxS:R2:=fun x y H Q=>∃ z i c,x=.str z∧y=.int i∧z.length≤sizeLine∧atI z.cps.toList i=some c∧Q (.str ⟨#[c]⟩) H
theorem ix_list:IxR X (rIxL X.K):=by
  intro value slice pins s σ H x y v u Q I rx ry h hs
  obtain ⟨p,xs,i,z,rfl,rfl,hq,he,q⟩:=h
  cases rx
  obtain ⟨t,rfl⟩:=ry
  obtain ⟨its,r,pl,hz⟩:=I.list hq
  obtain ⟨j,h1,h2,h3,h4,h5⟩:=atI_get he
  obtain ⟨w,ew,rw'⟩:=r.get h2
  have hl:=r.length
  have hn:=line63
  have fin:EP X pins σ Q w s:=⟨z,H,I,rw',q⟩
  by_cases h0:0≤i
  · have hj:i.toNat=j:=by
      rw [seqIndex_of h0 h5] at h1
      exact Option.some.inj h1
    exact item_listR pl.isList h0 (by omega) (by rw [hj]; simpa using ew) fin hs
  · have hj:(i+(its.toArray.size:Int)).toNat=j:=by
      rw [seqIndex_neg (by omega) h4] at h1
      rw [List.size_toArray,← hl]
      exact Option.some.inj h1
    exact subscriptTail_builtinR (x:=w) pl.isList.typeIs slot_list_getitem.lookup
      (wpAny_getItem_list_neg (Q:=fun r s'=>r=w∧EP X pins σ Q r s') pl.isList (by omega) (by rw [List.size_toArray] <;> omega) (by omega) (by rw [hj]; simpa using ew) ⟨rfl,fin⟩) hs
theorem ix_tup:IxR X (rIxT X.K):=by
  intro value slice pins s σ H x y v u Q I rx ry h hs
  obtain ⟨p,xs,i,z,rfl,rfl,hq,he,q⟩:=h
  cases rx
  obtain ⟨t,rfl⟩:=ry
  obtain ⟨its,r,pl,hz⟩:=I.tuple hq
  obtain ⟨j,h1,h2,h3,h4,h5⟩:=atI_get he
  obtain ⟨w,ew,rw'⟩:=r.get h2
  have hl:=r.length
  have hn:=line63
  have fin:EP X pins σ Q w s:=⟨z,H,I,rw',q⟩
  exact subscriptTail_builtinR (x:=w) pl.typeIs slot_tuple_getitem.lookup
    (getItem_tuple (j:=j) (Q:=fun r s'=>r=w∧EP X pins σ Q r s') pl (by omega) (by omega) (by rw [List.size_toArray,← hl]; exact h1) (by simpa using ew) ⟨rfl,fin⟩) hs
theorem ix_str:IxR X rIxS:=by
  intro value slice pins s σ H x y v u Q I rx ry h hs
  obtain ⟨z,i,c,rfl,rfl,hz,he,q⟩:=h
  obtain ⟨t,rfl⟩:=rx
  obtain ⟨t',rfl⟩:=ry
  obtain ⟨j,h1,h2,h3,h4,h5⟩:=atI_get he
  have hl:z.cps.toList.length=z.length:=by simp [Str.length]
  rw [hl] at h1 h4 h5
  have hn:=line63
  exact tail_any (typeIs_str s z t) slot_str_getitem.lookup (getItem_str (c:=c) (by
    have e1:decide (i < -(2 ^ 63:Int))=false:=decide_eq_false (by omega)
    have e2:decide (i ≥ 2 ^ 63)=false:=decide_eq_false (by omega)
    rw [e1,e2,Bool.or_false]) (by rw [h1]; simpa using h2) ⟨.str ⟨#[c]⟩,H,I.tok _,⟨_,rfl⟩,q⟩) hs
noncomputable def rIx (K:PySem.W.Frag):R2:=fun x y H Q=>rIxL K x y H Q∨rIxT K x y H Q∨rIxS x y H Q
theorem ix_seq:IxR X (rIx X.K):=ix_list.or (ix_tup.or ix_str)

theorem mapSeq_set (its:List Value) (n j:Nat) (u:Value):Obj.mapSeq (·.setIfInBounds j u) { cls:=.type "list",data:=.seq its.toArray n }={ cls:=.type "list",data:=.seq (its.set j u).toArray n }:=by
  simp [Obj.mapSeq]
theorem Inv.lst {pins:List (Addr×Obj)} {σ:St} {H:Hp} {s:Shared} {p:Addr} {xs:List V} (I:Inv X pins σ H s) (h:H p=some (.lst xs)) :
    ∃ (its:List Value) (n:Nat),Vals xs its∧s.heap.get? p=some { cls:=.type "list",data:=.seq its.toArray n }∧xs.length≤sizeLine:=by
  obtain ⟨z,its,n,r,e⟩:=I.hok p _ h
  exact ⟨its,n,r,e,z⟩
theorem Inv.lstUpd {pins:List (Addr×Obj)} {σ:St} {H:Hp} {s:Shared} {p:Addr} {xs ys:List V} {its its':List Value} {n n':Nat} {f:Obj→Obj} (I:Inv X pins σ H s) (h:H p=some (.lst xs))
    (ho:s.heap.get? p=some { cls:=.type "list",data:=.seq its.toArray n }) (hf:f { cls:=.type "list",data:=.seq its.toArray n }={ cls:=.type "list",data:=.seq its'.toArray n' }) (r:Vals ys its') (hz:ys.length≤sizeLine) (t:Nat) :
    Inv X pins σ (upd H p (.lst ys)) { s with heap:=s.heap.update p f,toks:=t }:=by
  have e:(s.heap.update p f).get? p=some { cls:=.type "list",data:=.seq its'.toArray n' }:=by
    rw [Heap.get?_update_self f ho (by rw [hf] <;> rfl),hf]
  refine I.write (x:=p) (e:=p) (by rw [h]; trivial) (.inl rfl) (fun b u hb q=>(Heap.get?_update_other _ _ (Ne.symm hb)).trans q) ⟨_,e⟩ ?_
  exact ⟨hz,its',n',r,e⟩
noncomputable def rSetL:V→V→V→Hp→(Hp→Prop)→Prop:=fun o i v H Q=>∃ p xs k j,o=.ref p∧i=.int k∧H p=some (.lst xs)∧ixN xs.length k=some j∧Q (upd H p (.lst (xs.set j v)))
theorem set_list:PSet X rSetL:=by
  intro pins s σ H o i v ov iv u Q I ro ri rv h
  obtain ⟨p,xs,k,j,rfl,rfl,hp,hj,q⟩:=h
  cases ro
  obtain ⟨t,rfl⟩:=ri
  obtain ⟨its,n,r,ho,hz⟩:=I.lst hp
  obtain ⟨h1,h2,h3,h4⟩:=ixN_seq hj
  have hl:=r.length
  have hn:=line63
  have I':Inv X pins σ (upd H p (.lst (xs.set j v))) { s with heap:=s.heap.update p (Obj.mapSeq (·.setIfInBounds j u)) } :=
    I.lstUpd hp ho (mapSeq_set its n j u) (r.set rv j) (by rw [List.length_set]; exact hz) s.toks
  by_cases h0:0≤k
  · have hk:k.toNat=j:=by
      rw [seqIndex_of h0 h4] at h1
      exact Option.some.inj h1
    exact PySem.W.ki_setAt ho h0 (by omega) (by rw [List.size_toArray,← hl]; exact h4) (by rw [hk]; exact ⟨_,I',q⟩)
  · have hk:(k+(its.toArray.size:Int)).toNat=j:=by
      rw [seqIndex_neg (by omega) h3] at h1
      rw [List.size_toArray,← hl]
      exact Option.some.inj h1
    exact PySem.W.ki_setBack ho (by omega) (by rw [List.size_toArray,← hl]; exact h3) (by omega) (by rw [hk]; exact ⟨_,I',q⟩)

theorem cut_lo {n:Nat} {i:Int} (h:i < 0):max 0 (min (i+(n:Int)) n)=(((i+n).toNat:Nat):Int):=by
  rw [Int.min_eq_left (by omega),Int.ofNat_toNat,Int.max_comm]
theorem cut_hi {n:Nat} {i:Int} (h:¬ i < 0):max 0 (min i (n:Int))=((min i.toNat n:Nat):Int):=by
  obtain ⟨k,rfl⟩:=Int.eq_ofNat_of_zero_le (Int.not_lt.mp h)
  rw [Int.toNat_natCast,← Lean.Omega.Int.ofNat_min]
  exact Int.max_eq_right (Int.natCast_nonneg _)
theorem slice_bounds (lo hi:Option Int) (n:Nat):(sliceBounds lo hi none n).1=((HT.sIx n 0 lo:Nat):Int)∧(sliceBounds lo hi none n).2.1=((HT.sIx n n hi:Nat):Int)∧(sliceBounds lo hi none n).2.2=1:=by
  refine ⟨?_,?_,rfl⟩
  · cases lo with
    | none=>simp [sliceBounds,HT.sIx]
    | some i =>
      simp only [sliceBounds,HT.sIx,Option.getD_none,show (1:Int) > 0 by decide,if_true]
      by_cases h:i < 0
      · simp only [h,if_true]
        exact cut_lo h
      · simp only [h,if_false]
        exact cut_hi h
  · cases hi with
    | none=>simp [sliceBounds,HT.sIx]
    | some i =>
      simp only [sliceBounds,HT.sIx,Option.getD_none,show (1:Int) > 0 by decide,if_true]
      by_cases h:i < 0
      · simp only [h,if_true]
        exact cut_lo h
      · simp only [h,if_false]
        exact cut_hi h
theorem slicePick_cut (its:List Value) (lo hi:Option Int):slicePick its.toArray lo hi none=((its.drop (HT.sIx its.length 0 lo)).take (HT.sIx its.length its.length hi - HT.sIx its.length 0 lo)).toArray:=by
  obtain ⟨h1,h2,h3⟩:=slice_bounds lo hi its.toArray.size
  unfold slicePick
  rw [h1,h2,h3]
  simp only [sliceRange_one,pick_run,List.size_toArray] <;> rfl
noncomputable def rSlL (K:PySem.W.Frag):V→Option Int→Option Int→Hp→VK→Prop:=fun x lo hi H Q=>∃ a xs,x=.ref a∧SqL K H a xs∧∀ p,H p=none→Q (.ref p) (upd H p (.lst (cutV xs lo hi)))
theorem sl_list:SlR X (rSlL X.K):=by
  intro pins s σ H x v vl vu lo hi sl Q I rx hs pl pu h
  obtain ⟨a,xs,rfl,hx,q⟩:=h
  cases rx
  obtain ⟨its,r,ht,hz⟩:=I.list hx
  have hlen:=r.length
  refine ⟨"list",_,slot_list_getitem.lookup,ht.isList.typeIs,?_⟩
  refine wpAny_getItem_list_slice ht.isList hs pl pu .none (by simp) ?_ (by rw [List.size_toArray] <;> omega)
  rw [slicePick_cut,← hlen]
  refine ⟨.ref s.heap.objs.size,_,I.laid (t':=s.toks) (o:=.lst (cutV xs lo hi)) (fun b ob q=>Heap.get?_push_of_some _ q) (Nat.le_refl _) ?_,rfl,q _ (I.hok.fresh (Nat.le_refl _))⟩
  exact ⟨Nat.le_trans (cutV_length xs lo hi) hz,_,0,(r.drop (HT.sIx xs.length 0 lo)).take (HT.sIx xs.length xs.length hi - HT.sIx xs.length 0 lo),Heap.get?_push_size _ rfl⟩

theorem call_len_seq:CallR X (.builtin "len") (fun xs H Q=>∃ p ys,xs=[.ref p]∧(SqL X.K H p ys∨SqT X.K H p ys)∧Q (.int ys.length) H):=by
  intro pins s σ H xs us Q I r h
  obtain ⟨p,ys,rfl,hq,q⟩:=h
  obtain ⟨u,rfl,rx⟩:=vals1 r
  cases rx
  have hn:=line63
  rcases hq with hq | hq
  · obtain ⟨its,r',pl,hz⟩:=I.list hq
    have hlen:=r'.length
    exact Calls.call_len_list pl.isList (by simp only [List.size_toArray] <;> omega) ⟨.int ys.length,H,I.tok _,⟨s.toks+1,by rw [List.size_toArray,hlen]⟩,q⟩
  · obtain ⟨its,r',pl,hz⟩:=I.tuple hq
    have hlen:=r'.length
    exact len_tuple pl (by simp only [List.size_toArray] <;> omega) ⟨.int ys.length,H,I.tok _,⟨s.toks+1,by rw [List.size_toArray,hlen]⟩,q⟩
theorem call_tuple_of:CallR X (.type "tuple") (fun xs H Q=>∃ p ys,xs=[.ref p]∧((SqL X.K H p ys∧∀ l,H l=none→Q (.ref l) (upd H l (.tup ys)))∨(SqT X.K H p ys∧Q (.ref p) H))):=by
  intro pins s σ H xs us Q I r h
  obtain ⟨p,ys,rfl,h⟩:=h
  obtain ⟨u,rfl,rx⟩:=vals1 r
  cases rx
  rcases h with ⟨hq,q⟩ | ⟨hq,q⟩
  · obtain ⟨its,r',pl,hz⟩:=I.list hq
    have hlen:=r'.length
    refine call_tuple_list pl.isList (fun h' kp=>?_) (by simp only [List.size_toArray] <;> omega)
    have I1:Inv X pins σ H { s with heap:=h' }:=I.kept (t':=s.toks) kp
    have I2:Inv X pins σ (upd H h'.objs.size (.tup ys)) { s with heap:=h'.push { cls:=.type "tuple",data:=.seq its.toArray } } :=
      I1.laid (t':=s.toks) (fun b o e=>Heap.get?_push_of_some _ e) (Nat.le_refl _) (show ObjOk X.prog X.w _ _ _ (.tup ys) from ⟨hz,its,r',IsTup.new _ _⟩)
    exact ⟨.ref h'.objs.size,_,I2,rfl,q _ (I1.hok.fresh (Nat.le_refl _))⟩
  · obtain ⟨its,r',pl,hz⟩:=I.tuple hq
    exact call_tuple_same pl ⟨.ref p,H,I,rfl,q⟩

noncomputable def tyV (K:PySem.W.Frag) (T:String) (x:V) (H:Hp):Prop:=match x with
  | .str _=>T="str"
  | .int _=>T="int"
  | .ref p=>(T="list"∧∃ xs,SqL K H p xs)∨(T="tuple"∧∃ o,K.lookup p=some o∧o.cls=.type "tuple"∧o.dict=none) ∨
      (T="dict"∧((∃ kvs,H p=some (.dK kvs))∨∃ kvs,H p=some (.dT kvs)))∨(T="set"∧∃ S n,H p=some (.set S n))
  | _=>False
theorem tyV_is {pins:List (Addr×Obj)} {σ:St} {H:Hp} {s:Shared} {T:String} {x:V} {v:Value} (I:Inv X pins σ H s) (r:RelV x v) (ty:tyV X.K T x H) :
    s.TypeIs v T∧∀ a,v=.ref a→∃ ob,s.heap.get? a=some ob∧ob.dict=none:=by
  cases x with
  | str z =>
    obtain ⟨t,rfl⟩:=r
    cases (show T="str" from ty)
    exact ⟨typeIs_str s z t,fun _ e=>nomatch e⟩
  | int i =>
    obtain ⟨t,rfl⟩:=r
    cases (show T="int" from ty)
    exact ⟨typeIs_int s i t,fun _ e=>nomatch e⟩
  | ref p =>
    cases r
    rcases ty with ⟨rfl,xs,hq⟩ | ⟨rfl,o,hk,hc,hd⟩ | ⟨rfl,hk⟩ | ⟨rfl,S,n,hk⟩
    · obtain ⟨its,_,pl,_⟩:=I.list hq
      refine ⟨pl.isList.typeIs,fun a e=>?_⟩
      cases e
      obtain ⟨o,n,e,c,hd,_⟩:=pl
      exact ⟨o,e,hd⟩
    · refine ⟨⟨o,I.kIn p o hk,hc⟩,fun a e=>?_⟩
      cases e
      exact ⟨o,I.kIn _ o hk,hd⟩
    · have z:∃ o,s.heap.get? p=some o∧o.ExactDict:=by
        rcases hk with ⟨kvs,hk⟩ | ⟨kvs,hk⟩
        · obtain ⟨_,_,_,_,o,_,_,e,ex,_⟩:=I.hok p _ hk
          exact ⟨o,e,ex⟩
        · obtain ⟨_,_,_,_,o,_,_,e,ex,_⟩:=I.hok p _ hk
          exact ⟨o,e,ex⟩
      obtain ⟨o,e,ex⟩:=z
      refine ⟨⟨o,e,ex.1⟩,fun a e2=>?_⟩
      cases e2
      exact ⟨o,e,ex.2.1⟩
    · obtain ⟨o,_,_,_,e,ex,_⟩:=I.hok p _ hk
      refine ⟨⟨o,e,ex.1⟩,fun a e2=>?_⟩
      cases e2
      exact ⟨o,e,ex.2.1⟩
  | _=>exact False.elim ty
noncomputable def tBM0 (K:PySem.W.Frag) (T:String) (r:V→List V→Hp→VK→Prop) (to:TE):TE:=fun σ H Q=>to σ H fun x H1=>tyV K T x H1∧r x [] H1 Q
noncomputable def tBM (K:PySem.W.Frag) (T:String) (r:V→List V→Hp→VK→Prop) (to:TE) (t:TA):TE:=fun σ H Q=>to σ H fun x H1=>tyV K T x H1∧t σ H1 fun xs H2=>r x xs H2 Q
variable {o e:Expr} {es:List Expr} {to:TE} {t:TA} {name:Str} {apos cpos:Pos} {T id:String} {r:V→List V→Hp→VK→Prop}
theorem pe_bm0 (pa:PlainAttrs T) (slot:Slot T name id) (hty:typeOf (.builtin id)=pure (.type "method_descriptor")) (hm:MtR X id r) (ho:PE X o to)
    (hbase:attributeBase o name X.env (eval o X.env)=eval o X.env:=by rfl) (hline:(apos.endLine == cpos.line)=true:=by rfl):PE X (.Call (.Attribute o name apos) [] [] cpos) (tBM0 X.K T r to):=by
  intro pins s σ H Q I h
  refine wpAny_Call_method0_late hbase hline (thn (ho pins s σ H _ I h) fun v s1 hz0=>?_)
  obtain ⟨x,H1,I1,r1,ty,q1⟩:=hz0
  obtain ⟨h1,h2⟩:=tyV_is I1 r1 ty
  exact ⟨T,id,pa,slot,hty,h1,h2,Calls.callWith_builtin rfl (PySem.evalArgs_none (hm pins s1 σ H1 x [] v [] Q I1 r1 .nil q1))⟩
theorem pe_bm (pa:PlainAttrs T) (slot:Slot T name id) (hty:typeOf (.builtin id)=pure (.type "method_descriptor")) (hm:MtR X id r) (ho:PE X o to) (ha:PA X (e::es) t)
    (hbase:attributeBase o name X.env (eval o X.env)=eval o X.env:=by rfl)
    (hfew:((backTo cpos (starEach (e::es) X.env)).all (fun x=>!x.1) && (backToKw cpos (keywordEach [] X.env)).all (fun x=>x.1.isSome)
      && decide ((e::es).length+([]:List Keyword).length+(if ([]:List Keyword).isEmpty then 0 else 1) < 30))=true:=by rfl)
    (hline:(apos.endLine == cpos.line)=true:=by rfl) (hs:starEach (e::es) X.env=(false,eval e X.env)::starEach es X.env:=by rfl) (hplain:(backTo cpos (starEach es X.env)).any (·.1)=false:=by rfl) :
    PE X (.Call (.Attribute o name apos) (e::es) [] cpos) (tBM X.K T r to t):=by
  intro pins s σ H Q I h
  refine wpAny_Call_method_late hbase hfew hline rfl (thn (ho pins s σ H _ I h) fun v s1 hz0=>?_)
  obtain ⟨x,H1,I1,r1,ty,q1⟩:=hz0
  obtain ⟨h1,h2⟩:=tyV_is I1 r1 ty
  refine ⟨T,id,pa,slot,hty,h1,h2,?_⟩
  have hA:=ha cpos pins s1 σ H1 _ I1 q1
  rw [hs] at hA ⊢
  refine Calls.callWith_builtin (by show (false || (backTo cpos (starEach es X.env)).any (·.1))=false; rw [hplain] <;> rfl) (Calls.evalArgs_plain ?_)
  exact thn hA fun us s2 hz0=>by
    obtain ⟨vs,H2,I2,r2,q2⟩:=hz0
    exact hm pins s2 σ H2 x vs v us Q I2 r1 r2 q2
end
end L2
namespace L2
open PySem PySem.Spec PyProof.Rows
noncomputable def MtM (X:Cx) (id:String) (r:V→List V→Hp→VK→Prop):Prop :=
  ∀ (pins:List (Addr×Obj)) (s:Shared) (σ:St) (H:Hp) (x:V) (xs:List V) (v:Value) (us:List Value) (Q:VK),Inv X pins σ H s→RelV x v→Vals xs us→r x xs H Q →
    wpAny (model X.prog X.w) X.A (call (.builtin id) (v::us)) (EP X pins σ Q) X.xe s

theorem Vals.one {x:V} {us:List Value} (h:Vals [x] us):∃ u,us=[u]∧RelV x u:=by
  cases h with
  | cons r t=>cases t; exact ⟨_,rfl,r⟩
theorem Vals.zero:∀ {us:List Value},Vals [] us→us=[]
  | _,.nil=>rfl
theorem Vals.reverse {xs:List V} {us:List Value} (h:Vals xs us):Vals xs.reverse us.reverse:=by
  induction h with
  | nil=>exact .nil
  | cons r t ih=>rw [List.reverse_cons,List.reverse_cons]; exact Vals.append ih (.cons r .nil)
theorem Vals.rep {xs:List V} {us:List Value} (h:Vals xs us):∀ k:Nat,Vals (List.replicate k xs).flatten (List.replicate k us).flatten
  | 0=>.nil
  | k+1=>by
    rw [List.replicate_succ,List.replicate_succ,List.flatten_cons,List.flatten_cons]
    exact Vals.append h (Vals.rep h k)
theorem foldl_rep (its:List Value):∀ (k:Nat) (acc:List Value),
    List.foldl (fun x1 x2=>x1++x2) acc.toArray (List.replicate k its.toArray)=(acc++(List.replicate k its).flatten).toArray
  | 0,acc=>by simp
  | k+1,acc=>by
    have e:acc.toArray++its.toArray=(acc++its).toArray:=by simp
    have e2:(acc++its)++(List.replicate k its).flatten=acc++(List.replicate (k+1) its).flatten:=by
      rw [List.replicate_succ,List.flatten_cons,List.append_assoc]
    rw [← e2,← foldl_rep its k (acc++its),← e,List.replicate_succ,List.foldl_cons]

section
variable {X:Cx} {pins:List (Addr×Obj)} {σ:St} {H:Hp} {s:Shared} {l b:Addr} {xs ys zs:List V}
theorem Inv.lset {its its':List Value} {n:Nat} {f:Array Value→Array Value} {t':Nat} (I:Inv X pins σ H s) (hH:H l=some (.lst xs))
    (e:s.heap.get? l=some { cls:=.type "list",data:=.seq its.toArray n }) (hf:f its.toArray=its'.toArray) (hv:Vals ys its') (hz:ys.length≤sizeLine) :
    Inv X pins σ (upd H l (.lst ys)) { s with heap:=s.heap.update l (Obj.mapSeq f),toks:=t' }:=by
  have q:=PySem.IsL.update e f
  rw [hf] at q
  refine I.write (x:=l) (e:=l) (by rw [hH]; exact trivial) (.inl rfl) (fun b' u hb hu=>(Heap.get?_update_other s.heap (Obj.mapSeq f) (Ne.symm hb)).trans hu) ⟨_,q⟩ ?_
  exact ⟨hz,its',_,hv,q⟩
theorem Inv.lnew {its:List Value} {t':Nat} (I:Inv X pins σ H s) (hv:Vals ys its) (hz:ys.length≤sizeLine) :
    Inv X pins σ (upd H s.heap.objs.size (.lst ys)) { s with heap:=s.heap.push { cls:=.type "list",data:=.seq its.toArray },toks:=t' } :=
  I.laid (fun _ _ q=>Heap.get?_push_of_some _ q) (Nat.le_refl _) ⟨hz,its,0,hv,Heap.get?_push_size _ rfl⟩
theorem Inv.fresh (I:Inv X pins σ H s):H s.heap.objs.size=none:=I.hok.fresh (Nat.le_refl _)
theorem Inv.lstM (I:Inv X pins σ H s) (hH:H l=some (.lst xs)):xs.length≤sizeLine∧∃ (its:List Value) (n:Nat),Vals xs its∧xs.length=its.length∧s.heap.get? l=some { cls:=.type "list",data:=.seq its.toArray n }:=by
  obtain ⟨z,its,n,r,e⟩:=I.hok l _ hH
  exact ⟨z,its,n,r,r.length,e⟩

theorem notLongL {n:Nat} (h:n≤sizeLine):Builtin.List.listTooLong n=false:=by
  unfold Builtin.List.listTooLong
  exact decide_eq_false (by omega)
end
section
variable {X:Cx}
noncomputable def rAppend:V→List V→Hp→VK→Prop:=fun x vs H Q=>∃ l xs y,x=.ref l∧vs=[y]∧H l=some (.lst xs)∧xs.length < sizeLine∧Q .non (upd H l (.lst (xs++[y])))
theorem mt_append:MtM X "list.append" rAppend:=by
  intro pins s σ H x vs v us Q I rx rv h
  obtain ⟨l,xs,y,rfl,rfl,hH,hz,q⟩:=h
  cases rx
  obtain ⟨u,rfl,ru⟩:=rv.one
  obtain ⟨z,its,n,r,hl,e⟩:=I.lstM hH
  refine call_meets F.slot_list_append ⟨_,e,rfl⟩ F.entry_list_append (F.args_list_append_2 _ _) (PySem.list_append l its.toArray n u (by rw [List.size_toArray]; omega)) ⟨e,?_⟩
  refine ⟨.non,_,I.lset (its':=its++[u]) hH e (by simp) (r.append (.cons ru .nil)) ?_,rfl,q⟩
  rw [List.length_append,List.length_singleton]
  omega

noncomputable def rReverse:V→List V→Hp→VK→Prop:=fun x vs H Q=>∃ l xs,x=.ref l∧vs=[]∧H l=some (.lst xs)∧Q .non (upd H l (.lst xs.reverse))
theorem mt_reverse:MtM X "list.reverse" rReverse:=by
  intro pins s σ H x vs v us Q I rx rv h
  obtain ⟨l,xs,rfl,rfl,hH,q⟩:=h
  cases rx
  have hus:=rv.zero
  subst hus
  obtain ⟨z,its,n,r,hl,e⟩:=I.lstM hH
  refine call_meets F.slot_list_reverse ⟨_,e,rfl⟩ F.entry_list_reverse (F.args_list_reverse_1 _) (AutoSeq1.list_reverse_list_0 l its.toArray n (by rw [List.size_toArray]; omega)) ⟨e,?_⟩
  refine ⟨.non,_,I.lset (its':=its.reverse) hH e (by simp) r.reverse ?_,rfl,q⟩
  rw [List.length_reverse]
  omega

noncomputable def rCat:R2:=fun x y H Q=>∃ l b xs zs,x=.ref l∧y=.ref b∧H l=some (.lst xs)∧H b=some (.lst zs)∧xs.length+zs.length≤sizeLine∧∀ p,H p=none→Q (.ref p) (upd H p (.lst (xs++zs)))
theorem op_cat:OpR X (binaryOp .Add) rCat:=by
  intro pins s σ H x y v u Q I rx ry h
  obtain ⟨l,b,xs,zs,rfl,rfl,hH,hB,hz,q⟩:=h
  cases rx
  cases ry
  obtain ⟨z,its,n,r,hl,e⟩:=I.lstM hH
  obtain ⟨z2,its2,n2,r2,hl2,e2⟩:=I.lstM hB
  refine PySem.P.add_list e e2 ?_ (by rw [List.size_toArray,List.size_toArray]; omega)
  have ea:its.toArray++its2.toArray=(its++its2).toArray:=by simp
  rw [ea]
  exact ⟨.ref _,_,I.lnew (t':=s.toks) (r.append r2) (by rw [List.length_append]; omega),rfl,q _ I.fresh⟩
noncomputable def rRep:R2:=fun x y H Q=>∃ l k xs,x=.ref l∧y=.int k∧H l=some (.lst xs)∧-(2 ^ 63)≤k∧k < 2 ^ 63∧xs.length * k.toNat≤sizeLine ∧
  ∀ p,H p=none→Q (.ref p) (upd H p (.lst (List.replicate k.toNat xs).flatten))
theorem len_rep {α:Type} (xs:List α) (k:Nat):(List.replicate k xs).flatten.length=k * xs.length:=by
  induction k with
  | zero=>simp
  | succ k ih=>rw [List.replicate_succ,List.flatten_cons,List.length_append,ih,Nat.succ_mul,Nat.add_comm]
theorem op_rep:OpR X (binaryOp .Mult) rRep:=by
  intro pins s σ H x y v u Q I rx ry h
  obtain ⟨l,k,xs,rfl,rfl,hH,h1,h2,hz,q⟩:=h
  cases rx
  obtain ⟨t,rfl⟩:=ry
  obtain ⟨z,its,n,r,hl,e⟩:=I.lstM hH
  have hlen:its.toArray.size * k.toNat≤sizeLine:=by rw [List.size_toArray,← hl]; exact hz
  have hcap:¬ its.toArray.size * k.toNat > (2 ^ 63 - 1) / 8:=by
    have:(sizeLine:Nat)≤(2 ^ 63 - 1) / 8:=by decide
    omega
  have hfit:¬ (!Builtin.List.listFitsIndex k)=true:=by
    rw [fitsIndex_both h1 h2]
    exact Bool.false_ne_true
  have hlong:¬ Builtin.List.listTooLong (its.toArray.size * k.toNat)=true:=by
    rw [notLongL hlen]
    exact Bool.false_ne_true
  have hnew:List.foldl (fun x1 x2=>x1++x2) #[] (List.replicate (if its.toArray.isEmpty=true then 0 else k.toNat) its.toArray)=(List.replicate k.toNat its).flatten.toArray:=by
    have f0:∀ m:Nat,List.foldl (fun x1 x2=>x1++x2) #[] (List.replicate m its.toArray)=(List.replicate m its).flatten.toArray:=fun m=>by
      have:=foldl_rep its m []
      rw [List.nil_append] at this
      exact this
    rw [f0]
    cases its with
    | nil=>simp
    | cons a r'=>rw [if_neg (by simp)]
  refine wpAny_binaryOp_repeat_ref (T:="list") (U:="int") (by decide) ⟨_,e,rfl⟩ (fun s'=>typeIs_int s' k t) noFill_list_mul F.fills_int_mul F.slot_int_rmul repeat_list F.slot_int_index.lookup
    (call_meets F.slot_int_rmul (typeIs_int s k t) F.entry_int_rmul (F.args_int_rmul_2 _ _) (int___rmul___int_list k t l its.toArray n)
      ⟨e,rfl,⟨_,e,rfl⟩,call_meets F.slot_list_mul ⟨_,e,rfl⟩ F.entry_list_mul (F.args_list_mul_2 _ _) (AutoListH.list___mul___list_int_3 l its.toArray n k t hfit hcap hlong) ⟨e,?_⟩⟩)
  rw [hnew]
  exact ⟨.ref _,_,I.lnew (t':=s.toks) (r.rep k.toNat) (by rw [len_rep,Nat.mul_comm]; exact hz),rfl,q _ I.fresh⟩

end
section
variable {prog:Program} {w:World} {A:Around} {E:Value→Shared→Prop} {s:Shared}
end
section
variable {X:Cx}
end
end L2
namespace L2
open PySem PySem.Spec PyProof.Rows
section
variable {κ:Type} [DecidableEq κ]
noncomputable def valV (kvs:List (κ×V)) (k:κ):Option V:=(kvs.find? fun kv=>decide (kv.1=k)).map (·.2)
noncomputable def putK (kvs:List (κ×V)) (k:κ) (v:V):List (κ×V) :=
  if (kvs.any fun kv=>decide (kv.1=k))=true then kvs.map (fun kv=>if kv.1=k then (kv.1,v) else kv) else kvs++[(k,v)]
theorem valV_pos {p:κ×V} {r:List (κ×V)} {k:κ} (e:p.1=k):valV (p::r) k=some p.2:=by simp [valV,List.find?_cons,e]
theorem valV_neg {p:κ×V} {r:List (κ×V)} {k:κ} (e:¬ p.1=k):valV (p::r) k=valV r k:=by simp [valV,List.find?_cons,e]
theorem valV_any (k:κ):∀ kvs:List (κ×V),(kvs.any fun kv=>decide (kv.1=k))=(valV kvs k).isSome
  | []=>rfl
  | p::r=>by
    rw [List.any_cons]
    by_cases e:p.1=k
    · simp only [valV_pos e,decide_eq_true e,Bool.true_or,Option.isSome_some]
    · rw [valV_neg e,decide_eq_false e,Bool.false_or]; exact valV_any k r
theorem length_putK (kvs:List (κ×V)) (k:κ) (v:V):(putK kvs k v).length≤kvs.length+1:=by
  unfold putK
  split
  · rw [List.length_map]; omega
  · rw [List.length_append,List.length_cons,List.length_nil]; omega
theorem RelO.isSome_eq {o:Option V} {u:Option Value} (r:RelO o u):o.isSome=u.isSome:=by
  cases o with
  | none=>cases u with
    | none=>rfl
    | some _=>exact (show False from r).elim
  | some _=>cases u with
    | none=>exact (show False from r).elim
    | some _=>rfl
theorem KV.val {kvs:List (κ×V)} {vs:List (κ×Value)} (r:KV kvs vs) (k:κ):RelO (valV kvs k) (valueAt vs k):=by
  unfold KV at r
  induction r with
  | nil=>exact True.intro
  | @cons p q ps qs h t ih =>
    obtain ⟨h1,h2⟩:=h
    by_cases e:p.1=k
    · have e':q.1=k:=h1.symm.trans e
      have b:valueAt (q::qs) k=some q.2:=by simp [valueAt,List.find?_cons,e']
      rw [valV_pos e,b]; exact h2
    · have e':¬ q.1=k:=fun z=>e (h1.trans z)
      have b:valueAt (q::qs) k=valueAt qs k:=by simp [valueAt,List.find?_cons,e']
      rw [valV_neg e,b]; exact ih
theorem KV.any {kvs:List (κ×V)} {vs:List (κ×Value)} (r:KV kvs vs) (k:κ):(kvs.any fun kv=>decide (kv.1=k))=vs.any fun kv=>decide (kv.1=k):=by
  unfold KV at r
  induction r with
  | nil=>rfl
  | cons h t ih=>rw [List.any_cons,List.any_cons,ih,h.1]
theorem KV.repl {kvs:List (κ×V)} {vs:List (κ×Value)} (r:KV kvs vs) (k:κ) {y:V} {u:Value} (ry:RelV y u) :
    KV (kvs.map fun kv=>if kv.1=k then (kv.1,y) else kv) (vs.map fun kv=>if kv.1=k then (kv.1,u) else kv):=by
  unfold KV at r ⊢
  induction r with
  | nil=>exact .nil
  | @cons p q ps qs h t ih =>
    rw [List.map_cons,List.map_cons]
    refine .cons ?_ ih
    obtain ⟨h1,h2⟩:=h
    by_cases e:p.1=k
    · rw [if_pos e,if_pos (h1.symm.trans e)]; exact ⟨h1,ry⟩
    · rw [if_neg e,if_neg (fun z=>e (h1.trans z))]; exact ⟨h1,h2⟩
theorem KV.put {kvs:List (κ×V)} {vs:List (κ×Value)} (r:KV kvs vs) (k:κ) {y:V} {u:Value} (ry:RelV y u):KV (putK kvs k y) (stored vs k u):=by
  unfold putK stored
  rw [r.any k]
  by_cases e:(vs.any fun kv=>decide (kv.1=k))=true
  · rw [if_pos e,if_pos e]; exact r.repl k ry
  · rw [if_neg e,if_neg e]; exact Paired.snoc r ⟨rfl,ry⟩
theorem KV.length {kvs:List (κ×V)} {vs:List (κ×Value)} (r:KV kvs vs):kvs.length=vs.length:=Paired.length r
end
theorem kV_is {P:Program} {w:World} {k:Key} {u:Value} (r:RelV (kV k) u):(mixKind P w).is k u=true:=by
  cases k with
  | inl i=>obtain ⟨t,e⟩:=(show ∃ t,u=Value.int i t from r); subst e; exact mixKind_int P w i t
  | inr x=>obtain ⟨t,e⟩:=(show ∃ t,u=Value.str x t from r); subst e; exact mixKind_str P w x t
theorem items_are {P:Program} {w:World}:∀ {ks:List Key} {us:List Value},Vals (ks.map kV) us→ItemsAre (mixKind P w) ks us
  | [],_,r=>by rw [List.map_nil] at r; cases r; exact .nil
  | k::ks,_,r=>by
    rw [List.map_cons] at r
    cases r with
    | cons h t=>exact .cons (kV_is h) (items_are t)

noncomputable abbrev KT (H:Hp):List (List Key×V)→List (List Key×Addr×Value)→Prop:=Paired fun p q=>p.1=q.1∧H q.2.1=some (.tup (p.1.map kV))∧RelV p.2 q.2.2
theorem KT.val {H:Hp} {kvs:List (List Key×V)} {xs:List (List Key×Addr×Value)} (r:KT H kvs xs) (k:List Key):RelO (valV kvs k) ((atKey xs k).map (·.2)):=by
  induction r with
  | nil=>exact True.intro
  | @cons p q ps qs h t ih =>
    obtain ⟨h1,_,h2⟩:=h
    by_cases e:p.1=k
    · have e':q.1=k:=h1.symm.trans e
      have b:atKey (q::qs) k=some q.2:=by simp [atKey,List.find?_cons,e']
      rw [valV_pos e,b]; exact h2
    · have e':¬ q.1=k:=fun z=>e (h1.trans z)
      have b:atKey (q::qs) k=atKey qs k:=by simp [atKey,List.find?_cons,e']
      rw [valV_neg e,b]; exact ih
theorem KT.repl {H:Hp} {kvs:List (List Key×V)} {xs:List (List Key×Addr×Value)} (r:KT H kvs xs) (k:List Key) {y:V} {u:Value} (ry:RelV y u) :
    KT H (kvs.map fun kv=>if kv.1=k then (kv.1,y) else kv) (xs.map (putAt k u)):=by
  induction r with
  | nil=>exact .nil
  | @cons p q ps qs h t ih =>
    rw [List.map_cons,List.map_cons]
    refine .cons ?_ ih
    obtain ⟨h1,h2,h3⟩:=h
    unfold putAt
    by_cases e:p.1=k
    · rw [if_pos e,if_pos (h1.symm.trans e)]; exact ⟨h1,h2,ry⟩
    · rw [if_neg e,if_neg (fun z=>e (h1.trans z))]; exact ⟨h1,h2,h3⟩
theorem KT.put {H:Hp} {kvs:List (List Key×V)} {xs:List (List Key×Addr×Value)} (r:KT H kvs xs) (k:List Key) {b:Addr} {y:V} {u:Value} (hb:H b=some (.tup (k.map kV))) (ry:RelV y u) :
    KT H (putK kvs k y) (storedH xs k b u):=by
  have e:(kvs.any fun kv=>decide (kv.1=k))=(atKey xs k).isSome:=by
    rw [valV_any,(r.val k).isSome_eq,Option.isSome_map]
  unfold putK storedH
  rw [e]
  by_cases q:(atKey xs k).isSome=true
  · rw [if_pos q,if_pos q]; exact r.repl k ry
  · rw [if_neg q,if_neg q]; exact Paired.snoc r ⟨rfl,hb,ry⟩
theorem KT.keeps {H H':Hp} {kvs:List (List Key×V)} {xs:List (List Key×Addr×Value)} (r:KT H kvs xs) (ht:∀ b ys,H b=some (.tup ys)→H' b=some (.tup ys)):KT H' kvs xs :=
  Paired.mapP r fun _ _ z=>⟨z.1,ht _ _ z.2.1,z.2.2⟩

section
variable {P:Program} {w:World} {H:Hp} {h:Heap} {a:Addr}
theorem rd_of {u:HO} (ok:HOk P w H h) (e:Rd H a u):ObjOk P w H h a u:=e.ok ok
theorem dk_rd {kvs:List (Key×V)} (ok:HOk P w H h) (e:Rd H a (.dK kvs)):kvs.length≤sizeLine∧(a == sysModules)=false∧∃ vs,KV kvs vs∧h.DictOf (mixKind P w) a vs :=
  show ObjOk P w H h a (.dK kvs) from rd_of ok e
theorem dk_of {kvs:List (Key×V)} (ok:HOk P w H h) (e:H a=some (.dK kvs)):kvs.length≤sizeLine∧(a == sysModules)=false∧∃ vs,KV kvs vs∧h.DictOf (mixKind P w) a vs:=dk_rd ok (.inl e)
theorem key_of {ks:List Key} (ok:HOk P w H h) (e:H a=some (.tup (ks.map kV))):(tupleKind (mixKind P w)).is h ks a:=by
  obtain ⟨_,its,r,o,h1,h2,n,h3⟩:=(show ObjOk P w H h a (.tup (ks.map kV)) from ok a _ e)
  exact ⟨o,its.toArray,n,h1,h2,h3,by simpa using items_are r⟩
theorem dt_rd {kvs:List (List Key×V)} (ok:HOk P w H h) (e:Rd H a (.dT kvs)):kvs.length≤sizeLine∧(a == sysModules)=false ∧
    ∃ xs,KT H kvs xs∧h.DictOfH (tupleKind (mixKind P w)) a xs:=by
  obtain ⟨z,y,xs,r,o,es,ep,h1,h2,h3,h4,h5⟩:=(show ObjOk P w H h a (.dT kvs) from rd_of ok e)
  refine ⟨z,y,xs,r,o,es,ep,h1,h2,h3,h4,fun x hx=>?_,h5⟩
  have all:∀ {l:List (List Key×V)} {m:List (List Key×Addr×Value)},KT H l m→∀ x∈m,(tupleKind (mixKind P w)).is h x.1 x.2.1:=by
    intro l m q
    induction q with
    | nil=>intro x hx; exact nomatch hx
    | @cons p q ps qs hq t ih =>
      intro x hx
      rcases List.mem_cons.mp hx with e | hx
      · subst e
        exact key_of ok (by rw [← hq.1]; exact hq.2.1)
      · exact ih x hx
  exact all r x hx
theorem dt_of {kvs:List (List Key×V)} (ok:HOk P w H h) (e:H a=some (.dT kvs)):kvs.length≤sizeLine∧(a == sysModules)=false ∧
    ∃ xs,KT H kvs xs∧h.DictOfH (tupleKind (mixKind P w)) a xs:=dt_rd ok (.inl e)
end
noncomputable def DGet (H:Hp) (a:Addr) (y:V) (r:Option V):Prop :=
  (∃ kvs k,Rd H a (.dK kvs)∧y=kV k∧r=valV kvs k)∨∃ kvs k b,Rd H a (.dT kvs)∧y=.ref b∧H b=some (.tup (k.map kV))∧r=valV kvs k
noncomputable def DPut (H:Hp) (a:Addr) (y v:V) (H':Hp):Prop :=
  (∃ kvs k,H a=some (.dK kvs)∧y=kV k∧kvs.length < sizeLine∧H'=upd H a (.dK (putK kvs k v))) ∨
  ∃ kvs k b,H a=some (.dT kvs)∧y=.ref b∧H b=some (.tup (k.map kV))∧kvs.length < sizeLine∧H'=upd H a (.dT (putK kvs k v))
theorem DGet.k {H:Hp} {a:Addr} {kvs:List (Key×V)} {k:Key} (e:H a=some (.dK kvs)):DGet H a (kV k) (valV kvs k):=.inl ⟨kvs,k,.inl e,rfl,rfl⟩
theorem DPut.k {H:Hp} {a:Addr} {kvs:List (Key×V)} {k:Key} {v:V} (e:H a=some (.dK kvs)) (hl:kvs.length < sizeLine):DPut H a (kV k) v (upd H a (.dK (putK kvs k v))):=.inl ⟨kvs,k,e,rfl,hl,rfl⟩
section
variable {X:Cx} {pins:List (Addr×Obj)} {σ:St} {H:Hp} {s:Shared} {a:Addr} {y v:V} {u r:Value} {o:Option V} {A:Around} {E:Value→Shared→Prop}
theorem Inv.big (I:Inv X pins σ H s):sysModules < s.heap.objs.size:=by
  have h:mainGlobals < s.heap.objs.size:=(I.mod.glob.keeps I.bk).lt
  exact Nat.lt_trans (by decide) h

theorem d_getItem {Q:Value→Shared→Prop} (hu:A.units+1 < cLine) (I:Inv X pins σ H s) (g:DGet H a y (some v)) (ry:RelV y u) (h:∀ w' s',Inv X pins σ H s'→RelV v w'→Q w' s') :
    wpAny (model X.prog X.w) A (getItem (.ref a) u) Q E s:=by
  rcases g with ⟨kvs,k,e,ey,l⟩ | ⟨kvs,k,b,e,ey,eb,l⟩
  · subst ey
    obtain ⟨z,hd,vs,rel,dd⟩:=dk_rd I.hok e
    obtain ⟨w',hw,rw'⟩:=RelO.some_of (v:=v) (o:=valueAt vs k) (by rw [l]; exact rel.val k)
    exact wpAny_getItem_of (kV_is ry) dd.mapOf hw (h w' _ (I.tok _) rw')
  · subst ey
    cases (show u=Value.ref b from ry)
    obtain ⟨z,hd,xs,rel,dd⟩:=dt_rd I.hok e
    obtain ⟨w',hw,rw'⟩:=RelO.some_of (v:=v) (o:=(atKey xs k).map (·.2)) (by rw [l]; exact rel.val k)
    obtain ⟨p,hp,hp2⟩:=Option.map_eq_some_iff.mp hw
    refine wpAny_getItem_heap (tupleKind_room_in1 hu) (key_of I.hok eb) dd hp ?_
    rw [hp2]
    exact h w' _ (I.tok _) rw'
theorem d_write {h':Heap} {t':Nat} {ob:HO} (I:Inv X pins σ H s) (mu:Mut (H a)) (hs:Heap.SameBut a s.heap h') (he:∃ q,h'.get? a=some q) (new:ObjOk X.prog X.w (upd H a ob) h' a ob) :
    Inv X pins σ (upd H a ob) { s with heap:=h',toks:=t' } :=
  I.write (x:=a) (e:=a) mu (.inl rfl) (fun b q hb z=>(hs.2 b hb).trans z) he new
theorem dk_new {P:Program} {w:World} {H':Hp} {h':Heap} {kvs:List (Key×V)} {vs:List (Key×Value)} (z:kvs.length≤sizeLine) (hd:(a == sysModules)=false) (rel:KV kvs vs) (dd:h'.DictOf (mixKind P w) a vs) :
    ObjOk P w H' h' a (.dK kvs):=⟨z,hd,vs,rel,dd⟩
theorem d_setItem {H':Hp} {Q:Unit→Shared→Prop} (hu:A.units+1 < cLine) (I:Inv X pins σ H s) (g:DPut H a y v H') (ry:RelV y u) (rv:RelV v r) (h:∀ s',Inv X pins σ H' s'→Q () s') :
    wpAny (model X.prog X.w) A (setItem (.ref a) u r) Q E s:=by
  rcases g with ⟨kvs,k,e,ey,l,eH⟩ | ⟨kvs,k,b,e,ey,eb,l,eH⟩
  · subst ey eH
    obtain ⟨z,hd,vs,rel,dd⟩:=dk_of I.hok e
    have hz:vs.length≤sizeLine:=by rw [← rel.length]; exact z
    have hl:(putK kvs k v).length≤sizeLine:=by have:=length_putK kvs k v; omega
    refine wpAny_setItem_pairs (hsz:=hz) (kV_is ry) dd fun h' dd' hs=>h _ ?_
    have he:∃ q,h'.get? a=some q:=let ⟨q,_,_,hq,_⟩:=dd'; ⟨q,hq⟩
    exact d_write I (by rw [e]; exact True.intro) hs he (dk_new hl hd (rel.put k rv) dd')
  · subst ey eH
    cases (show u=Value.ref b from ry)
    obtain ⟨z,hd,xs,rel,dd⟩:=dt_of I.hok e
    have hz:xs.length≤sizeLine:=by rw [← Paired.length rel]; exact z
    have hl:(putK kvs k v).length≤sizeLine:=by have:=length_putK kvs k v; omega
    refine wpAny_setItem_heap (hsz:=hz) (tupleKind_room_in1 hu) (key_of I.hok eb) dd fun h' dd' hs=>h _ ?_
    obtain ⟨q,es,ep,hq,h2,h3,h4,_,h5⟩:=dd'
    refine d_write I (by rw [e]; exact True.intro) hs ⟨q,hq⟩ ⟨hl,hd,_,(rel.put k eb rv).keeps fun c ys ec=>?_,q,es,ep,hq,h2,h3,h4,h5⟩
    rw [upd_ne (ne_of ec e (fun z=>nomatch z))]
    exact ec
end
section
variable {X:Cx} {pins:List (Addr×Obj)} {σ:St} {H:Hp} {s:Shared} {a:Addr} {kvs:List (Key×V)} {k:Key} {u:Value} {A:Around} {E:Value→Shared→Prop}
end
noncomputable def NoSl (i:Expr):Prop:=∀ ov iv,subscripted i false ov iv=operate [ov,iv] (getItem ov iv)
theorem subD_of {prog:Program} {w:World} {A:Around} {E:Value→Shared→Prop} {s:Shared} {env:Env} {value slice:Expr} {pos:Pos} {T id:String} {Q:Value→Shared→Prop}
    (hl:typeLookup (.type T) "__getitem__"=pure (some (.builtin id))) (hs:NoSl slice)
    (h:wpAny (model prog w) A (eval value env) (fun o s₁=>wpAny (model prog w) A (eval slice env) (fun i s₂=>s₂.TypeIs o T∧wpAny (model prog w) A (getItem o i) Q E s₂) E s₁) E s) :
    wpAny (model prog w) A (eval (.Subscript value slice pos) env) Q E s:=by
  refine Subscript_ (wpAny_mono h (fun o s₁ h₁=>wpAny_mono h₁ (fun i s₂ h₂=>?_) fun _ _ x=>x) fun _ _ x=>x)
  obtain ⟨hT,h₂⟩:=h₂
  unfold subscriptTail
  refine wpAny_bind ?_
  rw [getitemInPython_of_ne hT.not_modules]
  refine wpAny_bind (wpAny_specialOf hT hl ?_)
  have fin:wpAny (model prog w) A (subscripted slice false o i) (fun r s₃=>wpAny (model prog w) A (letTemporaryGo value o r >>= fun _=>pure r) Q E s₃) E s₂:=by
    rw [hs o i]
    exact wpAny_operating (wpAny_mono h₂ (fun r s₃ h₃=>wpAny_bind (wpAny_letTemporaryGo (wpAny_pure h₃))) fun _ _ x=>x)
  first
    | exact wpAny_pure (wpAny_bind fin)
    | exact wpAny_bind (wpAny_pure (wpAny_bind fin))
    | exact wpAny_bind fin

theorem dict_typeIs {X:Cx} {pins:List (Addr×Obj)} {σ:St} {H:Hp} {s:Shared} {a:Addr} {y:V} {o:Option V} (I:Inv X pins σ H s) (g:DGet H a y o):s.TypeIs (.ref a) "dict":=by
  rcases g with ⟨kvs,k,e,_,_⟩ | ⟨kvs,k,b,e,_,_,_⟩
  · obtain ⟨_,_,vs,_,dd⟩:=dk_rd I.hok e
    exact dd.typeIs
  · obtain ⟨_,_,xs,_,dd⟩:=dt_rd I.hok e
    exact dd.typeIs
noncomputable def tDGet (td ty:TE):TE:=fun σ H Q=>td σ H fun x H1=>ty σ H1 fun y H2=>∃ a v,x=.ref a∧DGet H2 a y (some v)∧Q v H2
noncomputable def sDPut (td ty tv:TE):TS:=fun D σ H=>tv σ H fun v H1=>td σ H1 fun x H2=>ty σ H2 fun y H3=>∃ a H4,x=.ref a∧DPut H3 a y v H4∧D.nx σ H4
section
variable {X:Cx} {o i e value:Expr} {pos pos' tpos:Pos} {td ty tv:TE}
theorem pe_dget (hu:X.A.units+1 < cLine) (ho:PE X o td) (hi:PE X i ty) (hs:NoSl i):PE X (.Subscript o i pos) (tDGet td ty):=by
  intro pins s σ H Q I h
  refine subD_of PySem.F.slot_dict_getitem.lookup hs (thn (ho pins s σ H _ I h) fun u s1 ⟨x,H1,I1,rx,q1⟩=>thn (hi pins s1 σ H1 _ I1 q1) fun iv s2 hz0=>?_)
  obtain ⟨y,H2,I2,ry,a,v,ex,g,q2⟩:=hz0
  subst ex
  obtain rfl:u=Value.ref a:=rx
  exact ⟨dict_typeIs I2 g,d_getItem hu I2 g ry fun w' s3 I3 rw'=>⟨v,H2,I3,rw',q2⟩⟩
theorem ps_dput (hu:X.A.units+1 < cLine) (ho:PE X o td) (hi:PE X i ty) (hv:PE X value tv) (hs:swapsWith value (some (.Subscript o i pos')) pos.line X.env=pure false) :
    PS X (.Assign [.Subscript o i pos'] value pos) (sDPut td ty tv):=by
  intro pins s σ H D I h
  refine wpAny_Assign_Subscript (thn (hv pins s σ H _ I h) fun r s1 ⟨v,H1,I1,rv,q1⟩=>thn (ho pins s1 σ H1 _ I1 q1) fun u s2 ⟨x,H2,I2,rx,q2⟩=>thn (hi pins s2 σ H2 _ I2 q2) fun iv s3 hz0=>?_) hs
  obtain ⟨y,H3,I3,ry,a,H4,ex,g,q3⟩:=hz0
  subst ex
  obtain rfl:u=Value.ref a:=rx
  exact d_setItem hu I3 g ry rv fun s4 I4=>⟨σ,H4,I4,q3⟩
end
theorem dk_empty {P:Program} {w:World} {H:Hp} (h:Heap) (hb:sysModules < h.objs.size):ObjOk P w H (h.push { cls:=.type "dict",data:=.dict #[] }) h.objs.size (.dK []) :=
  ⟨Nat.zero_le _,beq_eq_false_iff_ne.mpr (Ne.symm (Nat.ne_of_lt hb)),[],.nil,Heap.DictOf.new h⟩
section
variable {X:Cx} {pos:Pos}
end
noncomputable def tPairs:List (TE×TE)→St→Hp→(List (V×V)→Hp→Prop)→Prop
  | [],_,H,Q=>Q [] H
  | (tk,tv)::r,σ,H,Q=>tk σ H fun x H1=>tv σ H1 fun y H2=>tPairs r σ H2 fun ps H3=>Q ((x,y)::ps) H3
noncomputable abbrev VV:List (V×V)→List (Value×Value)→Prop:=Paired fun p q=>RelV p.1 q.1∧RelV p.2 q.2
noncomputable def PPs (X:Cx) (pos:Pos) (keys:List (Option Expr)) (values:List Expr) (trs:List (TE×TE)):Prop :=
  ∀ (pins:List (Addr×Obj)) (s:Shared) (σ:St) (H:Hp) (Q:List (V×V)→Hp→Prop),Inv X pins σ H s→tPairs trs σ H Q →
    wpAny (model X.prog X.w) X.A (evalPairs (pairTrees keys values X.env pos)) (fun vs s'=>∃ ps H',Inv X pins σ H' s'∧VV ps vs∧Q ps H') X.xe s
theorem pps_nil {X:Cx} {pos:Pos}:PPs X pos [] [] []:=fun pins s σ H Q I h=>pairTrees_nil_walk ⟨[],H,I,.nil,h⟩
theorem pps_cons {X:Cx} {pos:Pos} {k v:Expr} {ks:List (Option Expr)} {vs:List Expr} {tk tv:TE} {trs:List (TE×TE)} (hk:PE X k tk) (hv:PE X v tv) (hr:PPs X pos ks vs trs) :
    PPs X pos (some k::ks) (v::vs) ((tk,tv)::trs):=fun pins s σ H Q I h =>
  pairTrees_cons_walk (thn (hk pins s σ H _ I h) fun u s1 ⟨x,H1,I1,rx,q1⟩=>thn (hv pins s1 σ H1 _ I1 q1) fun w2 s2 ⟨y,H2,I2,ry,q2⟩ =>
    thn (hr pins s2 σ H2 _ I2 q2) fun ws s3 ⟨ps,H3,I3,rel,q3⟩=>⟨(x,y)::ps,H3,I3,.cons ⟨rx,ry⟩ rel,q3⟩)

noncomputable def mergeK (kvs more:List (Key×V)):List (Key×V):=more.foldl (fun acc kv=>putK acc kv.1 kv.2) kvs
theorem KV.merge:∀ {more:List (Key×V)} {rs:List (Key×Value)} {kvs:List (Key×V)} {vs:List (Key×Value)},KV more rs→KV kvs vs→KV (mergeK kvs more) (merged vs rs):=by
  intro more rs kvs vs r
  unfold KV at r
  induction r generalizing kvs vs with
  | nil=>intro q; exact q
  | @cons p q ps qs h t ih =>
    intro r0
    have e:KV (putK kvs p.1 p.2) (stored vs q.1 q.2):=by
      have:=r0.put p.1 h.2
      rw [← h.1]; exact this
    exact ih e
theorem length_mergeK:∀ (more kvs:List (Key×V)),(mergeK kvs more).length≤kvs.length+more.length
  | [],kvs=>by show kvs.length≤kvs.length+0; omega
  | p::r,kvs=>by
    have h1:=length_mergeK r (putK kvs p.1 p.2)
    have h2:=length_putK kvs p.1 p.2
    show (mergeK (putK kvs p.1 p.2) r).length≤_
    rw [List.length_cons]; omega
theorem carries_of {P:Program} {w:World}:∀ {kvs:List (Key×V)} {ws:List (Value×Value)},VV (kvs.map fun kv=>(kV kv.1,kv.2)) ws→∃ rs,Carries (mixKind P w) ws rs∧KV kvs rs
  | [],_,r=>by rw [List.map_nil] at r; cases r; exact ⟨[],True.intro,.nil⟩
  | p::kvs,_,r=>by
    rw [List.map_cons] at r
    cases r with
    | @cons a b as bs h t =>
      obtain ⟨rs,c,q⟩:=carries_of (P:=P) (w:=w) t
      obtain ⟨b1,b2⟩:=b
      exact ⟨(p.1,b2)::rs,⟨kV_is h.1,rfl,c⟩,.cons ⟨rfl,h.2⟩ q⟩
noncomputable def tDisp (trs:List (TE×TE)):TE:=fun σ H Q=>∀ p,H p=none→tPairs trs σ (upd H p (.dK [])) fun ps H2=>H2 p=some (.dK [])∧∃ kvs:List (Key×V),ps=kvs.map (fun kv=>(kV kv.1,kv.2))∧kvs.length≤15∧Q (.ref p) (upd H2 p (.dK (mergeK [] kvs)))
theorem pe_disp {X:Cx} {pos:Pos} {keys:List (Option Expr)} {values:List Expr} {trs:List (TE×TE)} (h:PPs X pos keys values trs) (hall:keys.all (·.isSome)=true) (hl:keys.length=values.length) (h0:keys≠[])
    (h15:keys.length≤15):PE X (.Dict keys values pos) (tDisp trs):=by
  intro pins s σ H Q I q
  have hn:=I.hok.fresh (Nat.le_refl s.heap.objs.size)
  have I1:=I.laid (a:=s.heap.objs.size) (o:=.dK []) (h':=s.heap.push { cls:=.type "dict",data:=.dict #[] }) (t':=s.toks) (fun _ _ q=>Heap.get?_push_of_some _ q) (Nat.le_refl _) (dk_empty s.heap I.big)
  refine wpAny_Dict_walk (knd:=mixKind X.prog X.w) hall hl h0 h15 (thn (h pins _ σ _ _ I1 (q _ hn)) fun ws s2 hz0=>?_)
  obtain ⟨ps,H2,I2,rel,e,kvs,ep,lk,q2⟩:=hz0
  subst ep
  obtain ⟨rs,c,rk⟩:=carries_of (P:=X.prog) (w:=X.w) rel
  obtain ⟨z,hd,vs0,r0,dd⟩:=dk_of I2.hok e
  cases r0
  refine ⟨rs,c,dd,fun h' dd' hs=>⟨.ref s.heap.objs.size,_,?_,rfl,q2⟩⟩
  have hz:(mergeK [] kvs).length≤sizeLine:=by
    have h1:=length_mergeK kvs []
    rw [List.length_nil] at h1
    rw [sizeLine_eq]; omega
  have he:∃ q,h'.get? s.heap.objs.size=some q:=let ⟨q,_,_,hq,_⟩:=dd'; ⟨q,hq⟩
  exact d_write I2 (by rw [e]; exact True.intro) hs he (dk_new hz hd (rk.merge .nil) dd')

section
variable {X:Cx} {pins:List (Addr×Obj)} {σ:St} {H:Hp} {s:Shared} {a:Addr} {y d:V} {u r:Value} {o:Option V} {A:Around} {E:Value→Shared→Prop}
end
section
variable {X:Cx} {o e f:Expr} {apos cpos:Pos} {td ty tx:TE}
end
section
variable {X:Cx} {pins:List (Addr×Obj)} {σ:St} {H:Hp} {s:Shared} {a:Addr} {kvs:List (Key×V)} {A:Around} {E:Value→Shared→Prop}
end
section
variable {X:Cx} {pins:List (Addr×Obj)} {σ:St} {H:Hp} {s:Shared} {a:Addr} {y:V} {u:Value} {A:Around} {E:Value→Shared→Prop}
end
end L2
namespace Att
open PySem PySem.W PySem.Calls PyProof.Rows
theorem ints_of_wellAll {P:Params} {h:Heap}:∀ (ns:List Int) (vs:List Value),WellAll P h vs (ns.map WData.int)→IntsAre vs ns:=by
  intro ns
  induction ns with
  | nil =>
    intro vs w
    rw [List.map_nil] at w
    cases w
    exact .nil
  | cons n ns ih =>
    intro vs w
    rw [List.map_cons] at w
    cases w with
    | cons a b =>
      cases a
      exact .cons _ _ (ih _ b)

theorem script_of {l:OpenLaw} {n:Nat} (hn:l.most=some n) {P:Params} {h:Heap} {args:List WData} {vals:List Value}
    (hpre:l.row.toRowW.claim.pre args=true) (hwl:WellAll P h vals args) :
    ∃ a vs ns,vals=[Value.ref a]∧args=[WData.list (ns.map WData.int)]∧h.get? a=some { cls:=.type "list",data:=.seq vs.toArray }∧IntsAre vs ns∧ns.length≤n:=by
  have hsh:WShape.hasAll [] args [.list .int]=true:=(pre_splitW hpre).1
  have hc:l.pre.holds [] { args:=args }=true:=(pre_splitW hpre).2
  obtain ⟨d,r,rfl,h1,h2⟩:=hasAllW_cons hsh
  obtain rfl:=hasAllW_nil h2
  obtain ⟨xs,rfl,h3⟩:=hasW_list h1
  obtain ⟨ns,rfl⟩:=items_int h3
  have hlen:ns.length≤n:=by
    unfold OpenLaw.pre at hc
    have h4:(WTm.not (.lt (.lit (.int (n:Int))) (.len (.arg 0)))).holds [] { args:=[.list (ns.map .int)] }=true:=by
      have h4:=(holds_andW hc).1
      rw [hn] at h4
      exact h4
    have h5:=condW_of h4 (w_not (w_lt w_lit (w_len_list (w_arg rfl))))
    rw [List.length_map] at h5
    refine Nat.le_of_not_lt fun q=>?_
    have q':(n:Int) < ((ns.length:Nat):Int):=by omega
    first
      | (rw [decide_eq_true q'] at h5; exact absurd h5 (by decide))
      | (simp at h5; omega)
  cases hwl with
  | cons w1 w2 =>
    cases w2
    cases w1 with
    | list ho hall=>exact ⟨_,_,ns,rfl,rfl,ho,ints_of_wellAll ns _ hall,hlen⟩

theorem post_true (l:OpenLaw) (args:List WData):l.row.toRowW.claim.post args (.bool true) args=true :=
  postW_of (r:=l.row.toRowW) (X:=(true == true))
    (show WShape.has [] (.bool true) .bool=true by first | rfl | decide | simp [WShape.has,WShape.arms,WShape.armsAll])
    (show (WTm.eq .res (.lit (.bool true))).value [] { args:=args,res:=some (.bool true),after:=args }=some (.bool (true == true)) from w_eq_bool (w_res rfl) w_lit) rfl

theorem attach_call {l:OpenLaw} {n:Nat} {q:Program} {loose:List Str} {XP:(Str→Option Value)→Heap→Prop} {YP:World→Heap→Prop} {d:DefRec}
    (hn:l.most=some n) (hdf:d.params.defaults=[])
    (call:∀ (w:World) (s₀ s₁:Shared) (mg mb:Str→Option Value) (fa:Addr) (o:Obj) (pm cd doc:Value) (a:Addr) (vs:List Value) (ns:List Int),
      Ground q loose [] XP w s₀ mg mb s₁.heap→YP w s₁.heap →
      s₁.heap.get? fa=some o→o.data=.func (docDef d.name d.params d.body d.scope pm cd doc)→s₁.heap.CodeRec cd d.name→mg d.name=some (.ref fa) →
      s₁.heap.get? a=some { cls:=.type "list",data:=.seq vs.toArray }→IntsAre vs ns→ns.length≤n→s₁.gens=#[] →
      codeAny (model l.prog w) callerA (.call (.ref fa) ⟨[.ref a],[]⟩) (fun r s'=>r=.ok (.ret (.bool true))∧OldK s₁.heap s'.heap∧s'.os=s₁.os∧AllBare s'.gens) s₁) :
    WalkO q loose XP YP l.row.toRowW d [] (fun f vs=>PySem.call f vs):=by
  intro w s₀ s₁ mg mb G Y fa o pm cd doc dV kV ho hd hcd hD hmg hg args vals as hpre hlay hrd hwl hlo
  obtain rfl:dV=.none:=Dflts.none hD hdf
  obtain rfl:kV=.none:=Dflts.noKw hD
  obtain ⟨a,vs,ns,rfl,rfl,hobj,hints,hlen⟩:=script_of hn hpre hwl
  refine enter_call (codeAny_mono (call w s₀ s₁ mg mb fa o pm cd doc a vs ns G Y ho (fd_plain hd) hcd hmg hobj hints hlen hg) fun r s' hq=>?_)
  obtain ⟨rfl,h2,h3,h4⟩:=hq
  exact ⟨.inl ⟨.bool true,.bool true,[],rfl,fun _=>rfl,.bool true,post_true l _,fun _=>⟨List.Pairwise.nil,fun _ hm=>(nomatch hm)⟩⟩,h2,h3,h4⟩

section
variable {prog:Program} {w:World} {A:Around} {E:Value→Shared→Prop} {s:Shared} {K:Frag}
end
end Att
namespace L2
open PySem PySem.Spec PyProof.Rows
theorem vals_ints {vs:List Value} {ns:List Int} (h:IntsAre vs ns):Vals (ns.map V.int) vs:=by
  induction h with
  | nil=>exact .nil
  | cons n t h ih=>exact .cons ⟨t,rfl⟩ ih

noncomputable def Only (H:Hp):Prop:=∀ b,H b=none∨∃ o xs,H b=some (.frz o (.lst xs))

theorem law_call {P:Program} {w:World} {K:PySem.W.Frag} {mg mb:Str→Option Value} {CX:CXT} {k:Nat} {fa a:Addr} {fd:FuncData} {x:Str} {sp:Sp} {s₁:Shared} {vs:List Value} {ns:List Int}
    (KX:K.In s₁.heap) (hns:s₁.heap.Ns mainGlobals mg) (hb:s₁.heap.Ns builtinsNs mb) (hbb:∀ x:Str,x≠"__name__"→mb x=bootBuiltins x) (hlim:s₁.heap.NoLimit) (hdig:s₁.heap.NoDigits) (hg:s₁.gens=#[])
    (ha:s₁.heap.get? a=some { cls:=.type "list",data:=.seq vs.toArray }) (hi:IntsAre vs ns) (hl:ns.length≤sizeLine) (hr:Room k callerA)
    (F:∀ base:Heap,K.In base→base.Ns mainGlobals mg→FnOk P w K mg base CX k fa fd [x] sp) (hbind:∀ (s:Shared) (u:Value),BindsTo s fd ⟨[u],[]⟩ [(x,u)])
    (hsp:∀ H:Hp,Only H→SqL K H a (ns.map V.int)→sp [.ref a] H (fun v _=>v=.bl true) fun _ _ _=>False)
    (hCX:∀ H e s',CX [] H s₁ (fun _ _ _=>False) e s'→False) :
    codeAny (model P w) callerA (.call (.ref fa) ⟨[.ref a],[]⟩) (fun r s'=>r=.ok (.ret (.bool true))∧OldK s₁.heap s'.heap∧s'.os=s₁.os∧AllBare s'.gens) s₁:=by
  have rv:=vals_ints hi
  have lenV:=hi.length
  -- from an abstract heap in which nothing but the script may be tracked
  have core:∀ H:Hp,Only H→SqL K H a (ns.map V.int)→HOk P w H s₁.heap→(∀ b,H b≠none→b=a)→(H a≠none→K.lookup a=none) →
      codeAny (model P w) callerA (.call (.ref fa) ⟨[.ref a],[]⟩) (fun r s'=>r=.ok (.ret (.bool true))∧OldK s₁.heap s'.heap∧s'.os=s₁.os∧AllBare s'.gens) s₁:=by
    intro H hO hS hok hA hK
    have base_of:∀ {b:Addr} {o:Obj},s₁.heap.get? b=some o→H b=none→(hidT s₁.heap H).get? b=some o:=fun e n=>hidT_get e n
    have noA:∀ {b:Addr} {o:Obj} {es:Array DictEntry} {ep:Nat},s₁.heap.get? b=some o→o.data=.dict es ep→H b=none:=fun {b o es ep} e d=>by
      cases q:H b with
      | none=>rfl
      | some u =>
        have e':b=a:=hA b (by rw [q]; simp)
        subst e'
        rw [ha] at e; cases e
        have d':Data.seq vs.toArray _=Data.dict es ep:=d
        cases d'
    have nsK:∀ {b:Addr} {m:Str→Option Value},s₁.heap.Ns b m→(hidT s₁.heap H).Ns b m:=fun {b m} hz0=>by
      obtain ⟨o,es,ep,e,d,r⟩:=hz0
      exact ⟨o,es,ep,base_of e (noA e d),d,r⟩
    have hKb:K.In (hidT s₁.heap H):=fun b o e=>base_of (KX b o e) (by
      cases q:H b with
      | none=>rfl
      | some u =>
        have e':b=a:=hA b (by rw [q]; simp)
        subst e'
        rw [hK (by rw [q]; simp)] at e; cases e)
    have hM:Mod K mg (hidT s₁.heap H):=⟨hKb,nsK hns,⟨mb,nsK hb,hbb⟩,let ⟨mc,h1,h2⟩:=hlim; ⟨mc,nsK h1,h2⟩,let ⟨mc,h1,h2⟩:=hdig; ⟨mc,nsK h1,h2⟩⟩
    have e0:Env0 P w K mg (hidT s₁.heap H) callerA [] s₁ H:=⟨rfl,hM,fun b o e=>of_hidT e,Nat.le_of_eq (hidT_size _ _),trivial,fun b hb=>absurd (show b∈([]:List Addr) from hb) (by simp),hok,.of_eq hg⟩
    refine codeAny_mono ((F _ hKb (nsK hns)).run callerA [] s₁ H ⟨[.ref a],[]⟩ [.ref a] [.ref a] _ _ hr e0 (hbind s₁ (.ref a)) (.cons rfl .nil) (hsp H hO hS)) fun r s' h=>?_
    cases r with
    | error e=>exact (hCX H e s' h).elim
    | ok fl =>
      cases fl with
      | next=>exact False.elim h
      | brk=>exact False.elim h
      | cont=>exact False.elim h
      | ret u =>
        obtain ⟨v,H',os,bare,un,hok',r',q⟩:=h
        have q':v=.bl true:=q
        subst q'
        obtain rfl:u=Value.bool true:=r'
        refine ⟨rfl,OldK.of_keep fun b o e=>?_,os,bare⟩
        cases q:H b with
        | none=>exact un.keep b o e q (by intro z; exact absurd (show b∈([]:List Addr) from z) (by simp)) (by simp)
        | some u =>
          rcases hO b with z | ⟨ob,xs,z⟩
          · rw [q] at z; cases z
          · have z2:=un.frzs b ob _ z
            obtain ⟨e1,_⟩:=hok b _ z
            obtain ⟨e2,_⟩:=hok' b _ z2
            rw [e] at e1; cases e1
            exact e2
  cases hk:K.lookup a with
  | some o =>
    -- the script is one of the module's own objects
    have e:=KX a o hk
    rw [ha] at e
    cases e
    refine core (fun _=>none) (fun _=>.inl rfl) (.inr ⟨_,vs.toArray,_,hk,rfl,rfl,rfl,by rw [List.size_toArray,lenV]; exact hl,by simpa using rv⟩) (fun b u z=>by have z':(none:Option HO)=some u:=z; cases z') (fun b z=>absurd rfl z) fun z=>absurd rfl z
  | none =>
    refine core (fun b=>if b=a then some (.frz { cls:=.type "list",data:=.seq vs.toArray } (.lst (ns.map V.int))) else none) (fun b=>?_) (.inl (.inr ⟨{ cls:=.type "list",data:=.seq vs.toArray },if_pos rfl⟩)) (fun b u z=>?_) (fun b z=>?_) fun _=>hk
    · by_cases hb:b=a
      · exact .inr ⟨_,_,if_pos hb⟩
      · exact .inl (if_neg hb)
    · by_cases hb:b=a
      · have z':=(if_pos hb).symm.trans z
        cases z'
        subst hb
        exact ⟨ha,by rw [List.length_map]; exact hl,vs,_,rv,ha⟩
      · have z':=(if_neg hb).symm.trans z
        cases z'
    · by_cases hb:b=a
      · exact hb
      · exact absurd (if_neg hb) z
end L2
namespace L2
open PySem PySem.Spec PyProof.Rows
noncomputable abbrev KOf {K:PySem.W.Frag} {h:Heap} (_:K.In h):PySem.W.Frag:=K

theorem walk_of {l:PySem.W.OpenLaw} {n k:Nat} {q:Program} {loose:List Str} {XP:(Str→Option Value)→Heap→Prop} {YP:World→Heap→Prop} {d:DefRec} {K:Params→PySem.W.Frag} {CX:World→CXT} {sp:World→Sp} {x:Str}
    (hn:l.most=some n) (hn2:n≤sizeLine) (hdf:d.params.defaults=[]) (hr:Room k callerA)
    (hY:∀ (w:World) (h:Heap),YP w h→(K w.params).In h)
    (F:∀ (w:World) (mg:Str→Option Value) (fa:Addr) (h:Heap),(K w.params).In h→h.Ns mainGlobals mg→mg d.name=some (.ref fa) →
      ∃ fd:FuncData,(∀ (s:Shared) (u:Value),BindsTo s fd ⟨[u],[]⟩ [(x,u)]) ∧
        ∀ base:Heap,(K w.params).In base→base.Ns mainGlobals mg→FnOk l.prog w (K w.params) mg base (CX w) k fa fd [x] (sp w))
    (hsp:∀ (w:World) (H:Hp) (a:Addr) (ns:List Int),ns.length≤n→Only H→SqL (K w.params) H a (ns.map V.int)→sp w [.ref a] H (fun v _=>v=.bl true) fun _ _ _=>False)
    (hCX:∀ (w:World) (H:Hp) (s:Shared) (e:Value) (s':Shared),CX w [] H s (fun _ _ _=>False) e s'→False) :
    PySem.W.WalkO q loose XP YP l.row.toRowW d [] (fun f vs=>PySem.call f vs):=by
  refine Att.attach_call hn hdf fun w s₀ s₁ mg mb fa o pm cd doc a vs ns G Y ho hd hcd hmg hobj hints hlen hg=>?_
  have KX:=hY w _ Y
  obtain ⟨fd,hb,hF⟩:=F w mg fa _ KX G.T.g hmg
  exact law_call KX G.T.g G.T.b G.T.builtins G.T.nolimit G.T.nodigits hg hobj hints (Nat.le_trans hlen hn2) hr hF hb (fun H hO hS=>hsp w H a ns hlen hO hS) fun H e s'=>hCX w H s₁ e s'
theorem walk_ofK {l:PySem.W.OpenLaw} {n k:Nat} {q:Program} {loose:List Str} {XP:(Str→Option Value)→Heap→Prop} {YP:World→Heap→Prop} {d:DefRec} {K:Params→PySem.W.Frag} {CX:CXT} {sp:PySem.W.Frag→Sp} {x:Str}
    (hn:l.most=some n) (hn2:n≤sizeLine) (hdf:d.params.defaults=[]) (hr:Room k callerA)
    (hY:∀ (w:World) (h:Heap),YP w h→(K w.params).In h)
    (F:∀ (w:World) (mg:Str→Option Value) (fa:Addr) (h:Heap),(K w.params).In h→h.Ns mainGlobals mg→mg d.name=some (.ref fa) →
      ∃ fd:FuncData,(∀ (s:Shared) (u:Value),BindsTo s fd ⟨[u],[]⟩ [(x,u)]) ∧
        ∀ base:Heap,(K w.params).In base→base.Ns mainGlobals mg→FnOk l.prog w (K w.params) mg base CX k fa fd [x] (sp (K w.params)))
    (hsp:∀ (K:PySem.W.Frag) (H:Hp) (a:Addr) (ns:List Int),ns.length≤n→Only H→SqL K H a (ns.map V.int)→sp K [.ref a] H (fun v _=>v=.bl true) fun _ _ _=>False)
    (hCX:∀ (H:Hp) (s:Shared) (e:Value) (s':Shared),CX [] H s (fun _ _ _=>False) e s'→False) :
    PySem.W.WalkO q loose XP YP l.row.toRowW d [] (fun f vs=>PySem.call f vs) :=
  walk_of (K:=K) (CX:=fun _=>CX) (sp:=fun w=>sp (K w.params)) hn hn2 hdf hr hY F (fun w H a ns h1 h2 h3=>hsp (K w.params) H a ns h1 h2 h3) fun _ H s e s'=>hCX H s e s'
end L2
namespace L2
open PySem PySem.Spec PyProof.Rows
noncomputable def defArgs (s:Stmt):Arguments:=match s with
  | .FunctionDef _ a _ _ _ _ _ _ _ _=>a
  | _=>{ posonlyargs:=[],args:=[],vararg:=none,kwonlyargs:=[],kw_defaults:=[],kwarg:=none,defaults:=[] }
noncomputable def defBody (s:Stmt):List Stmt:=match s with
  | .FunctionDef _ _ b _ _ _ _ _ _ _=>b
  | _=>[]
noncomputable def defScope (s:Stmt):Scope:=match s with
  | .FunctionDef _ _ _ _ _ _ sc _ _ _=>sc
  | _=>{ kind:=.function,names:=[],isGenerator:=false,isCoroutine:=false }

noncomputable abbrev CX0:CXT:=fun _ _ _ _ _ _=>False
noncomputable abbrev E0:XK:=fun _ _ _=>False
theorem pass0 {X:Cx}:Passes CX0 X E0:=fun _ _ _ _ _ _ _ h=>h.elim

structure Fun (K:PySem.W.Frag) (x qual:Str) (st:Stmt) (f:Addr) (fd:FuncData):Prop where
  ex:∃ (oc:Value) (od:Option Addr) (kV doc pm:Value) (an:Option Addr) (cdv ct:Value) (osl:Array (Option Value)),
    fd=PySem.W.fnOf x qual (defArgs st) (defBody st) (defScope st) .none kV doc pm an cdv ct∧K.lookup f=some ⟨oc,od,.func fd,osl⟩∧PySem.W.codeIn K cdv qual=true
  kp:PySem.W.keepIn K (.ref f)=true
section
variable {P:Program} {w:World} {K:PySem.W.Frag} {mg:Str→Option Value} {base:Heap}
theorem Fun.ok {x qual:Str} {st:Stmt} {f:Addr} {fd:FuncData} {N ps:List Str} {k:Nat} {sp:Sp} (F:Fun K x qual st f fd) (S:FnScope N ps (defScope st)) (len:∀ vs H Q E,sp vs H Q E→vs.length=ps.length)
    (hbody:∀ (cdv:Value) (A:Around) (outer:List Env) (s:Shared) (H:Hp) (vs:List V) (Q:VK) (E:XK),Room k (A.deeper (envOfC qual (defScope st) s.heap.objs.size f cdv))→sp vs H Q E →
      ∃ t,PSs (cxOf CX0 P w K mg base N qual (defScope st) f cdv A outer s H E).nox (defBody st) t∧t { nx:=fun _ H'=>Q .non H',rt:=Q } (start N vs) H):FnOk P w K mg base CX0 (k+1) f fd ps sp:=by
  obtain ⟨oc,od,kV,doc,pm,an,cdv,ct,osl,rfl,lk,hcd⟩:=F.ex
  refine fn_of lk hcd S len fun A outer s H vs Q E hr hsp=>?_
  obtain ⟨t,h,q⟩:=hbody cdv A outer s H vs Q E hr hsp
  exact ⟨t,h.nox,q⟩
theorem Fun.binds {x qual:Str} {st:Stmt} {f:Addr} {fd:FuncData} {ps:List Str} (F:Fun K x qual st f fd)
    (h:∀ (kV doc pm:Value) (an:Option Addr) (cdv ct:Value) (us:List Value),us.length=ps.length→bindArgs (PySem.W.fnOf x qual (defArgs st) (defBody st) (defScope st) .none kV doc pm an cdv ct) ⟨us,[]⟩=pure (ps.zip us)):Binds K fd ps []:=by
  obtain ⟨oc,od,kV,doc,pm,an,cdv,ct,osl,rfl,lk,hcd⟩:=F.ex
  exact .all (h kV doc pm an cdv ct)
theorem fun_mk {x qual:Str} {st:Stmt} {f:Addr} {oc:Value} {od an:Option Addr} {osl:Array (Option Value)} {kV doc pm cdv ct:Value} (l:K.lookup f=some ⟨oc,od,.func (PySem.W.fnOf x qual (defArgs st) (defBody st) (defScope st) .none kV doc pm an cdv ct),osl⟩)
    (c:PySem.W.codeIn K cdv qual=true) (k:PySem.W.keepIn K (.ref f)=true):Fun K x qual st f (PySem.W.fnOf x qual (defArgs st) (defBody st) (defScope st) .none kV doc pm an cdv ct):=⟨⟨oc,od,kV,doc,pm,an,cdv,ct,osl,rfl,l,c⟩,k⟩
end
theorem hu_of {A:Around} {k:Nat} (hr:Room k A):A.units+1 < cLine:=Nat.lt_of_le_of_lt (Nat.add_le_add_left (by decide:1≤64) _) hr.units
section
variable {X:Cx}
theorem pv (i:Nat) {x:Str} {pos:Pos} (hN:X.N[i]?=some x:=by rfl) (hv:Vis X.env.scope x:=by first | exact Or.inl rfl | exact Or.inr (Or.inl rfl) | exact Or.inr (Or.inr rfl)) (hd:(x == ("__debug__":Str))=false:=by decide)
    (hcd:(x == ("__classdict__":Str))=false:=by decide):PE X (.Name x pos) (tVar i):=pe_var hN hv hd hcd
end
theorem ite2 {c A B:Prop} [Decidable c] (h1:c→A) (h2:¬ c→B):if c then A else B:=by
  by_cases h:c
  · rw [if_pos h]
    exact h1 h
  · rw [if_neg h]
    exact h2 h
noncomputable def Same (H H':Hp):Prop:=∀ b o,H b=some o→H' b=some o
theorem Same.refl (H:Hp):Same H H:=fun _ _ h=>h
theorem Same.seq {K:PySem.W.Frag} {H H':Hp} {a:Addr} {xs:List V} (e:Same H H') (h:SqL K H a xs):SqL K H' a xs:=by
  rcases h with (h | ⟨o,h⟩) | h
  · exact .inl (.inl (e _ _ h))
  · exact .inl (.inr ⟨o,e _ _ h⟩)
  · exact .inr h

end L2
set_option Elab.async false
set_option linter.all false
set_option maxRecDepth 100000
namespace L2
open PySem PySem.Spec PyProof.Rows
structure Blk where
  cl:List (Str×Addr)
  C:Addr
  s:Shared
  H:Hp
  fp:List Addr
  pn:List (Addr×Obj)

noncomputable def cxC (X:Cx) (N:List Str) (scope:Scope) (b:Blk):Cx where
  prog:=X.prog
  w:=X.w
  K:=X.K
  mg:=X.mg
  base:=X.base
  A:=X.A
  N:=N
  s₀:=b.s
  H₀:=b.H
  env:=compEnvC scope b.cl b.C X.env
  outer:=X.stack
  stack:=X.stack
  ex:=b.fp
  fn:=fun x=>scope.names.lookup x == some .cell
  calm:=X.calm
  pn:=b.pn
  xe:=fun _ _=>False

noncomputable def bN (Nx ts:List Str) (ix:List Nat):List Str:=ts++ix.map fun j=>(Nx[j]?).getD Str.empty
noncomputable def bSt (n:Nat) (ix:List Nat) (σ:St):St:=List.replicate n none++ix.map fun j=>(σ[j]?).getD none

structure BlkOk (Nx:List Str) (sc scope:Scope) (ix:List Nat):Prop where
  kind:scope.kind=.function
  cells:∀ y∈scope.names,y.2=.cell→scope.names.lookup y.1=some .cell
  locs:∀ y∈scope.names,y.2=.local→scope.names.lookup y.1=some .local
  frees:∀ y∈scope.names,y.2=.free→sc.names.lookup y.1=some .cell∨sc.names.lookup y.1=some .free
  caps:∀ j∈ix,j < Nx.length∧scope.names.lookup ((Nx[j]?).getD Str.empty)=some .free

theorem forIn_frees {env:Env} {f:Str×NameKind→List (Str×Addr)→Sem (ForInStep (List (Str×Addr)))}
    (h1:∀ n k r,k≠NameKind.free→f (n,k) r=pure (.yield r)) (h2:∀ n r c,env.cells.lookup n=some c→f (n,NameKind.free) r=pure (.yield ((n,c)::r))) :
    ∀ (names:List (Str×NameKind)) (acc:List (Str×Addr)),(∀ y∈names,y.2=.free→∃ c,env.cells.lookup y.1=some c)→(∀ x c,acc.lookup x=some c→env.cells.lookup x=some c) →
      ∃ cl,forIn names acc f=pure cl∧(∀ x c,cl.lookup x=some c→env.cells.lookup x=some c)∧(∀ y∈names,y.2=.free→∃ c,cl.lookup y.1=some c)∧∀ x c,acc.lookup x=some c→∃ c',cl.lookup x=some c'
  | [],acc,_,ha=>⟨acc,rfl,ha,(fun _ h=>nomatch h),fun x c h=>⟨c,h⟩⟩
  | (n,k)::names,acc,hn,ha=>by
    have hn':∀ y∈names,y.2=.free→∃ c,env.cells.lookup y.1=some c:=fun y hy=>hn y (List.mem_cons_of_mem _ hy)
    by_cases hk:k=.free
    · subst hk
      obtain ⟨c,hc⟩:=hn (n,.free) List.mem_cons_self rfl
      have ha':∀ x d,((n,c)::acc).lookup x=some d→env.cells.lookup x=some d:=fun x d e=>by
        rw [List.lookup_cons] at e
        cases hx:x == n with
        | true =>
          rw [hx] at e
          have hxn:x=n:=by simpa using hx
          subst hxn
          cases e
          exact hc
        | false =>
          rw [hx] at e
          exact ha x d e
      obtain ⟨cl,e,p1,p2,p3⟩:=forIn_frees h1 h2 names ((n,c)::acc) hn' ha'
      refine ⟨cl,?_,p1,fun y hy hf=>?_,fun x d hx=>?_⟩
      · rw [List.forIn_cons,h2 n acc c hc,pure_bind]
        exact e
      · rcases List.mem_cons.mp hy with rfl | hy
        · exact p3 n c (by simp)
        · exact p2 y hy hf
      · by_cases e1:x=n
        · subst e1
          exact p3 x c (by simp)
        · exact p3 x d (by rw [List.lookup_cons,beq_false_of_ne e1]; exact hx)
    · obtain ⟨cl,e,p1,p2,p3⟩:=forIn_frees h1 h2 names acc hn' ha
      refine ⟨cl,?_,p1,fun y hy hf=>?_,p3⟩
      · rw [List.forIn_cons,h1 n k acc hk,pure_bind]
        exact e
      · rcases List.mem_cons.mp hy with rfl | hy
        · exact absurd hf hk
        · exact p2 y hy hf

theorem closure_of {scope:Scope} {env:Env} (hn:∀ y∈scope.names,y.2=.free→∃ c,env.cells.lookup y.1=some c) :
    ∃ cl,closureFor scope env=pure cl∧(∀ x c,cl.lookup x=some c→env.cells.lookup x=some c)∧∀ y∈scope.names,y.2=.free→∃ c,cl.lookup y.1=some c:=by
  unfold closureFor
  have key:=forIn_frees (env:=env) (f:=fun (x:Str×NameKind) (r:List (Str×Addr))=>match x with
    | (name,kind)=>if (kind == NameKind.free)=true then (do let a ← cellOf env name; pure (ForInStep.yield ((name,a)::r))) else pure (ForInStep.yield r))
    (fun n k r hk=>by
      have hb:(k == NameKind.free)=false:=by simpa using hk
      show (if (k == NameKind.free)=true then _ else _)=_
      rw [hb]
      rfl)
    (fun n r c hc=>by
      show (do let a ← cellOf env n; pure (ForInStep.yield ((n,a)::r)))=_
      unfold cellOf
      rw [hc]
      rfl) scope.names [] hn (fun x c h=>by simp at h)
  obtain ⟨cl,e,p1,p2,_⟩:=key
  refine ⟨cl,?_,p1,p2⟩
  show (forIn scope.names [] _ >>= fun r=>pure r)=pure cl
  exact (congrArg (fun t=>t >>= fun r=>pure r) e).trans (pure_bind _ _)

section
variable {X:Cx} {pins:List (Addr×Obj)} {σ:St} {H:Hp} {s:Shared}
theorem relabel_free {scope:Scope} {env:Env} {x:Str} (h:scope.names.lookup x=some .free):(relabel scope env).names.lookup x=some .cell∨(relabel scope env).names.lookup x=some .free:=by
  unfold relabel
  show List.lookup x (scope.names.map _)=_∨List.lookup x (scope.names.map _)=_
  generalize scope.names=l at h
  induction l with
  | nil=>simp at h
  | cons p r ih =>
    obtain ⟨n,k⟩:=p
    rw [List.map_cons]
    cases hx:x == n with
    | true =>
      rw [List.lookup_cons,hx] at h
      have hk:k=.free:=by simpa using h
      subst hk
      by_cases hc:(NameKind.free == NameKind.free && env.scope.kind == .function && env.kindOf n == some .cell)=true
      · refine .inl ?_
        show List.lookup x ((if (NameKind.free == NameKind.free && env.scope.kind == .function && env.kindOf n == some .cell)=true then (n,NameKind.cell) else (n,NameKind.free))::_)=_
        rw [if_pos hc,List.lookup_cons,hx]
      · refine .inr ?_
        show List.lookup x ((if (NameKind.free == NameKind.free && env.scope.kind == .function && env.kindOf n == some .cell)=true then (n,NameKind.cell) else (n,NameKind.free))::_)=_
        rw [if_neg hc,List.lookup_cons,hx]
    | false =>
      rw [List.lookup_cons,hx] at h
      have key:∀ q:Str×NameKind,(q=(n,NameKind.cell)∨q=(n,k))→∀ l',List.lookup x (q::l')=List.lookup x l':=fun q hq l'=>by
        rcases hq with rfl | rfl <;> rw [List.lookup_cons,hx]
      have hq:(if (k == NameKind.free && env.scope.kind == .function && env.kindOf n == some .cell)=true then (n,NameKind.cell) else (n,k))=(n,NameKind.cell)∨(if (k == NameKind.free && env.scope.kind == .function && env.kindOf n == some .cell)=true then (n,NameKind.cell) else (n,k))=(n,k):=by
        split
        · exact .inl rfl
        · exact .inr rfl
      rcases ih h with z | z
      · exact .inl ((key _ hq _).trans z)
      · exact .inr ((key _ hq _).trans z)

theorem relabel_cell {scope:Scope} {env:Env} {x:Str} (h:(relabel scope env).names.lookup x=some .cell∨(relabel scope env).names.lookup x=some .free):∃ y∈scope.names,y.1=x∧(y.2=.free∨y.2=.cell):=by
  unfold relabel at h
  have h':List.lookup x (scope.names.map fun (n,k)=>if (k == .free && env.scope.kind == .function && env.kindOf n == some .cell) then (n,NameKind.cell) else (n,k))=some .cell∨List.lookup x (scope.names.map fun (n,k)=>if (k == .free && env.scope.kind == .function && env.kindOf n == some .cell) then (n,NameKind.cell) else (n,k))=some .free:=h
  clear h
  generalize scope.names=l at h'
  induction l with
  | nil=>simp at h'
  | cons p r ih =>
    obtain ⟨n,k⟩:=p
    rw [List.map_cons] at h'
    cases hx:x == n with
    | true =>
      have hxn:x=n:=by simpa using hx
      by_cases hk:k=.free
      · exact ⟨(n,k),List.mem_cons_self,hxn.symm,.inl hk⟩
      ·
        have hb:(k == NameKind.free)=false:=by simpa using hk
        have e:(if (k == NameKind.free && env.scope.kind == .function && env.kindOf n == some .cell)=true then (n,NameKind.cell) else (n,k))=(n,k):=by
          rw [hb]
          rfl
        have h2:List.lookup x ((n,k)::r.map fun (n,k)=>if (k == .free && env.scope.kind == .function && env.kindOf n == some .cell) then (n,NameKind.cell) else (n,k))=some .cell∨List.lookup x ((n,k)::r.map fun (n,k)=>if (k == .free && env.scope.kind == .function && env.kindOf n == some .cell) then (n,NameKind.cell) else (n,k))=some .free:=by
          rw [← e]
          exact h'
        rw [List.lookup_cons,hx] at h2
        rcases h2 with z | z
        · exact ⟨(n,k),List.mem_cons_self,hxn.symm,.inr (Option.some.inj z)⟩
        · exact absurd (Option.some.inj z) hk
    | false =>
      have hq:∀ q:Str×NameKind,(q=(n,NameKind.cell)∨q=(n,k))→∀ l',List.lookup x (q::l')=List.lookup x l':=fun q hq l'=>by
        rcases hq with rfl | rfl <;> rw [List.lookup_cons,hx]
      have hqq:(if (k == NameKind.free && env.scope.kind == .function && env.kindOf n == some .cell)=true then (n,NameKind.cell) else (n,k))=(n,NameKind.cell)∨(if (k == NameKind.free && env.scope.kind == .function && env.kindOf n == some .cell)=true then (n,NameKind.cell) else (n,k))=(n,k):=by
        split
        · exact .inl rfl
        · exact .inr rfl
      obtain ⟨y,hy,e⟩:=ih (by
        rcases h' with z | z
        · exact .inl ((hq _ hqq _).symm.trans z)
        · exact .inr ((hq _ hqq _).symm.trans z))
      exact ⟨y,List.mem_cons_of_mem _ hy,e⟩

theorem cells_spec:∀ (names:List (Str×NameKind)) (h:Heap) (acc:List (Str×Addr)),
    (∀ x c,(cellsFrom h.objs.size names acc).lookup x=some c→acc.lookup x=some c∨(h.objs.size≤c∧(pushCells h names).IsCell c none∧(x,NameKind.cell)∈names)) ∧
    (∀ x,((x,NameKind.cell)∈names∨∃ c,acc.lookup x=some c)→∃ c,(cellsFrom h.objs.size names acc).lookup x=some c) ∧
    (∀ x c,(x,NameKind.cell)∈names→(cellsFrom h.objs.size names acc).lookup x=some c→h.objs.size≤c) ∧
    ((∀ x c,acc.lookup x=some c→c < h.objs.size)→(∀ x y c,acc.lookup x=some c→acc.lookup y=some c→x=y)→∀ x y c,(cellsFrom h.objs.size names acc).lookup x=some c→(cellsFrom h.objs.size names acc).lookup y=some c→x=y):=by
  intro names
  induction names with
  | nil=>intro h acc; exact ⟨fun x c e=>.inl e,fun x e=>by rcases e with e | e; cases e; exact e,fun x c e=>(by cases e),fun _ i=>i⟩
  | cons p r ih =>
    obtain ⟨name,kind⟩:=p
    intro h acc
    unfold cellsFrom pushCells
    by_cases hk:kind=.cell
    · subst hk
      have hk':((NameKind.cell == NameKind.cell)=true):=rfl
      rw [if_pos hk',if_pos hk']
      have ih':=ih (h.push { cls:=.type "cell",data:=.cell none }) ((name,h.objs.size)::acc)
      rw [Heap.size_push] at ih'
      obtain ⟨i1,i2,i4,i3⟩:=ih'
      refine ⟨fun x c e=>?_,fun x e=>?_,fun x c e1 e2=>?_,fun hb hi=>i3 (fun x c e=>?_) fun x y c e1 e2=>?_⟩
      · rcases i1 x c e with z | ⟨z1,z2,z3⟩
        · rw [List.lookup_cons] at z
          cases hx:x == name with
          | true =>
            rw [hx] at z
            have hxn:x=name:=by simpa using hx
            cases z
            exact .inr ⟨Nat.le_refl _,⟨_,pushCells_keeps _ _ _ _ (Heap.get?_push_size _ rfl),rfl⟩,by rw [hxn]; exact List.mem_cons_self⟩
          | false=>rw [hx] at z; exact .inl z
        · exact .inr ⟨by omega,z2,List.mem_cons_of_mem _ z3⟩
      · refine i2 x ?_
        by_cases hx:x=name
        · exact .inr ⟨h.objs.size,by rw [List.lookup_cons,hx]; simp⟩
        · rcases e with e | ⟨c,e⟩
          · rcases List.mem_cons.mp e with q | q
            · exact absurd (congrArg Prod.fst q) hx
            · exact .inl q
          · exact .inr ⟨c,by rw [List.lookup_cons,beq_false_of_ne hx]; exact e⟩
      · rcases i1 x c e2 with z | ⟨z,_,_⟩
        · rw [List.lookup_cons] at z
          cases hx:x == name with
          | true=>rw [hx] at z; cases z; exact Nat.le_refl _
          | false =>
            have hxn:x≠name:=by simpa using hx
            rcases List.mem_cons.mp e1 with q | q
            · exact absurd (congrArg Prod.fst q) hxn
            · exact Nat.le_of_succ_le (i4 x c q e2)
        · exact Nat.le_of_succ_le z
      · rw [List.lookup_cons] at e
        cases hx:x == name with
        | true=>rw [hx] at e; cases e; exact Nat.lt_succ_self _
        | false=>rw [hx] at e; exact Nat.lt_succ_of_lt (hb x c e)
      · rw [List.lookup_cons] at e1 e2
        cases hx:x == name with
        | true =>
          have hxn:x=name:=by simpa using hx
          rw [hx] at e1
          cases e1
          cases hy:y == name with
          | true =>
            have hyn:y=name:=by simpa using hy
            rw [hxn,hyn]
          | false=>rw [hy] at e2; exact absurd (hb y _ e2) (Nat.lt_irrefl _)
        | false =>
          rw [hx] at e1
          cases hy:y == name with
          | true=>rw [hy] at e2; cases e2; exact absurd (hb x _ e1) (Nat.lt_irrefl _)
          | false=>rw [hy] at e2; exact hi x y c e1 e2
    · have hk':¬ ((kind == NameKind.cell)=true):=by simpa using hk
      rw [if_neg hk',if_neg hk']
      obtain ⟨i1,i2,i4,i3⟩:=ih h acc
      refine ⟨fun x c e=>?_,fun x e=>i2 x ?_,fun x c e1 e2=>?_,i3⟩
      · rcases i1 x c e with z | ⟨z1,z2,z3⟩
        · exact .inl z
        · exact .inr ⟨z1,z2,List.mem_cons_of_mem _ z3⟩
      · rcases e with e | e
        · rcases List.mem_cons.mp e with q | q
          · exact absurd (congrArg Prod.snd q).symm hk
          · exact .inl q
        · exact .inr e
      · rcases List.mem_cons.mp e1 with q | q
        · exact absurd (congrArg Prod.snd q).symm hk
        · exact i4 x c q e2

theorem wpAny_compEnv {M:Model} {A:Around} {E:Value→Shared→Prop} {s:Shared} {scope:Scope} {globals:Addr} {cl:List (Str×Addr)} {qual:Str} {outer:Env} {Q:Env→Shared→Prop}
    (h:Q { scope:=scope,locals:=s.heap.objs.size,globals:=globals,cells:=cellsFrom (s.heap.objs.size+1) scope.names cl,qual:=qual,func:=none,code:=outer.code,frame:=outer.frame,builtins:=outer.builtins } { s with heap:=pushCells (s.heap.push { cls:=.type "dict",data:=.dict #[] }) scope.names }) :
    wpAny M A (newFunctionEnv scope globals cl [] qual none .none (some outer)) Q E s:=by
  simp only [newFunctionEnv,Option.isSome_some,if_true]
  refine wpAny_bind (wpAny_alloc ?_)
  refine wpAny_bind (wpAny_layCells _ (fun name kind cells=>by cases hkc:kind == NameKind.cell <;> simp [hkc]) _ _ _ _ ?_)
  rw [show ({ s with heap:=s.heap.push { cls:=.type "dict",data:=.dict #[] } }:Shared).heap.objs.size=s.heap.objs.size+1 from Heap.size_push ..]
  rw [List.forIn_nil]
  exact wpAny_bind (wpAny_pure (wpAny_pure h))

theorem bN_get {Nx ts:List Str} {ix:List Nat} {i:Nat} {x:Str} (h:(bN Nx ts ix)[i]?=some x) (hi:ts.length≤i):∃ j,ix[i - ts.length]?=some j∧x=(Nx[j]?).getD Str.empty:=by
  unfold bN at h
  rw [List.getElem?_append_right hi,List.getElem?_map] at h
  cases e:ix[i - ts.length]? with
  | none=>rw [e] at h; cases h
  | some j=>rw [e] at h; exact ⟨j,rfl,(Option.some.inj h).symm⟩

theorem inv_block {scope:Scope} {cl:List (Str×Addr)} {fp:List Addr} {C:Addr} {h3:Heap} {tk:Nat} {m:Str→Option Value} {Nx ts:List Str} {ix:List Nat}
    (I:Inv X pins σ H s) (hNx:X.N=Nx) (ok:BlkOk Nx X.env.scope scope ix) (cs1:∀ x c,cl.lookup x=some c→X.env.cells.lookup x=some c∨(C < c∧h3.IsCell c none∧(x,NameKind.cell)∈scope.names)) (csI:∀ x y c,cl.lookup x=some c→cl.lookup y=some c→x=y) (cl2:∀ y∈scope.names,(y.2=.free∨y.2=.cell)→∃ c,cl.lookup y.1=some c) (csA:∀ x c,(x,NameKind.cell)∈scope.names→cl.lookup x=some c→C≤c)
    (hf:∀ b∈fp,FpOk X pins H b) (hfs:∀ b∈fp,b < s.heap.objs.size) (hC:s.heap.objs.size≤C) (kp:∀ b o,s.heap.get? b=some o→h3.get? b=some o) (hns:h3.Ns C m) :
    Inv (cxC X (bN Nx ts ix) scope ⟨cl,C,s,H,fp,X.pn++pins⟩) [] (bSt ts.length ix σ) H { s with heap:=h3,toks:=tk }:=by
  have below:∀ {b:Addr},b < s.heap.objs.size→b≠C:=fun hb=>Nat.ne_of_lt (Nat.lt_of_lt_of_le hb hC)
  have nstk:∀ b,b≠X.env.locals→b ∉ X.fs→b ∉ frs X.stack:=fun b h1 h2 hb=>by
    rcases List.mem_cons.mp (I.stkSub b hb) with z | z
    · exact h1 z
    · exact h2 z
  refine ⟨⟨I.ok.mod,?_,I.ok.glob,I.ok.blt,hC,csI,fun x hx=>?_,fun x c hfn e=>Nat.le_trans hC (csA x c (PySem.mem_of_lookup (eq_of_beq hfn)) e),I.ok.hd,I.ok.frames,.inl rfl,fun b hb=>⟨below (hfs b hb),fun x c e=>by
    rcases cs1 x c e with z | ⟨z,_,_⟩
    · exact (hf b hb).2.2.2.2.1 x c z
    · exact Nat.ne_of_gt (Nat.lt_of_lt_of_le (hfs b hb) (Nat.le_trans hC (Nat.le_of_lt z)))⟩,I.bs,Nat.le_trans I.ok.bsz I.sz,fun b o e hb=>?_,fun b hb=>nstk b (hf b hb).2.1 (hf b hb).2.2.1,I.stack,I.stkFree⟩,
    rfl,I.bare,Un.kept kp,⟨m,hns,fun i x v h1 h2 h3'=>?_⟩,fun x c e=>?_,I.hok.fresh hC,fun x c e=>by
    rcases cs1 x c e with z | ⟨z,_,_⟩
    · exact I.freeC x c z
    · exact I.hok.fresh (Nat.le_trans hC (Nat.le_of_lt z)),fun p hp=>?_,I.hok.kept kp,?_⟩
  · exact ok.kind
  · have hx':(relabel scope X.env).names.lookup x=some .cell∨(relabel scope X.env).names.lookup x=some .free:=hx
    obtain ⟨y,hy,e1,e2⟩:=relabel_cell hx'
    obtain ⟨c,hc⟩:=cl2 y hy e2
    exact ⟨c,by rw [← e1]; exact hc⟩
  · rcases (hf b hb).2.2.2.1 with z | z
    · exact I.ok.noex b o e z
    · exact absurd (Nat.lt_of_lt_of_le (Heap.lt_size e) (Nat.le_trans I.ok.bsz z)) (Nat.lt_irrefl _)
  · have hi:ts.length≤i:=by
      rcases Nat.lt_or_ge i ts.length with z | z
      · exfalso
        have h2':(bSt ts.length ix σ)[i]?=some (some v):=h2
        unfold bSt at h2'
        rw [List.getElem?_append_left (by simpa using z),List.getElem?_replicate] at h2'
        split at h2' <;> cases h2'
      · exact z
    obtain ⟨j,hj,ex⟩:=bN_get h1 hi
    have h2':(bSt ts.length ix σ)[i]?=some (some v):=h2
    unfold bSt at h2'
    rw [List.getElem?_append_right (by simpa using hi),List.getElem?_map,List.length_replicate,hj] at h2'
    have hσ:σ[j]?=some (some v):=by
      have q:(σ[j]?).getD none=some v:=Option.some.inj h2'
      cases e:σ[j]? with
      | none=>rw [e] at q; cases q
      | some w=>rw [e] at q; exact congrArg some q
    obtain ⟨hjl,hfree⟩:=ok.caps j (List.mem_of_getElem? hj)
    have hNj:X.N[j]?=some x:=by
      rw [hNx,ex,List.getElem?_eq_getElem hjl]
      rfl
    rw [← ex] at hfree
    obtain ⟨c,hc⟩:=cl2 (x,.free) (PySem.mem_of_lookup hfree) (.inl rfl)
    have cl1:X.env.cells.lookup x=some c:=by
      rcases cs1 x c hc with z | ⟨_,_,z⟩
      · exact z
      · have:=ok.cells _ z rfl
        rw [hfree] at this
        cases this
    have kx:=ok.frees (x,.free) (PySem.mem_of_lookup hfree) rfl
    obtain ⟨m0,hn0,hl0⟩:=I.loc
    obtain ⟨u,ru,look⟩:=hl0 j x v hNj hσ (by rcases kx with z | z; exact .inr (.inl z); exact .inr (.inr z))
    refine ⟨u,ru,.inr ⟨relabel_free hfree,c,hc,?_⟩⟩
    rcases look with ⟨k1,_⟩ | ⟨_,c',hc',z⟩
    · have k1':X.env.scope.names.lookup x=some .local:=k1
      rcases kx with z | z
      · rw [k1'] at z; cases z
      · rw [k1'] at z; cases z
    · have e:=cl1
      rw [hc'] at e
      cases e
      obtain ⟨o,ho,hd⟩:=z
      exact ⟨o,kp _ _ ho,hd⟩
  · rcases cs1 x c e with z | ⟨_,z,_⟩
    · obtain ⟨v,o,ho,hd⟩:=I.cell x c z
      exact ⟨v,o,kp _ _ ho,hd⟩
    · exact ⟨_,z⟩
  · have hp':p∈X.pn++pins:=by simpa [cxC] using hp
    obtain ⟨e,n,ne,nf,d⟩:=I.pin p hp'
    exact ⟨kp _ _ e,n,below (Heap.lt_size e),nstk _ ne nf,d⟩
  · show (bSt ts.length ix σ).length=(bN Nx ts ix).length
    unfold bSt bN
    simp

theorem Inv.track {D:Addr} {ys:List V} {its:List Value} {n:Nat} (I:Inv X pins σ H s) (hD:H D=none) (ho:s.heap.get? D=some { cls:=.type "list",data:=.seq its.toArray n }) (r:Vals ys its) (hz:ys.length≤sizeLine)
    (hL:D≠X.env.locals) (hs0:X.s₀.heap.objs.size≤D) (hc:∀ x c,X.env.cells.lookup x=some c→c≠D) (hp:∀ p∈X.pn++pins,p.1≠D):Inv X pins σ (upd H D (.lst ys)) s:=by
  have ne:∀ {b:Addr} {o:HO},H b=some o→b≠D:=fun e=>ne_of_none e hD
  refine I.step (g':=s.gens) (d':=s.drawn) (t':=s.toks) (h':=s.heap) (ch:=[D]) (fun b hb=>?_) (fun b o _ _ _ e _=>e) (fun b o _ _ _ e _=>⟨o.slots,e⟩) (fun b o hb e n=>?_) (fun b o _ e=>⟨o,e⟩)
    (fun b xs e=>by rw [upd_ne (ne e)]; exact e) (fun b o u e=>by rw [upd_ne (ne e)]; exact e) (fun b ps e=>⟨#[],by rw [upd_ne (ne e),e]; simp⟩) (fun m hm=>hm) (fun b u e=>?_) I.bare
  · have e:b=D:=by simpa using hb
    subst e
    exact ⟨.inr hs0,hL,hc,hp⟩
  · have hb':b≠D:=by simpa using hb
    rw [upd_ne hb']
    exact n
  · by_cases hb:b=D
    · subst hb
      rw [upd_same] at e
      cases e
      exact ⟨hz,its,n,r,ho⟩
    · rw [upd_ne hb] at e
      exact (I.hok b u e).stay (fun c v _ q=>q) (fun c q=>by rw [upd_ne (ne q)]; exact q) fun c xs q=>by rw [upd_ne (ne q)]; exact q
end
theorem compLoop_run {prog:Program} {w:World} {A:Around} {R:Result→Shared→Prop} {s:Shared} {elt target iter:Expr} {scope:Scope} {pos:Pos} {it acc:Value} {env:Env} (J:Nat→Shared→Prop)
    (step:∀ k s0,J k s0→wpAny (model prog w) A (pyNext it) (fun got s1=>match got with
      | none=>R (.ok .next) s1
      | some v=>wpAny (model prog w) A (letOwnedTupleGo target it v) (fun _ s2=>wpAny (model prog w) A (assign target env v) (fun _ s3=>wpAny (model prog w) A (eval elt env) (fun y s4 =>
          wpAny (model prog w) A (call (.builtin "list.append") [acc,y]) (fun _ s5=>∃ j,j < k∧J j s5) (fun _ _=>False) s4) (fun _ _=>False) s3) (fun _ _=>False) s2) (fun _ _=>False) s1) (fun _ _=>False) s0)
    (k:Nat) (h:J k s):codeAny (model prog w) A (.compLoop (.ListComp elt [⟨target,iter,[],0⟩] scope pos) 0 it acc env) R s:=by
  refine codeAny_loop rfl J (fun k0 s0 hJ=>?_) k h
  show wpAny _ _ ((compTurn (.ListComp elt [⟨target,iter,[],0⟩] scope pos) 0 it acc env).onRaise (fun x=>do noteFrame x env; theTreesLotGoes x)) _ _ s0
  apply wpAny_noted
  rw [compTurn_list1]
  refine wpAny_bind (wpAny_standAt (wpAny_bind (wpAny_mono (step k0 s0 hJ) (fun got s1 h1=>?_) fun _ _ z=>z.elim)))
  cases got with
  | none=>exact wpAny_pure h1
  | some v =>
    refine wpAny_bind (wpAny_mono h1 (fun _ s2 h2=>?_) fun _ _ z=>z.elim)
    refine wpAny_bind (wpAny_mono h2 (fun _ s3 h3=>?_) fun _ _ z=>z.elim)
    refine wpAny_bind (wpAny_bind (wpAny_mono h3 (fun y s4 h4=>?_) fun _ _ z=>z.elim))
    exact wpAny_bind (wpAny_mono h4 (fun _ s5 h5=>wpAny_pure (wpAny_pure ⟨rfl,h5⟩)) fun _ _ z=>z.elim)

noncomputable def tLc (wi:TI) (n:Nat) (ix:List Nat) (g:Blk→TG) (te:Blk→TE):TE:=fun σ H Q=>wi σ H fun J H1=>∀ b:Blk,∃ W:Nat→Nat→St→List V→Hp→Prop,(∃ m,W 0 m (bSt n ix σ) [] H1)∧∀ i m τ ys H2,W i m τ ys H2 →
  (J.stop i H2∧∀ p v H',H2 p=none→v=V.ref p→H'=upd H2 p (.lst ys)→Q v H') ∨
  (J.go i H2∧ys.length < sizeLine∧∀ x H3,J.yld i H2 x H3→g b x τ H3 fun τ2 H4=>te b τ2 H4 fun y H5=>∃ m',m' < m∧W (i+1) m' τ2 (ys++[y]) H5)

section
variable {X:Cx} {pins:List (Addr×Obj)} {σ:St} {H:Hp} {s:Shared}
theorem lc_block {elt target iter:Expr} {scope:Scope} {pos:Pos} {Nx ts:List Str} {ix:List Nat} {g:Blk→TG} {te:Blk→TE} {cl:List (Str×Addr)} {s2:Shared} {itv:Value} {R:Value→Addr→Result→Shared→Prop}
    {E:Value→Shared→Prop} {Q:VK}
    (hc:X.calm=true) (hg:∀ b,PG (cxC X (bN Nx ts ix) scope b) target (g b)) (he:∀ b,PE (cxC X (bN Nx ts ix) scope b) elt (te b))
    (hNx:X.N=Nx) (ok:BlkOk Nx X.env.scope scope ix) (cl1:∀ x c,cl.lookup x=some c→X.env.cells.lookup x=some c) (cl2:∀ y∈scope.names,y.2=.free→∃ c,cl.lookup y.1=some c)
    (h2:PIE X pins σ target (fun J H1=>∀ b:Blk,∃ W:Nat→Nat→St→List V→Hp→Prop,(∃ m,W 0 m (bSt ts.length ix σ) [] H1)∧∀ i m τ ys H2,W i m τ ys H2 →
      (J.stop i H2∧∀ p v H',H2 p=none→v=V.ref p→H'=upd H2 p (.lst ys)→Q v H') ∨
      (J.go i H2∧ys.length < sizeLine∧∀ x H3,J.yld i H2 x H3→g b x τ H3 fun τ2 H4=>te b τ2 H4 fun y H5=>∃ m',m' < m∧W (i+1) m' τ2 (ys++[y]) H5)) itv s2)
    (hR:∀ (D C:Addr) (H':Hp) (s':Shared) (v:V),Inv X pins σ H' s'→v=.ref D→Q v H'→(∃ m,s'.heap.Ns C m)→H' C=none→C≠X.env.locals→X.s₀.heap.objs.size≤C→(∀ x c,X.env.cells.lookup x=some c→c≠C)→(∀ p∈X.pn++pins,p.1≠C) →
      R (.ref D) C (.ok .next) s') :
    wpAny (model X.prog X.w) X.A (newList []) (fun acc s₃=>wpAny (model X.prog X.w) X.A (newFunctionEnv scope X.env.globals cl [] X.env.qual none .none (some X.env)) (fun cenv s₄ =>
      codeAny (model X.prog X.w) X.A (.compStart (.ListComp elt [⟨target,iter,[],0⟩] scope pos) 0 itv acc { cenv with scope:=relabel scope X.env }) (R acc cenv.locals) s₄) E s₃) E s2:=by
  obtain ⟨it,fp,tn,J,H1,e,I2,T,st2,f2,q2⟩:=h2
  subst e
  refine wpAny_newObj_type (wpAny_compEnv ?_)
  dsimp only
  generalize hG:s2.heap.push { cls:=.type "list",dict:=none,data:=.seq ([]:List Value).toArray }=G
  have hGs:G.objs.size=s2.heap.objs.size+1:=by rw [← hG,Heap.size_push]
  have hfs:∀ b∈fp,b < s2.heap.objs.size:=fun b hb=>let ⟨o,e,_⟩:=T.obj _ _ st2 b hb; Heap.lt_size e
  have kpG:∀ b o,G.get? b=some o→(pushCells (G.push { cls:=.type "dict",data:=.dict #[] }) scope.names).get? b=some o:=fun b o e=>pushCells_keeps _ _ _ _ (Heap.get?_push_of_some _ e)
  have hns3:(pushCells (G.push { cls:=.type "dict",data:=.dict #[] }) scope.names).Ns G.objs.size (fun _=>none):=(Heap.Ns.new G (.type "dict")).keeps (pushCells_keeps _ _)
  obtain ⟨sp1,sp2,sp4,sp3⟩:=cells_spec scope.names (G.push { cls:=.type "dict",data:=.dict #[] }) cl
  rw [Heap.size_push] at sp1 sp2 sp3 sp4
  generalize hh3:pushCells (G.push { cls:=.type "dict",data:=.dict #[] }) scope.names=h3 at kpG hns3 sp1 ⊢
  have kp:∀ b o,s2.heap.get? b=some o→h3.get? b=some o:=fun b o e=>kpG b o (by rw [← hG]; exact Heap.get?_push_of_some _ e)
  have hD3:h3.get? s2.heap.objs.size=some { cls:=.type "list",data:=.seq ([]:List Value).toArray }:=kpG _ _ (by rw [← hG]; exact Heap.get?_push_size _ rfl)
  have clB:∀ x c,cl.lookup x=some c→c < G.objs.size+1:=fun x c e=>by
    obtain ⟨v,q⟩:=I2.cell x c (cl1 x c e)
    exact Nat.lt_succ_of_lt (Nat.lt_of_lt_of_le q.lt (by rw [hGs]; exact Nat.le_succ _))
  have csI:=sp3 clB fun x y c e1 e2=>I2.ok.inj x y c (cl1 x c e1) (cl1 y c e2)
  have cs1:∀ x c,(cellsFrom (G.objs.size+1) scope.names cl).lookup x=some c→X.env.cells.lookup x=some c∨(G.objs.size < c∧h3.IsCell c none∧(x,NameKind.cell)∈scope.names):=fun x c e=>by
    rcases sp1 x c e with z | ⟨z1,z2,z3⟩
    · exact .inl (cl1 x c z)
    · exact .inr ⟨by omega,z2,z3⟩
  have cs2:∀ y∈scope.names,(y.2=.free∨y.2=.cell)→∃ c,(cellsFrom (G.objs.size+1) scope.names cl).lookup y.1=some c:=fun y hy hk=>by
    refine sp2 y.1 ?_
    rcases hk with z | z
    · exact .inr (cl2 y hy z)
    · exact .inl (by rw [← z]; exact hy)
  have csA:∀ x c,(x,NameKind.cell)∈scope.names→(cellsFrom (G.objs.size+1) scope.names cl).lookup x=some c→G.objs.size≤c:=fun x c e1 e2=>Nat.le_of_succ_le (sp4 x c e1 e2)
  generalize hcs:cellsFrom (G.objs.size+1) scope.names cl=cs at csI cs1 cs2 csA ⊢
  generalize hCe:G.objs.size=C at hns3 cs1 csA ⊢
  have hC:s2.heap.objs.size≤C:=by omega
  have hDC:s2.heap.objs.size≠C:=by omega
  let B:Blk:=⟨cs,C,s2,H1,fp,X.pn++pins⟩
  have I3:Inv (cxC X (bN Nx ts ix) scope B) [] (bSt ts.length ix σ) H1 { s2 with heap:=h3 }:=inv_block I2 hNx ok cs1 csI cs2 csA f2 hfs hC kp hns3
  have fC:H1 s2.heap.objs.size=none:=I2.hok.fresh (Nat.le_refl _)
  have cellIn:∀ x c,cs.lookup x=some c→c≠s2.heap.objs.size:=fun x c e=>by
    rcases cs1 x c e with z | ⟨z,_,_⟩
    · obtain ⟨v,q⟩:=I2.cell x c z
      exact Nat.ne_of_lt q.lt
    · exact Nat.ne_of_gt (Nat.lt_of_le_of_lt hC z)
  have pinIn:∀ p∈X.pn++pins,p.1 < s2.heap.objs.size:=fun p hp=>Heap.lt_size (I2.pin p hp).1
  have nofrs:s2.heap.objs.size ∉ frs X.stack:=fun hb=>by
    rcases List.mem_cons.mp (I2.stkSub _ hb) with z | z
    · exact absurd I2.lt (by rw [← z]; exact Nat.lt_irrefl _)
    · exact I2.nofs (Nat.le_refl _) z
  -- a state with the list at its place,pinned
  have pinD:∀ {τ:St} {H':Hp} {s':Shared} {ob:Obj},Inv (cxC X (bN Nx ts ix) scope B) [] τ H' s'→s'.heap.get? s2.heap.objs.size=some ob→H' s2.heap.objs.size=none→(∀ v,ob.data≠.cell v)→Inv (cxC X (bN Nx ts ix) scope B) [(s2.heap.objs.size,ob)] τ H' s' :=
    fun {τ H' s' ob} I' ho hn hd=>I'.pins_of fun p hp=>by
      have e:p=(s2.heap.objs.size,ob):=by simpa using hp
      subst e
      exact ⟨ho,hn,hDC,nofrs,hd⟩
  obtain ⟨W,⟨m0,w0⟩,turn⟩:=q2 B
  have stat:∀ {H':Hp} {ob:Obj},(∀ b∈fp,H' b=none)→∀ b∈fp,FpOk (cxC X (bN Nx ts ix) scope B) [(s2.heap.objs.size,ob)] H' b:=fun {H' ob} hn b hb=>by
    refine ⟨hn b hb,Nat.ne_of_lt (Nat.lt_of_lt_of_le (hfs b hb) hC),fun z=>?_,.inl hb,fun x c e=>by
      rcases cs1 x c e with z | ⟨z,_,_⟩
      · exact (f2 b hb).2.2.2.2.1 x c z
      · exact Nat.ne_of_gt (Nat.lt_of_lt_of_le (hfs b hb) (Nat.le_trans hC (Nat.le_of_lt z))),fun p hp=>?_⟩
    · rcases List.mem_cons.mp (I2.stkSub _ z) with q | q
      · exact (f2 b hb).2.1 q
      · exact (f2 b hb).2.2.1 q
    · rcases List.mem_append.mp hp with z | z
      · exact (f2 b hb).2.2.2.2.2 p z
      · have e:p=(s2.heap.objs.size,ob):=by simpa using z
        subst e
        exact Nat.ne_of_gt (hfs b hb)
  have loop:∀ s4:Shared,s4={ s2 with heap:=h3 } →
      codeAny (model X.prog X.w) X.A (.compLoop (.ListComp elt [⟨target,iter,[],0⟩] scope pos) 0 (.ref it) (.ref s2.heap.objs.size) (compEnvC scope cs C X.env)) (R (.ref s2.heap.objs.size) C) s4:=by
    rintro s4 rfl
    refine compLoop_run (fun k s'=>∃ i τ ys its n H',Inv (cxC X (bN Nx ts ix) scope B) [(s2.heap.objs.size,({ cls:=.type "list",data:=.seq (List.toArray its) n }:Obj))] τ H' s'∧tn i s'.heap∧(∀ b∈fp,H' b=none)∧Vals ys its∧ys.length≤sizeLine∧W i k τ ys H') ?_ m0
      ⟨0,_,[],[],_,H1,pinD I3 hD3 fC (fun v z=>by cases z),T.keep _ _ _ st2 fun b hb o e=>kp b o e,fun b hb=>(f2 b hb).1,.nil,Nat.zero_le _,w0⟩
    rintro k s5 ⟨i,τ,ys,its,n,H5,I5,st5,fr5,rv,hz,w5⟩
    rcases turn i k τ ys H5 w5 with ⟨stop,qn⟩ | ⟨go,hlt,step⟩
    · refine thn (T.done (cxC X (bN Nx ts ix) scope B) rfl rfl rfl hc i _ s5 τ H5 _ I5 (stat fr5) st5 stop) fun got s6 hz0=>?_
      obtain ⟨hr,I6⟩:=hz0
      subst hr
      obtain ⟨ho,hn,_,_,_⟩:=I6.pin (s2.heap.objs.size,({ cls:=.type "list",data:=.seq (List.toArray its) n }:Obj)) (List.mem_append_right _ (by simp))
      have I7:Inv X pins σ H5 s6:=I2.call' (ch:=fp) (H':=H5) (by exact I6.os) I6.base I6.hok I6.bare fun b hb=>⟨(f2 b hb).2.2.2.1,(f2 b hb).2.1,(f2 b hb).2.2.2.2.1,(f2 b hb).2.2.2.2.2⟩
      have hs0:X.s₀.heap.objs.size≤s2.heap.objs.size:=I2.sz
      have I8:=I7.track hn ho rv hz (Nat.ne_of_gt I2.lt) hs0 (fun x c e z=>by
        obtain ⟨v,q⟩:=I2.cell x c e
        exact absurd q.lt (by rw [z]; exact Nat.lt_irrefl _)) (fun p hp=>Nat.ne_of_lt (pinIn p hp))
      obtain ⟨m6,hm6,_⟩:=I6.loc
      refine hR _ C _ s6 _ I8 rfl (qn _ _ _ hn rfl rfl) ⟨m6,hm6⟩ ?_ (fun z=>?_) (Nat.le_trans hs0 hC) (fun x c e z=>?_) fun p hp=>Nat.ne_of_lt (Nat.lt_of_lt_of_le (pinIn p hp) hC)
      · rw [upd_ne (Ne.symm hDC)]
        exact I6.free
      · exact absurd (Nat.lt_of_lt_of_le I2.lt hC) (by rw [z]; exact Nat.lt_irrefl _)
      · obtain ⟨v,q⟩:=I2.cell x c e
        exact absurd (Nat.lt_of_lt_of_le q.lt hC) (by rw [z]; exact Nat.lt_irrefl _)
    · refine thn (T.item (cxC X (bN Nx ts ix) scope B) rfl rfl rfl hc i _ s5 τ H5 _ I5 (stat fr5) st5 go) fun got s6 hz0=>?_
      obtain ⟨u,hr,h6⟩:=hz0
      subst hr
      refine thn h6 fun _ s7 hz0=>?_
      obtain ⟨x,H7,I7,r7,y7,st7,fr7⟩:=hz0
      have I7':=I7.pinned (stat fr7) (T.obj _ _ st7)
      refine thn (hg B _ s7 τ H7 x u _ I7' r7 (step x H7 y7)) fun _ s8 hz0=>?_
      obtain ⟨τ8,H8,I8,q8⟩:=hz0
      refine thn (he B _ s8 τ8 H8 _ I8 q8) fun y s9 hz0=>?_
      obtain ⟨vy,H9,I9,r9,m',hm',w9⟩:=hz0
      obtain ⟨ho,hn,_,_,_⟩:=I9.pin (s2.heap.objs.size,({ cls:=.type "list",data:=.seq (List.toArray its) n }:Obj)) (List.mem_append_right _ (List.mem_append_left _ (by simp)))
      have lenv:=rv.length
      refine wpAny_list_append_plain (l:=s2.heap.objs.size) ⟨n,ho⟩ (fun h' hpl hsb=>?_) (by rw [List.size_toArray]; omega)
      obtain ⟨n',ho'⟩:=hpl
      have eobj:(its.toArray.push y)=List.toArray (its++[y]):=by simp
      rw [eobj] at ho'
      have I9':Inv (cxC X (bN Nx ts ix) scope B) [] τ8 H9 s9:=I9.pins_of fun p hp=>absurd hp (by simp)
      have I10:Inv (cxC X (bN Nx ts ix) scope B) [] τ8 H9 { s9 with heap:=h' }:=I9'.turned (it:=s2.heap.objs.size) (t':=s9.toks) (fun b o hb e=>(hsb.2 b hb).trans e) hn hDC (.inr (Nat.le_refl _)) cellIn (fun p hp=>by
        have hp':p∈(X.pn++pins)++[]:=hp
        rw [List.append_nil] at hp'
        exact Nat.ne_of_lt (pinIn p hp'))
      refine ⟨m',hm',i+1,τ8,ys++[vy],its++[y],n',H9,pinD I10 ho' hn (fun v z=>by cases z),?_,fun b hb=>?_,rv.append (.cons r9 .nil),by rw [List.length_append]; show ys.length+1≤_; omega,w9⟩
      · refine T.keep _ _ _ st7 fun b hb o e=>?_
        have q:=(I9.pin (b,o) (List.mem_append_right _ (List.mem_append_right _ (mem_pinsAt hb e)))).1
        exact (hsb.2 b (Nat.ne_of_lt (hfs b hb))).trans q
      · obtain ⟨o,e,d⟩:=T.obj _ _ st7 b hb
        exact (I9.pin (b,o) (List.mem_append_right _ (List.mem_append_right _ (mem_pinsAt hb e)))).2.1
  exact codeAny_compStart_list (loop _ rfl) (T.self X.A 0 _ _ _ (T.keep _ _ _ st2 fun b hb o e=>kp b o e) (loop _ rfl))

theorem pe_lc {elt target iter:Expr} {scope:Scope} {pos:Pos} {wi:TI} {g:Blk→TG} {te:Blk→TE} (Nx:List Str) (ts:List Str) (ix:List Nat)
    (hc:X.calm=true) (hi:PI X target iter wi) (hg:∀ b,PG (cxC X (bN Nx ts ix) scope b) target (g b)) (he:∀ b,PE (cxC X (bN Nx ts ix) scope b) elt (te b))
    (hNx:X.N=Nx) (ok:BlkOk Nx X.env.scope scope ix) (hs:∀ x,foldedSetIterable iter X.env x=pure x:=by intro _; rfl) :
    PE X (.ListComp elt [⟨target,iter,[],0⟩] scope pos) (tLc wi ts.length ix g te):=by
  intro pins s σ H Q I h
  obtain ⟨cl,hcl,cl1,cl2⟩:=closure_of (scope:=scope) (env:=X.env) fun y hy hf=>I.ok.has y.1 (ok.frees y hy hf)
  rw [eval_ListComp]
  refine wpAny_comprehension_free (use:=none) rfl hs hcl ok.kind ok.locs (thn (hi pins s σ H _ I h) fun v s1 h1=>thn h1 fun itv s2 h2=>?_)
  refine lc_block (R:=fun acc C=>compPost (model X.prog X.w) X.A X.xe none (EP X pins σ Q) acc C) hc hg he hNx ok cl1 cl2 h2 ?_
  rintro D C H' s' v I' rfl q ⟨m,hm⟩ hn hL h0 hcl' hp
  exact ⟨m,hm,fun h' hsb=>⟨.ref D,H',I'.turned (it:=C) (t':=s'.toks) (fun b o hb e=>(hsb.2 b hb).trans e) hn hL (.inr h0) hcl' hp,rfl,q⟩⟩

theorem ps_setLc {elt target iter:Expr} {scope:Scope} {pos pos' spos:Pos} {wi:TI} {g:Blk→TG} {te:Blk→TE} {i:Nat} {x:Str} (Nx:List Str) (ts:List Str) (ix:List Nat)
    (hc:X.calm=true) (hN:X.N.Nodup) (hix:X.N[i]?=some x) (hx:X.env.scope.names.lookup x=some .local) (hi:PI X target iter wi) (hg:∀ b,PG (cxC X (bN Nx ts ix) scope b) target (g b)) (he:∀ b,PE (cxC X (bN Nx ts ix) scope b) elt (te b))
    (hNx:X.N=Nx) (ok:BlkOk Nx X.env.scope scope ix) (hsw:swapsWith (.ListComp elt [⟨target,iter,[],0⟩] scope pos) (some (.Name x pos')) spos.line X.env=pure true) (hs:∀ x,foldedSetIterable iter X.env x=pure x:=by intro _; rfl) :
    PS X (.Assign [.Name x pos'] (.ListComp elt [⟨target,iter,[],0⟩] scope pos) spos) (tAsg (tLc wi ts.length ix g te) (gName i)):=by
  intro pins s σ H D0 I h
  obtain ⟨cl,hcl,cl1,cl2⟩:=closure_of (scope:=scope) (env:=X.env) fun y hy hf=>I.ok.has y.1 (ok.frees y hy hf)
  rw [exec_Assign_Name_used _ _ _ _ hsw]
  refine wpAny_bind (wpAny_standAt (wpAny_bind ?_))
  show wpAny _ X.A (do let _ ← comprehension (.ListComp elt [⟨target,iter,[],0⟩] scope pos) scope X.env _ (newList []) false (eval iter X.env) (some (assign (.Name x pos') X.env))) _ _ s
  refine wpAny_bind (thn (wpAny_comprehension_free (use:=some (assign (.Name x pos') X.env)) (Q:=fun _ s'=>SP X pins D0 .next s') rfl hs hcl ok.kind ok.locs (thn (hi pins s σ H _ I h) fun v s1 h1=>thn h1 fun itv s2 h2=>?_)) fun _ s' hq=>wpAny_pure (wpAny_pure hq))
  refine lc_block (R:=fun acc C=>compPost (model X.prog X.w) X.A X.xe (some (assign (.Name x pos') X.env)) (fun _ s'=>SP X pins D0 .next s') acc C) (Q:=fun x H1=>gName i x σ H1 D0.nx) hc hg he hNx ok cl1 cl2 h2 ?_
  rintro D C H' s' v I' rfl q ⟨m,hm⟩ hn hL h0 hcl' hp
  show wpAny _ X.A (assign (.Name x pos') X.env (.ref D)) _ _ _
  refine wpAny_assign_Name (store_ok2 I' hN hix (.inl hx) (show RelV (.ref D) (.ref D) from rfl) (fun s'' I'' hch=>?_) (.inr hx))
  obtain ⟨a,hsb,ha⟩:=hch
  have haC:C≠a:=by
    rcases ha with z | z
    · rw [z]; exact hL
    · exact fun e=>hcl' _ _ z e.symm
  exact ⟨m,hm.sameBut hsb haC,fun h'' hs''=>⟨_,H',I''.turned (it:=C) (t':=s''.toks) (fun b o hb e=>(hs''.2 b hb).trans e) hn hL (.inr h0) hcl' hp,q⟩⟩
end
end L2
set_option Elab.async false
set_option linter.all false
set_option maxRecDepth 100000
namespace L2
open PySem PySem.Spec PyProof.Rows
mutual
/-- the value bears the datum -/
inductive Dn (H:Hp):V→PyData→Prop
  | non:Dn H .non .none
  | bl (b:Bool):Dn H (.bl b) (.bool b)
  | int (i:Int):Dn H (.int i) (.int i)
  | str (x:Str):Dn H (.str x) (.str x)
  | tup {a:Addr} {xs:List V} {ds:List PyData}:H a=some (.tup xs)→DnAll H xs ds→Dn H (.ref a) (.tuple ds)
  | lst {a:Addr} {xs:List V} {ds:List PyData}:H a=some (.lst xs)→DnAll H xs ds→Dn H (.ref a) (.list ds)
  | dct {a:Addr} {ks:List (Key×V)} {ds:List PyData}:Rd H a (.dK ks)→DnAll H (ks.map (·.2)) ds→Dn H (.ref a) (.dict ((ks.map fun k=>match k.1 with | .inl i=>PyData.int i | .inr x=>PyData.str x).zip ds))
inductive DnAll (H:Hp):List V→List PyData→Prop
  | nil:DnAll H [] []
  | cons {v:V} {vs:List V} {d:PyData} {ds:List PyData}:Dn H v d→DnAll H vs ds→DnAll H (v::vs) (d::ds)
end
mutual
theorem Dn.mono {H H':Hp} (e:∀ b o,H b=some o→H' b=some o):∀ {v:V} {d:PyData},Dn H v d→Dn H' v d
  | _,_,.non=>.non
  | _,_,.bl b=>.bl b
  | _,_,.int i=>.int i
  | _,_,.str x=>.str x
  | _,_,.tup h r=>.tup (e _ _ h) (DnAll.mono e r)
  | _,_,.lst h r=>.lst (e _ _ h) (DnAll.mono e r)
  | _,_,.dct h r=>.dct (h.imp (e _ _) fun ⟨o,h⟩=>⟨o,e _ _ h⟩) (DnAll.mono e r)
theorem DnAll.mono {H H':Hp} (e:∀ b o,H b=some o→H' b=some o):∀ {vs:List V} {ds:List PyData},DnAll H vs ds→DnAll H' vs ds
  | _,_,.nil=>.nil
  | _,_,.cons r t=>.cons (Dn.mono e r) (DnAll.mono e t)
end
theorem DnAll.ints {H:Hp}:∀ ns:List Int,DnAll H (ns.map V.int) (ns.map PyData.int)
  | []=>.nil
  | n::ns=>.cons (.int n) (DnAll.ints ns)
theorem DnAll.length {H:Hp} {vs:List V} {ds:List PyData} (h:DnAll H vs ds):vs.length=ds.length:=by
  induction vs generalizing ds with
  | nil=>cases h; rfl
  | cons v vs ih=>cases h with | cons r t=>exact congrArg (·+1) (ih t)
theorem DnAll.append {H:Hp} {vs ws:List V} {ds es:List PyData} (h:DnAll H vs ds) (s:DnAll H ws es):DnAll H (vs++ws) (ds++es):=by
  induction vs generalizing ds with
  | nil=>cases h; exact s
  | cons v vs ih=>cases h with | cons r t=>exact .cons r (ih t)

mutual
/-- data without dicts -/
theorem Dn.reads {P:Program} {w:World} {H:Hp} {h:Heap} (ok:HOk P w H h):∀ {v:V} {d:PyData} {u:Value},Dn H v d→d.hasDict=false→RelV v u→∃ as,Reads h u d as
  | _,_,_,.non,_,r=>by cases r; exact ⟨_,.none⟩
  | _,_,_,.bl b,_,r=>by cases r; exact ⟨_,.bool b⟩
  | _,_,_,.int i,_,r=>by obtain ⟨t,rfl⟩:=r; exact ⟨_,.int i t⟩
  | _,_,_,.str x,_,r=>by obtain ⟨t,rfl⟩:=r; exact ⟨_,.str x t⟩
  | _,_,_,.tup e rs,hd,r=>by
    cases r
    obtain ⟨z,its,rv,o,h1,h2,n,h3⟩:=ok _ _ e
    obtain ⟨as,q⟩:=DnAll.reads ok rs (by simpa [PyData.hasDict] using hd) rv
    exact ⟨_,.tuple h1 h2 h3 (by simpa using q)⟩
  | _,_,_,.lst e rs,hd,r=>by
    cases r
    obtain ⟨z,its,n,rv,h1⟩:=ok _ _ e
    obtain ⟨as,q⟩:=DnAll.reads ok rs (by simpa [PyData.hasDict] using hd) rv
    exact ⟨_,.list h1 rfl rfl (by simpa using q)⟩
  | _,_,_,.dct e rs,hd,r=>by simp [PyData.hasDict] at hd
theorem DnAll.reads {P:Program} {w:World} {H:Hp} {h:Heap} (ok:HOk P w H h):∀ {vs:List V} {ds:List PyData} {us:List Value},DnAll H vs ds→PyData.hasDictAll ds=false→Vals vs us→∃ as,ReadsAll h us ds as
  | _,_,_,.nil,_,r=>by cases r; exact ⟨_,.nil⟩
  | _,_,_,.cons p t,hd,r=>by
    cases r with
    | cons r1 r2 =>
      simp only [PyData.hasDictAll,Bool.or_eq_false_iff] at hd
      obtain ⟨as,q⟩:=Dn.reads ok p hd.1 r1
      obtain ⟨bs,q2⟩:=DnAll.reads ok t hd.2 r2
      exact ⟨_,.cons q q2⟩
end
section
variable {X:Cx}
theorem op_eqD {k:Nat} (hr:Room k X.A):OpR X (compareOp .Eq) (fun x y H Q=>∃ d e,Dn H x d∧Dn H y e∧SeqAt.shaped d=true∧SeqAt.shaped e=true∧Q (.bl (PyData.eqv d e)) H):=by
  intro pins s σ H x y v u Q I rx ry h
  obtain ⟨d,e,hd,he,sd,se,q⟩:=h
  obtain ⟨as,r1⟩:=Dn.reads I.hok hd (PyData.hasDict_of_canLay _ (SeqAt.canLay_of_shaped sd)) rx
  obtain ⟨bs,r2⟩:=Dn.reads I.hok he (PyData.hasDict_of_canLay _ (SeqAt.canLay_of_shaped se)) ry
  exact SeqAt.compareEq_shaped r1 r2 sd se hr.units ⟨.bl _,H,I,rfl,q⟩
theorem op_neD {k:Nat} (hr:Room k X.A):OpR X (compareOp .NotEq) (fun x y H Q=>∃ d e,Dn H x d∧Dn H y e∧SeqAt.shaped d=true∧SeqAt.shaped e=true∧Q (.bl (!PyData.eqv d e)) H):=by
  intro pins s σ H x y v u Q I rx ry h
  obtain ⟨d,e,hd,he,sd,se,q⟩:=h
  obtain ⟨as,r1⟩:=Dn.reads I.hok hd (PyData.hasDict_of_canLay _ (SeqAt.canLay_of_shaped sd)) rx
  obtain ⟨bs,r2⟩:=Dn.reads I.hok he (PyData.hasDict_of_canLay _ (SeqAt.canLay_of_shaped se)) ry
  exact SeqAt.compareNe_shaped r1 r2 sd se hr.units ⟨.bl _,H,I,rfl,q⟩

theorem call_rangeV2:CallR X (.type "range") (fun xs H Q=>∃ i j:Int,xs=[.int i,.int j]∧∀ p,H p=none→Q (.ref p) (upd H p (.rng i j))):=by
  intro pins s σ H xs us Q I r h
  obtain ⟨i,j,rfl,q⟩:=h
  cases r with
  | cons r1 rr =>
    cases rr with
    | cons r2 rr =>
      cases rr
      obtain ⟨t,rfl⟩:=r1
      obtain ⟨u,rfl⟩:=r2
      refine call_range_2 ?_
      exact ⟨.ref s.heap.objs.size,_,I.laid (t':=s.toks+1) (fun b o e=>Heap.get?_push_of_some _ e) (Nat.le_refl _) (show ObjOk X.prog X.w _ _ _ (.rng i j) from ⟨t,u,s.toks,Heap.get?_push_size _ rfl⟩),rfl,q _ (I.hok.fresh (Nat.le_refl _))⟩

noncomputable def rangeV (lo:Int) (n:Nat):List V:=(List.range n).map fun (k:Nat)=>V.int (lo+(k:Int))
theorem vals_range (lo:Int):∀ (n:Nat) (l:List Value),l.length=n→(∀ (j:Nat) (v:Value),l[j]?=some v→∃ t,v=Value.int (lo+(j:Int)) t)→Vals (rangeV lo n) l:=by
  intro n
  unfold rangeV
  induction n with
  | zero =>
    intro l hl _
    have e:l=[]:=List.length_eq_zero_iff.mp hl
    subst e
    exact .nil
  | succ n ih =>
    intro l hl hl2
    obtain ⟨l',x,rfl⟩:∃ l' x,l=l'++[x]:=⟨l.dropLast,l.getLast (by intro e; rw [e] at hl; cases hl),(List.dropLast_concat_getLast _).symm⟩
    have hl':l'.length=n:=by rw [List.length_append] at hl; simpa using hl
    rw [List.range_succ,List.map_append]
    refine Vals.append (ih l' hl' fun j v hv=>hl2 j v (by rw [List.getElem?_append_left (List.getElem?_eq_some_iff.mp hv).1]; exact hv)) (.cons ?_ .nil)
    obtain ⟨t,e⟩:=hl2 n x (by rw [List.getElem?_append_right (by omega),hl',Nat.sub_self]; rfl)
    exact ⟨t,e⟩
end
end L2
set_option Elab.async false
set_option linter.all false
set_option maxRecDepth 100000
namespace L2
open PySem PySem.Spec PyProof.Rows
structure Def (K:PySem.W.Frag) (mg:Str→Option Value) (x:Str) (st:Stmt) (ps:List Str):Prop where
  ex:∃ f fd,Fun K x x st f fd∧mg x=some (.ref f)∧Binds K fd ps []
structure Callee (P:Program) (w:World) (K:PySem.W.Frag) (mg:Str→Option Value) (base:Heap) (x:Str) (k:Nat) (ps:List Str) (sp:Sp):Prop where
  ex:∃ f fd,FnOk P w K mg base CX0 k f fd ps sp∧mg x=some (.ref f)∧PySem.W.keepIn K (.ref f)=true∧Binds K fd ps []

section
variable {P:Program} {w:World} {K:PySem.W.Frag} {mg:Str→Option Value} {base:Heap}
theorem Def.ok {x:Str} {st:Stmt} {N ps:List Str} {k:Nat} {sp:Sp} (D:Def K mg x st ps) (S:FnScope N ps (defScope st)) (len:∀ vs H Q E,sp vs H Q E→vs.length=ps.length)
    (hbody:∀ (f:Addr) (cdv:Value) (A:Around) (outer:List Env) (s:Shared) (H:Hp) (vs:List V) (Q:VK) (E:XK),Room k (A.deeper (envOfC x (defScope st) s.heap.objs.size f cdv))→sp vs H Q E →
      ∃ t,PSs (cxOf CX0 P w K mg base N x (defScope st) f cdv A outer s H E).nox (defBody st) t∧t { nx:=fun _ H'=>Q .non H',rt:=Q } (start N vs) H):Callee P w K mg base x (k+1) ps sp:=by
  obtain ⟨f,fd,F,hm,hb⟩:=D.ex
  exact ⟨f,fd,F.ok S len fun cdv A outer s H vs Q E hr h=>hbody f cdv A outer s H vs Q E hr h,hm,F.kp,hb⟩
theorem def_mk {x:Str} {st:Stmt} {ps:List Str} {h:Heap} {f:Addr} {oc:Value} {od an:Option Addr} {osl:Array (Option Value)} {kV doc pm cdv ct:Value} (X:K.In h) (G:h.Ns mainGlobals mg)
    (a:PySem.W.nsIn K mainGlobals x=some (some (.ref f))) (l:K.lookup f=some ⟨oc,od,.func (PySem.W.fnOf x x (defArgs st) (defBody st) (defScope st) .none kV doc pm an cdv ct),osl⟩)
    (c:PySem.W.codeIn K cdv x=true) (k:PySem.W.keepIn K (.ref f)=true)
    (hb:∀ (kV doc pm:Value) (an:Option Addr) (cdv ct:Value) (us:List Value),us.length=ps.length→bindArgs (PySem.W.fnOf x x (defArgs st) (defBody st) (defScope st) .none kV doc pm an cdv ct) ⟨us,[]⟩=pure (ps.zip us)):Def K mg x st ps:=by
  have F:=fun_mk (st:=st) l c k
  exact ⟨f,_,F,PySem.W.mg_of X G a,F.binds hb⟩
end
section
variable {X:Cx} {x:Str} {k:Nat} {ps:List Str} {sp:Sp} {e:Expr} {es:List Expr} {t:TA} {p pos:Pos}
theorem pe_callC (C:Callee X.prog X.w X.K X.mg X.base x k ps sp) (hr:Room k X.A) (hg:Gl X x) (ha:PA X (e::es) t) (hdb:(x == ("__debug__":Str))=false:=by decide)
    (he:starEach (e::es) X.env=(false,eval e X.env)::starEach es X.env:=by rfl) (hpl:(backTo pos (starEach es X.env)).any (·.1)=false:=by rfl):PE X (.Call (.Name x p) (e::es) [] pos) (tCall sp [] E0 t):=by
  obtain ⟨f,fd,F,hm,hk,hb⟩:=C.ex
  exact pe_call F hr hg hm hk hb .nil pass0 ha hdb he hpl
theorem pe_gint {i:Int} (hg:Gl X x) (h:∃ t,X.mg x=some (.int i t)) (hd:(x == ("__debug__":Str))=false:=by decide):PE X (.Name x pos) (tC (.int i)):=by
  obtain ⟨t,e⟩:=h
  exact pe_glob hg e ⟨t,rfl⟩ hd
end
noncomputable def tJoinS (t:TS):TS:=fun D σ H=>∃ J:St→Hp→Prop,t { D with nx:=J } σ H∧∀ σ' H',J σ' H'→D.nx σ' H'
noncomputable def tJoinT (t:TT):TT:=fun σ H Q=>∃ J:Bool→Hp→Prop,t σ H J∧∀ b H',J b H'→Q b H'
section
variable {X:Cx} {st:Stmt} {e:Expr}
theorem PS.join {t:TS} (h:PS X st t):PS X st (tJoinS t):=by
  rintro pins s σ H D I ⟨J,q,hJ⟩
  refine thn (h pins s σ H _ I q) fun f s' z=>?_
  cases f with
  | next=>obtain ⟨σ',H',I',q'⟩:=z; exact ⟨σ',H',I',hJ _ _ q'⟩
  | brk=>exact z
  | cont=>exact z
  | ret u=>exact z
theorem PT.join {t:TT} (h:PT X e t):PT X e (tJoinT t):=by
  rintro pins s σ H Q I ⟨J,q,hJ⟩
  refine thn (h pins s σ H _ I q) fun b s' ⟨H',I',q'⟩=>⟨H',I',hJ _ _ q'⟩
end
noncomputable def penK (c:Addr) (at' left:Int):List (Key×V):=[(Sum.inr "script",.ref c),(Sum.inr "at",.int at'),(Sum.inr "left",.int left)]
theorem ne1:¬ ((Sum.inr ("script":Str):Key)=(Sum.inr ("at":Str):Key)):=by decide +kernel
theorem ne2:¬ ((Sum.inr ("script":Str):Key)=(Sum.inr ("left":Str):Key)):=by decide +kernel
theorem ne3:¬ ((Sum.inr ("at":Str):Key)=(Sum.inr ("left":Str):Key)):=by decide +kernel
theorem pen_script (c:Addr) (a l:Int):valV (penK c a l) (Sum.inr "script":Key)=some (.ref c):=valV_pos rfl
theorem pen_at (c:Addr) (a l:Int):valV (penK c a l) (Sum.inr "at":Key)=some (.int a):=by
  unfold penK
  rw [valV_neg ne1,valV_pos rfl]
theorem pen_left (c:Addr) (a l:Int):valV (penK c a l) (Sum.inr "left":Key)=some (.int l):=by
  unfold penK
  rw [valV_neg ne2,valV_neg ne3,valV_pos rfl]
theorem pen_put_at (c:Addr) (a l b:Int):putK (penK c a l) (Sum.inr "at":Key) (.int b)=penK c b l:=by
  have h:((penK c a l).any fun kv=>decide (kv.1=(Sum.inr "at":Key)))=true:=by rw [valV_any,pen_at]; rfl
  unfold putK
  rw [if_pos h]
  unfold penK
  simp only [List.map_cons,List.map_nil,if_neg ne1,if_neg (Ne.symm ne3),if_true]
theorem pen_put_left (c:Addr) (a l b:Int):putK (penK c a l) (Sum.inr "left":Key) (.int b)=penK c a b:=by
  have h:((penK c a l).any fun kv=>decide (kv.1=(Sum.inr "left":Key)))=true:=by rw [valV_any,pen_left]; rfl
  unfold putK
  rw [if_pos h]
  unfold penK
  simp only [List.map_cons,List.map_nil,if_neg ne2,if_neg ne3,if_true]
section
variable {H:Hp} {p c:Addr} {a l b:Int}
theorem dg_script (h:H p=some (.dK (penK c a l))):DGet H p (.str "script") (some (.ref c)):=by
  have q:=DGet.k (k:=(Sum.inr "script":Key)) h
  rw [pen_script] at q
  exact q
theorem dg_at (h:H p=some (.dK (penK c a l))):DGet H p (.str "at") (some (.int a)):=by
  have q:=DGet.k (k:=(Sum.inr "at":Key)) h
  rw [pen_at] at q
  exact q
theorem dg_left (h:H p=some (.dK (penK c a l))):DGet H p (.str "left") (some (.int l)):=by
  have q:=DGet.k (k:=(Sum.inr "left":Key)) h
  rw [pen_left] at q
  exact q
theorem dp_at (h:H p=some (.dK (penK c a l))):DPut H p (.str "at") (.int b) (upd H p (.dK (penK c b l))):=by
  have q:=DPut.k (k:=(Sum.inr "at":Key)) (v:=V.int b) h (by show 3 < sizeLine; decide)
  rw [pen_put_at] at q
  exact q
theorem dp_left (h:H p=some (.dK (penK c a l))):DPut H p (.str "left") (.int b) (upd H p (.dK (penK c a b))):=by
  have q:=DPut.k (k:=(Sum.inr "left":Key)) (v:=V.int b) h (by show 3 < sizeLine; decide)
  rw [pen_put_left] at q
  exact q
end
noncomputable def Kept (p:Addr) (H H':Hp):Prop:=∀ b o,H b=some o→b≠p→H' b=some o
theorem Kept.refl {p:Addr} {H:Hp}:Kept p H H:=fun _ _ h _=>h
theorem Kept.pen {p:Addr} {H H':Hp} {o:HO} (a:Kept p H H'):Kept p H (upd H' p o):=fun c u h n=>by
  rw [upd_ne n]
  exact a c u h n
theorem Same.new {q:Addr} {H H':Hp} {o:HO} (a:Same H H') (hq:H' q=none):Same H (upd H' q o):=fun c u h=>by
  have e:=a c u h
  rw [upd_ne (ne_of_none e hq)]
  exact e
end L2
set_option Elab.async false
set_option linter.all false
set_option maxRecDepth 100000
namespace L2
open PySem PySem.Spec PyProof.Rows
section
variable {prog:Program} {w:World} {A:Around} {E:Value→Shared→Prop} {s:Shared} {r:Addr} {a b c:Int} {t u v:Tok} {n:Nat}
theorem collect_rng {Q:List Value→Shared→Prop} (hh:A.handled=none) (hr:IsRange s.heap r a b c t u v) (hs:Builtin.Range.small a b c=true) (hn:Builtin.Range.rangeSize a b c=n) (hl:n≤2 ^ 24)
    (hQ:∀ (h':Heap) (tk:Nat) (acc:Array Value),(∀ b o,s.heap.get? b=some o→h'.get? b=some o)→ItemsOf (fun i v=>∃ t,v=.int (a+i * c) t) acc n→Q acc.toList { s with heap:=h',toks:=tk }):wpAny (model prog w) A (collect (.ref r)) Q E s:=by
  unfold collect; apply wpAny_bind; apply wpAny_runValue; refine codeAny_builtin F.entry_proto_collect ?_
  rw [Around.under_plainId F.plain_proto_collect _]
  show wpAny _ A.in1 (newList [] >>= fun z=>again (.builtin "list.__iadd__" ⟨[z,.ref r],[]⟩)) _ _ s
  refine wpAny_bind (wpAny_newObj_type (wpAny_pure ⟨plainId_quiet F.plain_list_iadd _,codeAny_builtin F.entry_list_iadd ?_⟩))
  rw [Around.under_plainId F.plain_list_iadd _]
  show wpAny _ A.in1 (Builtin.List.listExtendWith (.ref s.heap.objs.size) (.ref r) (.ref s.heap.objs.size)) _ _ { s with heap:=s.heap.push { cls:=.type "list",data:=.seq ([]:List Value).toArray } }
  let R:Result→Shared→Prop:=fun z s'=>match z with
    | .ok (.ret v)=>wpAny (model prog w) A (match v with
      | .ref q=>(do match (← load q).data with
        | .seq xs _=>pure xs.toList
        | _=>unsupported "internal:collect")
      | _=>unsupported "internal:collect") Q E s'
    | .ok _=>False
    | .error e=>E e s'
  refine wpAny_extend_range (R:=R) (s:={ s with heap:=s.heap.push { cls:=.type "list",data:=.seq ([]:List Value).toArray } }) hh (Heap.get?_push_of_some _ hr) hs hn hl _ _ _ (show (s.heap.push { cls:=.type "list",data:=.seq ([]:List Value).toArray }).get? s.heap.objs.size=some { cls:=.type "list",data:=.seq #[] } from Heap.get?_push_size _ rfl) fun h' tk acc c' hk hS hacc=>?_
  show wpAny _ A (load s.heap.objs.size >>= _) _ _ { s with heap:=h',toks:=tk }
  exact wpAny_bind (wpAny_load hS (wpAny_pure (hQ h' tk acc (fun b o e=>hk b o (Nat.ne_of_lt (Heap.lt_size e)) (Heap.get?_push_of_some _ e)) hacc)))

theorem tuple_rng {Q:Value→Shared→Prop} (hh:A.handled=none) (hr:IsRange s.heap r a b c t u v) (hs:Builtin.Range.small a b c=true) (hn:Builtin.Range.rangeSize a b c=n) (hl:n≤2 ^ 24)
    (hQ:∀ (h':Heap) (tk:Nat) (acc:Array Value),(∀ b o,s.heap.get? b=some o→h'.get? b=some o)→ItemsOf (fun i v=>∃ t,v=.int (a+i * c) t) acc n→Q (.ref h'.objs.size) { s with heap:=h'.push { cls:=.type "tuple",data:=.seq acc },toks:=tk }) :
    wpAny (model prog w) A (call (.type "tuple") [.ref r]) Q E s:=by
  refine callType_codes (Q₁:=fun z s1=>s1.TypeIs z "tuple"∧Q z s1) F.called_tuple (F.typeCall_tuple_1 _) F.entry_object_init ?_ fun z s1 h1=>?_
  · apply codeAny_of_tree
    show wpAny _ A.in1.in1 (do checkBuiltinCall "tuple.__new__" ⟨[.type "tuple",.ref r],[]⟩; again (.builtin "tuple.__new__" ⟨[.type "tuple",.ref r],[]⟩)) _ _ s
    refine wpAny_bind (wpAny_of_eq (F.newCall_tuple_1 _) (wpAny_pure ⟨plainId_quiet F.plain_tuple_new _,codeAny_builtin F.entry_tuple_new ?_⟩))
    rw [Around.under_plainId F.plain_tuple_new _]
    have f1:=sub_tuple_self; have f2:=init_tuple_lookup; have f3:=madeHere_tuple
    have fT:s.TypeIs (.ref r) "range":=⟨_,hr,rfl⟩
    wp_walk using wpAny_typeOf fT,collect_rng (A:=A.in1.in1) hh hr hs hn hl
    intro h' tk acc hk hacc
    show wpAny _ _ (Builtin.Tuple.tupleExact acc.toList.toArray >>= fun z=>ret z) _ _ _
    unfold Builtin.Tuple.tupleExact
    have e:acc.toList.toArray=acc:=by simp
    rw [e]
    refine wpAny_bind (wpAny_newObj_type (wpAny_pure ⟨⟨_,Heap.get?_push_size _ rfl,rfl⟩,hQ h' tk acc hk hacc⟩) ?_)
    show acc.size≤sizeLine
    rw [hacc.1,sizeLine_eq]
    exact hl
  · exact ⟨h1.1,F.args_object_init_2 z _,object_init_meets F.called_tuple.init.lookup F.called_tuple.made (by decide) prog w A.in1 _ s1 ⟨h1.1,rfl,h1.2⟩⟩
end
section
variable {X:Cx}
theorem call_tuple_rng (hh:X.A.handled=none):CallR X (.type "tuple") (fun xs H Q=>∃ a lo hi,xs=[.ref a]∧H a=some (.rng lo hi)∧-(2 ^ 62)≤lo∧lo < 2 ^ 62∧-(2 ^ 62)≤hi∧hi < 2 ^ 62∧(hi - lo).toNat≤1000∧∀ p,H p=none→Q (.ref p) (upd H p (.tup (rangeV lo (hi - lo).toNat)))):=by
  intro pins s σ H xs us Q I r h
  obtain ⟨a,lo,hi,rfl,ha,b1,b2,b3,b4,hn,q⟩:=h
  obtain ⟨u,rfl,ru⟩:=vals1 r
  cases ru
  obtain ⟨t,u,v,e⟩:=I.hok a _ ha
  have hsz:Builtin.Range.rangeSize lo hi 1=(((hi - lo).toNat:Nat):Int):=by rw [rangeSize_one]; split <;> omega
  refine tuple_rng hh (r:=a) (t:=t) (u:=u) (v:=v) e (small_one b1 b2 b3 b4) hsz (by omega) fun h' tk acc hk hacc=>?_
  have I1:Inv X pins σ H { s with heap:=h',toks:=tk }:=I.kept hk
  have hv:Vals (rangeV lo (hi - lo).toNat) acc.toList:=vals_range lo _ _ (by simpa using hacc.1) fun j v hv=>by
    obtain ⟨t,e⟩:=hacc.2 j v (by simpa using hv)
    exact ⟨t,by rw [e,Int.mul_one]⟩
  have hz:(rangeV lo (hi - lo).toNat).length≤sizeLine:=by
    unfold rangeV
    rw [List.length_map,List.length_range]
    exact Nat.le_trans hn (by decide)
  refine ⟨.ref h'.objs.size,_,I1.laid (h':=h'.push { cls:=.type "tuple",data:=.seq acc }) (t':=tk) (fun b o e=>Heap.get?_push_of_some _ e) (Nat.le_refl _) (show ObjOk X.prog X.w _ _ _ (.tup (rangeV lo (hi - lo).toNat)) from ⟨hz,acc.toList,hv,⟨_,Heap.get?_push_size _ rfl,rfl,0,by simp⟩⟩),rfl,q _ (I1.hok.fresh (Nat.le_refl _))⟩

theorem noFill_tup:fillsNumberSlot (.type "tuple") "mul"=pure false :=
  PySem.fillsNumberSlot_seq (id:="tuple.__mul__") (r:=some (.builtin "tuple.__rmul__")) PySem.F.slot_tuple_mul.lookup (by decide +kernel) PySem.F.slot_tuple_rmul.lookup (by decide +kernel)
theorem repeat_tup:seqRepeat? (.type "tuple")=pure (some (.builtin "tuple.__mul__")):=by
  unfold seqRepeat?
  rw [PySem.seqSlot_of (T:="tuple") (name:="__mul__") (id:="tuple.__mul__") PySem.F.slot_tuple_mul.lookup (by decide +kernel),PySem.seqSlot_of (T:="tuple") (name:="__rmul__") (id:="tuple.__rmul__") PySem.F.slot_tuple_rmul.lookup (by decide +kernel)]; rfl
theorem rmul_tup (x:Int) (t:Tok) (l:Addr) (items:Array Value) (n:Nat) (dd:Option Addr) (sl:Array (Option Value)) :
    Meets (Builtin.«int.__rmul__» ⟨[.int x t,.ref l],[]⟩) (fun _ R s=>s.heap.get? l=some { cls:=.type "tuple",dict:=dd,data:=.seq items n,slots:=sl }∧R (.ok (.ret Value.notImplemented)) s):=by
  refine .of_wp fun prog w A R s h=>?_
  obtain ⟨hp,g,d,tk,os⟩:=s
  obtain ⟨hl,h⟩:=h
  wp_walk
  exact ⟨_,rfl,h⟩
theorem mul_tup (x:Int) (t:Tok) (l:Addr) (items:Array Value) (n:Nat) (dd:Option Addr) (sl:Array (Option Value)) (h1:1 < x) (h2:x≤1000) (h3:items.isEmpty=false) (h4:items.size≤1000) :
    Meets (Builtin.«tuple.__mul__» ⟨[.ref l,.int x t],[]⟩) (fun _ R s=>s.heap.get? l=some { cls:=.type "tuple",dict:=dd,data:=.seq items n,slots:=sl } ∧
      R (.ok (.ret (.ref s.heap.objs.size))) { s with heap:=s.heap.push { cls:=.type "tuple",data:=.seq ((List.replicate x.toNat items).foldl (·++·) #[]) } }):=by
  refine .of_wp fun prog w A R s h=>?_
  obtain ⟨hp,g,d,tk,os⟩:=s
  obtain ⟨hl,h⟩:=h
  have hp0:0≤(items.size:Int) * x:=Int.mul_nonneg (by omega) (by omega)
  have hp1:(items.size:Int) * x≤1000 * 1000:=Int.mul_le_mul (by omega) h2 (by omega) (by omega)
  have hne:items.size≠0:=fun e=>by simp [Array.isEmpty,e] at h3
  wp_walk
  refine wpAny_ite_split (fun z=>absurd z (by simp; omega)) (fun _=>?_)
  refine wpAny_bind ?_
  unfold Builtin.Tuple.tupleItemsOf
  refine wpAny_bind (wpAny_seqItems hl rfl (wpAny_pure ?_))
  refine wpAny_ite_split (fun z=>absurd z (by rw [h3]; simp; omega)) (fun _=>?_)
  refine wpAny_ite_split (fun z=>absurd z (by rw [h3]; simp; omega)) (fun _=>?_)
  refine wpAny_ite_split (fun z=>absurd z (by omega)) (fun _=>?_)
  refine wpAny_ite_split (fun z=>absurd z (by unfold Builtin.Tuple.tupleTooMany; rw [sizeLine_eq]; simp; omega)) (fun _=>?_)
  unfold Builtin.Tuple.tupleExact
  have hlen:∀ k:Nat,((List.replicate k items).foldl (·++·) #[]).size=k * items.size:=fun k=>by
    have key:∀ (k:Nat) (acc:Array Value),((List.replicate k items).foldl (·++·) acc).size=acc.size+k * items.size:=by
      intro k
      induction k with
      | zero=>intro acc; simp
      | succ k ih =>
        intro acc
        rw [List.replicate_succ,List.foldl_cons,ih,Array.size_append,Nat.succ_mul]
        omega
    simpa using key k #[]
  refine wpAny_bind (wpAny_newObj_type (wpAny_pure ⟨_,rfl,h⟩) ?_)
  show ((List.replicate x.toNat items).foldl (·++·) #[]).size≤sizeLine
  rw [hlen,sizeLine_eq]
  have hx:x.toNat≤1000:=by omega
  exact Nat.le_trans (Nat.mul_le_mul hx h4) (by decide)
noncomputable def rRepT (K:PySem.W.Frag):R2:=fun x y H Q=>∃ a k xs,x=.ref a∧y=.int k∧SqT K H a xs∧1 < k∧k≤1000∧xs≠[]∧xs.length≤1000∧∀ p,H p=none→Q (.ref p) (upd H p (.tup (List.replicate k.toNat xs).flatten))
theorem vals_rep {xs:List V} {us:List Value} (r:Vals xs us):∀ k:Nat,Vals (List.replicate k xs).flatten (List.replicate k us).flatten
  | 0=>.nil
  | k+1=>by
    rw [List.replicate_succ,List.replicate_succ,List.flatten_cons,List.flatten_cons]
    exact r.append (vals_rep r k)
theorem op_repT:OpR X (binaryOp .Mult) (rRepT X.K):=by
  intro pins s σ H x y v u Q I rx ry h
  obtain ⟨a,k,xs,rfl,rfl,hq,h1,h2,hne,hl,q⟩:=h
  cases rx
  obtain ⟨t,rfl⟩:=ry
  obtain ⟨its,rv,p,hz⟩:=I.tuple hq
  obtain ⟨o,ho,hc,n,hd⟩:=p
  obtain ⟨oc,od,odd,osl⟩:=o
  have hc':oc=.type "tuple":=hc
  have hd':odd=.seq its.toArray n:=hd
  subst hc' hd'
  have hlen:=rv.length
  have hemp:its.toArray.isEmpty=false:=by
    cases its with
    | nil=>cases rv; exact absurd rfl hne
    | cons i r=>rfl
  have efl:(List.replicate k.toNat its.toArray).foldl (·++·) #[]=(List.replicate k.toNat its).flatten.toArray:=by
    have key:∀ (k:Nat) (acc:Array Value),(List.replicate k its.toArray).foldl (·++·) acc=acc++(List.replicate k its).flatten.toArray:=by
      intro k
      induction k with
      | zero=>intro acc; simp
      | succ k ih =>
        intro acc
        rw [List.replicate_succ,List.foldl_cons,ih,List.replicate_succ,List.flatten_cons]
        simp
    simpa using key k.toNat #[]
  refine wpAny_binaryOp_repeat_ref (T:="tuple") (U:="int") (by decide) ⟨_,ho,rfl⟩ (fun s'=>typeIs_int s' k t) noFill_tup PySem.F.fills_int_mul PySem.F.slot_int_rmul repeat_tup PySem.F.slot_int_index.lookup ?_
  refine call_meets PySem.F.slot_int_rmul (typeIs_int s k t) PySem.F.entry_int_rmul (PySem.F.args_int_rmul_2 _ _) (rmul_tup k t a its.toArray n od osl) ⟨ho,rfl,⟨_,ho,rfl⟩,?_⟩
  refine call_meets PySem.F.slot_tuple_mul ⟨_,ho,rfl⟩ PySem.F.entry_tuple_mul (PySem.F.args_tuple_mul_2 _ _) (mul_tup k t a its.toArray n od osl h1 h2 hemp (by rw [List.size_toArray]; omega)) ⟨ho,?_⟩
  rw [efl]
  have hzz:(List.replicate k.toNat xs).flatten.length≤sizeLine:=by
    have hx:k.toNat≤1000:=by omega
    have e:(List.replicate k.toNat xs).flatten.length=k.toNat * xs.length:=by simp
    rw [e,sizeLine_eq]
    exact Nat.le_trans (Nat.mul_le_mul hx hl) (by decide)
  exact ⟨.ref s.heap.objs.size,_,I.laid (t':=s.toks) (fun b o e=>Heap.get?_push_of_some _ e) (Nat.le_refl _) (show ObjOk X.prog X.w _ _ _ (.tup (List.replicate k.toNat xs).flatten) from ⟨hzz,_,vals_rep rv k.toNat,IsTup.new _ _⟩),rfl,q _ (I.hok.fresh (Nat.le_refl _))⟩
end
end L2
set_option Elab.async false
set_option linter.all false
set_option maxRecDepth 100000
namespace L2
open PySem PySem.Spec PyProof.Rows
noncomputable def rangeI (lo:Int) (n:Nat):List Int:=(List.range n).map fun (k:Nat)=>lo+(k:Int)
theorem rangeV_eq (lo:Int) (n:Nat):rangeV lo n=(rangeI lo n).map V.int:=by
  unfold rangeV rangeI
  rw [List.map_map]
  rfl
theorem rangeI_length (lo:Int) (n:Nat):(rangeI lo n).length=n:=by
  unfold rangeI
  rw [List.length_map,List.length_range]
theorem rangeI_mem {lo x:Int} {n:Nat} (h:x∈rangeI lo n):lo≤x∧x < lo+n:=by
  unfold rangeI at h
  obtain ⟨k,hk,rfl⟩:=List.mem_map.mp h
  have:=List.mem_range.mp hk
  omega
end L2
set_option Elab.async false
set_option linter.all false
set_option maxRecDepth 100000
namespace L2
open PySem PySem.Spec PyProof.Rows
noncomputable def CMulG (i j:Int):Prop:=i.natAbs < 2 ^ 8000∧j.natAbs < 2 ^ 8000
theorem bits_le {x:Int} (h:x.natAbs < 2 ^ 8000):Builtin.Int.intBits x≤8000:=by
  unfold Builtin.Int.intBits
  split
  · exact Nat.zero_le _
  · rename_i hx
    have h0:x.natAbs≠0:=by
      intro z
      have e:x=0:=Int.natAbs_eq_zero.mp z
      rw [e] at hx
      exact hx rfl
    exact (Nat.log2_lt h0).mpr h
theorem CMulG.ok {i j:Int} (h:CMulG i j):IntMulOk i j:=by
  have h1:=bits_le h.1
  have h2:=bits_le h.2
  unfold IntMulOk
  have e:Builtin.Int.intTooBig ((Builtin.Int.intBits i+Builtin.Int.intBits j:Nat):Int)=false:=by
    unfold Builtin.Int.intTooBig
    refine decide_eq_false ?_
    have hb:((16000:Nat):Int)≤(bitsLine:Int):=by decide
    omega
  intro z
  rw [Bool.and_eq_true] at z
  have z2:Builtin.Int.intTooBig ((Builtin.Int.intBits i+Builtin.Int.intBits j:Nat):Int)=true:=z.2
  rw [e] at z2
  cases z2
section
variable {X:Cx}
theorem op_mulG:OpR X (binaryOp .Mult) (rI CMulG fun i j=>.int (i * j)):=opI fun _ _ _ _ _ _ _ hc q=>mul_int q hc.ok
end
end L2
set_option Elab.async false
set_option linter.all false
set_option maxRecDepth 100000
namespace Gc
end Gc
set_option Elab.async false
set_option linter.all false
set_option maxRecDepth 100000
namespace L2
open PySem PySem.Spec PyProof.Rows
end L2
set_option Elab.async false
set_option linter.all false
set_option maxRecDepth 100000
namespace L2
open PySem PySem.Spec PyProof.Rows
theorem ints_of_vals:∀ (ns:List Int) (us:List Value),Vals (ns.map V.int) us→IntsAre us ns
  | [],_,r=>by cases r; exact .nil
  | n::ns,_,r=>by
    cases r with
    | cons r1 r2 =>
      obtain ⟨t,rfl⟩:=r1
      exact .cons n t (ints_of_vals ns _ r2)
theorem vals_of_ints:∀ {us:List Value} {ns:List Int},IntsAre us ns→Vals (ns.map V.int) us
  | _,_,.nil=>.nil
  | _,_,.cons n t r=>.cons ⟨t,rfl⟩ (vals_of_ints r)
theorem call_sortedI {X:Cx}:CallR X (.builtin "sorted") (fun xs H Q=>∃ l ns,xs=[.ref l]∧H l=some (.lst (ns.map V.int))∧ns.length < 64 ∧
    ∀ (ns':List Int) q,ns'.Perm ns→ns'.Pairwise (·≤·)→H q=none→Q (.ref q) (upd H q (.lst (ns'.map V.int)))):=by
  intro pins s σ H xs us Q I r h
  obtain ⟨l,ns,rfl,hl,h64,q⟩:=h
  obtain ⟨u,rfl,ru⟩:=vals1 r
  cases ru
  obtain ⟨z,its,n,rv,h1⟩:=I.hok _ _ hl
  have hlen:its.length=ns.length:=by
    have:=rv.length
    rw [List.length_map] at this
    exact this.symm
  refine sorted_ints (vs:=its) ⟨_,h1,rfl,n,rfl⟩ (ints_of_vals ns its rv) (by omega) fun out ns' a1 a2 a3=>?_
  obtain ⟨e,he⟩:=sortedAll_at s.heap its out
  refine ⟨.ref (s.heap.objs.size+1),_,I.laid (h':=sortedAll s.heap its out) (t':=s.toks) (fun _ _ w=>sortedAll_old w) (Nat.le_succ _) (show ObjOk X.prog X.w _ _ _ (.lst (ns'.map V.int)) from ⟨?_,out.toList,e,vals_of_ints a1,by simpa using he⟩),rfl,q ns' _ a2 a3 (I.hok.fresh (Nat.le_succ _))⟩
  rw [List.length_map,a2.length_eq,sizeLine_eq]
  omega
end L2
set_option Elab.async false
set_option linter.all false
set_option maxRecDepth 100000
namespace L2
open PySem PySem.Spec PyProof.Rows
inductive Tr (α:Type) where
  | ret (a:α)
  | draw (n:Int) (k:Int→Tr α)
  | fail
namespace Tr
variable {α β γ:Type}
noncomputable def bind:Tr α→(α→Tr β)→Tr β
  | .ret a,f=>f a
  | .draw n k,f=>.draw n fun r=>(k r).bind f
  | .fail,_=>.fail
@[simp] theorem ret_bind (a:α) (f:α→Tr β):(Tr.ret a).bind f=f a:=rfl
@[simp] theorem draw_bind (n:Int) (k:Int→Tr α) (f:α→Tr β):(Tr.draw n k).bind f=.draw n fun r=>(k r).bind f:=rfl
@[simp] theorem fail_bind (f:α→Tr β):(Tr.fail:Tr α).bind f=.fail:=rfl
@[simp] theorem bind_assoc:∀ (t:Tr α) (f:α→Tr β) (g:β→Tr γ),(t.bind f).bind g=t.bind fun a=>(f a).bind g
  | .ret a,f,g=>rfl
  | .draw n k,f,g=>by simp only [draw_bind]; congr 1; funext r; exact bind_assoc (k r) f g
  | .fail,f,g=>rfl
noncomputable def of:Option α→Tr α
  | some a=>.ret a
  | none=>.fail
@[simp] theorem of_some (a:α):Tr.of (some a)=.ret a:=rfl
@[simp] theorem of_none:Tr.of (none:Option α)=.fail:=rfl
noncomputable def ok:Tr α→Nat→(Nat→α→Prop)→Prop
  | .ret a,m,Q=>Q m a
  | .draw n k,m,Q=>m < 400000∧0 < n∧n < 1073741824∧∀ r,0≤r→r < n→(k r).ok (m+1) Q
  | .fail,_,_=>False
theorem ok_mono:∀ {t:Tr α} {m:Nat} {Q Q':Nat→α→Prop},t.ok m Q→(∀ m a,Q m a→Q' m a)→t.ok m Q'
  | .ret a,m,_,_,h,hq=>hq m a h
  | .draw n k,m,_,_,⟨h1,h2,h3,h⟩,hq=>⟨h1,h2,h3,fun r h0 h1=>ok_mono (h r h0 h1) hq⟩
theorem ok_bind:∀ {t:Tr α} {f:α→Tr β} {m:Nat} {Q:Nat→β→Prop},(t.bind f).ok m Q ↔ t.ok m fun m' a=>(f a).ok m' Q
  | .ret a,f,m,Q=>Iff.rfl
  | .draw n k,f,m,Q=>by
    show (_∧_∧_∧∀ r,_) ↔ (_∧_∧_∧∀ r,_)
    refine and_congr_right fun _=>and_congr_right fun _=>and_congr_right fun _=>forall_congr' fun r=>forall_congr' fun _=>forall_congr' fun _=>ok_bind
  | .fail,f,m,Q=>Iff.rfl
theorem ok_of {o:Option α} {m:Nat} {Q:Nat→α→Prop} (h:(Tr.of o).ok m Q):∃ a,o=some a∧Q m a:=by
  cases o with
  | none=>exact h.elim
  | some a=>exact ⟨a,rfl,h⟩
noncomputable def all:Tr α→Nat→(α→Prop)→Prop
  | .ret a,_,P=>P a
  | .draw w k,n+1,P=>0 < w∧w < 1073741824∧∀ r,0≤r→r < w→(k r).all n P
  | .draw _ _,0,_=>False
  | .fail,_,_=>False
theorem all_ok:∀ {t:Tr α} {n m:Nat} {P:α→Prop},t.all n P→m+n≤400000→t.ok m fun m' a=>m'≤m+n∧P a
  | .ret a,n,m,P,h,hm=>⟨by omega,h⟩
  | .draw w k,n+1,m,P,⟨h1,h2,h⟩,hm=>⟨by omega,h1,h2,fun r a b=>ok_mono (all_ok (h r a b) (by omega)) fun m' x hz0=>by
    obtain ⟨p,q⟩:=hz0
    exact ⟨by omega,q⟩⟩
theorem all_mono:∀ {t:Tr α} {n n':Nat} {P P':α→Prop},t.all n P→n≤n'→(∀ a,P a→P' a)→t.all n' P'
  | .ret a,n,n',P,P',h,hn,hp=>hp a h
  | .draw w k,n+1,n'+1,P,P',⟨h1,h2,h⟩,hn,hp=>⟨h1,h2,fun r a b=>all_mono (h r a b) (by omega) hp⟩
  | .draw w k,n+1,0,P,P',h,hn,hp=>by omega
theorem all_bind:∀ {t:Tr α} {f:α→Tr β} {n n':Nat} {P:α→Prop} {P':β→Prop},t.all n P→(∀ a,P a→(f a).all n' P')→(t.bind f).all (n+n') P'
  | .ret a,f,n,n',P,P',h,hf=>all_mono (hf a h) (by omega) fun _ x=>x
  | .draw w k,f,n+1,n',P,P',⟨h1,h2,h⟩,hf=>by
    have e:n+1+n'=(n+n')+1:=by omega
    rw [e]
    exact ⟨h1,h2,fun r a b=>all_bind (h r a b) hf⟩
end Tr
noncomputable abbrev Sub (G H:Hp):Prop:=∀ b o,G b=some o→H b=some o
structure Pk where
  is:HO→Hp→Nat→Prop
  mono:∀ {o:HO} {G G':Hp} {m:Nat},Sub G G'→is o G m→is o G' m
structure Wd (PK:Pk) (pa:Addr) (m:Nat) (G H:Hp):Prop where
  sub:Sub G H
  gpa:G pa=none
  pen:∃ o,H pa=some o∧PK.is o G m
structure Stp (pa:Addr) (G H G' H':Hp):Prop where
  gs:Sub G G'
  gn:∀ b o,G' b=some o→G b=some o∨H b=none
  hk:∀ b o,H b=some o→b≠pa→H' b=some o
theorem Stp.refl {pa:Addr} {G H:Hp}:Stp pa G H G H:=⟨fun _ _ h=>h,fun _ _ h=>.inl h,fun _ _ h _=>h⟩
theorem Stp.trans {pa:Addr} {G H G1 H1 G2 H2:Hp} (a:Stp pa G H G1 H1) (b:Stp pa G1 H1 G2 H2) (hp:∃ o,H1 pa=some o):Stp pa G H G2 H2:=by
  refine ⟨fun c o h=>b.gs c o (a.gs c o h),fun c o h=>?_,fun c o h n=>b.hk c o (a.hk c o h n) n⟩
  rcases b.gn c o h with z | z
  · exact a.gn c o z
  · refine .inr ?_
    cases e:H c with
    | none=>rfl
    | some u =>
      by_cases hc:c=pa
      · subst hc
        obtain ⟨o',z'⟩:=hp
        rw [z'] at z; cases z
      · rw [a.hk c u e hc] at z; cases z
section
variable {PK:Pk} {pa:Addr} {m:Nat} {G H:Hp}
theorem Wd.some (w:Wd PK pa m G H):∃ o,H pa=some o:=let ⟨o,h,_⟩:=w.pen; ⟨o,h⟩
theorem Wd.ne (w:Wd PK pa m G H) {p:Addr} (hp:H p=none):pa≠p:=fun e=>by
  obtain ⟨o,h⟩:=w.some
  rw [e,hp] at h; cases h
theorem Sub.new {p:Addr} {o:HO} (hp:G p=none):Sub G (upd G p o):=fun b u h=>by rw [upd_ne (ne_of_none h hp)]; exact h
theorem Wd.gnone (w:Wd PK pa m G H) {p:Addr} (hp:H p=none):G p=none:=by
  cases e:G p with
  | none=>rfl
  | some o=>rw [w.sub p o e] at hp; cases hp
theorem Sub.upd2 {p:Addr} {o:HO} (s:Sub G H):Sub (upd G p o) (upd H p o):=fun b u h=>by
  by_cases e:b=p
  · subst e; rw [upd_same] at h ⊢; exact h
  · rw [upd_ne e] at h ⊢; exact s b u h
theorem Wd.new (w:Wd PK pa m G H) {p:Addr} {o:HO} (hp:H p=none):Wd PK pa m (upd G p o) (upd H p o)∧Stp pa G H (upd G p o) (upd H p o):=by
  have hg:=w.gnone hp
  have hne:=w.ne hp
  refine ⟨⟨w.sub.upd2,by rw [upd_ne hne]; exact w.gpa,?_⟩,⟨Sub.new hg,fun b u h=>?_,fun b u h _=>by rw [upd_ne (ne_of_none h hp)]; exact h⟩⟩
  · obtain ⟨u,h,q⟩:=w.pen
    exact ⟨u,by rw [upd_ne hne]; exact h,PK.mono (Sub.new hg) q⟩
  · by_cases e:b=p
    · subst e; exact .inr hp
    · rw [upd_ne e] at h; exact .inl h
theorem Wd.own (w:Wd PK pa m G H) {p:Addr} {o:HO} (hp:H p=none):Wd PK pa m G (upd H p o)∧Stp pa G H G (upd H p o):=by
  have hne:=w.ne hp
  refine ⟨⟨fun b u h=>by rw [upd_ne (ne_of_none (w.sub b u h) hp)]; exact w.sub b u h,w.gpa,?_⟩,⟨fun _ _ h=>h,fun _ _ h=>.inl h,fun b u h _=>by rw [upd_ne (ne_of_none h hp)]; exact h⟩⟩
  obtain ⟨u,h,q⟩:=w.pen
  exact ⟨u,by rw [upd_ne hne]; exact h,q⟩
theorem Wd.freeze (w:Wd PK pa m G H) {p:Addr} {o:HO} (hp:H p=Option.some o) (hg:G p=none) (hne:pa≠p):Wd PK pa m (upd G p o) H:=by
  refine ⟨fun b u h=>?_,by rw [upd_ne hne]; exact w.gpa,?_⟩
  · by_cases e:b=p
    · subst e; rw [upd_same] at h; rw [hp]; exact h
    · rw [upd_ne e] at h; exact w.sub b u h
  · obtain ⟨u,h,q⟩:=w.pen
    exact ⟨u,h,PK.mono (Sub.new hg) q⟩

noncomputable def Kn (PK:Pk) (pa:Addr) (m:Nat) (G H:Hp) (x:PyData) (Q:VK):Prop:=∀ v G' H',Stp pa G H G' H'→Wd PK pa m G' H'→Dn G' v x→Q v H'
variable {x:PyData} {Q:VK} {v:V} {vs:List V} {ds:List PyData} {p:Addr}
theorem Kn.here (k:Kn PK pa m G H x Q) (w:Wd PK pa m G H) (d:Dn G v x):Q v H:=k v G H .refl w d
theorem Kn.tup (k:Kn PK pa m G H (.tuple ds) Q) (w:Wd PK pa m G H) (d:DnAll G vs ds) (hp:H p=none):Q (.ref p) (upd H p (.tup vs)):=by
  obtain ⟨w1,s1⟩:=w.new (o:=.tup vs) hp
  exact k _ _ _ s1 w1 (.tup upd_same (DnAll.mono s1.gs d))
theorem Kn.lst (k:Kn PK pa m G H (.list ds) Q) (w:Wd PK pa m G H) (d:DnAll G vs ds) (hp:H p=none):Q (.ref p) (upd H p (.lst vs)):=by
  obtain ⟨w1,s1⟩:=w.new (o:=.lst vs) hp
  exact k _ _ _ s1 w1 (.lst upd_same (DnAll.mono s1.gs d))
theorem Kn.later {G1 H1:Hp} (k:Kn PK pa m G H x Q) (s:Stp pa G H G1 H1) (hp:∃ o,H1 pa=Option.some o):Kn PK pa m G1 H1 x Q:=fun v G' H' s' w d=>k v G' H' (s.trans s' hp) w d
end
inductive Sl where
  | un | d (x:PyData) | own (xs:List PyData) | pen | dic (kvs:List (Int×PyData))
inductive KD (G:Hp):List (Key×V)→List (Int×PyData)→Prop
  | nil:KD G [] []
  | cons {i:Int} {v:V} {d:PyData} {ks:List (Key×V)} {kvs:List (Int×PyData)}:Dn G v d→KD G ks kvs→KD G ((.inl i,v)::ks) ((i,d)::kvs)
theorem KD.mono {G G':Hp} (s:Sub G G') {ks:List (Key×V)} {kvs:List (Int×PyData)} (h:KD G ks kvs):KD G' ks kvs:=by
  induction h with
  | nil=>exact .nil
  | cons h _ ih=>exact .cons (h.mono s) ih
inductive SlOk (pa:Addr) (H₀ G H:Hp):Option V→Sl→Prop
  | un {o:Option V}:SlOk pa H₀ G H o .un
  | d {v:V} {x:PyData}:Dn G v x→SlOk pa H₀ G H (some v) (.d x)
  | own {p:Addr} {vs:List V} {xs:List PyData}:H p=some (.lst vs)→G p=none→H₀ p=none→DnAll G vs xs→SlOk pa H₀ G H (some (.ref p)) (.own xs)
  | pen:SlOk pa H₀ G H (some (.ref pa)) .pen
  | dic {p:Addr} {ks:List (Key×V)} {kvs:List (Int×PyData)}:H p=some (.dK ks)→G p=none→H₀ p=none→KD G ks kvs→SlOk pa H₀ G H (some (.ref p)) (.dic kvs)
structure Rl (PK:Pk) (pa:Addr) (G₀ H₀:Hp) (m:Nat) (σ:St) (ρ:List Sl) (G H:Hp):Prop where
  wd:Wd PK pa m G H
  st:Stp pa G₀ H₀ G H
  p0:∃ o,H₀ pa=some o
  sl:∀ (i:Nat) (s:Sl),ρ[i]?=some s→∃ o,σ[i]?=some o∧SlOk pa H₀ G H o s
  len:ρ.length=σ.length
  dj:∀ (i j:Nat) (xs ys:List PyData),i≠j→ρ[i]?=some (.own xs)→ρ[j]?=some (.own ys)→σ[i]?≠σ[j]?
  dj2:∀ (i j:Nat) (xs ys:List (Int×PyData)),i≠j→ρ[i]?=some (.dic xs)→ρ[j]?=some (.dic ys)→σ[i]?≠σ[j]?
section
variable {PK:Pk} {pa:Addr} {G₀ H₀ G H:Hp} {m:Nat} {σ:St} {ρ:List Sl}
theorem set_old {α:Type} {l:List α} {k i:Nat} {x y:α} (h:(l.set k x)[i]?=some y) (hn:x≠y):k≠i∧l[i]?=some y:=by
  have hi:k≠i:=fun e=>by
    subst e
    have hl:k < l.length:=by
      have:=(List.getElem?_eq_some_iff.mp h).1
      rwa [List.length_set] at this
    rw [List.getElem?_set_self hl] at h
    exact hn (Option.some.inj h)
  rw [List.getElem?_set_ne hi] at h
  exact ⟨hi,h⟩
theorem dj_set {α:Type} {T:α→Sl} {k:Nat} {x:Sl} {v:Option V} (dj:∀ (i j:Nat) (a b:α),i≠j→ρ[i]?=some (T a)→ρ[j]?=some (T b)→σ[i]?≠σ[j]?) (hn:∀ a,x≠T a) :
    ∀ (i j:Nat) (a b:α),i≠j→(ρ.set k x)[i]?=some (T a)→(ρ.set k x)[j]?=some (T b)→(σ.set k v)[i]?≠(σ.set k v)[j]?:=fun i j a b hij h1 h2=>by
  obtain ⟨hi,h1⟩:=set_old h1 (hn a)
  obtain ⟨hj,h2⟩:=set_old h2 (hn b)
  rw [List.getElem?_set_ne hi,List.getElem?_set_ne hj]
  exact dj i j a b hij h1 h2
theorem dj_set0 {α:Type} {T:α→Sl} {k:Nat} {x:Sl} (dj:∀ (i j:Nat) (a b:α),i≠j→ρ[i]?=some (T a)→ρ[j]?=some (T b)→σ[i]?≠σ[j]?) (hn:∀ a,x≠T a) :
    ∀ (i j:Nat) (a b:α),i≠j→(ρ.set k x)[i]?=some (T a)→(ρ.set k x)[j]?=some (T b)→σ[i]?≠σ[j]?:=fun i j a b hij h1 h2 =>
  dj i j a b hij (set_old h1 (hn a)).2 (set_old h2 (hn b)).2
theorem SlOk.step {G' H':Hp} {o:Option V} {s:Sl} (k:SlOk pa H₀ G H o s) (hp0:∃ o,H₀ pa=some o) (st:Stp pa G H G' H'):SlOk pa H₀ G' H' o s:=by
  cases k with
  | un=>exact .un
  | d h=>exact .d (h.mono st.gs)
  | pen=>exact .pen
  | @own p vs xs h1 h2 h3 h4 =>
    have hne:p≠pa:=fun e=>by
      obtain ⟨u,hu⟩:=hp0
      rw [← e,h3] at hu; cases hu
    refine .own (st.hk _ _ h1 hne) ?_ h3 (DnAll.mono st.gs h4)
    cases e:G' p with
    | none=>rfl
    | some u =>
      rcases st.gn p u e with z | z
      · rw [h2] at z; cases z
      · rw [h1] at z; cases z
  | @dic p ks kvs h1 h2 h3 h4 =>
    have hne:p≠pa:=fun e=>by
      obtain ⟨u,hu⟩:=hp0
      rw [← e,h3] at hu; cases hu
    refine .dic (st.hk _ _ h1 hne) ?_ h3 (h4.mono st.gs)
    cases e:G' p with
    | none=>rfl
    | some u =>
      rcases st.gn p u e with z | z
      · rw [h2] at z; cases z
      · rw [h1] at z; cases z
theorem Rl.step {G' H':Hp} {m':Nat} (r:Rl PK pa G₀ H₀ m σ ρ G H) (s:Stp pa G H G' H') (w:Wd PK pa m' G' H'):Rl PK pa G₀ H₀ m' σ ρ G' H' :=
  ⟨w,r.st.trans s r.wd.some,r.p0,fun i sl h=>let ⟨o,h1,h2⟩:=r.sl i sl h; ⟨o,h1,h2.step r.p0 s⟩,r.len,r.dj,r.dj2⟩
theorem Rl.set (r:Rl PK pa G₀ H₀ m σ ρ G H) {v:V} {x:PyData} (d:Dn G v x) (k:Nat):Rl PK pa G₀ H₀ m (σ.set k (some v)) (ρ.set k (.d x)) G H:=by
  refine ⟨r.wd,r.st,r.p0,fun i s h=>?_,by rw [List.length_set,List.length_set]; exact r.len,fun i j xs ys hij h1 h2=>?_,dj_set r.dj2 fun a h=>by cases h⟩
  · by_cases e:k=i
    · subst e
      have hl:k < ρ.length:=by
        have:=(List.getElem?_eq_some_iff.mp h).1
        rwa [List.length_set] at this
      rw [List.getElem?_set_self hl] at h
      cases h
      exact ⟨_,List.getElem?_set_self (by rw [← r.len]; exact hl),.d d⟩
    · rw [List.getElem?_set_ne e] at h ⊢
      exact r.sl i s h
  · have hi:k≠i:=fun e=>by
      subst e
      have hl:k < ρ.length:=by
        have:=(List.getElem?_eq_some_iff.mp h1).1
        rwa [List.length_set] at this
      rw [List.getElem?_set_self hl] at h1; cases h1
    have hj:k≠j:=fun e=>by
      subst e
      have hl:k < ρ.length:=by
        have:=(List.getElem?_eq_some_iff.mp h2).1
        rwa [List.length_set] at this
      rw [List.getElem?_set_self hl] at h2; cases h2
    rw [List.getElem?_set_ne hi] at h1 ⊢
    rw [List.getElem?_set_ne hj] at h2 ⊢
    exact r.dj i j xs ys hij h1 h2
theorem Rl.setO (r:Rl PK pa G₀ H₀ m σ ρ G H) {p:Addr} {vs:List V} {xs:List PyData} (h1:H p=some (.lst vs)) (h2:G p=none) (h3:H₀ p=none) (h4:DnAll G vs xs)
    (hd:∀ (i:Nat) (ys:List PyData),ρ[i]?=some (.own ys)→σ[i]?≠some (some (.ref p))) (k:Nat):Rl PK pa G₀ H₀ m (σ.set k (some (.ref p))) (ρ.set k (.own xs)) G H:=by
  have up:∀ {i:Nat} {s:Sl},(ρ.set k (.own xs))[i]?=some s→i=k→s=.own xs∧(σ.set k (some (V.ref p)))[i]?=some (some (.ref p)):=fun {i s} h e=>by
    subst e
    have hl:i < ρ.length:=by
      have:=(List.getElem?_eq_some_iff.mp h).1
      rwa [List.length_set] at this
    rw [List.getElem?_set_self hl] at h
    cases h
    exact ⟨rfl,List.getElem?_set_self (by rw [← r.len]; exact hl)⟩
  refine ⟨r.wd,r.st,r.p0,fun i s h=>?_,by rw [List.length_set,List.length_set]; exact r.len,fun i j ys zs hij e1 e2=>?_,dj_set r.dj2 fun a h=>by cases h⟩
  · by_cases e:i=k
    · obtain ⟨e1,e2⟩:=up h e
      subst e1
      exact ⟨_,e2,.own h1 h2 h3 h4⟩
    · rw [List.getElem?_set_ne (Ne.symm e)] at h ⊢
      exact r.sl i s h
  · by_cases ei:i=k
    · have q:=(up e1 ei).2
      have hj:k≠j:=fun e=>hij (ei.trans e)
      rw [q]
      rw [List.getElem?_set_ne hj] at e2 ⊢
      exact fun z=>hd j zs e2 z.symm
    · rw [List.getElem?_set_ne (Ne.symm ei)] at e1 ⊢
      by_cases ej:j=k
      · rw [(up e2 ej).2]
        exact hd i ys e1
      · rw [List.getElem?_set_ne (Ne.symm ej)] at e2 ⊢
        exact r.dj i j ys zs hij e1 e2
theorem Rl.h0 (r:Rl PK pa G₀ H₀ m σ ρ G H) {p:Addr} (hp:H p=none):H₀ p=none:=by
  cases e:H₀ p with
  | none=>rfl
  | some u =>
    by_cases hc:p=pa
    · subst hc
      obtain ⟨o,h⟩:=r.wd.some
      rw [hp] at h; cases h
    · rw [r.st.hk p u e hc] at hp; cases hp
theorem Rl.apart (r:Rl PK pa G₀ H₀ m σ ρ G H) {p:Addr} (hp:H p=none) (i:Nat) (ys:List PyData) (h:ρ[i]?=some (.own ys)):σ[i]?≠some (some (.ref p)):=fun e=>by
  obtain ⟨o,h1,h2⟩:=r.sl i _ h
  rw [e] at h1
  cases h1
  cases h2 with
  | own a _ _ _=>rw [hp] at a; cases a
theorem Rl.change (r:Rl PK pa G₀ H₀ m σ ρ G H) {k:Nat} {xs ys:List PyData} {p:Addr} {ws:List V} (hk:ρ[k]?=some (.own xs)) (hσ:σ[k]?=some (some (.ref p))) (d:DnAll G ws ys) :
    Rl PK pa G₀ H₀ m σ (ρ.set k (.own ys)) G (upd H p (.lst ws)):=by
  obtain ⟨o,h1,h2⟩:=r.sl k _ hk
  rw [hσ] at h1
  cases h1
  cases h2 with
  | @own _ vs _ a1 a2 a3 a4 =>
    have hne:pa≠p:=fun e=>by
      obtain ⟨u,hu⟩:=r.p0
      rw [e,a3] at hu; cases hu
    have hl:k < ρ.length:=(List.getElem?_eq_some_iff.mp hk).1
    refine ⟨⟨fun b o h=>?_,r.wd.gpa,?_⟩,⟨r.st.gs,r.st.gn,fun b o h hb=>?_⟩,r.p0,fun i s h=>?_,by rw [List.length_set]; exact r.len,fun i j us ws hij e1 e2=>?_,dj_set0 r.dj2 fun a h=>by cases h⟩
    · rw [upd_ne (fun e=>by subst e; rw [a2] at h; cases h)]
      exact r.wd.sub b o h
    · obtain ⟨u,h,q⟩:=r.wd.pen
      exact ⟨u,by rw [upd_ne hne]; exact h,q⟩
    · rw [upd_ne (fun e=>by subst e; rw [a3] at h; cases h)]
      exact r.st.hk b o h hb
    · by_cases e:k=i
      · subst e
        rw [List.getElem?_set_self hl] at h
        cases h
        exact ⟨_,hσ,.own upd_same a2 a3 d⟩
      · rw [List.getElem?_set_ne e] at h
        obtain ⟨o,q1,q2⟩:=r.sl i s h
        refine ⟨o,q1,?_⟩
        cases q2 with
        | un=>exact .un
        | d z=>exact .d z
        | pen=>exact .pen
        | dic b1 b2 b3 b4=>exact .dic (by rw [upd_ne (fun e2=>by subst e2; rw [a1] at b1; cases b1)]; exact b1) b2 b3 b4
        | own b1 b2 b3 b4 =>
          refine .own ?_ b2 b3 b4
          rw [upd_ne]
          · exact b1
          · intro e2
            subst e2
            exact r.dj k i _ _ e hk h (by rw [hσ,q1])
    · by_cases ei:k=i
      · subst ei
        rw [List.getElem?_set_ne hij] at e2
        exact r.dj k j _ _ hij hk e2
      · rw [List.getElem?_set_ne ei] at e1
        by_cases ej:k=j
        · subst ej
          exact r.dj i k _ _ hij e1 hk
        · rw [List.getElem?_set_ne ej] at e2
          exact r.dj i j _ _ hij e1 e2
noncomputable def fz (k:Nat) (ρ:List Sl):List Sl:=match ρ[k]? with
  | some (.own xs)=>ρ.set k (.d (.list xs))
  | _=>ρ
theorem Rl.freeze (r:Rl PK pa G₀ H₀ m σ ρ G H) (k:Nat):∃ G',Sub G G'∧Rl PK pa G₀ H₀ m σ (fz k ρ) G' H:=by
  unfold fz
  split
  · rename_i xs hk
    obtain ⟨o,h1,h2⟩:=r.sl k _ hk
    cases h2 with
    | @own p vs _ a1 a2 a3 a4 =>
      have hne:pa≠p:=fun e=>by
        obtain ⟨u,hu⟩:=r.p0
        rw [e,a3] at hu; cases hu
      have hl:k < ρ.length:=(List.getElem?_eq_some_iff.mp hk).1
      have sb:Sub G (upd G p (.lst vs)):=Sub.new a2
      refine ⟨upd G p (.lst vs),sb,r.wd.freeze a1 a2 hne,⟨fun b o h=>sb b o (r.st.gs b o h),fun b o h=>?_,r.st.hk⟩,r.p0,fun i s h=>?_,by rw [List.length_set]; exact r.len,fun i j us ws hij e1 e2=>?_,dj_set0 r.dj2 fun a h=>by cases h⟩
      · by_cases e:b=p
        · subst e; exact .inr a3
        · rw [upd_ne e] at h; exact r.st.gn b o h
      · by_cases e:k=i
        · subst e
          rw [List.getElem?_set_self hl] at h
          cases h
          exact ⟨_,h1,.d (.lst upd_same (DnAll.mono sb a4))⟩
        · rw [List.getElem?_set_ne e] at h
          obtain ⟨o,q1,q2⟩:=r.sl i s h
          refine ⟨o,q1,?_⟩
          cases q2 with
          | un=>exact .un
          | d z=>exact .d (z.mono sb)
          | pen=>exact .pen
          | dic b1 b2 b3 b4=>exact .dic b1 (by rw [upd_ne (fun e2=>by subst e2; rw [a1] at b1; cases b1)]; exact b2) b3 (b4.mono sb)
          | own b1 b2 b3 b4 =>
            refine .own b1 ?_ b3 (DnAll.mono sb b4)
            rw [upd_ne]
            · exact b2
            · intro e2
              subst e2
              exact r.dj k i _ _ e hk h (by rw [h1,q1])
      · have hi:k≠i:=fun e=>by subst e; rw [List.getElem?_set_self hl] at e1; cases e1
        have hj:k≠j:=fun e=>by subst e; rw [List.getElem?_set_self hl] at e2; cases e2
        rw [List.getElem?_set_ne hi] at e1
        rw [List.getElem?_set_ne hj] at e2
        exact r.dj i j _ _ hij e1 e2
  · exact ⟨G,fun _ _ h=>h,r⟩
end
end L2
set_option Elab.async false
set_option linter.all false
set_option maxRecDepth 100000
namespace L2
open PySem PySem.Spec PyProof.Rows
noncomputable def TAe (PK:Pk) (i:List Sl→Tr PyData):TE:=fun σ H Q=>∃ pa G₀ H₀ m ρ G,Rl PK pa G₀ H₀ m σ ρ G H∧(i ρ).ok m fun m' x=>Kn PK pa m' G H x Q
noncomputable def TAt (PK:Pk) (i:List Sl→Tr Bool):TT:=fun σ H Q=>∃ pa G₀ H₀ m ρ G,Rl PK pa G₀ H₀ m σ ρ G H∧(i ρ).ok m fun m' b=>∀ G' H',Stp pa G H G' H'→Wd PK pa m' G' H'→Q b H'
noncomputable def TAd (PK:Pk) (i:List Sl→Tr (List PyData)):TA:=fun σ H Q=>∃ pa G₀ H₀ m ρ G,Rl PK pa G₀ H₀ m σ ρ G H∧(i ρ).ok m fun m' xs=>∀ vs G' H',Stp pa G H G' H'→Wd PK pa m' G' H'→DnAll G' vs xs→Q vs H'
noncomputable def Ko1 (PK:Pk) (pa:Addr) (m:Nat) (G H:Hp) (xs:List PyData) (Q:VK):Prop:=∀ p vs G' H',Stp pa G H G' H'→Wd PK pa m G' H'→H p=none→G' p=none→H' p=some (.lst vs)→DnAll G' vs xs→Q (.ref p) H'
noncomputable def TAo (PK:Pk) (i:List Sl→Tr (List PyData)):TE:=fun σ H Q=>∃ pa G₀ H₀ m ρ G,Rl PK pa G₀ H₀ m σ ρ G H∧(i ρ).ok m fun m' xs=>Ko1 PK pa m' G H xs Q
inductive ArOk (pa:Addr) (G:Hp):V→Sl→Prop
  | d {v:V} {x:PyData}:Dn G v x→ArOk pa G v (.d x)
  | pen:ArOk pa G (.ref pa) .pen
inductive ArsOk (pa:Addr) (G:Hp):List V→List Sl→Prop
  | nil:ArsOk pa G [] []
  | cons {v:V} {vs:List V} {s:Sl} {ss:List Sl}:ArOk pa G v s→ArsOk pa G vs ss→ArsOk pa G (v::vs) (s::ss)
theorem ArOk.mono {pa:Addr} {G G':Hp} {v:V} {s:Sl} (h:ArOk pa G v s) (e:Sub G G'):ArOk pa G' v s:=by
  cases h with
  | d z=>exact .d (z.mono e)
  | pen=>exact .pen
theorem ArsOk.mono {pa:Addr} {G G':Hp} (e:Sub G G') {vs:List V} {ss:List Sl} (h:ArsOk pa G vs ss):ArsOk pa G' vs ss:=by
  induction h with
  | nil=>exact .nil
  | cons h t ih=>exact .cons (h.mono e) ih
theorem ArsOk.length {pa:Addr} {G:Hp} {vs:List V} {ss:List Sl} (h:ArsOk pa G vs ss):vs.length=ss.length:=by
  induction h with
  | nil=>rfl
  | cons h t ih=>exact congrArg (·+1) ih
noncomputable def TAa (PK:Pk) (i:List Sl→Tr (List Sl)):TA:=fun σ H Q=>∃ pa G₀ H₀ m ρ G,Rl PK pa G₀ H₀ m σ ρ G H∧(i ρ).ok m fun m' as=>∀ vs G' H',Stp pa G H G' H'→Wd PK pa m' G' H'→ArsOk pa G' vs as→Q vs H'

inductive Re where
  | d (x:PyData) | own (xs:List PyData)
noncomputable def Re.val:Re→PyData
  | .d x=>x
  | .own xs=>.list xs
@[simp] theorem Re.val_d (x:PyData):(Re.d x).val=x:=rfl
@[simp] theorem Re.val_own (xs:List PyData):(Re.own xs).val=.list xs:=rfl
inductive Ou where
  | next (ρ:List Sl) | ret (r:Re) | brk (ρ:List Sl) | cont (ρ:List Sl)
noncomputable def ReOk (H₀ G H:Hp) (v:V):Re→Prop
  | .d x=>Dn G v x
  | .own xs=>∃ p vs,v=.ref p∧H p=some (.lst vs)∧G p=none∧H₀ p=none∧DnAll G vs xs
noncomputable def Kr (PK:Pk) (pa:Addr) (m:Nat) (G₀ H₀:Hp) (r:Re) (Q:VK):Prop:=∀ v G H,Stp pa G₀ H₀ G H→Wd PK pa m G H→ReOk H₀ G H v r→Q v H
noncomputable def Ko (PK:Pk) (pa:Addr) (G₀ H₀ Gs:Hp) (D:Ends) (m:Nat):Ou→Prop
  | .next ρ=>∀ σ G H,Sub Gs G→Rl PK pa G₀ H₀ m σ ρ G H→D.nx σ H
  | .ret r=>Kr PK pa m G₀ H₀ r D.rt
  | .brk ρ=>∀ σ G H,Sub Gs G→Rl PK pa G₀ H₀ m σ ρ G H→D.bk σ H
  | .cont ρ=>∀ σ G H,Sub Gs G→Rl PK pa G₀ H₀ m σ ρ G H→D.ct σ H
noncomputable def TAs (PK:Pk) (i:List Sl→Tr Ou):TS:=fun D σ H=>∃ pa G₀ H₀ m ρ G,Rl PK pa G₀ H₀ m σ ρ G H∧(i ρ).ok m (Ko PK pa G₀ H₀ G D)

theorem PE.imp {X:Cx} {e:Expr} {t t':TE} (h:PE X e t) (q:∀ σ H Q,t' σ H Q→t σ H Q):PE X e t':=fun pins s σ H Q I z=>h pins s σ H Q I (q σ H Q z)
theorem PT.imp {X:Cx} {e:Expr} {t t':TT} (h:PT X e t) (q:∀ σ H Q,t' σ H Q→t σ H Q):PT X e t':=fun pins s σ H Q I z=>h pins s σ H Q I (q σ H Q z)
theorem PW.imp {X:Cx} {e:Expr} {t t':TT} (h:PW X e t) (q:∀ σ H Q,t' σ H Q→t σ H Q):PW X e t':=fun wh pins s σ H Q I z=>h wh pins s σ H Q I (q σ H Q z)
theorem PA.imp {X:Cx} {e:List Expr} {t t':TA} (h:PA X e t) (q:∀ σ H Q,t' σ H Q→t σ H Q):PA X e t':=fun pos pins s σ H Q I z=>h pos pins s σ H Q I (q σ H Q z)
theorem PS.imp {X:Cx} {e:Stmt} {t t':TS} (h:PS X e t) (q:∀ D σ H,t' D σ H→t D σ H):PS X e t':=fun pins s σ H D I z=>h pins s σ H D I (q D σ H z)
theorem PSs.imp {X:Cx} {e:List Stmt} {t t':TS} (h:PSs X e t) (q:∀ D σ H,t' D σ H→t D σ H):PSs X e t':=fun pins s σ H D I z=>h pins s σ H D I (q D σ H z)

variable {PK:Pk} {X:Cx} {a b c e:Expr} {es:List Expr} {pos:Pos} {i j l:List Sl→Tr PyData}
theorem TAe.then {σ:St} {H:Hp} {β:Type} {k:PyData→Tr β} {Z:Nat→β→Prop} {Q:VK} {pa:Addr} {G₀ H₀ G:Hp} {m:Nat} {ρ:List Sl} (R:Rl PK pa G₀ H₀ m σ ρ G H) (h:((i ρ).bind k).ok m Z)
    (hq:∀ m1 x v G1 H1,Stp pa G H G1 H1→Wd PK pa m1 G1 H1→Rl PK pa G₀ H₀ m1 σ ρ G1 H1→Dn G1 v x→(k x).ok m1 Z→Q v H1):TAe PK i σ H Q:=by
  refine ⟨pa,G₀,H₀,m,ρ,G,R,Tr.ok_mono (Tr.ok_bind.mp h) fun m1 x hx v G1 H1 s1 w1 d1=>?_⟩
  exact hq m1 x v G1 H1 s1 w1 (R.step s1 w1) d1 hx

noncomputable def aVar (k:Nat):List Sl→Tr PyData:=fun ρ=>match ρ[k]? with
  | some (.d x)=>.ret x
  | _=>.fail
noncomputable def aC (d:PyData):List Sl→Tr PyData:=fun _=>.ret d
theorem ae_var {k:Nat} (h:PE X e (tVar k)):PE X e (TAe PK (aVar k)):=h.imp fun σ H Q hz0=>by
  obtain ⟨pa,G₀,H₀,m,ρ,G,R,q⟩:=hz0
  unfold aVar at q
  split at q
  · rename_i x hx
    obtain ⟨o,h1,h2⟩:=R.sl k _ hx
    cases h2 with
    | d z=>exact ⟨_,h1,Kn.here q R.wd z⟩
  · exact q.elim
theorem ae_c {v:V} {d:PyData} (h:PE X e (tC v)) (hd:∀ G,Dn G v d):PE X e (TAe PK (aC d)):=h.imp fun σ H Q hz0=>by
  obtain ⟨pa,G₀,H₀,m,ρ,G,R,q⟩:=hz0
  exact Kn.here q R.wd (hd G)
theorem ae_int {n:Int} {k pos}:PE X (.Constant (.int n) k pos) (TAe PK (aC (.int n))):=ae_c pe_int fun _=>.int n
theorem ae_bl {n:Bool} {k pos}:PE X (.Constant (.bool n) k pos) (TAe PK (aC (.bool n))):=ae_c pe_bl fun _=>.bl n
theorem ae_str {x:Str} {k pos}:PE X (.Constant (.str x) k pos) (TAe PK (aC (.str x))):=ae_c pe_str fun _=>.str x
theorem ae_gint {x:Str} {n:Int} (hg:Gl X x) (h:∃ t,X.mg x=some (.int n t)) (hd:(x == ("__debug__":Str))=false:=by decide):PE X (.Name x pos) (TAe PK (aC (.int n))):=ae_c (pe_gint hg h hd) fun _=>.int n

noncomputable def VOp2 (r:R2) (f:PyData→PyData→Option PyData):Prop:=∀ (PK:Pk) (pa:Addr) (m:Nat) (G H:Hp) (x y:V) (dx dy dz:PyData) (Q:VK),Wd PK pa m G H→Dn G x dx→Dn G y dy→f dx dy=some dz→Kn PK pa m G H dz Q→r x y H Q
noncomputable def aBin (f:PyData→PyData→Option PyData) (i j:List Sl→Tr PyData):List Sl→Tr PyData:=fun ρ=>(i ρ).bind fun x=>(j ρ).bind fun y=>Tr.of (f x y)
theorem aBin_read {r:R2} {f:PyData→PyData→Option PyData} (hv:VOp2 r f):∀ σ H Q,TAe PK (aBin f i j) σ H Q→tOp r (TAe PK i) (TAe PK j) σ H Q:=by
  rintro σ H Q ⟨pa,G₀,H₀,m,ρ,G,R,q⟩
  refine TAe.then R q fun m1 x v G1 H1 s1 w1 R1 d1 q1=>?_
  refine TAe.then R1 q1 fun m2 y u G2 H2 s2 w2 R2 d2 q2=>?_
  obtain ⟨z,hz,k⟩:=Tr.ok_of q2
  exact hv PK pa m2 G2 H2 v u x y z Q w2 (d1.mono s2.gs) d2 hz (Kn.later k (s1.trans s2 w1.some) w2.some)
theorem ae_op {op:Operator} {r:R2} {f:PyData→PyData→Option PyData} (ho:OpR X (binaryOp op) r) (hv:VOp2 r f) (ha:PE X a (TAe PK i)) (hb:PE X b (TAe PK j)):PE X (.BinOp a op b pos) (TAe PK (aBin f i j)) :=
  (pe_op ho ha hb).imp (aBin_read hv)
theorem ae_cmp {op:CmpOp} {r:R2} {f:PyData→PyData→Option PyData} (ho:OpR X (compareOp op) r) (hv:VOp2 r f) (ha:PE X a (TAe PK i)) (hb:PE X b (TAe PK j)) (hm:behindInMarks op b=false):PE X (.Compare a [op] [b] pos) (TAe PK (aBin f i j)) :=
  (pe_cmpR ho ha hb hm).imp (aBin_read hv)
theorem ae_ix {r:R2} {f:PyData→PyData→Option PyData} (hr:IxR X r) (hv:VOp2 r f) (ha:PE X a (TAe PK i)) (hb:PE X b (TAe PK j)) (hs:PlainIx b):PE X (.Subscript a b pos) (TAe PK (aBin f i j)) :=
  (pe_ix hr ha hb hs).imp (aBin_read hv)
noncomputable def toB:PyData→Option Bool
  | .bool b=>some b
  | _=>none
@[simp] theorem toB_bool (b:Bool):toB (.bool b)=some b:=rfl
noncomputable def aTest (i:List Sl→Tr PyData):List Sl→Tr Bool:=fun ρ=>(i ρ).bind fun x=>Tr.of (toB x)
theorem aTest_read:∀ σ H Q,TAt PK (aTest i) σ H Q→tTest (TAe PK i) σ H Q:=by
  rintro σ H Q ⟨pa,G₀,H₀,m,ρ,G,R,q⟩
  refine TAe.then R q fun m1 x v G1 H1 s1 w1 R1 d1 q1=>?_
  obtain ⟨b,hb,k⟩:=Tr.ok_of q1
  cases d1 <;> simp only [toB] at hb <;> cases hb
  exact ⟨_,rfl,k G1 H1 s1 w1⟩
theorem tTest_mono {t t':TE} (h:∀ σ H Q,t' σ H Q→t σ H Q):∀ σ H Q,tTest t' σ H Q→tTest t σ H Q:=fun σ H Q z=>h σ H _ z
theorem at_cmp {op:CmpOp} {r:R2} {f:PyData→PyData→Option PyData} (ho:OpR X (compareOp op) r) (hv:VOp2 r f) (ha:PE X a (TAe PK i)) (hb:PE X b (TAe PK j)) (hm:behindInMarks op b=false):PT X (.Compare a [op] [b] pos) (TAt PK (aTest (aBin f i j))) :=
  (pt_cmpR ho ha hb hm).imp fun σ H Q z=>tTest_mono (aBin_read hv) σ H Q (aTest_read σ H Q z)
noncomputable def truD:PyData→Option Bool
  | .bool b=>some b
  | .int n=>some (n != 0)
  | .none=>some false
  | .list xs=>some (!xs.isEmpty)
  | .tuple xs=>some (!xs.isEmpty)
  | _=>none
noncomputable def aTru (i:List Sl→Tr PyData):List Sl→Tr Bool:=fun ρ=>(i ρ).bind fun x=>Tr.of (truD x)
theorem DnAll.isEmpty {H:Hp} {vs:List V} {ds:List PyData} (h:DnAll H vs ds):vs.isEmpty=ds.isEmpty:=by
  cases h <;> rfl
theorem at_tru (h:PE X e (TAe PK i)) (he:∀ whole,isTrue e X.env whole=(do let v ← whole; standAt e.pos; holding [v] (truthy v)):=by intro _; rfl):PT X e (TAt PK (aTru i)):=(pt_truth h he).imp fun σ H Q hz0=>by
  obtain ⟨pa,G₀,H₀,m,ρ,G,R,q⟩:=hz0
  refine TAe.then R q fun m1 x v G1 H1 s1 w1 R1 d1 q1=>?_
  obtain ⟨b,hb,k⟩:=Tr.ok_of q1
  have fin:=k G1 H1 s1 w1
  cases d1 with
  | non=>cases hb; exact ⟨_,rfl,fin⟩
  | bl b=>cases hb; exact ⟨_,rfl,fin⟩
  | int n=>cases hb; exact ⟨_,rfl,fin⟩
  | str _=>cases hb
  | tup h1 h2=>cases hb; exact ⟨_,.inr (.inl ⟨_,SqT.of (w1.sub _ _ h1),rfl⟩),by rw [h2.isEmpty]; exact fin⟩
  | lst h1 h2=>cases hb; exact ⟨_,.inl ⟨_,SqL.of (w1.sub _ _ h1),rfl⟩,by rw [h2.isEmpty]; exact fin⟩
  | dct _ _=>cases hb

noncomputable def aAnd (i j:List Sl→Tr Bool):List Sl→Tr Bool:=fun ρ=>(i ρ).bind fun x=>if x=true then j ρ else .ret false
noncomputable def aOr (i j:List Sl→Tr Bool):List Sl→Tr Bool:=fun ρ=>(i ρ).bind fun x=>if x=true then .ret true else j ρ
noncomputable def aNot (i:List Sl→Tr Bool):List Sl→Tr Bool:=fun ρ=>(i ρ).bind fun x=>.ret (!x)
variable {p q:List Sl→Tr Bool} {rest:List Expr}
theorem TAt.then {σ:St} {H:Hp} {β:Type} {k:Bool→Tr β} {Z:Nat→β→Prop} {Q:Bool→Hp→Prop} {pa:Addr} {G₀ H₀ G:Hp} {m:Nat} {ρ:List Sl} (R:Rl PK pa G₀ H₀ m σ ρ G H) (h:((p ρ).bind k).ok m Z)
    (hq:∀ m1 x G1 H1,Stp pa G H G1 H1→Wd PK pa m1 G1 H1→Rl PK pa G₀ H₀ m1 σ ρ G1 H1→(k x).ok m1 Z→Q x H1):TAt PK p σ H Q:=by
  refine ⟨pa,G₀,H₀,m,ρ,G,R,Tr.ok_mono (Tr.ok_bind.mp h) fun m1 x hx G1 H1 s1 w1=>?_⟩
  exact hq m1 x G1 H1 s1 w1 (R.step s1 w1) hx
theorem at_later {G₀ H₀ G H G1 H1:Hp} {m:Nat} {σ:St} {ρ:List Sl} {pa:Addr} {Q:Bool→Hp→Prop} (R1:Rl PK pa G₀ H₀ m σ ρ G1 H1) (s1:Stp pa G H G1 H1) (h:(q ρ).ok m fun m' b=>∀ G' H',Stp pa G H G' H'→Wd PK pa m' G' H'→Q b H'):TAt PK q σ H1 Q :=
  ⟨pa,G₀,H₀,m,ρ,G1,R1,Tr.ok_mono h fun m2 b k G2 H2 s2 w2=>k G2 H2 (s1.trans s2 R1.wd.some) w2⟩
theorem ae_later {G₀ H₀ G H G1 H1:Hp} {m:Nat} {σ:St} {ρ:List Sl} {pa:Addr} {Q:VK} (R1:Rl PK pa G₀ H₀ m σ ρ G1 H1) (s1:Stp pa G H G1 H1) (h:(i ρ).ok m fun m' x=>Kn PK pa m' G H x Q):TAe PK i σ H1 Q :=
  ⟨pa,G₀,H₀,m,ρ,G1,R1,Tr.ok_mono h fun m2 b k=>Kn.later k s1 R1.wd.some⟩
theorem aw_and1 (ha:PT X a (TAt PK p)):PW X (.BoolOp .And [a] pos) (TAt PK p):=pw_and1 ha
theorem aw_or1 (ha:PT X a (TAt PK p)):PW X (.BoolOp .Or [a] pos) (TAt PK p):=pw_or1 ha
theorem aw_and (ha:PT X a (TAt PK p)) (hb:PW X (.BoolOp .And (b::rest) pos) (TAt PK q)):PW X (.BoolOp .And (a::b::rest) pos) (TAt PK (aAnd p q)):=(pw_and ha hb).imp fun σ H Q hz0=>by
  obtain ⟨pa,G₀,H₀,m,ρ,G,R,z⟩:=hz0
  refine TAt.then R z fun m1 x G1 H1 s1 w1 R1 q1=>?_
  cases x with
  | true=>rw [if_pos rfl] at q1 ⊢; exact at_later R1 s1 q1
  | false=>rw [if_neg Bool.false_ne_true] at q1 ⊢; exact q1 G1 H1 s1 w1
theorem aw_or (ha:PT X a (TAt PK p)) (hb:PW X (.BoolOp .Or (b::rest) pos) (TAt PK q)):PW X (.BoolOp .Or (a::b::rest) pos) (TAt PK (aOr p q)):=(pw_or ha hb).imp fun σ H Q hz0=>by
  obtain ⟨pa,G₀,H₀,m,ρ,G,R,z⟩:=hz0
  refine TAt.then R z fun m1 x G1 H1 s1 w1 R1 q1=>?_
  cases x with
  | true=>rw [if_pos rfl] at q1 ⊢; exact q1 G1 H1 s1 w1
  | false=>rw [if_neg Bool.false_ne_true] at q1 ⊢; exact at_later R1 s1 q1
theorem at_w (h:PW X e (TAt PK p)):PT X e (TAt PK p):=h.pt
theorem at_not (ha:PT X a (TAt PK p)):PT X (.UnaryOp .Not a pos) (TAt PK (aNot p)):=(pt_not ha).imp fun σ H Q hz0=>by
  obtain ⟨pa,G₀,H₀,m,ρ,G,R,z⟩:=hz0
  refine TAt.then R z fun m1 x G1 H1 s1 w1 R1 q1=>?_
  exact q1 G1 H1 s1 w1
noncomputable def aAndV (i j:List Sl→Tr PyData):List Sl→Tr PyData:=fun ρ=>(aTest i ρ).bind fun x=>if x=true then j ρ else .ret (.bool false)
theorem TAe.thenB {σ:St} {H:Hp} {β:Type} {k:Bool→Tr β} {Z:Nat→β→Prop} {Q:VK} {pa:Addr} {G₀ H₀ G:Hp} {m:Nat} {ρ:List Sl} (R:Rl PK pa G₀ H₀ m σ ρ G H) (h:((aTest i ρ).bind k).ok m Z)
    (hq:∀ m1 c G1 H1,Stp pa G H G1 H1→Wd PK pa m1 G1 H1→Rl PK pa G₀ H₀ m1 σ ρ G1 H1→(k c).ok m1 Z→Q (.bl c) H1):TAe PK i σ H Q:=by
  unfold aTest at h
  rw [Tr.bind_assoc] at h
  refine TAe.then R h fun m1 x v G1 H1 s1 w1 R1 d1 q1=>?_
  rw [Tr.ok_bind] at q1
  obtain ⟨c,hb,q1⟩:=Tr.ok_of q1
  cases d1 <;> simp only [toB] at hb <;> cases hb
  exact hq m1 _ G1 H1 s1 w1 R1 q1
theorem ae_one {op} (h:PE X a (TAe PK i)):PE X (.BoolOp op [a] pos) (TAe PK i):=pe_one h
theorem ae_and (ha:PE X a (TAe PK i)) (hb:PE X (.BoolOp .And (b::rest) pos) (TAe PK j)):PE X (.BoolOp .And (a::b::rest) pos) (TAe PK (aAndV i j)):=(pe_and ha hb).imp fun σ H Q hz0=>by
  obtain ⟨pa,G₀,H₀,m,ρ,G,R,z⟩:=hz0
  refine TAe.thenB R z fun m1 x G1 H1 s1 w1 R1 q1=>⟨x,rfl,?_⟩
  cases x with
  | true=>rw [if_pos rfl] at q1 ⊢; exact ae_later R1 s1 q1
  | false=>rw [if_neg Bool.false_ne_true] at q1 ⊢; exact (Kn.later q1 s1 w1.some).here w1 (.bl false)
noncomputable def aIf (p:List Sl→Tr Bool) (i j:List Sl→Tr PyData):List Sl→Tr PyData:=fun ρ=>(p ρ).bind fun x=>if x=true then i ρ else j ρ
theorem ae_if (hc:PT X c (TAt PK p)) (ha:PE X a (TAe PK i)) (hb:PE X b (TAe PK j)):PE X (.IfExp c a b pos) (TAe PK (aIf p i j)):=(pe_ifExp hc ha hb).imp fun σ H Q hz0=>by
  obtain ⟨pa,G₀,H₀,m,ρ,G,R,z⟩:=hz0
  refine TAt.then R z fun m1 x G1 H1 s1 w1 R1 q1=>?_
  cases x with
  | true=>rw [if_pos rfl] at q1 ⊢; exact ae_later R1 s1 q1
  | false=>rw [if_neg Bool.false_ne_true] at q1 ⊢; exact ae_later R1 s1 q1

variable {is:List Sl→Tr (List PyData)}
noncomputable def aNil:List Sl→Tr (List PyData):=fun _=>.ret []
noncomputable def aCons (i:List Sl→Tr PyData) (is:List Sl→Tr (List PyData)):List Sl→Tr (List PyData):=fun ρ=>(i ρ).bind fun x=>(is ρ).bind fun xs=>.ret (x::xs)
theorem ad_nil:PA X [] (TAd PK aNil):=pa_nil.imp fun σ H Q hz0=>by
  obtain ⟨pa,G₀,H₀,m,ρ,G,R,z⟩:=hz0
  exact z [] G H .refl R.wd .nil
theorem TAd.then {σ:St} {H:Hp} {β:Type} {k:List PyData→Tr β} {Z:Nat→β→Prop} {Q:List V→Hp→Prop} {pa:Addr} {G₀ H₀ G:Hp} {m:Nat} {ρ:List Sl} (R:Rl PK pa G₀ H₀ m σ ρ G H) (h:((is ρ).bind k).ok m Z)
    (hq:∀ m1 xs vs G1 H1,Stp pa G H G1 H1→Wd PK pa m1 G1 H1→Rl PK pa G₀ H₀ m1 σ ρ G1 H1→DnAll G1 vs xs→(k xs).ok m1 Z→Q vs H1):TAd PK is σ H Q:=by
  refine ⟨pa,G₀,H₀,m,ρ,G,R,Tr.ok_mono (Tr.ok_bind.mp h) fun m1 x hx v G1 H1 s1 w1 d1=>?_⟩
  exact hq m1 x v G1 H1 s1 w1 (R.step s1 w1) d1 hx
theorem ad_cons (ha:PE X e (TAe PK i)) (hr:PA X es (TAd PK is)) (hs:starEach (e::es) X.env=(false,eval e X.env)::starEach es X.env:=by rfl):PA X (e::es) (TAd PK (aCons i is)):=(pa_cons ha hr hs).imp fun σ H Q hz0=>by
  obtain ⟨pa,G₀,H₀,m,ρ,G,R,z⟩:=hz0
  refine TAe.then R z fun m1 x v G1 H1 s1 w1 R1 d1 q1=>?_
  refine TAd.then R1 q1 fun m2 xs vs G2 H2 s2 w2 R2 d2 q2=>?_
  exact q2 _ _ _ (s1.trans s2 w1.some) w2 (.cons (d1.mono s2.gs) d2)
noncomputable def small (n:Nat):Bool:=decide (n≤sizeLine)
noncomputable def aTup (is:List Sl→Tr (List PyData)):List Sl→Tr PyData:=fun ρ=>(is ρ).bind fun xs=>if small xs.length=true then .ret (.tuple xs) else .fail
noncomputable def aLst (is:List Sl→Tr (List PyData)):List Sl→Tr PyData:=fun ρ=>(is ρ).bind fun xs=>.ret (.list xs)
noncomputable def aLo (is:List Sl→Tr (List PyData)):List Sl→Tr (List PyData):=fun ρ=>(is ρ).bind fun xs=>if small xs.length=true then .ret xs else .fail
theorem ok_if {α:Type} {c:Bool} {t:Tr α} {m:Nat} {Q:Nat→α→Prop} (h:(if c=true then t else .fail).ok m Q):c=true∧t.ok m Q:=by
  cases c with
  | true=>exact ⟨rfl,h⟩
  | false=>exact h.elim
theorem ae_tup {x1} (h:PA X es (TAd PK is)):PE X (.Tuple es x1 pos) (TAe PK (aTup is)):=(pe_tup h).imp fun σ H Q hz0=>by
  obtain ⟨pa,G₀,H₀,m,ρ,G,R,z⟩:=hz0
  refine TAd.then R z fun m1 xs vs G1 H1 s1 w1 R1 d1 q1=>?_
  obtain ⟨hs,k⟩:=ok_if q1
  exact ⟨by rw [d1.length]; exact of_decide_eq_true hs,fun p hp=>(Kn.later k s1 w1.some).tup w1 d1 hp⟩
theorem Ko1.new {pa:Addr} {m:Nat} {G H:Hp} {xs:List PyData} {vs:List V} {Q:VK} {p:Addr} (k:Ko1 PK pa m G H xs Q) (w:Wd PK pa m G H) (d:DnAll G vs xs) (hp:H p=none):Q (.ref p) (upd H p (.lst vs)):=by
  obtain ⟨w1,s1⟩:=w.own (o:=.lst vs) hp
  exact k p vs G _ s1 w1 hp (w.gnone hp) upd_same d
theorem Ko1.later {pa:Addr} {m:Nat} {G H G1 H1:Hp} {xs:List PyData} {Q:VK} (k:Ko1 PK pa m G H xs Q) (s:Stp pa G H G1 H1) (hp:∃ o,H1 pa=some o):Ko1 PK pa m G1 H1 xs Q:=fun p vs G' H' s' w' h1 h2 h3 h4=>by
  refine k p vs G' H' (s.trans s' hp) w' ?_ h2 h3 h4
  cases e:H p with
  | none=>rfl
  | some u =>
    by_cases hc:p=pa
    · subst hc
      obtain ⟨o,z⟩:=hp
      rw [h1] at z; cases z
    · rw [s.hk p u e hc] at h1; cases h1
theorem ao_lst (h:PA X es (TAd PK is)):PE X (.List es pos) (TAo PK (aLo is)):=(pe_lst h).imp fun σ H Q hz0=>by
  obtain ⟨pa,G₀,H₀,m,ρ,G,R,z⟩:=hz0
  refine TAd.then R z fun m1 xs vs G1 H1 s1 w1 R1 d1 q1=>?_
  obtain ⟨hs,k⟩:=ok_if q1
  exact ⟨by rw [d1.length]; exact of_decide_eq_true hs,fun p hp=>(Ko1.later k s1 w1.some).new w1 d1 hp⟩
theorem Ko1.of {pa:Addr} {m:Nat} {G H:Hp} {xs:List PyData} {Q:VK} (k:Kn PK pa m G H (.list xs) Q) (hp:∃ o,H pa=some o):Ko1 PK pa m G H xs Q:=fun p vs G' H' s w h1 h2 h3 h4=>by
  have hne:pa≠p:=fun e=>by
    obtain ⟨o,z⟩:=hp
    rw [e,h1] at z; cases z
  have sb:Sub G' (upd G' p (.lst vs)):=Sub.new h2
  refine k _ (upd G' p (.lst vs)) H' ⟨fun b o h=>sb b o (s.gs b o h),fun b o h=>?_,s.hk⟩ (w.freeze h3 h2 hne) (.lst upd_same (DnAll.mono sb h4))
  by_cases e:b=p
  · subst e; exact .inr h1
  · rw [upd_ne e] at h; exact s.gn b o h
theorem ae_o (h:PE X e (TAo PK is)):PE X e (TAe PK (aLst is)):=h.imp fun σ H Q hz0=>by
  obtain ⟨pa,G₀,H₀,m,ρ,G,R,z⟩:=hz0
  refine ⟨pa,G₀,H₀,m,ρ,G,R,Tr.ok_mono (Tr.ok_bind.mp z) fun m1 xs k=>Ko1.of k R.wd.some⟩

noncomputable def VCl (r:List V→Hp→VK→Prop) (f:List PyData→Option PyData):Prop:=∀ (PK:Pk) (pa:Addr) (m:Nat) (G H:Hp) (vs:List V) (ds:List PyData) (d:PyData) (Q:VK),Wd PK pa m G H→DnAll G vs ds→f ds=some d→Kn PK pa m G H d Q→r vs H Q
noncomputable def VClo (r:List V→Hp→VK→Prop) (f:List PyData→Option (List PyData)):Prop:=∀ (PK:Pk) (pa:Addr) (m:Nat) (G H:Hp) (vs:List V) (ds:List PyData) (d:List PyData) (Q:VK),Wd PK pa m G H→DnAll G vs ds→f ds=some d→Ko1 PK pa m G H d Q→r vs H Q
noncomputable def aCB (f:List PyData→Option PyData) (is:List Sl→Tr (List PyData)):List Sl→Tr PyData:=fun ρ=>(is ρ).bind fun xs=>Tr.of (f xs)
noncomputable def aCBo (f:List PyData→Option (List PyData)) (is:List Sl→Tr (List PyData)):List Sl→Tr (List PyData):=fun ρ=>(is ρ).bind fun xs=>Tr.of (f xs)
theorem aCB_read {r:List V→Hp→VK→Prop} {f:List PyData→Option PyData} (hv:VCl r f):∀ σ H Q,TAe PK (aCB f is) σ H Q→tCB r (TAd PK is) σ H Q:=by
  rintro σ H Q ⟨pa,G₀,H₀,m,ρ,G,R,z⟩
  refine TAd.then R z fun m1 xs vs G1 H1 s1 w1 R1 d1 q1=>?_
  obtain ⟨d,hd,k⟩:=Tr.ok_of q1
  exact hv PK pa m1 G1 H1 vs xs d Q w1 d1 hd (Kn.later k s1 w1.some)
theorem aCBo_read {r:List V→Hp→VK→Prop} {f:List PyData→Option (List PyData)} (hv:VClo r f):∀ σ H Q,TAo PK (aCBo f is) σ H Q→tCB r (TAd PK is) σ H Q:=by
  rintro σ H Q ⟨pa,G₀,H₀,m,ρ,G,R,z⟩
  refine TAd.then R z fun m1 xs vs G1 H1 s1 w1 R1 d1 q1=>?_
  obtain ⟨d,hd,k⟩:=Tr.ok_of q1
  exact hv PK pa m1 G1 H1 vs xs d Q w1 d1 hd (Ko1.later k s1 w1.some)
theorem ae_cb {t:TA} {r:List V→Hp→VK→Prop} {f:List PyData→Option PyData} (h:PE X e (tCB r (TAd PK is))) (hv:VCl r f):PE X e (TAe PK (aCB f is)):=h.imp (aCB_read hv)
theorem ao_cb {t:TA} {r:List V→Hp→VK→Prop} {f:List PyData→Option (List PyData)} (h:PE X e (tCB r (TAd PK is))) (hv:VClo r f):PE X e (TAo PK (aCBo f is)):=h.imp (aCBo_read hv)

variable {as:List Sl→Tr (List Sl)}
noncomputable def aaNil:List Sl→Tr (List Sl):=fun _=>.ret []
noncomputable def aaCons (i:List Sl→Tr PyData) (as:List Sl→Tr (List Sl)):List Sl→Tr (List Sl):=fun ρ=>(i ρ).bind fun x=>(as ρ).bind fun xs=>.ret (.d x::xs)
noncomputable def aaPen (k:Nat) (as:List Sl→Tr (List Sl)):List Sl→Tr (List Sl):=fun ρ=>match ρ[k]? with
  | some .pen=>(as ρ).bind fun xs=>.ret (.pen::xs)
  | _=>.fail
theorem aa_nil:PA X [] (TAa PK aaNil):=pa_nil.imp fun σ H Q hz0=>by
  obtain ⟨pa,G₀,H₀,m,ρ,G,R,z⟩:=hz0
  exact z [] G H .refl R.wd .nil
theorem TAa.then {σ:St} {H:Hp} {β:Type} {k:List Sl→Tr β} {Z:Nat→β→Prop} {Q:List V→Hp→Prop} {pa:Addr} {G₀ H₀ G:Hp} {m:Nat} {ρ:List Sl} (R:Rl PK pa G₀ H₀ m σ ρ G H) (h:((as ρ).bind k).ok m Z)
    (hq:∀ m1 xs vs G1 H1,Stp pa G H G1 H1→Wd PK pa m1 G1 H1→Rl PK pa G₀ H₀ m1 σ ρ G1 H1→ArsOk pa G1 vs xs→(k xs).ok m1 Z→Q vs H1):TAa PK as σ H Q:=by
  refine ⟨pa,G₀,H₀,m,ρ,G,R,Tr.ok_mono (Tr.ok_bind.mp h) fun m1 x hx v G1 H1 s1 w1 d1=>?_⟩
  exact hq m1 x v G1 H1 s1 w1 (R.step s1 w1) d1 hx
theorem aa_cons (ha:PE X e (TAe PK i)) (hr:PA X es (TAa PK as)) (hs:starEach (e::es) X.env=(false,eval e X.env)::starEach es X.env:=by rfl):PA X (e::es) (TAa PK (aaCons i as)):=(pa_cons ha hr hs).imp fun σ H Q hz0=>by
  obtain ⟨pa,G₀,H₀,m,ρ,G,R,z⟩:=hz0
  refine TAe.then R z fun m1 x v G1 H1 s1 w1 R1 d1 q1=>?_
  refine TAa.then R1 q1 fun m2 xs vs G2 H2 s2 w2 R2 d2 q2=>?_
  exact q2 _ _ _ (s1.trans s2 w1.some) w2 (.cons (.d (d1.mono s2.gs)) d2)
theorem aa_pen {k:Nat} (ha:PE X e (tVar k)) (hr:PA X es (TAa PK as)) (hs:starEach (e::es) X.env=(false,eval e X.env)::starEach es X.env:=by rfl):PA X (e::es) (TAa PK (aaPen k as)):=(pa_cons ha hr hs).imp fun σ H Q hz0=>by
  obtain ⟨pa,G₀,H₀,m,ρ,G,R,z⟩:=hz0
  unfold aaPen at z
  split at z
  · rename_i hk
    obtain ⟨o,h1,h2⟩:=R.sl k _ hk
    cases h2
    refine ⟨_,h1,?_⟩
    refine TAa.then R z fun m2 xs vs G2 H2 s2 w2 R2 d2 q2=>?_
    exact q2 _ _ _ s2 w2 (.cons .pen d2)
  · exact z.elim
noncomputable def aSp (PK:Pk) (n:Nat) (f:List Sl→Tr Re):Sp:=fun vs H Q _=>vs.length=n∧∃ pa m G as,Wd PK pa m G H∧ArsOk pa G vs as∧(f as).ok m fun m' r=>Kr PK pa m' G H r Q
noncomputable def aCall (f:List Sl→Tr Re) (as:List Sl→Tr (List Sl)):List Sl→Tr Re:=fun ρ=>(as ρ).bind f
noncomputable def aRe (f:List Sl→Tr Re):List Sl→Tr PyData:=fun ρ=>(f ρ).bind fun r=>.ret r.val
noncomputable def TAr (PK:Pk) (i:List Sl→Tr Re):TE:=fun σ H Q=>∃ pa G₀ H₀ m ρ G,Rl PK pa G₀ H₀ m σ ρ G H∧(i ρ).ok m fun m' r=>Kr PK pa m' G H r Q
theorem Kr.later {pa:Addr} {m:Nat} {G H G1 H1:Hp} {r:Re} {Q:VK} (k:Kr PK pa m G H r Q) (s:Stp pa G H G1 H1) (hp:∃ o,H1 pa=some o):Kr PK pa m G1 H1 r Q:=fun v G' H' s' w' d=>by
  refine k v G' H' (s.trans s' hp) w' ?_
  cases r with
  | d x=>exact d
  | own xs =>
    obtain ⟨p,vs,e,h1,h2,h3,h4⟩:=d
    refine ⟨p,vs,e,h1,h2,?_,h4⟩
    cases e:H p with
    | none=>rfl
    | some u =>
      by_cases hc:p=pa
      · subst hc
        obtain ⟨o,z⟩:=hp
        rw [h3] at z; cases z
      · rw [s.hk p u e hc] at h3; cases h3
theorem Kr.of {pa:Addr} {m:Nat} {G H:Hp} {r:Re} {Q:VK} (k:Kn PK pa m G H r.val Q) (hp:∃ o,H pa=some o):Kr PK pa m G H r Q:=fun v G' H' s w d=>by
  cases r with
  | d x=>exact k v G' H' s w d
  | own xs =>
    obtain ⟨p,vs,rfl,h1,h2,h3,h4⟩:=d
    exact Ko1.of k hp p vs G' H' s w h3 h2 h1 h4
theorem ae_r {f:List Sl→Tr Re} (h:PE X e (TAr PK f)):PE X e (TAe PK (aRe f)):=h.imp (by
  intro σ H Q z
  obtain ⟨pa,G₀,H₀,m,ρ,G,R,z⟩:=z
  exact ⟨pa,G₀,H₀,m,ρ,G,R,Tr.ok_mono (Tr.ok_bind.mp z) fun m1 r k=>Kr.of k R.wd.some⟩)
structure ACal (PK:Pk) (P:Program) (w:World) (K:PySem.W.Frag) (mg:Str→Option Value) (base:Heap) (x:Str) (k:Nat) (ps:List Str) (f:List Sl→Tr Re):Prop where
  cal:Callee P w K mg base x k ps (aSp PK ps.length f)
  len:∀ as m Z,(f as).ok m Z→as.length=ps.length
theorem ar_call {x:Str} {k:Nat} {ps:List Str} {f:List Sl→Tr Re} {pp:Pos} (C:ACal PK X.prog X.w X.K X.mg X.base x k ps f) (hr:Room k X.A) (hg:Gl X x) (ha:PA X (e::es) (TAa PK as))
    (hdb:(x == ("__debug__":Str))=false:=by decide)
    (he:starEach (e::es) X.env=(false,eval e X.env)::starEach es X.env:=by rfl) (hpl:(backTo pos (starEach es X.env)).any (·.1)=false:=by rfl):PE X (.Call (.Name x pp) (e::es) [] pos) (TAr PK (aCall f as)) :=
  (pe_callC C.cal hr hg ha hdb he hpl).imp fun σ H Q hz0=>by
    obtain ⟨pa,G₀,H₀,m,ρ,G,R,z⟩:=hz0
    refine TAa.then R z fun m1 xs vs G1 H1 s1 w1 R1 d1 q1=>?_
    show aSp PK ps.length f (vs++[]) H1 Q E0
    rw [List.append_nil]
    exact ⟨by rw [d1.length]; exact C.len _ _ _ q1,pa,m1,G1,xs,w1,d1,Tr.ok_mono q1 fun m2 r k=>Kr.later k s1 w1.some⟩
end L2
set_option Elab.async false
set_option linter.all false
set_option maxRecDepth 100000
namespace L2
open PySem PySem.Spec PyProof.Rows
variable {PK:Pk} {X:Cx} {a b c e:Expr} {es:List Expr} {pos:Pos} {i j l:List Sl→Tr PyData} {is:List Sl→Tr (List PyData)} {as:List Sl→Tr (List Sl)} {f:List Sl→Tr Re} {p q:List Sl→Tr Bool} {st:Stmt} {sts:List Stmt} {s t u:List Sl→Tr Ou}
noncomputable def aSeq (s t:List Sl→Tr Ou):List Sl→Tr Ou:=fun ρ=>(s ρ).bind fun o=>match o with
  | .next ρ'=>t ρ'
  | o=>.ret o
noncomputable def aSkip:List Sl→Tr Ou:=fun ρ=>.ret (.next ρ)
theorem Ko.later {pa:Addr} {G₀ H₀ Gs G:Hp} {D:Ends} {m:Nat} {o:Ou} (k:Ko PK pa G₀ H₀ Gs D m o) (sb:Sub Gs G):Ko PK pa G₀ H₀ G D m o:=by
  cases o with
  | next ρ=>exact fun σ G' H s R=>k σ G' H (fun b o h=>s b o (sb b o h)) R
  | ret r=>exact k
  | brk ρ=>exact fun σ G' H s R=>k σ G' H (fun b o h=>s b o (sb b o h)) R
  | cont ρ=>exact fun σ G' H s R=>k σ G' H (fun b o h=>s b o (sb b o h)) R
theorem Sub.refl {G:Hp}:Sub G G:=fun _ _ h=>h
theorem Sub.trans {G G1 G2:Hp} (a:Sub G G1) (b:Sub G1 G2):Sub G G2:=fun c o h=>b c o (a c o h)
theorem ass_nil:PSs X [] (TAs PK aSkip):=pss_nil.imp fun D σ H hz0=>by
  obtain ⟨pa,G₀,H₀,m,ρ,G,R,z⟩:=hz0
  exact z σ G H .refl R
theorem aSeq_read:∀ D σ H,TAs PK (aSeq s t) D σ H→tSeq (TAs PK s) (TAs PK t) D σ H:=by
  rintro D σ H ⟨pa,G₀,H₀,m,ρ,G,R,z⟩
  refine ⟨pa,G₀,H₀,m,ρ,G,R,Tr.ok_mono (Tr.ok_bind.mp z) fun m1 o k=>?_⟩
  cases o with
  | next ρ'=>exact fun σ' G' H' sb R'=>⟨pa,G₀,H₀,m1,ρ',G',R',Tr.ok_mono k fun _ _ k'=>Ko.later k' sb⟩
  | ret r=>exact k
  | brk ρ'=>exact k
  | cont ρ'=>exact k
theorem ass_cons (h1:PS X st (TAs PK s)) (h2:PSs X sts (TAs PK t)):PSs X (st::sts) (TAs PK (aSeq s t)):=(pss_cons h1 h2).imp aSeq_read
theorem ass_one (h1:PS X st (TAs PK s)):PSs X [st] (TAs PK s):=pss_one h1
noncomputable def aRet (i:List Sl→Tr PyData):List Sl→Tr Ou:=fun ρ=>(i ρ).bind fun x=>.ret (.ret (.d x))
theorem as_ret (he:PE X e (TAe PK i)):PS X (.Return (some e) pos) (TAs PK (aRet i)):=(ps_ret he).imp fun D σ H hz0=>by
  obtain ⟨pa,G₀,H₀,m,ρ,G,R,z⟩:=hz0
  refine TAe.then R z fun m1 x v G1 H1 s1 w1 R1 d1 q1=>?_
  exact q1 v G1 H1 R1.st w1 d1
noncomputable def aRetO (is:List Sl→Tr (List PyData)):List Sl→Tr Ou:=fun ρ=>(is ρ).bind fun x=>.ret (.ret (.own x))
theorem as_retO (he:PE X e (TAo PK is)):PS X (.Return (some e) pos) (TAs PK (aRetO is)):=(ps_ret he).imp fun D σ H hz0=>by
  obtain ⟨pa,G₀,H₀,m,ρ,G,R,z⟩:=hz0
  refine ⟨pa,G₀,H₀,m,ρ,G,R,Tr.ok_mono (Tr.ok_bind.mp z) fun m1 xs k p vs G1 H1 s1 w1 h1 h2 h3 h4=>?_⟩
  exact k (.ref p) G1 H1 (R.st.trans s1 R.wd.some) w1 ⟨p,vs,rfl,h3,h2,R.h0 h1,h4⟩
noncomputable def aRetR (f:List Sl→Tr Re):List Sl→Tr Ou:=fun ρ=>(f ρ).bind fun r=>.ret (.ret r)
theorem as_retR (he:PE X e (TAr PK f)):PS X (.Return (some e) pos) (TAs PK (aRetR f)):=(ps_ret he).imp (by
  intro D σ H z
  obtain ⟨pa,G₀,H₀,m,ρ,G,R,z⟩:=z
  exact ⟨pa,G₀,H₀,m,ρ,G,R,Tr.ok_mono (Tr.ok_bind.mp z) fun m1 r k=>Kr.later k R.st R.wd.some⟩)
noncomputable def aRetV (k:Nat):List Sl→Tr Ou:=fun ρ=>match ρ[k]? with
  | some (.d x)=>.ret (.ret (.d x))
  | some (.own xs)=>.ret (.ret (.own xs))
  | _=>.fail
theorem as_retV {k:Nat} (he:PE X e (tVar k)):PS X (.Return (some e) pos) (TAs PK (aRetV k)):=(ps_ret he).imp fun D σ H hz0=>by
  obtain ⟨pa,G₀,H₀,m,ρ,G,R,z⟩:=hz0
  unfold aRetV at z
  split at z
  · rename_i x hx
    obtain ⟨o,h1,h2⟩:=R.sl k _ hx
    cases h2 with
    | d d1=>exact ⟨_,h1,z _ G H R.st R.wd d1⟩
  · rename_i xs hx
    obtain ⟨o,h1,h2⟩:=R.sl k _ hx
    cases h2 with
    | own a1 a2 a3 a4=>exact ⟨_,h1,z _ G H R.st R.wd ⟨_,_,rfl,a1,a2,a3,a4⟩⟩
  · exact z.elim
noncomputable def aIfS (p:List Sl→Tr Bool) (s t:List Sl→Tr Ou):List Sl→Tr Ou:=fun ρ=>(p ρ).bind fun x=>if x=true then s ρ else t ρ
theorem as_if {xs ys:List Stmt} (hc:PT X c (TAt PK p)) (ha:PSs X xs (TAs PK s)) (hb:PSs X ys (TAs PK t)):PS X (.If c xs ys pos) (TAs PK (aIfS p s t)):=(ps_if hc ha hb).imp fun D σ H hz0=>by
  obtain ⟨pa,G₀,H₀,m,ρ,G,R,z⟩:=hz0
  refine TAt.then R z fun m1 x G1 H1 s1 w1 R1 q1=>?_
  cases x with
  | true=>rw [if_pos rfl] at q1 ⊢; exact ⟨pa,G₀,H₀,m1,ρ,G1,R1,Tr.ok_mono q1 fun _ _ k'=>Ko.later k' s1.gs⟩
  | false=>rw [if_neg Bool.false_ne_true] at q1 ⊢; exact ⟨pa,G₀,H₀,m1,ρ,G1,R1,Tr.ok_mono q1 fun _ _ k'=>Ko.later k' s1.gs⟩

noncomputable def aSet (k:Nat) (i:List Sl→Tr PyData):List Sl→Tr Ou:=fun ρ=>(i ρ).bind fun x=>.ret (.next (ρ.set k (.d x)))
theorem as_set {k:Nat} (h:PS X st (tAsg (TAe PK i) (gName k))):PS X st (TAs PK (aSet k i)):=h.imp fun D σ H hz0=>by
  obtain ⟨pa,G₀,H₀,m,ρ,G,R,z⟩:=hz0
  refine TAe.then R z fun m1 x v G1 H1 s1 w1 R1 d1 q1=>?_
  exact q1 _ G1 H1 s1.gs (R1.set d1 k)
noncomputable def aSetO (k:Nat) (is:List Sl→Tr (List PyData)):List Sl→Tr Ou:=fun ρ=>(is ρ).bind fun x=>.ret (.next (ρ.set k (.own x)))
theorem as_setO {k:Nat} (h:PS X st (tAsg (TAo PK is) (gName k))):PS X st (TAs PK (aSetO k is)):=h.imp fun D σ H hz0=>by
  obtain ⟨pa,G₀,H₀,m,ρ,G,R,z⟩:=hz0
  refine ⟨pa,G₀,H₀,m,ρ,G,R,Tr.ok_mono (Tr.ok_bind.mp z) fun m1 xs k' p vs G1 H1 s1 w1 h1 h2 h3 h4=>?_⟩
  exact k' _ G1 H1 s1.gs ((R.step s1 w1).setO h3 h2 (R.h0 h1) h4 (fun n ys e=>R.apart h1 n ys e) k)
noncomputable def aAug (f:PyData→PyData→Option PyData) (k:Nat) (i:List Sl→Tr PyData):List Sl→Tr Ou:=fun ρ=>(aVar k ρ).bind fun x=>(i ρ).bind fun y=>(Tr.of (f x y)).bind fun z=>.ret (.next (ρ.set k (.d z)))
theorem as_aug {k:Nat} {r:R2} {g:PyData→PyData→Option PyData} (hv:VOp2 r g) (h:PS X st (tAug k (TAe PK i) r)):PS X st (TAs PK (aAug g k i)):=h.imp fun D σ H hz0=>by
  obtain ⟨pa,G₀,H₀,m,ρ,G,R,z⟩:=hz0
  unfold aAug aVar at z
  split at z
  · rename_i x hx
    obtain ⟨o,h1,h2⟩:=R.sl k _ hx
    cases h2 with
    | d d0 =>
      refine ⟨_,h1,?_⟩
      refine TAe.then R z fun m1 y v G1 H1 s1 w1 R1 d1 q1=>?_
      rw [Tr.ok_bind] at q1
      obtain ⟨w,hw,q1⟩:=Tr.ok_of q1
      refine hv PK pa m1 G1 H1 _ v x y w _ w1 (d0.mono s1.gs) d1 hw fun u G2 H2 s2 w2 d2=>?_
      exact q1 _ G2 H2 (s1.gs.trans s2.gs) ((R1.step s2 w2).set d2 k)
  · exact z.elim
noncomputable def aApp (k:Nat) (i:List Sl→Tr PyData):List Sl→Tr Ou:=fun ρ=>match ρ[k]? with
  | some (.own xs)=>(i ρ).bind fun x=>if small (xs.length+1)=true then .ret (.next (ρ.set k (.own (xs++[x])))) else .fail
  | _=>.fail
theorem DnAll.snoc {H:Hp} {vs:List V} {ds:List PyData} {v:V} {d:PyData} (h:DnAll H vs ds) (h1:Dn H v d):DnAll H (vs++[v]) (ds++[d]):=h.append (.cons h1 .nil)
theorem as_app {k:Nat} {K:PySem.W.Frag} {st:Stmt} (h:PS X st (tDrop (tBM K "list" rAppend (tVar k) (tCons (TAe PK i) tNil)))):PS X st (TAs PK (aApp k i)):=h.imp fun D σ H hz0=>by
  obtain ⟨pa,G₀,H₀,m,ρ,G,R,z⟩:=hz0
  unfold aApp at z
  split at z
  · rename_i xs hx
    obtain ⟨o,h1,h2⟩:=R.sl k _ hx
    cases h2 with
    | @own p vs _ a1 a2 a3 a4 =>
      refine ⟨_,h1,.inl ⟨rfl,_,SqL.of a1⟩,?_⟩
      refine TAe.then R z fun m1 x v G1 H1 s1 w1 R1 d1 q1=>?_
      obtain ⟨hs,q1⟩:=ok_if q1
      obtain ⟨o,h1',h2⟩:=R1.sl k _ hx
      rw [h1] at h1'
      cases h1'
      cases h2 with
      | @own _ vs1 _ b1 b2 b3 b4 =>
        have hs':xs.length+1≤sizeLine:=of_decide_eq_true hs
        refine ⟨p,vs1,v,rfl,rfl,b1,by rw [b4.length]; omega,?_⟩
        exact q1 σ G1 _ s1.gs (R1.change hx h1 (b4.snoc d1))
  · exact z.elim
theorem DnAll.set {H:Hp}:∀ {vs:List V} {ds:List PyData} {v:V} {d:PyData} (n:Nat),DnAll H vs ds→Dn H v d→DnAll H (vs.set n v) (ds.set n d)
  | _,_,_,_,_,.nil,_=>.nil
  | _,_,_,_,0,.cons _ t,h=>.cons h t
  | _,_,_,_,n+1,.cons g t,h=>.cons g (DnAll.set n t h)
noncomputable def aSetIx (k:Nat) (n i:List Sl→Tr PyData):List Sl→Tr Ou:=fun ρ=>(i ρ).bind fun x=>match ρ[k]? with
  | some (.own xs)=>(n ρ).bind fun y=>match y with
    | .int y=>(Tr.of (ixN xs.length y)).bind fun t=>.ret (.next (ρ.set k (.own (xs.set t x))))
    | _=>.fail
  | _=>.fail
theorem as_setIx {k:Nat} {n:List Sl→Tr PyData} (h:PS X st (tAsg (TAe PK i) (gSub (tVar k) (TAe PK n) rSetL))):PS X st (TAs PK (aSetIx k n i)):=h.imp fun D σ H hz0=>by
  obtain ⟨pa,G₀,H₀,m,ρ,G,R,z⟩:=hz0
  refine TAe.then R z fun m1 x v G1 H1 s1 w1 R1 d1 q1=>?_
  split at q1
  · rename_i xs hx
    obtain ⟨o,h1,h2⟩:=R1.sl k _ hx
    cases h2 with
    | @own p vs _ a1 a2 a3 a4 =>
      refine ⟨_,h1,?_⟩
      refine TAe.then R1 q1 fun m2 y u G2 H2 s2 w2 R2 d2 q2=>?_
      obtain ⟨o,h1',h2⟩:=R2.sl k _ hx
      rw [h1] at h1'
      cases h1'
      cases h2 with
      | @own _ vs2 _ b1 b2 b3 b4 =>
        cases d2 with
        | int y =>
          rw [Tr.ok_bind] at q2
          obtain ⟨n',hn,q2⟩:=Tr.ok_of q2
          refine ⟨p,vs2,y,n',rfl,rfl,b1,by rw [b4.length]; exact hn,?_⟩
          exact q2 σ G2 _ (s1.gs.trans s2.gs) (R2.change hx h1 (b4.set n' (d1.mono s2.gs)))
        | _=>exact q2.elim
  · exact q1.elim
theorem DnAll.reverse {H:Hp} {vs:List V} {ds:List PyData} (h:DnAll H vs ds):DnAll H vs.reverse ds.reverse:=by
  induction vs generalizing ds with
  | nil=>cases h; exact .nil
  | cons v vs ih=>cases h with | cons r t=>rw [List.reverse_cons,List.reverse_cons]; exact DnAll.append (ih t) (.cons r .nil)
noncomputable def aRev (k:Nat):List Sl→Tr Ou:=fun ρ=>match ρ[k]? with
  | some (.own xs)=>.ret (.next (ρ.set k (.own xs.reverse)))
  | _=>.fail
theorem as_rev {k:Nat} {K:PySem.W.Frag} (h:PS X st (tDrop (tBM0 K "list" rReverse (tVar k)))):PS X st (TAs PK (aRev k)):=h.imp fun D σ H hz0=>by
  obtain ⟨pa,G₀,H₀,m,ρ,G,R,z⟩:=hz0
  unfold aRev at z
  split at z
  · rename_i xs hx
    obtain ⟨o,h1,h2⟩:=R.sl k _ hx
    cases h2 with
    | @own p vs _ a1 a2 a3 a4 =>
      refine ⟨_,h1,.inl ⟨rfl,_,SqL.of a1⟩,p,vs,rfl,rfl,a1,?_⟩
      exact z σ G _ .refl (R.change hx h1 a4.reverse)
  · exact z.elim
noncomputable def aFz (k:Nat) (s:List Sl→Tr Ou):List Sl→Tr Ou:=fun ρ=>s (fz k ρ)
theorem as_fz {k:Nat} (h:PS X st (TAs PK s)):PS X st (TAs PK (aFz k s)):=h.imp fun D σ H hz0=>by
  obtain ⟨pa,G₀,H₀,m,ρ,G,R,z⟩:=hz0
  obtain ⟨G',sb,R'⟩:=R.freeze k
  exact ⟨pa,G₀,H₀,m,_,G',R',Tr.ok_mono z fun _ _ k'=>Ko.later k' sb⟩

noncomputable def TAg (PK:Pk) (g:PyData→List Sl→Option (List Sl)):TG:=fun v σ H Q=>∃ pa G₀ H₀ m ρ G x ρ',Rl PK pa G₀ H₀ m σ ρ G H∧Dn G v x∧g x ρ=some ρ'∧∀ σ',Rl PK pa G₀ H₀ m σ' ρ' G H→Q σ' H
noncomputable def TAgs (PK:Pk) (g:List PyData→List Sl→Option (List Sl)):TGs:=fun vs σ H Q=>∃ pa G₀ H₀ m ρ G xs ρ',Rl PK pa G₀ H₀ m σ ρ G H∧DnAll G vs xs∧g xs ρ=some ρ'∧∀ σ',Rl PK pa G₀ H₀ m σ' ρ' G H→Q σ' H
theorem PG.imp {tg:Expr} {t t':TG} (h:PG X tg t) (q:∀ v σ H Q,t' v σ H Q→t v σ H Q):PG X tg t':=fun pins s σ H v u Q I r z=>h pins s σ H v u Q I r (q v σ H Q z)
theorem PGs.imp {tg:List Expr} {t t':TGs} (h:PGs X tg t) (q:∀ v σ H Q,t' v σ H Q→t v σ H Q):PGs X tg t':=fun pins s σ H v u Q I r z=>h pins s σ H v u Q I r (q v σ H Q z)
noncomputable def gSet (k:Nat):PyData→List Sl→Option (List Sl):=fun x ρ=>some (ρ.set k (.d x))
theorem ag_name {k:Nat} (h:PG X e (gName k)):PG X e (TAg PK (gSet k)):=h.imp fun v σ H Q hz0=>by
  obtain ⟨pa,G₀,H₀,m,ρ,G,x,ρ',R,d,e,q⟩:=hz0
  cases e
  exact q _ (R.set d k)
noncomputable def gsNil:List PyData→List Sl→Option (List Sl):=fun xs ρ=>match xs with
  | []=>some ρ
  | _=>none
noncomputable def gsCons (g:PyData→List Sl→Option (List Sl)) (gs:List PyData→List Sl→Option (List Sl)):List PyData→List Sl→Option (List Sl):=fun xs ρ=>match xs with
  | x::xs=>(g x ρ).bind fun ρ'=>gs xs ρ'
  | []=>none
theorem ags_nil:PGs X [] (TAgs PK gsNil):=pgs_nil.imp fun vs σ H Q hz0=>by
  obtain ⟨pa,G₀,H₀,m,ρ,G,xs,ρ',R,d,e,q⟩:=hz0
  cases d with
  | nil=>cases e; exact ⟨rfl,q _ R⟩
  | cons _ _=>cases e
theorem ags_cons {g:PyData→List Sl→Option (List Sl)} {gs:List PyData→List Sl→Option (List Sl)} (h1:PG X e (TAg PK g)) (h2:PGs X es (TAgs PK gs))
    (hs:(assignEach (e::es) X.env).map (·.2)=assign e X.env::(assignEach es X.env).map (·.2):=by rfl):PGs X (e::es) (TAgs PK (gsCons g gs)):=(pgs_cons h1 h2 hs).imp fun vs σ H Q hz0=>by
  obtain ⟨pa,G₀,H₀,m,ρ,G,xs,ρ',R,d,e,q⟩:=hz0
  cases d with
  | nil=>cases e
  | cons d1 d2 =>
    have e':(g _ ρ).bind (fun ρ'=>gs _ ρ')=some ρ':=e
    cases h:g _ ρ with
    | none=>rw [h] at e'; cases e'
    | some ρ1 =>
      rw [h] at e'
      exact ⟨_,_,rfl,pa,G₀,H₀,m,ρ,G,_,ρ1,R,d1,h,fun σ1 R1=>⟨pa,G₀,H₀,m,ρ1,G,_,ρ',R1,d2,e',q⟩⟩
noncomputable def gTupD (gs:List PyData→List Sl→Option (List Sl)):PyData→List Sl→Option (List Sl):=fun x ρ=>match x with
  | .tuple xs=>gs xs ρ
  | _=>none
noncomputable def gsLen (n:Nat) (gs:List PyData→List Sl→Option (List Sl)):Prop:=∀ xs ρ ρ',gs xs ρ=some ρ'→xs.length=n
theorem gsLen_nil:gsLen 0 gsNil:=fun xs ρ ρ' h=>by cases xs with | nil=>rfl | cons _ _=>cases h
theorem gsLen_cons {n:Nat} {g:PyData→List Sl→Option (List Sl)} {gs:List PyData→List Sl→Option (List Sl)} (h:gsLen n gs):gsLen (n+1) (gsCons g gs):=fun xs ρ ρ' e=>by
  cases xs with
  | nil=>cases e
  | cons x xs =>
    have e':(g x ρ).bind (fun ρ'=>gs xs ρ')=some ρ':=e
    cases h1:g x ρ with
    | none=>rw [h1] at e'; cases e'
    | some ρ1 =>
      rw [h1] at e'
      exact congrArg (·+1) (h xs ρ1 ρ' e')
theorem ag_tup {k:Nat} {gs:List PyData→List Sl→Option (List Sl)} {n:Nat} (hc:X.calm=true) (h:PGs X es (TAgs PK gs)) (hl:gsLen n gs)
    (hn:(assignEach es X.env).length=n:=by rfl) (hst:(assignEach es X.env).findIdx? (·.1)=none:=by rfl):PG X (.Tuple es k pos) (TAg PK (gTupD gs)):=(pg_tup hc h hn hst).imp fun v σ H Q hz0=>by
  obtain ⟨pa,G₀,H₀,m,ρ,G,x,ρ',R,d,e,q⟩:=hz0
  cases d with
  | tup h1 h2=>exact ⟨_,_,rfl,SqT.of (R.wd.sub _ _ h1),by rw [h2.length]; exact hl _ _ _ e,pa,G₀,H₀,m,ρ,G,_,ρ',R,h2,e,q⟩
  | _=>cases e
noncomputable def aAsg (g:PyData→List Sl→Option (List Sl)) (i:List Sl→Tr PyData):List Sl→Tr Ou:=fun ρ=>(i ρ).bind fun x=>(Tr.of (g x ρ)).bind fun ρ'=>.ret (.next ρ')
theorem as_asg {g:PyData→List Sl→Option (List Sl)} (h:PS X st (tAsg (TAe PK i) (TAg PK g))):PS X st (TAs PK (aAsg g i)):=h.imp fun D σ H hz0=>by
  obtain ⟨pa,G₀,H₀,m,ρ,G,R,z⟩:=hz0
  refine TAe.then R z fun m1 x v G1 H1 s1 w1 R1 d1 q1=>?_
  rw [Tr.ok_bind] at q1
  obtain ⟨ρ',hg,q1⟩:=Tr.ok_of q1
  exact ⟨pa,G₀,H₀,m1,ρ,G1,x,ρ',R1,d1,hg,fun σ' R'=>q1 σ' G1 H1 s1.gs R'⟩
noncomputable def JOk (PK:Pk) (pa:Addr) (J:It) (G:Hp) (xs:List PyData):Prop:=∀ m G2 H2,Sub G G2→Wd PK pa m G2 H2 →
  (∀ (n:Nat) (d:PyData),xs[n]?=some d→J.go n H2∧∀ x H3,J.yld n H2 x H3→∃ G3,Stp pa G2 H2 G3 H3∧Wd PK pa m G3 H3∧Dn G3 x d)∧J.stop xs.length H2
noncomputable def TAi (PK:Pk) (is:List Sl→Tr (List PyData)):TI:=fun σ H R=>∃ pa G₀ H₀ m ρ G,Rl PK pa G₀ H₀ m σ ρ G H∧(is ρ).ok m fun m' xs=>∀ J G' H',Stp pa G H G' H'→Wd PK pa m' G' H'→JOk PK pa J G' xs→R J H'
theorem PI.imp {tg iter:Expr} {t t':TI} (h:PI X tg iter t) (q:∀ σ H R,t' σ H R→t σ H R):PI X tg iter t':=fun pins s σ H R I z=>h pins s σ H R I (q σ H R z)
noncomputable def forL (g:PyData→List Sl→Option (List Sl)) (s:List Sl→Tr Ou):List PyData→List Sl→Tr Ou
  | [],ρ=>.ret (.next ρ)
  | x::xs,ρ=>(Tr.of (g x ρ)).bind fun ρ1=>(s ρ1).bind fun o=>match o with
    | .next ρ2=>forL g s xs ρ2
    | .cont ρ2=>forL g s xs ρ2
    | .brk ρ2=>.ret (.next ρ2)
    | .ret r=>.ret (.ret r)
noncomputable def aFor (is:List Sl→Tr (List PyData)) (g:PyData→List Sl→Option (List Sl)) (s:List Sl→Tr Ou):List Sl→Tr Ou:=fun ρ=>(is ρ).bind fun xs=>forL g s xs ρ
theorem as_for {tg iter:Expr} {body:List Stmt} {g:PyData→List Sl→Option (List Sl)} (hp:PassesOwn (model X.prog X.w) X.A X.env X.xe) (hc:X.calm=true) (hi:PI X tg iter (TAi PK is)) (hg:PG X tg (TAg PK g)) (hb:PSs X body (TAs PK s))
    (hs:∀ x,foldedSetIterable iter X.env x=pure x:=by intro _; rfl):PS X (.For tg iter body [] pos) (TAs PK (aFor is g s)):=(ps_for hp hc hi hg hb hs).imp fun D σ H hz0=>by
  obtain ⟨pa,G₀,H₀,m,ρ,G,R,z⟩:=hz0
  refine ⟨pa,G₀,H₀,m,ρ,G,R,Tr.ok_mono (Tr.ok_bind.mp z) fun m1 xs k J G1 H1 s1 w1 jo=>?_⟩
  let W:Nat→Nat→St→Hp→Prop:=fun n mm σ H=>mm=xs.length - n∧n≤xs.length∧∃ m ρ G,Sub G1 G∧Rl PK pa G₀ H₀ m σ ρ G H∧(forL g s (xs.drop n) ρ).ok m (Ko PK pa G₀ H₀ G1 D)
  refine ⟨W,⟨xs.length,rfl,Nat.zero_le _,m1,ρ,G1,fun _ _ h=>h,R.step s1 w1,Tr.ok_mono k fun _ _ k'=>Ko.later k' s1.gs⟩,?_⟩
  rintro n mm σ2 H2 ⟨rfl,hn,m2,ρ2,G2,sb,R2,k2⟩
  obtain ⟨j1,j2⟩:=jo m2 G2 H2 sb R2.wd
  by_cases hlt:n < xs.length
  · have hx:xs[n]?=some xs[n]:=by simp [hlt]
    obtain ⟨jg,jy⟩:=j1 n _ hx
    refine .inr ⟨jg,W (n+1) (xs.length - (n+1)),fun σ' H' h'=>⟨_,by omega,h'⟩,fun x H3 y=>?_⟩
    obtain ⟨G3,s3,w3,d3⟩:=jy x H3 y
    rw [List.drop_eq_getElem_cons hlt] at k2
    unfold forL at k2
    rw [Tr.ok_bind] at k2
    obtain ⟨ρ3,hg3,k3⟩:=Tr.ok_of k2
    refine ⟨pa,G₀,H₀,m2,ρ2,G3,_,ρ3,R2.step s3 w3,d3,hg3,fun σ4 R4=>?_⟩
    refine ⟨pa,G₀,H₀,m2,ρ3,G3,R4,Tr.ok_mono (Tr.ok_bind.mp k3) fun m5 o ko=>?_⟩
    have again:∀ ρ5,(forL g s (xs.drop (n+1)) ρ5).ok m5 (Ko PK pa G₀ H₀ G1 D)→∀ σ5 G5 H5,Sub G3 G5→Rl PK pa G₀ H₀ m5 σ5 ρ5 G5 H5→W (n+1) (xs.length - (n+1)) σ5 H5:=fun ρ5 k5 σ5 G5 H5 sb5 R5 =>
      ⟨rfl,hlt,m5,ρ5,G5,(sb.trans s3.gs).trans sb5,R5,k5⟩
    cases o with
    | next ρ5=>exact again ρ5 ko
    | cont ρ5=>exact again ρ5 ko
    | brk ρ5=>exact fun σ5 G5 H5 sb5 R5=>ko σ5 G5 H5 ((sb.trans s3.gs).trans sb5) R5
    | ret r=>exact ko
  · have e:n=xs.length:=by omega
    subst e
    refine .inl ⟨j2,?_⟩
    rw [List.drop_length] at k2
    exact k2 σ2 G2 H2 sb R2
end L2
set_option Elab.async false
set_option linter.all false
set_option maxRecDepth 100000
namespace L2
open PySem PySem.Spec PyProof.Rows
variable {PK:Pk} {X:Cx} {a b c e:Expr} {es:List Expr} {pos:Pos} {i j l:List Sl→Tr PyData} {is:List Sl→Tr (List PyData)} {as:List Sl→Tr (List Sl)} {f:List Sl→Tr Re} {p q:List Sl→Tr Bool} {st:Stmt} {sts:List Stmt} {s t u:List Sl→Tr Ou}
noncomputable def whL (p:List Sl→Tr Bool) (s:List Sl→Tr Ou):Nat→List Sl→Tr Ou
  | 0,_=>.fail
  | n+1,ρ=>(p ρ).bind fun b=>if b=true then (s ρ).bind fun o=>match o with
      | .next ρ2=>whL p s n ρ2
      | .cont ρ2=>whL p s n ρ2
      | .brk ρ2=>.ret (.next ρ2)
      | .ret r=>.ret (.ret r)
    else .ret (.next ρ)
theorem as_while {body:List Stmt} (n:Nat) (hp:PassesOwn (model X.prog X.w) X.A X.env X.xe) (hc:PT X c (TAt PK p)) (hb:PSs X body (TAs PK s)):PS X (.While c body [] pos) (TAs PK (whL p s n)):=(ps_while hp hc hb).imp fun D σ H hz0=>by
  obtain ⟨pa,G₀,H₀,m,ρ,G,R,z⟩:=hz0
  let W:Nat→St→Hp→Prop:=fun n σ H=>∃ m ρ G1,Sub G G1∧Rl PK pa G₀ H₀ m σ ρ G1 H∧(whL p s n ρ).ok m (Ko PK pa G₀ H₀ G D)
  refine ⟨W,⟨n,m,ρ,G,.refl,R,z⟩,?_⟩
  rintro n σ2 H2 ⟨m2,ρ2,G2,sb,R2,k2⟩
  cases n with
  | zero=>exact k2.elim
  | succ n =>
    unfold whL at k2
    refine TAt.then R2 k2 fun m3 x G3 H3 s3 w3 R3 k3=>?_
    cases x with
    | false =>
      rw [if_neg Bool.false_ne_true] at k3 ⊢
      exact k3 σ2 G3 H3 (sb.trans s3.gs) R3
    | true =>
      rw [if_pos rfl] at k3 ⊢
      refine ⟨W n,fun σ' H' h=>⟨n,by omega,h⟩,pa,G₀,H₀,m3,ρ2,G3,R3,Tr.ok_mono (Tr.ok_bind.mp k3) fun m4 o ko=>?_⟩
      have again:∀ ρ5,(whL p s n ρ5).ok m4 (Ko PK pa G₀ H₀ G D)→∀ σ5 G5 H5,Sub G3 G5→Rl PK pa G₀ H₀ m4 σ5 ρ5 G5 H5→W n σ5 H5:=fun ρ5 k5 σ5 G5 H5 sb5 R5 =>
        ⟨m4,ρ5,G5,(sb.trans s3.gs).trans sb5,R5,k5⟩
      cases o with
      | next ρ5=>exact again ρ5 ko
      | cont ρ5=>exact again ρ5 ko
      | brk ρ5=>exact fun σ5 G5 H5 sb5 R5=>ko σ5 G5 H5 ((sb.trans s3.gs).trans sb5) R5
      | ret r=>exact ko

noncomputable def blS:Sl→Sl
  | .own _=>.un
  | .dic _=>.un
  | s=>s
noncomputable def blk (n:Nat) (ix:List Nat) (ρ:List Sl):List Sl:=List.replicate n .un++ix.map fun j=>blS ((ρ[j]?).getD .un)
theorem Rl.blk {pa:Addr} {G₀ H₀ G H:Hp} {m:Nat} {σ:St} {ρ:List Sl} (R:Rl PK pa G₀ H₀ m σ ρ G H) (n:Nat) (ix:List Nat):Rl PK pa G₀ H₀ m (bSt n ix σ) (blk n ix ρ) G H:=by
  have key:∀ (k:Nat) (s:Sl),(L2.blk n ix ρ)[k]?=some s→(∃ o,(bSt n ix σ)[k]?=some o∧SlOk pa H₀ G H o s)∧(∀ xs,s≠.own xs)∧∀ xs,s≠.dic xs:=fun k s h=>by
    unfold L2.blk at h
    unfold bSt
    by_cases hk:k < n
    · rw [List.getElem?_append_left (by simpa using hk),List.getElem?_replicate,if_pos hk] at h
      rw [List.getElem?_append_left (by simpa using hk),List.getElem?_replicate,if_pos hk]
      cases h
      exact ⟨⟨_,rfl,.un⟩,(fun xs h=>by cases h),fun xs h=>by cases h⟩
    · rw [List.getElem?_append_right (by simpa using Nat.le_of_not_lt hk),List.length_replicate,List.getElem?_map] at h
      rw [List.getElem?_append_right (by simpa using Nat.le_of_not_lt hk),List.length_replicate,List.getElem?_map]
      cases hj:ix[k - n]? with
      | none=>rw [hj] at h; cases h
      | some j =>
        rw [hj] at h
        have h':blS ((ρ[j]?).getD .un)=s:=Option.some.inj h
        subst h'
        show (∃ o,some ((σ[j]?).getD none)=some o∧_)∧_
        cases hr:ρ[j]? with
        | none=>exact ⟨⟨_,rfl,.un⟩,(fun xs h=>by cases h),fun xs h=>by cases h⟩
        | some s' =>
          obtain ⟨o,h1,h2⟩:=R.sl j s' hr
          rw [h1]
          cases h2 with
          | un=>exact ⟨⟨_,rfl,.un⟩,(fun xs h=>by cases h),fun xs h=>by cases h⟩
          | d z=>exact ⟨⟨_,rfl,.d z⟩,(fun xs h=>by cases h),fun xs h=>by cases h⟩
          | own _ _ _ _=>exact ⟨⟨_,rfl,.un⟩,(fun xs h=>by cases h),fun xs h=>by cases h⟩
          | dic _ _ _ _=>exact ⟨⟨_,rfl,.un⟩,(fun xs h=>by cases h),fun xs h=>by cases h⟩
          | pen=>exact ⟨⟨_,rfl,.pen⟩,(fun xs h=>by cases h),fun xs h=>by cases h⟩
  refine ⟨R.wd,R.st,R.p0,fun k s h=>(key k s h).1,?_,fun k n' xs ys _ h1 _=>absurd rfl ((key k _ h1).2.1 xs),fun k n' xs ys _ h1 _=>absurd rfl ((key k _ h1).2.2 xs)⟩
  unfold L2.blk bSt
  simp
noncomputable def PresN (n:Nat) (g:PyData→List Sl→Option (List Sl)):Prop:=∀ x ρ ρ',g x ρ=some ρ'→ρ'.length=ρ.length∧∀ k,n≤k→ρ'[k]?=ρ[k]?
noncomputable def PresNs (n:Nat) (g:List PyData→List Sl→Option (List Sl)):Prop:=∀ x ρ ρ',g x ρ=some ρ'→ρ'.length=ρ.length∧∀ k,n≤k→ρ'[k]?=ρ[k]?
theorem pres_set {n k:Nat} (h:k < n):PresN n (gSet k):=fun x ρ ρ' e=>by
  cases e
  exact ⟨List.length_set,fun j hj=>List.getElem?_set_ne (by omega)⟩
theorem pres_nil {n:Nat}:PresNs n gsNil:=fun x ρ ρ' e=>by
  cases x with
  | nil=>cases e; exact ⟨rfl,fun _ _=>rfl⟩
  | cons _ _=>cases e
theorem pres_cons {n:Nat} {g:PyData→List Sl→Option (List Sl)} {gs:List PyData→List Sl→Option (List Sl)} (h1:PresN n g) (h2:PresNs n gs):PresNs n (gsCons g gs):=fun x ρ ρ' e=>by
  cases x with
  | nil=>cases e
  | cons x xs =>
    have e':(g x ρ).bind (fun ρ'=>gs xs ρ')=some ρ':=e
    cases h:g x ρ with
    | none=>rw [h] at e'; cases e'
    | some ρ1 =>
      rw [h] at e'
      obtain ⟨a1,a2⟩:=h1 x ρ ρ1 h
      obtain ⟨b1,b2⟩:=h2 xs ρ1 ρ' e'
      exact ⟨b1.trans a1,fun k hk=>(b2 k hk).trans (a2 k hk)⟩
theorem pres_tup {n:Nat} {gs:List PyData→List Sl→Option (List Sl)} (h2:PresNs n gs):PresN n (gTupD gs):=fun x ρ ρ' e=>by
  cases x with
  | tuple xs=>exact h2 xs ρ ρ' e
  | _=>cases e
noncomputable def mapT (h:PyData→Tr PyData):List PyData→Tr (List PyData)
  | []=>.ret []
  | x::xs=>(h x).bind fun y=>(mapT h xs).bind fun ys=>.ret (y::ys)
noncomputable def aLc (is:List Sl→Tr (List PyData)) (n:Nat) (ix:List Nat) (g:PyData→List Sl→Option (List Sl)) (el:List Sl→Tr PyData):List Sl→Tr (List PyData):=fun ρ =>
  (is ρ).bind fun xs=>if small xs.length=true then mapT (fun x=>(Tr.of (g x (blk n ix ρ))).bind el) xs else .fail
theorem Rl.weak {pa:Addr} {G₀ H₀ G H:Hp} {m:Nat} {σ:St} {ρ ρ':List Sl} (R:Rl PK pa G₀ H₀ m σ ρ' G H) (hl:ρ'.length=ρ.length) (h:∀ (k:Nat) (s:Sl),ρ[k]?=some s→s=.un∨ρ'[k]?=some s):Rl PK pa G₀ H₀ m σ ρ G H:=by
  refine ⟨R.wd,R.st,R.p0,fun k s hk=>?_,hl.symm.trans R.len,fun k n xs ys hkn h1 h2=>?_,fun k n xs ys hkn h1 h2=>?_⟩
  · rcases h k s hk with e | e
    · subst e
      have hlt:k < σ.length:=by
        rw [← R.len,hl]
        exact (List.getElem?_eq_some_iff.mp hk).1
      exact ⟨σ[k],by simp [hlt],.un⟩
    · exact R.sl k s e
  · rcases h k _ h1 with e | e
    · cases e
    · rcases h n _ h2 with e' | e'
      · cases e'
      · exact R.dj k n xs ys hkn e e'
  · rcases h k _ h1 with e | e
    · cases e
    · rcases h n _ h2 with e' | e'
      · cases e'
      · exact R.dj2 k n xs ys hkn e e'
theorem lc_read {n:Nat} {ix:List Nat} {g:PyData→List Sl→Option (List Sl)} (hn:PresN n g):∀ σ H Q,TAo PK (aLc is n ix g i) σ H Q→tLc (TAi PK is) n ix (fun _=>TAg PK g) (fun _=>TAe PK i) σ H Q:=by
  rintro σ H Q ⟨pa,G₀,H₀,m,ρ,G,R,z⟩
  refine ⟨pa,G₀,H₀,m,ρ,G,R,Tr.ok_mono (Tr.ok_bind.mp z) fun m1 xs k J G1 H1 s1 w1 jo=>fun B=>?_⟩
  obtain ⟨hs,k⟩:=ok_if k
  have hs:xs.length≤sizeLine:=of_decide_eq_true hs
  let el:PyData→Tr PyData:=fun x=>(Tr.of (g x (blk n ix ρ))).bind i
  let W:Nat→Nat→St→List V→Hp→Prop:=fun k mm τ ys H2=>mm=xs.length - k∧k≤xs.length∧ys.length=k∧∃ m G2 ds,Sub G1 G2∧Stp pa G H G2 H2∧Rl PK pa G₀ H₀ m τ (blk n ix ρ) G2 H2 ∧
    DnAll G2 ys ds∧(mapT el (xs.drop k)).ok m fun m' zs=>Ko1 PK pa m' G H (ds++zs) Q
  refine ⟨W,⟨xs.length,rfl,Nat.zero_le _,rfl,m1,G1,[],.refl,s1,(R.step s1 w1).blk n ix,.nil,k⟩,?_⟩
  rintro k mm τ ys H2 ⟨rfl,hk,hy,m2,G2,ds,sb,st2,R2,dn,k2⟩
  obtain ⟨j1,j2⟩:=jo m2 G2 H2 sb R2.wd
  by_cases hlt:k < xs.length
  · have hx:xs[k]?=some xs[k]:=by simp [hlt]
    obtain ⟨jg,jy⟩:=j1 k _ hx
    refine .inr ⟨jg,by omega,fun x H3 y=>?_⟩
    obtain ⟨G3,s3,w3,d3⟩:=jy x H3 y
    rw [List.drop_eq_getElem_cons hlt] at k2
    unfold mapT at k2
    rw [Tr.ok_bind,Tr.ok_bind] at k2
    obtain ⟨ρ3,hg3,k3⟩:=Tr.ok_of k2
    refine ⟨pa,G₀,H₀,m2,_,G3,_,ρ3,R2.step s3 w3,d3,hg3,fun τ4 R4=>?_⟩
    refine ⟨pa,G₀,H₀,m2,ρ3,G3,R4,Tr.ok_mono k3 fun m5 yd k5=>?_⟩
    intro v G5 H5 s5 w5 d5
    have s35:=s3.trans s5 w3.some
    obtain ⟨pl,pk⟩:=hn _ _ _ hg3
    refine ⟨xs.length - (k+1),by omega,rfl,hlt,by rw [List.length_append,hy]; rfl,m5,G5,ds++[yd],sb.trans s35.gs,st2.trans s35 R2.wd.some,?_,(DnAll.mono s35.gs dn).snoc d5,?_⟩
    · refine (R4.step s5 w5).weak pl fun q sl hq=>?_
      by_cases hqn:q < n
      · left
        unfold blk at hq
        rw [List.getElem?_append_left (by simpa using hqn),List.getElem?_replicate,if_pos hqn] at hq
        cases hq
        rfl
      · right
        rw [pk q (Nat.le_of_not_lt hqn)]
        exact hq
    · refine Tr.ok_mono (Tr.ok_bind.mp k5) fun m6 zs k6=>?_
      rw [List.append_assoc]
      exact k6
  · have e:k=xs.length:=by omega
    subst e
    refine .inl ⟨j2,fun p v H' hp ev eH=>?_⟩
    subst ev eH
    rw [List.drop_length] at k2
    have k2':Ko1 PK pa m2 G H (ds++[]) Q:=k2
    rw [List.append_nil] at k2'
    exact (Ko1.later k2' st2 R2.wd.some).new R2.wd dn hp
theorem ao_lc {n:Nat} {ix:List Nat} {g:PyData→List Sl→Option (List Sl)} (h:PE X e (tLc (TAi PK is) n ix (fun _=>TAg PK g) (fun _=>TAe PK i))) (hn:PresN n g):PE X e (TAo PK (aLc is n ix g i)):=h.imp (lc_read hn)
theorem tAsg_mono {te te':TE} {g:TG} (h:∀ σ H Q,te' σ H Q→te σ H Q):∀ D σ H,tAsg te' g D σ H→tAsg te g D σ H:=fun D σ H z=>h σ H _ z
noncomputable def finR:Ou→Tr Re
  | .next _=>.ret (.d .none)
  | .ret r=>.ret r
  | _=>.fail
noncomputable def aDef (n k:Nat) (s:List Sl→Tr Ou):List Sl→Tr Re:=fun as=>if decide (as.length=n)=true then (s (as++List.replicate k .un)).bind finR else .fail
theorem Rl.start {pa:Addr} {G H:Hp} {m:Nat} {N:List Str} {vs:List V} {as:List Sl} {k:Nat} (w:Wd PK pa m G H) (ar:ArsOk pa G vs as) (hk:N.length - vs.length=k):Rl PK pa G H m (L2.start N vs) (as++List.replicate k .un) G H:=by
  have key:∀ {vs:List V} {as:List Sl},ArsOk pa G vs as→∀ (q:Nat) (s:Sl),as[q]?=some s→(∃ o,(vs.map some)[q]?=some o∧SlOk pa H G H o s)∧(∀ xs,s≠.own xs)∧∀ xs,s≠.dic xs:=by
    intro vs as h
    induction h with
    | nil=>intro q s h; simp at h
    | cons h1 h2 ih =>
      intro q s h
      cases q with
      | zero =>
        simp at h
        subst h
        cases h1 with
        | d z=>exact ⟨⟨_,rfl,.d z⟩,(fun xs h=>by cases h),fun xs h=>by cases h⟩
        | pen=>exact ⟨⟨_,rfl,.pen⟩,(fun xs h=>by cases h),fun xs h=>by cases h⟩
      | succ q =>
        obtain ⟨⟨o,p1,p2⟩,p3⟩:=ih q s (by simpa using h)
        exact ⟨⟨o,by simpa using p1,p2⟩,p3⟩
  have hl:=ar.length
  have key2:∀ (q:Nat) (s:Sl),(as++List.replicate k .un)[q]?=some s→(∃ o,(L2.start N vs)[q]?=some o∧SlOk pa H G H o s)∧(∀ xs,s≠.own xs)∧∀ xs,s≠.dic xs:=fun q s h=>by
    unfold L2.start
    by_cases hq:q < as.length
    · rw [List.getElem?_append_left hq] at h
      rw [List.getElem?_append_left (by rw [List.length_map,hl]; exact hq)]
      exact key ar q s h
    · rw [List.getElem?_append_right (by omega),List.getElem?_replicate] at h
      rw [List.getElem?_append_right (by rw [List.length_map]; omega),List.getElem?_replicate,List.length_map,hl]
      split at h
      · rename_i hq2
        cases h
        rw [if_pos (by omega)]
        exact ⟨⟨_,rfl,.un⟩,(fun xs h=>by cases h),fun xs h=>by cases h⟩
      · cases h
  refine ⟨w,.refl,w.some,fun q s h=>(key2 q s h).1,?_,fun q n xs ys _ h1 _=>absurd rfl ((key2 q _ h1).2.1 xs),fun q n xs ys _ h1 _=>absurd rfl ((key2 q _ h1).2.2 xs)⟩
  unfold L2.start
  simp [hl,hk]
  omega
theorem acal_of {P:Program} {w:World} {K:PySem.W.Frag} {mg:Str→Option Value} {base:Heap} {x:Str} {N ps:List Str} {kk k:Nat} (D:Def K mg x st ps) (S:FnScope N ps (defScope st)) (hk:N.length - ps.length=k)
    (hbody:∀ (f:Addr) (cdv:Value) (A:Around) (outer:List Env) (sh:Shared) (H:Hp) (E:XK),Room kk (A.deeper (envOfC x (defScope st) sh.heap.objs.size f cdv)) →
      PSs (cxOf CX0 P w K mg base N x (defScope st) f cdv A outer sh H E).nox (defBody st) (TAs PK s)):ACal PK P w K mg base x (kk+1) ps (aDef ps.length k s):=by
  have len:∀ as m Z,(aDef ps.length k s as).ok m Z→as.length=ps.length:=fun as m Z h=>by
    unfold aDef at h
    exact of_decide_eq_true (ok_if h).1
  refine ⟨D.ok S (fun vs H Q E h=>h.1) fun f cdv A outer sh H vs Q E hr hsp=>?_,len⟩
  obtain ⟨hv,pa,m,G,as,wd,ar,z⟩:=hsp
  refine ⟨_,hbody f cdv A outer sh H E hr,?_⟩
  unfold aDef at z
  obtain ⟨_,z⟩:=ok_if z
  refine ⟨pa,G,H,m,_,G,Rl.start wd ar (by rw [hv]; exact hk),Tr.ok_mono (Tr.ok_bind.mp z) fun m1 o ko=>?_⟩
  cases o with
  | next ρ=>exact fun σ G1 H1 sb R1=>ko .non G1 H1 R1.st R1.wd .non
  | ret r=>exact ko
  | brk ρ=>exact ko.elim
  | cont ρ=>exact ko.elim

theorem pi_seq {tg l:Expr} {tl:TE} (hl:PE X l tl):PI X tg l (fun σ H R=>tl σ H fun x H1=>∃ a,x=.ref a∧((∃ xs,SqL X.K H1 a xs∧R (Itl X.K a) H1)∨(∃ xs,SqT X.K H1 a xs∧R (Itt X.K a) H1))):=by
  intro pins s σ H R I h
  refine thn (hl pins s σ H _ I h) fun v s1 hz0=>?_
  obtain ⟨x,H1,I1,r1,q1⟩:=hz0
  obtain ⟨a,e,q⟩:=q1
  subst e
  cases r1
  rcases q with ⟨xs,hq,q⟩ | ⟨xs,hq,q⟩
  · obtain ⟨its,rv,p,hz⟩:=I1.list hq
    refine wpAny_pyIter_list p.isList ?_
    refine ⟨s1.heap.objs.size,[s1.heap.objs.size],_,_,H1,rfl,I1.kept (t':=s1.toks) fun b o e=>Heap.get?_push_of_some _ e,turn_list a _,⟨_,Heap.get?_push_size _ rfl,rfl,rfl⟩,fun b hb=>?_,q⟩
    have e:b=s1.heap.objs.size:=by simpa using hb
    subst e
    exact I1.fpOk (Nat.le_refl _) (I1.hok.fresh (Nat.le_refl _))
  · obtain ⟨its,rv,p,hz⟩:=I1.tuple hq
    refine wpAny_pyIter_tuple (show s1.heap.IsTuple a its.toArray from p) ?_
    refine ⟨s1.heap.objs.size,[s1.heap.objs.size],_,_,H1,rfl,I1.kept (t':=s1.toks) fun b o e=>Heap.get?_push_of_some _ e,turn_tuple a _,⟨_,Heap.get?_push_size _ rfl,rfl,rfl⟩,fun b hb=>?_,q⟩
    have e:b=s1.heap.objs.size:=by simpa using hb
    subst e
    exact I1.fpOk (Nat.le_refl _) (I1.hok.fresh (Nat.le_refl _))
theorem DnAll.get {H:Hp}:∀ {vs:List V} {ds:List PyData} (n:Nat) {d:PyData},DnAll H vs ds→ds[n]?=some d→∃ v,vs[n]?=some v∧Dn H v d
  | _,_,_,_,.nil,e=>by simp at e
  | _,_,0,_,.cons g t,e=>by simp at e; subst e; exact ⟨_,rfl,g⟩
  | _,_,n+1,_,.cons g t,e=>by
    obtain ⟨v,h1,h2⟩:=DnAll.get n t (by simpa using e)
    exact ⟨v,by simpa using h1,h2⟩
theorem jok_list {K:PySem.W.Frag} {pa a:Addr} {G:Hp} {vs:List V} {xs:List PyData} (h:G a=some (.lst vs)) (d:DnAll G vs xs):JOk PK pa (Itl K a) G xs:=fun m G2 H2 sb w=>by
  have hq:SqL K H2 a vs:=SqL.of (w.sub _ _ (sb _ _ h))
  refine ⟨fun n x hx=>?_,vs,hq,by rw [d.length]; exact Nat.le_refl _⟩
  obtain ⟨v,hv,dv⟩:=d.get n hx
  refine ⟨⟨vs,v,hq,hv⟩,fun y H3 hz0=>?_⟩
  obtain ⟨e,hy⟩:=hz0
  subst e
  have:=hy vs hq
  rw [hv] at this
  cases this
  exact ⟨G2,.refl,w,dv.mono sb⟩
theorem jok_tup {K:PySem.W.Frag} {pa a:Addr} {G:Hp} {vs:List V} {xs:List PyData} (h:G a=some (.tup vs)) (d:DnAll G vs xs):JOk PK pa (Itt K a) G xs:=fun m G2 H2 sb w=>by
  have hq:SqT K H2 a vs:=SqT.of (w.sub _ _ (sb _ _ h))
  refine ⟨fun n x hx=>?_,vs,hq,by rw [d.length]; exact Nat.le_refl _⟩
  obtain ⟨v,hv,dv⟩:=d.get n hx
  refine ⟨⟨vs,v,hq,hv⟩,fun y H3 hz0=>?_⟩
  obtain ⟨e,hy⟩:=hz0
  subst e
  have:=hy vs hq
  rw [hv] at this
  cases this
  exact ⟨G2,.refl,w,dv.mono sb⟩
noncomputable def itD:PyData→Option (List PyData)
  | .list xs=>some xs
  | .tuple xs=>some xs
  | _=>none
@[simp] theorem itD_list (xs:List PyData):itD (.list xs)=some xs:=rfl
@[simp] theorem itD_tuple (xs:List PyData):itD (.tuple xs)=some xs:=rfl
noncomputable def aIt (i:List Sl→Tr PyData):List Sl→Tr (List PyData):=fun ρ=>(i ρ).bind fun x=>Tr.of (itD x)
theorem ai_seq {tg l:Expr} (hl:PE X l (TAe PK i)):PI X tg l (TAi PK (aIt i)):=(pi_seq hl).imp fun σ H R0 hz0=>by
  obtain ⟨pa,G₀,H₀,m,ρ,G,R,z⟩:=hz0
  refine TAe.then R z fun m1 x v G1 H1 s1 w1 R1 d1 q1=>?_
  obtain ⟨xs,hx,q1⟩:=Tr.ok_of q1
  cases d1 with
  | lst h1 h2=>cases hx; exact ⟨_,rfl,.inl ⟨_,SqL.of (w1.sub _ _ h1),q1 _ G1 H1 s1 w1 (jok_list h1 h2)⟩⟩
  | tup h1 h2=>cases hx; exact ⟨_,rfl,.inr ⟨_,SqT.of (w1.sub _ _ h1),q1 _ G1 H1 s1 w1 (jok_tup h1 h2)⟩⟩
  | _=>cases hx
noncomputable def rngL (lo hi:Int):List PyData:=(rangeI lo (hi - lo).toNat).map PyData.int
theorem jok_rng {pa:Addr} {G:Hp} {lo:Int} {n:Nat}:JOk PK pa (Itr lo n) G ((rangeI lo n).map PyData.int):=fun m G2 H2 sb w=>by
  refine ⟨fun k x hx=>?_,by show n≤_; rw [List.length_map,rangeI_length]; exact Nat.le_refl _⟩
  have hk:k < n:=by
    have:=(List.getElem?_eq_some_iff.mp hx).1
    rwa [List.length_map,rangeI_length] at this
  refine ⟨hk,fun y H3 hz0=>?_⟩
  obtain ⟨e1,e2⟩:=hz0
  subst e1 e2
  have:x=.int (lo+k):=by
    unfold rangeI at hx
    simp [hk] at hx
    exact hx.symm
  subst this
  exact ⟨G2,.refl,w,.int _⟩
noncomputable def inR (n:Int):Bool:=decide (-(2 ^ 62)≤n∧n < 2 ^ 62)
noncomputable def rngD1:List PyData→Option (List PyData)
  | [.int n]=>if inR n=true then some (rngL 0 n) else none
  | _=>none
noncomputable def rngD2:List PyData→Option (List PyData)
  | [.int k,.int n]=>if (inR k && inR n)=true then some (rngL k n) else none
  | _=>none
noncomputable def aRng1 (is:List Sl→Tr (List PyData)):List Sl→Tr (List PyData):=fun ρ=>(is ρ).bind fun xs=>Tr.of (rngD1 xs)
theorem rngD1_inv {G:Hp} {vs:List V} {xs ys:List PyData} (d:DnAll G vs xs) (h:rngD1 xs=some ys):∃ n:Int,vs=[.int n]∧-(2 ^ 62)≤n∧n < 2 ^ 62∧ys=rngL 0 n:=by
  unfold rngD1 at h
  split at h
  · rename_i n
    split at h
    · rename_i hn
      cases h
      cases d with
      | cons d1 d2 =>
        cases d2
        cases d1
        have:=of_decide_eq_true hn
        exact ⟨n,rfl,this.1,this.2,rfl⟩
    · cases h
  · cases h
theorem rngD2_inv {G:Hp} {vs:List V} {xs ys:List PyData} (d:DnAll G vs xs) (h:rngD2 xs=some ys):∃ k n:Int,vs=[.int k,.int n]∧(-(2 ^ 62)≤k∧k < 2 ^ 62∧-(2 ^ 62)≤n∧n < 2 ^ 62)∧ys=rngL k n:=by
  unfold rngD2 at h
  split at h
  · rename_i k n
    split at h
    · rename_i hn
      cases h
      cases d with
      | cons d1 d2 =>
        cases d2 with
        | cons d2 d3 =>
          cases d3
          cases d1
          cases d2
          rw [Bool.and_eq_true] at hn
          have h1:=of_decide_eq_true hn.1
          have h2:=of_decide_eq_true hn.2
          exact ⟨k,n,rfl,⟨h1.1,h1.2,h2.1,h2.2⟩,rfl⟩
    · cases h
  · cases h
theorem ai_rng1 {tg e:Expr} (h:PI X tg e (iRng1 (TAd PK is))):PI X tg e (TAi PK (aRng1 is)):=h.imp fun σ H R0 hz0=>by
  obtain ⟨pa,G₀,H₀,m,ρ,G,R,z⟩:=hz0
  refine TAd.then R z fun m1 xs vs G1 H1 s1 w1 R1 d1 q1=>?_
  obtain ⟨ys,hy,q1⟩:=Tr.ok_of q1
  obtain ⟨n,e,h1,h2,rfl⟩:=rngD1_inv d1 hy
  refine ⟨n,e,h1,h2,?_⟩
  have q:=q1 (Itr 0 n.toNat) G1 H1 s1 w1
  unfold rngL at q
  rw [Int.sub_zero] at q
  exact q jok_rng
end L2
set_option Elab.async false
set_option linter.all false
set_option maxRecDepth 100000
namespace L2
open PySem PySem.Spec PyProof.Rows
variable {PK:Pk} {X:Cx} {a b c e:Expr} {es:List Expr} {pos:Pos} {i j l:List Sl→Tr PyData} {is:List Sl→Tr (List PyData)}
noncomputable def fit (n:Int):Bool:=decide (n.natAbs < 2 ^ 8000)
noncomputable def addD:PyData→PyData→Option PyData
  | .int m,.int n=>some (.int (m+n))
  | .tuple xs,.tuple ys=>if (!xs.isEmpty && small (xs.length+ys.length))=true then some (.tuple (xs++ys)) else none
  | .list xs,.list ys=>if small (xs.length+ys.length)=true then some (.list (xs++ys)) else none
  | _,_=>none
noncomputable def rAddD (K:PySem.W.Frag):R2:=fun x y H Q=>rI0 (fun i j=>.int (i+j)) x y H Q∨rCatT K x y H Q∨rCat x y H Q
theorem op_addD:OpR X (binaryOp .Add) (rAddD X.K):=op_add.or (op_catT.or op_cat)
theorem vo_add {K:PySem.W.Frag}:VOp2 (rAddD K) addD:=fun PK pa m G H x y dx dy dz Q w hx hy hz k=>by
  unfold addD at hz
  split at hz
  · cases hz; cases hx; cases hy
    exact .inl ⟨_,_,rfl,rfl,k.here w (.int _)⟩
  · rename_i xs ys
    split at hz
    · rename_i hc
      rw [Bool.and_eq_true] at hc
      have h1:xs.isEmpty=false:=by simpa using hc.1
      have h2:xs.length+ys.length≤sizeLine:=of_decide_eq_true hc.2
      cases hz
      cases hx with
      | tup a1 a2 =>
        cases hy with
        | tup b1 b2 =>
          refine .inr (.inl ⟨_,_,_,_,rfl,rfl,SqT.of (w.sub _ _ a1),SqT.of (w.sub _ _ b1),?_,by rw [a2.length,b2.length]; exact h2,fun e=>?_,fun e p hp=>k.tup w (a2.append b2) hp⟩)
          · intro e
            rw [← a2.isEmpty,e] at h1
            cases h1
          · subst e
            cases b2
            refine k.here w ?_
            rw [List.append_nil]
            exact .tup a1 a2
    · cases hz
  · rename_i xs ys
    split at hz
    · rename_i hc
      have h2:xs.length+ys.length≤sizeLine:=of_decide_eq_true hc
      cases hz
      cases hx with
      | lst a1 a2 =>
        cases hy with
        | lst b1 b2=>exact .inr (.inr ⟨_,_,_,_,rfl,rfl,w.sub _ _ a1,w.sub _ _ b1,by rw [a2.length,b2.length]; exact h2,fun p hp=>k.lst w (a2.append b2) hp⟩)
    · cases hz
  · cases hz
noncomputable def subD:PyData→PyData→Option PyData
  | .int m,.int n=>some (.int (m - n))
  | _,_=>none
theorem vo_sub:VOp2 (rI0 fun i j=>.int (i - j)) subD:=fun PK pa m G H x y dx dy dz Q w hx hy hz k=>by
  unfold subD at hz
  split at hz
  · cases hz; cases hx; cases hy
    exact ⟨_,_,rfl,rfl,k.here w (.int _)⟩
  · cases hz
theorem DnAll.rep {H:Hp} {vs:List V} {ds:List PyData} (h:DnAll H vs ds):∀ k:Nat,DnAll H (List.replicate k vs).flatten (List.replicate k ds).flatten
  | 0=>.nil
  | k+1=>by
    rw [List.replicate_succ,List.replicate_succ,List.flatten_cons,List.flatten_cons]
    exact h.append (h.rep k)
noncomputable def rMulD (K:PySem.W.Frag):R2:=fun x y H Q=>rI CMulG (fun i j=>.int (i * j)) x y H Q∨rRepT K x y H Q∨rRep x y H Q
theorem op_mulD:OpR X (binaryOp .Mult) (rMulD X.K):=op_mulG.or (op_repT.or op_rep)
noncomputable def mulD':PyData→PyData→Option PyData
  | .int m,.int n=>if (fit m && fit n)=true then some (.int (m * n)) else none
  | .tuple xs,.int n=>if (decide (1 < n) && decide (n≤1000) && !xs.isEmpty && decide (xs.length≤1000))=true then some (.tuple (List.replicate n.toNat xs).flatten) else none
  | .list xs,.int n=>if (decide (-(2 ^ 63)≤n) && decide (n < 2 ^ 63) && small (xs.length * n.toNat))=true then some (.list (List.replicate n.toNat xs).flatten) else none
  | _,_=>none
theorem vo_mul {K:PySem.W.Frag}:VOp2 (rMulD K) mulD':=fun PK pa m G H x y dx dy dz Q w hx hy hz k=>by
  unfold mulD' at hz
  split at hz
  · split at hz
    · rename_i hc
      rw [Bool.and_eq_true] at hc
      cases hz; cases hx; cases hy
      exact .inl ⟨_,_,rfl,rfl,⟨of_decide_eq_true hc.1,of_decide_eq_true hc.2⟩,k.here w (.int _)⟩
    · cases hz
  · split at hz
    · rename_i hc
      simp only [Bool.and_eq_true,decide_eq_true_eq,Bool.not_eq_true'] at hc
      cases hz; cases hy
      cases hx with
      | tup a1 a2 =>
        refine .inr (.inl ⟨_,_,_,rfl,rfl,SqT.of (w.sub _ _ a1),hc.1.1.1,hc.1.1.2,?_,by rw [a2.length]; exact hc.2,fun p hp=>k.tup w (a2.rep _) hp⟩)
        intro e
        have:=hc.1.2
        rw [← a2.isEmpty,e] at this
        cases this
    · cases hz
  · split at hz
    · rename_i hc
      simp only [Bool.and_eq_true,decide_eq_true_eq] at hc
      cases hz; cases hy
      cases hx with
      | lst a1 a2=>exact .inr (.inr ⟨_,_,_,rfl,rfl,w.sub _ _ a1,hc.1.1,hc.1.2,by rw [a2.length]; exact of_decide_eq_true hc.2,fun p hp=>k.lst w (a2.rep _) hp⟩)
    · cases hz
  · cases hz
noncomputable def aNeg (i:List Sl→Tr PyData):List Sl→Tr PyData:=fun ρ=>(i ρ).bind fun x=>match x with
  | .int n=>.ret (.int (-n))
  | _=>.fail
theorem ae_neg (ha:PE X a (TAe PK i)):PE X (.UnaryOp .USub a pos) (TAe PK (aNeg i)):=(pe_un un_neg ha).imp fun σ H Q hz0=>by
  obtain ⟨pa,G₀,H₀,m,ρ,G,R,z⟩:=hz0
  refine TAe.then R z fun m1 x v G1 H1 s1 w1 R1 d1 q1=>?_
  cases d1 with
  | int n=>exact ⟨n,rfl,(Kn.later q1 s1 w1.some).here w1 (.int _)⟩
  | _=>exact q1.elim
noncomputable def cmpD (f:Int→Int→Bool):PyData→PyData→Option PyData
  | .int m,.int n=>some (.bool (f m n))
  | _,_=>none
theorem vo_cmp {f:Int→Int→Bool}:VOp2 (rI0 fun i j=>.bl (f i j)) (cmpD f):=fun PK pa m G H x y dx dy dz Q w hx hy hz k=>by
  unfold cmpD at hz
  split at hz
  · cases hz; cases hx; cases hy
    exact ⟨_,_,rfl,rfl,k.here w (.bl _)⟩
  · cases hz
noncomputable def eqD:PyData→PyData→Option PyData
  | .str m,.str n=>some (.bool (m == n))
  | x,y=>if (SeqAt.shaped x && SeqAt.shaped y)=true then some (.bool (PyData.eqv x y)) else none
noncomputable def neD:PyData→PyData→Option PyData
  | .str m,.str n=>some (.bool (!(m == n)))
  | x,y=>if (SeqAt.shaped x && SeqAt.shaped y)=true then some (.bool (!PyData.eqv x y)) else none
noncomputable def rEqD:R2:=fun x y H Q=>rEq x y H Q∨∃ d e,Dn H x d∧Dn H y e∧SeqAt.shaped d=true∧SeqAt.shaped e=true∧Q (.bl (PyData.eqv d e)) H
noncomputable def rNeD:R2:=fun x y H Q=>rNe x y H Q∨∃ d e,Dn H x d∧Dn H y e∧SeqAt.shaped d=true∧SeqAt.shaped e=true∧Q (.bl (!PyData.eqv d e)) H
theorem op_eqA {k:Nat} (hr:Room k X.A):OpR X (compareOp .Eq) rEqD:=op_eq.or (op_eqD hr)
theorem op_neA {k:Nat} (hr:Room k X.A):OpR X (compareOp .NotEq) rNeD:=op_ne.or (op_neD hr)
theorem vo_eq:VOp2 rEqD eqD:=fun PK pa m G H x y dx dy dz Q w hx hy hz k=>by
  unfold eqD at hz
  split at hz
  · cases hz; cases hx; cases hy
    exact .inl ⟨rfl,by rw [dec_str]; exact k.here w (.bl _)⟩
  · split at hz
    · rename_i hc
      rw [Bool.and_eq_true] at hc
      cases hz
      exact .inr ⟨_,_,hx.mono w.sub,hy.mono w.sub,hc.1,hc.2,k.here w (.bl _)⟩
    · cases hz
theorem vo_ne:VOp2 rNeD neD:=fun PK pa m G H x y dx dy dz Q w hx hy hz k=>by
  unfold neD at hz
  split at hz
  · cases hz; cases hx; cases hy
    exact .inl ⟨rfl,by rw [dec_str]; exact k.here w (.bl _)⟩
  · split at hz
    · rename_i hc
      rw [Bool.and_eq_true] at hc
      cases hz
      exact .inr ⟨_,_,hx.mono w.sub,hy.mono w.sub,hc.1,hc.2,k.here w (.bl _)⟩
    · cases hz
noncomputable def ixD:PyData→PyData→Option PyData
  | .list xs,.int n=>atI xs n
  | .tuple xs,.int n=>atI xs n
  | _,_=>none
theorem DnAll.at {H:Hp} {vs:List V} {ds:List PyData} {n:Int} {d:PyData} (h:DnAll H vs ds) (e:atI ds n=some d):∃ v,atI vs n=some v∧Dn H v d:=by
  unfold atI at e ⊢
  rw [← h.length] at e
  cases hn:ixN vs.length n with
  | none=>rw [hn] at e; cases e
  | some j =>
    rw [hn] at e
    exact h.get j e
theorem vo_ix {K:PySem.W.Frag}:VOp2 (rIx K) ixD:=fun PK pa m G H x y dx dy dz Q w hx hy hz k=>by
  unfold ixD at hz
  split at hz
  · cases hy
    cases hx with
    | lst a1 a2 =>
      obtain ⟨v,h1,h2⟩:=a2.at hz
      exact .inl ⟨_,_,_,v,rfl,rfl,SqL.of (w.sub _ _ a1),h1,k.here w h2⟩
  · cases hy
    cases hx with
    | tup a1 a2 =>
      obtain ⟨v,h1,h2⟩:=a2.at hz
      exact .inr (.inl ⟨_,_,_,v,rfl,rfl,SqT.of (w.sub _ _ a1),h1,k.here w h2⟩)
  · cases hz

noncomputable def lenD:List PyData→Option PyData
  | [.list xs]=>some (.int xs.length)
  | [.tuple xs]=>some (.int xs.length)
  | _=>none
theorem vc_len {K:PySem.W.Frag}:VCl (fun xs H Q=>∃ p ys,xs=[.ref p]∧(SqL K H p ys∨SqT K H p ys)∧Q (.int ys.length) H) lenD:=fun PK pa m G H vs ds d Q w hv hd k=>by
  unfold lenD at hd
  split at hd
  · cases hd
    cases hv with
    | cons h1 h2 =>
      cases h2
      cases h1 with
      | lst a1 a2=>exact ⟨_,_,rfl,.inl (SqL.of (w.sub _ _ a1)),by rw [a2.length]; exact k.here w (.int _)⟩
  · cases hd
    cases hv with
    | cons h1 h2 =>
      cases h2
      cases h1 with
      | tup a1 a2=>exact ⟨_,_,rfl,.inr (SqT.of (w.sub _ _ a1)),by rw [a2.length]; exact k.here w (.int _)⟩
  · cases hd
noncomputable def maxI (m n:Int):Int:=if n > m then n else m
noncomputable def minI (m n:Int):Int:=if n < m then n else m
noncomputable def max2D:List PyData→Option PyData
  | [.int m,.int n]=>some (.int (maxI m n))
  | _=>none
noncomputable def min2D:List PyData→Option PyData
  | [.int m,.int n]=>some (.int (minI m n))
  | _=>none
theorem vc_max2:VCl (fun xs H Q=>∃ i j,xs=[.int i,.int j]∧Q (.int (if j > i then j else i)) H) max2D:=fun PK pa m G H vs ds d Q w hv hd k=>by
  unfold max2D at hd
  split at hd
  · cases hd
    cases hv with
    | cons h1 h2=>cases h2 with | cons h2 h3=>cases h3; cases h1; cases h2; exact ⟨_,_,rfl,k.here w (.int _)⟩
  · cases hd
theorem vc_min2:VCl (fun xs H Q=>∃ i j,xs=[.int i,.int j]∧Q (.int (if j < i then j else i)) H) min2D:=fun PK pa m G H vs ds d Q w hv hd k=>by
  unfold min2D at hd
  split at hd
  · cases hd
    cases hv with
    | cons h1 h2=>cases h2 with | cons h2 h3=>cases h3; cases h1; cases h2; exact ⟨_,_,rfl,k.here w (.int _)⟩
  · cases hd
noncomputable def tupD:List PyData→Option PyData
  | [.list xs]=>some (.tuple xs)
  | [.tuple xs]=>some (.tuple xs)
  | _=>none
theorem vc_tup {K:PySem.W.Frag}:VCl (fun xs H Q=>∃ p ys,xs=[.ref p]∧((SqL K H p ys∧∀ l,H l=none→Q (.ref l) (upd H l (.tup ys)))∨(SqT K H p ys∧Q (.ref p) H))) tupD:=fun PK pa m G H vs ds d Q w hv hd k=>by
  unfold tupD at hd
  split at hd
  · cases hd
    cases hv with
    | cons h1 h2 =>
      cases h2
      cases h1 with
      | lst a1 a2=>exact ⟨_,_,rfl,.inl ⟨SqL.of (w.sub _ _ a1),fun p hp=>k.tup w a2 hp⟩⟩
  · cases hd
    cases hv with
    | cons h1 h2 =>
      cases h2
      cases h1 with
      | tup a1 a2=>exact ⟨_,_,rfl,.inr ⟨SqT.of (w.sub _ _ a1),k.here w (.tup a1 a2)⟩⟩
  · cases hd
noncomputable def cutD (xs:List PyData) (lo hi:Option Int):List PyData:=(xs.drop (HT.sIx xs.length 0 lo)).take (HT.sIx xs.length xs.length hi - HT.sIx xs.length 0 lo)
theorem DnAll.take {H:Hp}:∀ {vs:List V} {ds:List PyData} (n:Nat),DnAll H vs ds→DnAll H (vs.take n) (ds.take n)
  | _,_,0,_=>.nil
  | _,_,_+1,.nil=>.nil
  | _,_,n+1,.cons r t=>.cons r (DnAll.take n t)
theorem DnAll.drop {H:Hp}:∀ {vs:List V} {ds:List PyData} (n:Nat),DnAll H vs ds→DnAll H (vs.drop n) (ds.drop n)
  | _,_,0,r=>r
  | _,_,_+1,.nil=>.nil
  | _,_,n+1,.cons r t=>DnAll.drop n t
theorem DnAll.cut {H:Hp} {vs:List V} {ds:List PyData} (h:DnAll H vs ds) (lo hi:Option Int):DnAll H (cutV vs lo hi) (cutD ds lo hi):=by
  unfold cutV cutD
  rw [h.length]
  exact (h.drop _).take _
noncomputable abbrev aPart:=List Sl→Tr (Option Int)
noncomputable def aP0:aPart:=fun _=>.ret none
noncomputable def aP1 (i:List Sl→Tr PyData):aPart:=fun ρ=>(i ρ).bind fun x=>match x with
  | .int n=>.ret (some n)
  | _=>.fail
noncomputable def TAp (PK:Pk) (i:aPart):TO:=fun σ H Q=>∃ pa G₀ H₀ m ρ G,Rl PK pa G₀ H₀ m σ ρ G H∧(i ρ).ok m fun m' x=>∀ G' H',Stp pa G H G' H'→Wd PK pa m' G' H'→Q x H'
theorem PO.imp {e:Option Expr} {t t':TO} (h:PO X e t) (q:∀ σ H Q,t' σ H Q→t σ H Q):PO X e t':=fun pins s σ H Q I z=>h pins s σ H Q I (q σ H Q z)
theorem ap_none:PO X none (TAp PK aP0):=po_none.imp fun σ H Q hz0=>by
  obtain ⟨pa,G₀,H₀,m,ρ,G,R,z⟩:=hz0
  exact z G H .refl R.wd
theorem ap_some (h:PE X e (TAe PK i)):PO X (some e) (TAp PK (aP1 i)):=(po_some h).imp fun σ H Q hz0=>by
  obtain ⟨pa,G₀,H₀,m,ρ,G,R,z⟩:=hz0
  refine TAe.then R z fun m1 x v G1 H1 s1 w1 R1 d1 q1=>?_
  cases d1 with
  | int n=>exact ⟨n,rfl,q1 G1 H1 s1 w1⟩
  | _=>exact q1.elim
theorem getItem_tuple_whole {prog:Program} {w:World} {A:Around} {E:Value→Shared→Prop} {s:Shared} {t sl:Addr} {items:Array Value} {vl vu:Value} {lo hi:Option Int} {Q:Value→Shared→Prop} (ht:IsTup s.heap t items) (hs:s.heap.IsSliceOf sl vl vu .none) (pl:IsPart vl lo) (pu:IsPart vu hi)
    (hw:HT.sIx items.size 0 lo=0∧HT.sIx items.size items.size hi=items.size) (h:Q (.ref t) s):wpAny (model prog w) A (getItem (.ref t) (.ref sl)) Q E s:=by
  obtain ⟨os,hos,hcs,hds⟩:=id hs
  have hTs:s.TypeIs (.ref sl) "slice":=⟨os,hos,hcs⟩
  unfold getItem
  try with_reducible refine wpAny_holding ?_
  first | refine wpAny_bind (wpAny_pure ?_) | skip
  refine wpAny_bind (wpAny_sequenceKey ht.typeIs (by decide) ?_)
  refine wpAny_bind (wpAny_callSpecial?_slot (name:=Str.ofString "__getitem__") ht.typeIs PyProof.Rows.slot_tuple_getitem
    (wpAny_call_entry PyProof.Rows.slot_tuple_getitem ht.typeIs entry_tuple_getitem ?_ (args_tuple_getitem _ _)))
  show wpAny _ _ (Builtin.Tuple.tupleItemsOf (.ref t) >>= _) _ _ s
  refine wpAny_bind (tupleItemsOf_ ht ?_)
  refine wpAny_bind (wpAny_typeOf hTs ?_)
  rw [if_pos (by decide)]
  refine wpAny_bind (HT.sliceApplied_gen hs pl pu ?_)
  have hyes:(((HT.sIx items.size 0 lo:Nat):Int) == 0 && (1:Int) == 1 && (HT.sIx items.size items.size hi - HT.sIx items.size 0 lo) == items.size)=true:=by
    rw [hw.1,hw.2]
    simp
  show wpAny _ _ (if (((HT.sIx items.size 0 lo:Nat):Int) == 0 && (1:Int) == 1 && (HT.sIx items.size items.size hi - HT.sIx items.size 0 lo) == items.size)=true then _ else _) _ _ s
  rw [if_pos hyes]
  refine wpAny_bind (m:=Builtin.Tuple.tupleIsExact (.ref t)) ?_
  unfold Builtin.Tuple.tupleIsExact
  refine wpAny_bind (wpAny_typeOf ht.typeIs ?_)
  refine wpAny_pure ?_
  rw [if_pos (by decide)]
  refine wpAny_bind (wpAny_rule ?_)
  exact wpAny_pure ⟨_,rfl,wpAny_pure h⟩
noncomputable def rSlTw (K:PySem.W.Frag):V→Option Int→Option Int→Hp→VK→Prop:=fun x lo hi H Q=>∃ a xs,x=.ref a∧SqT K H a xs∧(HT.sIx xs.length 0 lo=0∧HT.sIx xs.length xs.length hi=xs.length)∧Q (.ref a) H
theorem sl_tupW:SlR X (rSlTw X.K):=by
  intro pins s σ H x v vl vu lo hi sl Q I rx hs pl pu h
  obtain ⟨a,xs,rfl,hx,hw,q⟩:=h
  cases rx
  obtain ⟨its,r,ht,hz⟩:=I.tuple hx
  have hlen:its.toArray.size=xs.length:=by rw [List.size_toArray]; exact r.length.symm
  refine ⟨"tuple",_,PyProof.Rows.slot_tuple_getitem.lookup,ht.typeIs,?_⟩
  exact getItem_tuple_whole ht hs pl pu (by rw [hlen]; exact hw) ⟨.ref a,H,I,rfl,q⟩
noncomputable def rSlD (K:PySem.W.Frag):V→Option Int→Option Int→Hp→VK→Prop:=fun x lo hi H Q=>rSlL K x lo hi H Q∨rSlT K x lo hi H Q∨rSlTw K x lo hi H Q
theorem sl_all:SlR X (rSlD X.K):=sl_list.or (sl_tup.or sl_tupW)
noncomputable def sliceD (x:PyData) (lo hi:Option Int):Option PyData:=match x with
  | .list xs=>some (.list (cutD xs lo hi))
  | .tuple xs=>some (.tuple (cutD xs lo hi))
  | _=>none
noncomputable def aSl (i:List Sl→Tr PyData) (p q:aPart):List Sl→Tr PyData:=fun ρ=>(i ρ).bind fun x=>(p ρ).bind fun lo=>(q ρ).bind fun hi=>Tr.of (sliceD x lo hi)
theorem TAp.then {p:aPart} {σ:St} {H:Hp} {β:Type} {k:Option Int→Tr β} {Z:Nat→β→Prop} {Q:Option Int→Hp→Prop} {pa:Addr} {G₀ H₀ G:Hp} {m:Nat} {ρ:List Sl} (R:Rl PK pa G₀ H₀ m σ ρ G H) (h:((p ρ).bind k).ok m Z)
    (hq:∀ m1 x G1 H1,Stp pa G H G1 H1→Wd PK pa m1 G1 H1→Rl PK pa G₀ H₀ m1 σ ρ G1 H1→(k x).ok m1 Z→Q x H1):TAp PK p σ H Q:=by
  refine ⟨pa,G₀,H₀,m,ρ,G,R,Tr.ok_mono (Tr.ok_bind.mp h) fun m1 x hx G1 H1 s1 w1=>?_⟩
  exact hq m1 x G1 H1 s1 w1 (R.step s1 w1) hx
theorem ae_sl {p q:aPart} {lo hi:Option Expr} {p2:Pos} (he:PE X e (TAe PK i)) (hl:PO X lo (TAp PK p)) (hu:PO X hi (TAp PK q)):PE X (.Subscript e (.Slice lo hi none p2) pos) (TAe PK (aSl i p q)):=(pe_slice sl_all he hl hu).imp fun σ H Q hz0=>by
  obtain ⟨pa,G₀,H₀,m,ρ,G,R,z⟩:=hz0
  refine TAe.then R z fun m1 x v G1 H1 s1 w1 R1 d1 q1=>?_
  refine TAp.then R1 q1 fun m2 lo G2 H2 s2 w2 R2 q2=>?_
  refine TAp.then R2 q2 fun m3 hi G3 H3 s3 w3 R3 q3=>?_
  obtain ⟨d,hd,k⟩:=Tr.ok_of q3
  have s13:=(s1.trans s2 w1.some).trans s3 w2.some
  have k':=Kn.later k s13 w3.some
  have d3:=d1.mono (s2.gs.trans s3.gs)
  cases d3 with
  | lst a1 a2=>cases hd; exact .inl ⟨_,_,rfl,SqL.of (w3.sub _ _ a1),fun p hp=>k'.lst w3 (a2.cut lo hi) hp⟩
  | @tup a xs ds a1 a2 =>
    cases hd
    by_cases hw:HT.sIx xs.length 0 lo=0∧HT.sIx xs.length xs.length hi=xs.length
    · refine .inr (.inr ⟨_,_,rfl,SqT.of (w3.sub _ _ a1),hw,k'.here w3 ?_⟩)
      have e:cutD ds lo hi=ds:=by
        unfold cutD
        rw [← a2.length,hw.1,hw.2]
        simp
        rw [a2.length]
        exact List.take_length
      rw [e]
      exact .tup a1 a2
    · exact .inr (.inl ⟨_,_,rfl,SqT.of (w3.sub _ _ a1),hw,fun p hp=>k'.tup w3 (a2.cut lo hi) hp⟩)
  | _=>cases hd
theorem DnAll.range {H:Hp} (lo:Int) (n:Nat):DnAll H (rangeV lo n) ((rangeI lo n).map PyData.int):=by
  rw [rangeV_eq]
  exact DnAll.ints _
noncomputable def rngOk (lo hi:Int):Bool:=inR lo && inR hi && decide ((hi - lo).toNat≤1000)
noncomputable def rngV2:List PyData→Option (List PyData)
  | [.int lo,.int hi]=>if rngOk lo hi=true then some (rngL lo hi) else none
  | _=>none
theorem rngV2_inv {G:Hp} {vs:List V} {xs ys:List PyData} (d:DnAll G vs xs) (h:rngV2 xs=some ys):∃ k n:Int,vs=[.int k,.int n]∧(-(2 ^ 62)≤k∧k < 2 ^ 62∧-(2 ^ 62)≤n∧n < 2 ^ 62∧(n - k).toNat≤1000)∧ys=rngL k n:=by
  unfold rngV2 at h
  split at h
  · split at h
    · rename_i hn
      cases h
      cases d with
      | cons d1 d2 =>
        cases d2 with
        | cons d2 d3 =>
          cases d3
          cases d1
          cases d2
          unfold rngOk at hn
          rw [Bool.and_eq_true,Bool.and_eq_true] at hn
          have h1:=of_decide_eq_true hn.1.1
          have h2:=of_decide_eq_true hn.1.2
          exact ⟨_,_,rfl,⟨h1.1,h1.2,h2.1,h2.2,of_decide_eq_true hn.2⟩,rfl⟩
    · cases h
  · cases h
noncomputable def tRngT (t:TA):TE:=tCB (fun xs H Q=>∃ a lo hi,xs=[.ref a]∧H a=some (.rng lo hi)∧-(2 ^ 62)≤lo∧lo < 2 ^ 62∧-(2 ^ 62)≤hi∧hi < 2 ^ 62∧(hi - lo).toNat≤1000∧∀ p,H p=none→Q (.ref p) (upd H p (.tup (rangeV lo (hi - lo).toNat))))
  (tCons (tCB (fun xs H Q=>∃ i j:Int,xs=[.int i,.int j]∧∀ p,H p=none→Q (.ref p) (upd H p (.rng i j))) t) tNil)
noncomputable def aTupR (is:List Sl→Tr (List PyData)):List Sl→Tr PyData:=fun ρ=>(is ρ).bind fun xs=>(Tr.of (rngV2 xs)).bind fun ys=>.ret (.tuple ys)
theorem ae_tupR (h:PE X e (tRngT (TAd PK is))):PE X e (TAe PK (aTupR is)):=h.imp fun σ H Q hz0=>by
  obtain ⟨pa,G₀,H₀,m,ρ,G,R,z⟩:=hz0
  refine TAd.then R z fun m1 xs vs G1 H1 s1 w1 R1 d1 q1=>?_
  rw [Tr.ok_bind] at q1
  obtain ⟨ys,hy,k⟩:=Tr.ok_of q1
  obtain ⟨lo,hi,rfl,⟨b1,b2,b3,b4,b5⟩,rfl⟩:=rngV2_inv d1 hy
  refine ⟨lo,hi,rfl,fun p hp=>?_⟩
  obtain ⟨w2,s2⟩:=w1.own (o:=.rng lo hi) hp
  refine ⟨p,lo,hi,rfl,upd_same,b1,b2,b3,b4,b5,fun q hq=>?_⟩
  exact (Kn.later k (s1.trans s2 w1.some) w2.some).tup w2 (DnAll.range _ _) hq
noncomputable def ints?:List PyData→Option (List Int)
  | []=>some []
  | .int n::xs=>(ints? xs).bind fun ns=>some (n::ns)
  | _=>none
@[simp] theorem ints?_map:∀ ns:List Int,ints? (ns.map PyData.int)=some ns
  | []=>rfl
  | n::ns=>by rw [List.map_cons,ints?,ints?_map ns]; rfl
theorem DnAll.ints_inv {H:Hp} {vs:List V} {ds:List PyData} {ns:List Int} (a:DnAll H vs ds) (h:ints? ds=some ns):vs=ns.map V.int∧ds=ns.map PyData.int:=by
  induction vs generalizing ds ns with
  | nil=>cases a; cases h; exact ⟨rfl,rfl⟩
  | cons v vs ih =>
    cases a with
    | cons g t =>
      cases g with
      | int n =>
        unfold ints? at h
        rename_i ds
        cases e:ints? ds with
        | none=>rw [e] at h; cases h
        | some ms =>
          rw [e] at h
          cases h
          obtain ⟨h1,h2⟩:=ih t e
          exact ⟨by rw [h1]; rfl,by rw [h2]; rfl⟩
      | _=>unfold ints? at h; cases h
noncomputable def sortI (ns:List Int):List Int:=ns.mergeSort fun a b=>decide (a≤b)
theorem sortI_perm (ns:List Int):(sortI ns).Perm ns:=List.mergeSort_perm ..
theorem sortI_le (ns:List Int):(sortI ns).Pairwise (·≤·):=by
  have:=List.pairwise_mergeSort (le:=fun (a b:Int)=>decide (a≤b)) (fun a b c h1 h2=>by simp at *; omega) (fun a b=>by simp; omega) ns
  exact this.imp fun h=>by simpa using h
theorem sort_one {a b:List Int} (hp:a.Perm b) (ha:a.Pairwise (·≤·)) (hb:b.Pairwise (·≤·)):a=b:=by
  first
    | exact hp.eq_of_pairwise (fun x y _ _ h1 h2=>Int.le_antisymm h1 h2) ha hb
    | exact List.Perm.eq_of_pairwise (fun x y _ _ h1 h2=>Int.le_antisymm h1 h2) ha hb hp
noncomputable def sortD:List PyData→Option (List PyData)
  | [.list xs]=>(ints? xs).bind fun ns=>if decide (ns.length < 64)=true then some ((sortI ns).map PyData.int) else none
  | _=>none
theorem vc_sort:VClo (fun xs H Q=>∃ l ns,xs=[.ref l]∧H l=some (.lst (ns.map V.int))∧ns.length < 64 ∧
    ∀ (ns':List Int) q,ns'.Perm ns→ns'.Pairwise (·≤·)→H q=none→Q (.ref q) (upd H q (.lst (ns'.map V.int)))) sortD:=fun PK pa m G H vs ds d Q w hv hd k=>by
  unfold sortD at hd
  split at hd
  · rename_i xs
    cases e:ints? xs with
    | none=>rw [e] at hd; cases hd
    | some ns =>
      rw [e] at hd
      have hd':(if decide (ns.length < 64)=true then some ((sortI ns).map PyData.int) else none)=some d:=hd
      split at hd'
      · rename_i hc
        cases hd'
        cases hv with
        | cons h1 h2 =>
          cases h2
          cases h1 with
          | lst a1 a2 =>
            obtain ⟨rfl,rfl⟩:=a2.ints_inv e
            refine ⟨_,ns,rfl,w.sub _ _ a1,of_decide_eq_true hc,fun ns' q hp hs hq=>?_⟩
            have:ns'=sortI ns:=sort_one (hp.trans (sortI_perm ns).symm) hs (sortI_le ns)
            subst this
            exact k.new w (DnAll.ints _) hq
      · cases hd'
  · cases hd
end L2
set_option Elab.async false
set_option linter.all false
set_option maxRecDepth 100000
namespace L2
open PySem PySem.Spec PyProof.Rows
section
variable {prog:Program} {w:World} {A:Around} {E:Value→Shared→Prop} {s:Shared}
noncomputable def ItAt (b:Bool) (h:Heap) (it a:Addr) (k:Nat):Prop:=match b with
  | true=>h.IsListIter it a k
  | false=>h.IsTupleIter it a k
noncomputable def SqAt (b:Bool) (h:Heap) (a:Addr) (items:Array Value):Prop:=match b with
  | true=>h.IsList a items
  | false=>h.IsTuple a items
theorem ItAt.at {b:Bool} {h h':Heap} {it a:Addr} {k:Nat} (x:ItAt b h it a k) (e:∀ o,h.get? it=some o→h'.get? it=some o):ItAt b h' it a k:=by
  cases b with
  | true=>exact Heap.IsListIter.at x e
  | false=>obtain ⟨o,ho,r⟩:=(show h.IsTupleIter it a k from x); exact ⟨o,e o ho,r⟩
theorem SqAt.at {b:Bool} {h h':Heap} {a:Addr} {items:Array Value} (x:SqAt b h a items) (e:∀ o,h.get? a=some o→h'.get? a=some o):SqAt b h' a items:=by
  cases b with
  | true=>exact Heap.IsList.at x e
  | false=>exact Heap.IsTuple.at x e
theorem ItAt.there {b:Bool} {h:Heap} {it a:Addr} {k:Nat} (x:ItAt b h it a k):∃ o,h.get? it=some o∧∀ v,o.data≠.cell v:=by
  cases b with
  | true=>obtain ⟨o,ho,_,hd⟩:=(show h.IsListIter it a k from x); exact ⟨o,ho,fun v z=>by rw [hd] at z; cases z⟩
  | false=>obtain ⟨o,ho,_,hd⟩:=(show h.IsTupleIter it a k from x); exact ⟨o,ho,fun v z=>by rw [hd] at z; cases z⟩

theorem nextOf_tup_item {it l:Addr} {i:Nat} {items:Array Value} {x:Value} {Q:Value→Shared→Prop} (hit:s.heap.IsTupleIter it l i) (hl:s.heap.IsTuple l items) (hx:items[i]?=some x)
    (hQ:∀ h',h'.IsTupleIter it l (i+1)→Heap.SameBut it s.heap h'→Q x { s with heap:=h' }):wpAny (model prog w) A (Builtin.SmallTypes.nextOf (.ref it)) Q E s:=by
  obtain ⟨o,ho,hc,hd⟩:=id hit; obtain ⟨ol,hol,_,nl,hdl⟩:=hl
  unfold Builtin.SmallTypes.nextOf
  refine wpAny_bind (wpAny_callSpecial?_slot (name:=Str.ofString "__next__") hit.typeIs F.slot_tuple_iterator_next (wpAny_call_entry F.slot_tuple_iterator_next hit.typeIs F.entry_tuple_iterator_next ?_ (F.args_tuple_iterator_next_1 _)))
  show wpAny _ _ (field (.ref it) 0 >>= _) _ _ s; refine wpAny_bind (wpAny_field ho hd (x:=.ref l) rfl ?_)
  show wpAny _ _ (if (Value.ref l == Value.none)=true then _ else _) _ _ s; rw [if_neg (show ¬ ((Value.ref l == Value.none)=true) from Bool.false_ne_true)]
  show wpAny _ _ (field (.ref it) 1 >>= _) _ _ s; refine wpAny_bind (wpAny_field ho hd (x:=.int i 0) rfl ?_)
  show wpAny _ _ (seqItems? (.ref l) >>= _) _ _ s; refine wpAny_bind (wpAny_seqItems hol hdl ?_); simp only [Int.toNat_natCast,hx]
  refine wpAny_bind (wpAny_setField ho hd (by simp) (wpAny_pure ⟨x,rfl,wpAny_pure (hQ _ ⟨_,Heap.get?_update_self _ ho (Obj.isFreed_of_fields (Obj.data_mapFields hd _)),(Obj.cls_mapFields ..).trans hc,?_⟩ (Heap.SameBut.update ..))⟩))
  rw [Obj.data_mapFields hd]; simp [rawInt]
theorem nextOf_tup_end {it l:Addr} {i:Nat} {items:Array Value} {Q:Value→Shared→Prop} (hh:A.handled=none) (hit:s.heap.IsTupleIter it l i) (hl:s.heap.IsTuple l items) (hx:items[i]?=none)
    (hE:∀ h' e,Heap.ExtBut it s.heap h'→(∃ o,h'.get? e=some o∧o.cls=.type "StopIteration")→E (.ref e) { s with heap:=h' }):wpAny (model prog w) A (Builtin.SmallTypes.nextOf (.ref it)) Q E s:=by
  obtain ⟨o,ho,hc,hd⟩:=id hit; obtain ⟨ol,hol,_,nl,hdl⟩:=hl
  unfold Builtin.SmallTypes.nextOf
  refine wpAny_bind (wpAny_callSpecial?_slot (name:=Str.ofString "__next__") hit.typeIs F.slot_tuple_iterator_next (wpAny_call_entry F.slot_tuple_iterator_next hit.typeIs F.entry_tuple_iterator_next ?_ (F.args_tuple_iterator_next_1 _)))
  show wpAny _ _ (field (.ref it) 0 >>= _) _ _ s; refine wpAny_bind (wpAny_field ho hd (x:=.ref l) rfl ?_)
  show wpAny _ _ (if (Value.ref l == Value.none)=true then _ else _) _ _ s; rw [if_neg (show ¬ ((Value.ref l == Value.none)=true) from Bool.false_ne_true)]
  show wpAny _ _ (field (.ref it) 1 >>= _) _ _ s; refine wpAny_bind (wpAny_field ho hd (x:=.int i 0) rfl ?_)
  show wpAny _ _ (seqItems? (.ref l) >>= _) _ _ s; refine wpAny_bind (wpAny_seqItems hol hdl ?_); simp only [Int.toNat_natCast,hx]
  refine wpAny_bind (wpAny_rule (wpAny_bind (wpAny_setField ho hd (by simp) ?_))); show wpAny _ _ (newExc (.type "StopIteration") [] >>= _) _ _ _
  refine wpAny_bind ?_; simp only [newExc,newTuple]; refine wpAny_bind (wpAny_newObj_type ?_ (by size_fits))
  refine wpAny_bind (m:=firstArgMember _ _) (wpAny_of_eq (a:=Value.none) (by first | rfl | (simp only [firstArgMember]; rfl)) ?_); refine wpAny_newObj_type ?_ (by size_fits); simp only [raiseNew]
  refine wpAny_bind (wpAny_handled ?_); first | rw [show A.in1.handled=none from hh] | rw [hh]
  refine wpAny_bind (wpAny_pure (wpAny_throw (hE _ _ (((Heap.SameBut.update ..).extBut.push _).push _) ⟨_,Heap.get?_push_size _ rfl,rfl⟩)))
theorem nextOf_item {b:Bool} {it l:Addr} {i:Nat} {items:Array Value} {x:Value} {Q:Value→Shared→Prop} (hit:ItAt b s.heap it l i) (hl:SqAt b s.heap l items) (hx:items[i]?=some x)
    (hQ:∀ h',ItAt b h' it l (i+1)→Heap.SameBut it s.heap h'→Q x { s with heap:=h' }):wpAny (model prog w) A (Builtin.SmallTypes.nextOf (.ref it)) Q E s:=by
  cases b with
  | true=>exact wpAny_nextOf_list_item hit hl hx hQ
  | false=>exact nextOf_tup_item hit hl hx hQ
theorem nextOf_end {b:Bool} {it l:Addr} {i:Nat} {items:Array Value} {Q:Value→Shared→Prop} (hh:A.handled=none) (hit:ItAt b s.heap it l i) (hl:SqAt b s.heap l items) (hx:items[i]?=none)
    (hE:∀ h' e,Heap.ExtBut it s.heap h'→(∃ o,h'.get? e=some o∧o.cls=.type "StopIteration")→E (.ref e) { s with heap:=h' }):wpAny (model prog w) A (Builtin.SmallTypes.nextOf (.ref it)) Q E s:=by
  cases b with
  | true=>exact wpAny_nextOf_list_end hh hit hl hx hE
  | false=>exact nextOf_tup_end hh hit hl hx hE

theorem SqAt.bt {b:Bool} {h h':Heap} {a c:Addr} {items:Array Value} (x:SqAt b h a items) (e:Heap.ExtBut c h h') (n:a≠c):SqAt b h' a items:=x.at fun o q=>e a o n q
noncomputable def itObj (b:Bool) (l:Addr):Obj:=match b with
  | true=>{ cls:=.type "list_iterator",data:=.fields #[.ref l,.int 0 0] }
  | false=>{ cls:=.type "tuple_iterator",data:=.fields #[.ref l,.int 0 0] }
theorem pyIter_sq {b:Bool} {l:Addr} {items:Array Value} {Q:Value→Shared→Prop} (hl:SqAt b s.heap l items) (hQ:Q (.ref s.heap.objs.size) { s with heap:=s.heap.push (itObj b l) }):wpAny (model prog w) A (pyIter (.ref l)) Q E s:=by
  cases b with
  | true=>exact wpAny_pyIter_list hl hQ
  | false=>exact wpAny_pyIter_tuple hl hQ
theorem SqAt.push {b:Bool} {h:Heap} {l:Addr} {items:Array Value} (x:SqAt b h l items) (o:Obj):SqAt b (h.push o) l items:=x.at fun _ q=>Heap.get?_push_of_some _ q
theorem itObj_at {b:Bool} {h:Heap} {it l:Addr} (e:h.get? it=some (itObj b l)):ItAt b h it l 0:=by
  cases b with
  | true=>exact ⟨_,e,rfl,rfl⟩
  | false=>exact ⟨_,e,rfl,rfl⟩
end
section
variable {X:Cx} {pins:List (Addr×Obj)} {σ:St} {H:Hp} {s:Shared} {h':Heap}
theorem Inv.turns {t':Nat} {ch:List Addr} (I:Inv X pins σ H s) (k:∀ b o,b ∉ ch→s.heap.get? b=some o→h'.get? b=some o) (hf:∀ b∈ch,FpOk X pins H b):Inv X pins σ H { s with heap:=h',toks:=t' }:=by
  have nit:∀ b u,H b=some u→b ∉ ch:=fun b u e z=>by rw [(hf b z).1] at e; cases e
  refine I.step (g':=s.gens) (d':=s.drawn) (ch:=ch) (fun b hb=>?_) (fun b o _ _ hc e _=>k b o hc e) (fun b o _ _ hc e _=>⟨o.slots,k b o hc e⟩) (fun _ _ _ _ n=>n)
    (fun b o hc e=>⟨o,k b o hc e⟩) (fun _ _ e=>e) (fun _ _ _ e=>e) (fun b ps e=>⟨#[],by rw [e]; simp⟩) (fun m hm=>?_) (fun b u e=>?_) I.bare
  · obtain ⟨_,f1,_,f3,f4,f5⟩:=hf b hb
    exact ⟨f3,f1,f4,f5⟩
  · obtain ⟨o,es,ep,ho,r⟩:=hm
    exact ⟨o,es,ep,k _ o (fun z=>(hf _ z).2.1 rfl) ho,r⟩
  · refine (I.hok b u e).stay (fun c v hc q=>k c v ?_ q) (fun _ q=>q) fun _ _ q=>q
    rcases hc with z | z
    · rw [z]; exact nit b u e
    · exact nit c _ z
theorem Inv.pair {T:Addr} {x y:V} {u v:Value} (I:Inv X pins σ H s) (hT:H T=none) (ho:IsPair s.heap T u v) (r1:RelV x u) (r2:RelV y v)
    (hL:T≠X.env.locals) (hs0:X.s₀.heap.objs.size≤T) (hc:∀ x c,X.env.cells.lookup x=some c→c≠T) (hp:∀ p∈X.pn++pins,p.1≠T):Inv X pins σ (upd H T (.tup [x,y])) s:=by
  have ne:∀ {b:Addr} {o:HO},H b=some o→b≠T:=fun e=>ne_of_none e hT
  refine I.step (g':=s.gens) (d':=s.drawn) (t':=s.toks) (h':=s.heap) (ch:=[T]) (fun b hb=>?_) (fun b o _ _ _ e _=>e) (fun b o _ _ _ e _=>⟨o.slots,e⟩) (fun b o hb e n=>?_) (fun b o _ e=>⟨o,e⟩)
    (fun b xs e=>by rw [upd_ne (ne e)]; exact e) (fun b o u e=>by rw [upd_ne (ne e)]; exact e) (fun b ps e=>⟨#[],by rw [upd_ne (ne e),e]; simp⟩) (fun m hm=>hm) (fun b u e=>?_) I.bare
  · have e:b=T:=by simpa using hb
    subst e
    exact ⟨.inr hs0,hL,hc,hp⟩
  · have hb':b≠T:=by simpa using hb
    rw [upd_ne hb']
    exact n
  · by_cases hb:b=T
    · subst hb
      rw [upd_same] at e
      cases e
      exact ⟨by show 2≤sizeLine; decide,[_,_],.cons r1 (.cons r2 .nil),⟨_,ho,rfl,_,rfl⟩⟩
    · rw [upd_ne hb] at e
      exact (I.hok b u e).stay (fun c v _ q=>q) (fun c q=>by rw [upd_ne (ne q)]; exact q) fun c xs q=>by rw [upd_ne (ne q)]; exact q
end
noncomputable def hoB (b:Bool) (xs:List V):HO:=match b with
  | true=>.lst xs
  | false=>.tup xs
theorem sqAt_of {P:Program} {w:World} {H:Hp} {h:Heap} (ok:HOk P w H h) {b:Bool} {a:Addr} {xs:List V} (e:H a=some (hoB b xs)):∃ its:List Value,Vals xs its∧SqAt b h a its.toArray:=by
  cases b with
  | true=>obtain ⟨_,its,n,r,q⟩:=ok a _ e; exact ⟨its,r,⟨_,q,rfl,n,rfl⟩⟩
  | false=>obtain ⟨_,its,r,q⟩:=ok a _ e; exact ⟨its,r,q⟩
end L2
set_option Elab.async false
set_option linter.all false
set_option maxRecDepth 100000
namespace L2
open PySem PySem.Spec PyProof.Rows
open AutoSeq1 (wpAny_loadPart')
section
variable {X:Cx} {tg:Expr} {PK:Pk} {a b:Expr} {i j:List Sl→Tr PyData} {p pos:Pos}
theorem hoB_of {G:Hp} {v:V} {x:PyData} {xs:List PyData} (d:Dn G v x) (h:itD x=some xs):∃ b a vs,v=.ref a∧G a=some (hoB b vs)∧DnAll G vs xs:=by
  cases d with
  | lst h1 h2=>cases h; exact ⟨true,_,_,rfl,h1,h2⟩
  | tup h1 h2=>cases h; exact ⟨false,_,_,rfl,h1,h2⟩
  | _=>cases h
theorem hoB_inj {b:Bool} {xs ys:List V} (h:some (hoB b xs)=some (hoB b ys)):xs=ys:=by
  cases b <;> (cases h; rfl)
end
theorem drawsAt {prog:Program} {w:World} {A:Around} (hh:A.handled=none) (b:Bool) (it l:Addr) (hne:l≠it) (items:Array Value):Draws prog w A it [it,l] items.size (fun i v=>items[i]?=some v) (fun i h=>ItAt b h it l i∧SqAt b h l items) where
  live:=fun _ _ st=>let ⟨o,ho,_⟩:=st.1.there; ⟨o,ho⟩
  frame:=fun _ _ _ st hk=>⟨st.1.at fun o e=>hk it (by simp) o e,st.2.at fun o e=>hk l (by simp) o e⟩
  item:=fun i s Q E hi st hQ=>nextOf_item st.1 st.2 (x:=items[i]) (by simp [hi]) fun h' hit' hs'=>hQ _ h' s.toks (by simp [hi]) ⟨hit',st.2.bt hs'.extBut hne⟩ hs'
  done:=fun s Q E st hE=>nextOf_end hh st.1 st.2 (by simp) hE
theorem meets_enum (b:Bool) (l:Addr) (items:Array Value) :
    Meets (Builtin.«enumerate.__new__» ⟨[.type "enumerate",.ref l],[]⟩) (fun _ R s=>SqAt b s.heap l items ∧
      R (.ok (.ret (.ref (s.heap.push (itObj b l)).objs.size))) { s with heap:=(s.heap.push (itObj b l)).push { cls:=.type "enumerate",data:=.fields #[.none,.bool false,.ref s.heap.objs.size,rawInt 0,.none,.none] } }) :=
  .of_wp fun prog w A R s h=>by
    obtain ⟨hp,g,d,tk,os⟩:=s
    obtain ⟨hl,h⟩:=h
    have hsub:=sub_enumerate
    have q:SqAt b (Shared.heap ⟨hp,g,d,tk,os⟩) l items:=hl
    have ho:∃ ob,hp.get? l=some ob:=by
      cases b with
      | true=>obtain ⟨ob,e,_⟩:=hl; exact ⟨ob,e⟩
      | false=>obtain ⟨ob,e,_⟩:=hl; exact ⟨ob,e⟩
    obtain ⟨ob,ho⟩:=ho
    wp_walk using wpAny_loadPart' ho
    refine wpAny_stack_any fun st=>wpAny_pure ?_
    split
    · rename_i c _ _ _ _ _
      cases (c == Value.type "enumerate")
      · wp_walk using wpAny_loadPart' ho,pyIter_sq q
        exact ⟨_,rfl,h⟩
      · wp_walk using wpAny_loadPart' ho,pyIter_sq q
        exact ⟨_,rfl,h⟩
    · wp_walk using wpAny_loadPart' ho,pyIter_sq q
      exact ⟨_,rfl,h⟩
section
variable {prog:Program} {w:World} {A:Around} {E:Value→Shared→Prop} {s:Shared}
theorem call_enum {b:Bool} {l:Addr} {items:Array Value} {Q:Value→Shared→Prop} (hl:SqAt b s.heap l items)
    (h:∀ h',IsEnum h' (s.heap.objs.size+1) s.heap.objs.size 0 .none→ItAt b h' s.heap.objs.size l 0→(∀ c o,s.heap.get? c=some o→h'.get? c=some o)→Q (.ref (s.heap.objs.size+1)) { s with heap:=h' }) :
    wpAny (model prog w) A (call (.type "enumerate") [.ref l]) Q E s:=by
  refine callType_new F.called_enumerate (by decide) (F.typeCall_enumerate_1 _) (F.newCall_enumerate_1 _) (fun obj=>F.args_object_init_2 obj _) F.entry_enumerate_new (meets_enum b l items) ⟨hl,?_⟩
  have n1:(s.heap.push (itObj b l)).objs.size=s.heap.objs.size+1:=Heap.size_push ..
  have a2:IsEnum ((s.heap.push (itObj b l)).push { cls:=.type "enumerate",data:=.fields #[.none,.bool false,.ref s.heap.objs.size,rawInt 0,.none,.none] }) (s.heap.push (itObj b l)).objs.size s.heap.objs.size 0 .none:=Heap.get?_push_size _ rfl
  have a1:((s.heap.push (itObj b l)).push { cls:=.type "enumerate",data:=.fields #[.none,.bool false,.ref s.heap.objs.size,rawInt 0,.none,.none] }).get? s.heap.objs.size=some (itObj b l):=Heap.get?_push_of_some _ (Heap.get?_push_size _ (by cases b <;> rfl))
  rw [n1] at a2
  show _∧_
  rw [n1]
  exact ⟨⟨_,a2,rfl⟩,h _ a2 (itObj_at a1) fun c o x=>Heap.get?_push_of_some _ (Heap.get?_push_of_some _ x)⟩
end
noncomputable def Ite (b:Bool) (l:Addr):It :=
  ⟨fun i H=>∃ xs x,H l=some (hoB b xs)∧xs[i]?=some x,
   fun i H v H'=>∃ xs x p,H l=some (hoB b xs)∧xs[i]?=some x∧H p=none∧v=.ref p∧H'=upd H p (.tup [.int i,x]),
   fun i H=>∃ xs,H l=some (hoB b xs)∧xs.length=i⟩
theorem turn_enum {P:Program} {w:World} {K:PySem.W.Frag} {elts:List Expr} {x1:Nat} {pos:Pos} {b:Bool} {l:Addr} (e it:Addr) (hne:e≠it) :
    Turn P w K (.Tuple elts x1 pos) (Ite b l) [e,it] e (fun i h=>(∃ old,IsEnum h e it i old)∧ItAt b h it l i) where
  mem:=by simp
  obj:=fun i h st c hb=>by
    obtain ⟨⟨old,he⟩,h1⟩:=st
    simp at hb
    rcases hb with rfl | rfl
    · exact ⟨_,he,fun v q=>by cases q⟩
    · exact h1.there
  keep:=fun i h h' st k=>by
    obtain ⟨⟨old,he⟩,h1⟩:=st
    exact ⟨⟨old,k _ (by simp) _ he⟩,h1.at fun o q=>k _ (by simp) o q⟩
  item:=by
    intro X hP hw hK hc i pins s σ H E I hf st hg
    subst hP hw hK
    obtain ⟨xs,x,e1,hx⟩:=hg
    obtain ⟨⟨old,he⟩,h1⟩:=st
    obtain ⟨us,r1,q1⟩:=sqAt_of I.hok e1
    obtain ⟨u,hu,ru⟩:=r1.get hx
    have nl:∀ c∈[e,it],l≠c:=fun c hc=>ne_of_none e1 (hf c hc).1
    have hlt:i < us.toArray.size:=by
      have:=(List.getElem?_eq_some_iff.mp hu).1
      simpa using this
    refine wpAny_pyNext_enum_itemD (drawsAt (A:=X.A.in1) (show X.A.in1.handled=none from I.ok.hd hc) b it l (nl it (by simp)) us.toArray) he ⟨h1,q1⟩ hlt hne (by simp only [List.mem_cons,List.not_mem_nil,or_false,not_or]; exact ⟨hne,(nl e (by simp)).symm⟩) fun x' h' tk hP' ho st' hT hsz kk=>?_
    have hxu:x'=u:=by
      have q:us[i]?=some x':=by simpa using hP'
      rw [hu] at q
      cases q
      rfl
    subst hxu
    refine ⟨_,rfl,wpAny_letOwnedTupleGo_enum ho fun h2' z2 sb=>?_⟩
    have lt:∀ {c:Addr} {o:Obj},s.heap.get? c=some o→s.heap.objs.size≠c:=fun q=>Nat.ne_of_gt (Heap.lt_size q)
    have I1:Inv X pins σ H { s with heap:=h2',toks:=tk+1 }:=I.turns (ch:=[e,it]) (fun c o hb q=>by
      simp at hb
      exact sb.extBut _ _ hb.1 (kk c o hb.1 hb.2 q)) hf
    have hTn:H s.heap.objs.size=none:=I.hok.fresh (Nat.le_refl _)
    have I2:=I1.pair (T:=s.heap.objs.size) (x:=.int i) (y:=x) hTn (sb.extBut _ _ (lt he) hT) ⟨tk,rfl⟩ ru (Nat.ne_of_gt I.lt) I.sz
      (fun q cc ee hq=>by obtain ⟨vv,zz⟩:=I.cell q cc ee; exact absurd zz.lt (by rw [hq]; exact Nat.lt_irrefl _)) (fun p hp hq=>absurd (Heap.lt_size (I.pin p hp).1) (by rw [hq]; exact Nat.lt_irrefl _))
    refine ⟨.ref s.heap.objs.size,_,I2,rfl,⟨xs,x,_,e1,hx,hTn,rfl,rfl⟩,⟨⟨_,z2⟩,st'.1.at fun o q=>sb.extBut _ _ (Ne.symm hne) q⟩,fun c hb=>?_⟩
    have hbn:c≠s.heap.objs.size:=by
      simp at hb
      obtain ⟨o1,g1,_⟩:=h1.there
      rcases hb with rfl | rfl
      · exact (lt he).symm
      · exact (lt g1).symm
    rw [upd_ne hbn]
    exact (hf c hb).1
  done:=by
    intro X hP hw hK hc i pins s σ H E I hf st hg
    subst hP hw hK
    obtain ⟨xs,e1,hend⟩:=hg
    obtain ⟨⟨old,he⟩,h1⟩:=st
    obtain ⟨us,r1,q1⟩:=sqAt_of I.hok e1
    have nl:∀ c∈[e,it],l≠c:=fun c hc=>ne_of_none e1 (hf c hc).1
    have hsz:us.toArray.size=i:=by rw [List.size_toArray,← r1.length]; exact hend
    subst hsz
    refine wpAny_pyNext_enum_endD (drawsAt (A:=X.A.in1) (show X.A.in1.handled=none from I.ok.hd hc) b it l (nl it (by simp)) us.toArray) he ⟨h1,q1⟩ fun h' eb=>⟨rfl,?_⟩
    exact I.turns (ch:=[e,it]) (t':=s.toks) (fun c o hb q=>by
      simp at hb
      exact eb c o hb.2 q) hf
  self:=fun _ _ _ _ _ st h=>by
    obtain ⟨⟨old,he⟩,_⟩:=st
    exact wpAny_pyIter_enum he h
section
variable {X:Cx} {tg:Expr} {PK:Pk} {a b:Expr} {i j:List Sl→Tr PyData} {p pos:Pos}
noncomputable def iEnum (ta:TE):TI:=fun σ H R=>ta σ H fun x H1=>∃ b l xs,x=.ref l∧H1 l=some (hoB b xs)∧R (Ite b l) H1
theorem pi_enum {elts:List Expr} {x1:Nat} {tpos:Pos} {ta:TE} (hc:X.calm=true) (hg:Gl X "enumerate") (hm:X.mg "enumerate"=none) (ha:PE X a ta)
    (hs:starEach [a] X.env=[(false,eval a X.env)]:=by rfl):PI X (.Tuple elts x1 tpos) (.Call (.Name "enumerate" p) [a] [] pos) (iEnum ta):=by
  intro pins s σ H R I h
  have hab:PA X [a] (tCons ta tNil):=pa_cons ha pa_nil (by rw [hs]; rfl)
  have h':tCons ta tNil σ H fun vs H1=>∃ x,vs=[x]∧∃ b l xs,x=.ref l∧H1 l=some (hoB b xs)∧R (Ite b l) H1:=by
    have e:(fun (x:V) (H1:Hp)=>∃ b l xs,x=.ref l∧H1 l=some (hoB b xs)∧R (Ite b l) H1)=fun x H1=>tNil σ H1 fun xs H2=>∃ y,x::xs=[y]∧∃ b l xs,y=.ref l∧H2 l=some (hoB b xs)∧R (Ite b l) H2:=by
      funext x H1
      apply propext
      constructor
      · exact fun q=>⟨x,rfl,q⟩
      · rintro ⟨y,e,q⟩
        have e':x=y:=by simpa using e
        subst e'
        exact q
    have h0:ta σ H fun x H1=>∃ b l xs,x=.ref l∧H1 l=some (hoB b xs)∧R (Ite b l) H1:=h
    rw [e] at h0
    exact h0
  refine Call_ (ld_blt I hg hm boot_enumerate (PyProof.Rows.callWith_type1 (thn (hab pos pins s σ H _ I h') fun us s1 hz0=>?_) (by rw [hs]; rfl) rfl))
  obtain ⟨vs,H1,I1,r1,q1⟩:=hz0
  obtain ⟨x,rfl,b,l,xs,rfl,e1,q⟩:=q1
  obtain ⟨u,rfl,ru⟩:=vals1 r1
  cases ru
  obtain ⟨us,ru,q1⟩:=sqAt_of I1.hok e1
  refine call_enum q1 fun h' z t1 kk=>?_
  have I2:Inv X pins σ H1 { s1 with heap:=h' }:=I1.kept (t':=s1.toks) kk
  refine wpAny_pyIter_enum z ⟨s1.heap.objs.size+1,[s1.heap.objs.size+1,s1.heap.objs.size],_,_,H1,rfl,I2,turn_enum _ _ (fun q=>absurd (show (s1.heap.objs.size+1:Nat)=s1.heap.objs.size from q) (by omega)),⟨⟨_,z⟩,t1⟩,fun c hb=>?_,q⟩
  have hle:s1.heap.objs.size≤c:=by
    simp at hb
    rcases hb with rfl | rfl <;> first | exact Nat.le_add_right _ _ | exact Nat.le_refl _
  exact I1.fpOk hle (I1.hok.fresh hle)
noncomputable def enumD (xs:List PyData):List PyData:=(List.range xs.length).zipWith (fun (n:Nat) x=>.tuple [.int n,x]) xs
theorem jok_enum {pa:Addr} {G:Hp} {b:Bool} {l:Addr} {us:List V} {xs:List PyData} (h1:G l=some (hoB b us)) (d1:DnAll G us xs):JOk PK pa (Ite b l) G (enumD xs):=fun m G2 H2 sb w=>by
  have e1:H2 l=some (hoB b us):=w.sub _ _ (sb _ _ h1)
  have hlen:(enumD xs).length=xs.length:=by unfold enumD; simp
  refine ⟨fun n d hd=>?_,us,e1,by rw [hlen,d1.length]⟩
  have hn:n < xs.length:=by rw [← hlen]; exact (List.getElem?_eq_some_iff.mp hd).1
  have hd':d=.tuple [.int n,xs[n]]:=by
    unfold enumD at hd
    rw [List.getElem?_zipWith] at hd
    simp [hn] at hd
    exact hd.symm
  subst hd'
  obtain ⟨u,hu,du⟩:=d1.get n (show xs[n]?=some xs[n] by simp [hn])
  refine ⟨⟨us,u,e1,hu⟩,fun x H3 hz0=>?_⟩
  obtain ⟨us',u',p,f1,hu',hp,ex,eH⟩:=hz0
  rw [e1] at f1
  have:=hoB_inj f1
  subst us'
  rw [hu] at hu'
  cases hu'
  subst ex eH
  obtain ⟨w3,s3⟩:=w.new (o:=.tup [.int n,u]) hp
  exact ⟨_,s3,w3,.tup upd_same (.cons (.int n) (.cons ((du.mono sb).mono s3.gs) .nil))⟩
noncomputable def aEnum (i:List Sl→Tr PyData):List Sl→Tr (List PyData):=fun ρ=>(i ρ).bind fun x=>(Tr.of (itD x)).bind fun xs=>.ret (enumD xs)
theorem ai_enum {iter:Expr} (h:PI X tg iter (iEnum (TAe PK i))):PI X tg iter (TAi PK (aEnum i)):=h.imp fun σ H R0 hz0=>by
  obtain ⟨pa,G₀,H₀,m,ρ,G,R,z⟩:=hz0
  refine TAe.then R z fun m1 x v G1 H1 s1 w1 R1 d1 q1=>?_
  rw [Tr.ok_bind] at q1
  obtain ⟨xs,hx,q1⟩:=Tr.ok_of q1
  obtain ⟨b1,l1,us,rfl,e1,f1⟩:=hoB_of d1 hx
  exact ⟨b1,l1,us,rfl,w1.sub _ _ e1,q1 _ G1 H1 s1 w1 (jok_enum e1 f1)⟩
end
end L2
set_option Elab.async false
set_option linter.all false
set_option maxRecDepth 100000
namespace L2
open PySem PySem.Spec PyProof.Rows
section
variable {prog:Program} {w:World} {A:Around}
theorem walksAt (hh:A.handled=none) (b:Bool) (I ax:Addr) (hne:ax≠I) (items:Array Value):Walks prog w A I [I,ax] [I] items.size (fun i v=>items[i]?=some v) (fun i h=>ItAt b h I ax i∧SqAt b h ax items):=by
  cases b with
  | true=>exact Walks.list hh I ax hne items
  | false=>exact Walks.tuple hh I ax hne items
end
theorem ints_get {ns:List Int} {us:List Value} (r:Vals (ns.map V.int) us) {i:Nat} {v:Value} (h:us[i]?=some v):∃ t,v=.int ((ns[i]?).getD 0) t:=by
  have hi:i < us.length:=(List.getElem?_eq_some_iff.mp h).1
  have hl:us.length=ns.length:=by rw [← r.length,List.length_map]
  obtain ⟨u,e1,e2⟩:=r.get (i:=i) (x:=V.int ns[i]) (by simp [show i < ns.length by omega])
  rw [h] at e1
  cases e1
  obtain ⟨t,e2⟩:=e2
  exact ⟨t,by simp [show i < ns.length by omega,e2]⟩
theorem preSum_list (ns:List Int):preSum (fun i=>(ns[i]?).getD 0) ns.length=ns.sum:=by
  have key:∀ k,k≤ns.length→preSum (fun i=>(ns[i]?).getD 0) k=(ns.take k).sum:=by
    intro k
    induction k with
    | zero=>intro _; simp [preSum]
    | succ k ih =>
      intro hk
      rw [preSum,ih (by omega),List.take_add_one,List.sum_append]
      simp [show k < ns.length by omega]
  rw [key _ (Nat.le_refl _),List.take_length]
section
variable {X:Cx} {PK:Pk}
theorem call_sumD (hc:X.calm=true):CallR X (.builtin "sum") (fun xs H Q=>∃ (b:Bool) (l:Addr) (ns:List Int),xs=[.ref l]∧H l=some (hoB b (ns.map V.int))∧Q (.int ns.sum) H):=by
  intro pins s σ H xs us Q I r h
  obtain ⟨b,l,ns,rfl,e1,q⟩:=h
  obtain ⟨u,rfl,ru⟩:=vals1 r
  cases ru
  obtain ⟨vs,rv,sq⟩:=sqAt_of I.hok e1
  have hlt:l < s.heap.objs.size:=I.hok.lt e1
  refine call_sum_walkG (pyIter_sq sq ?_)
  refine ⟨s.heap.objs.size,[s.heap.objs.size,l],[s.heap.objs.size],vs.toArray.size,_,_,fun i=>(ns[i]?).getD 0,rfl,walksAt (A:=X.A.in1) (I.ok.hd hc) b _ l (Nat.ne_of_lt hlt) vs.toArray,
    ⟨itObj_at (Heap.get?_push_size _ (by cases b <;> rfl)),sq.push _⟩,fun c hc=>?_,fun i v hv=>ints_get rv (by simpa using hv),fun h' tk t' hk=>?_⟩
  · rw [Heap.size_push]
    simp at hc
    rcases hc with rfl | rfl
    · exact Nat.lt_succ_self _
    · exact Nat.lt_succ_of_lt hlt
  · refine ⟨.int ns.sum,H,I.kept (t':=tk) fun c o e=>hk c o (fun z=>?_) (Heap.get?_push_of_some _ e),⟨t',?_⟩,q⟩
    · have:c=s.heap.objs.size:=by simpa using z
      subst this
      exact Nat.lt_irrefl _ (Heap.lt_size e)
    · have e:vs.toArray.size=ns.length:=by rw [List.size_toArray,← rv.length,List.length_map]
      rw [e,preSum_list]
noncomputable def maxL:List Int→Int
  | []=>0
  | [n]=>n
  | n::m::r=>maxI (maxL (m::r)) n
noncomputable def minL:List Int→Int
  | []=>0
  | [n]=>n
  | n::m::r=>minI (minL (m::r)) n
theorem maxL_spec:∀ {ns:List Int},ns≠[]→maxL ns∈ns∧∀ m∈ns,m≤maxL ns
  | [],h=>absurd rfl h
  | [n],_=>⟨by simp [maxL],by simp [maxL]⟩
  | n::m::r,_=>by
    obtain ⟨h1,h2⟩:=maxL_spec (ns:=m::r) (by simp)
    unfold maxL maxI
    split
    · refine ⟨by simp,fun k hk=>?_⟩
      rcases List.mem_cons.mp hk with rfl | hk
      · exact Int.le_refl _
      · have:=h2 k hk; omega
    · refine ⟨List.mem_cons_of_mem _ h1,fun k hk=>?_⟩
      rcases List.mem_cons.mp hk with rfl | hk
      · omega
      · exact h2 k hk
theorem minL_spec:∀ {ns:List Int},ns≠[]→minL ns∈ns∧∀ m∈ns,minL ns≤m
  | [],h=>absurd rfl h
  | [n],_=>⟨by simp [minL],by simp [minL]⟩
  | n::m::r,_=>by
    obtain ⟨h1,h2⟩:=minL_spec (ns:=m::r) (by simp)
    unfold minL minI
    split
    · refine ⟨by simp,fun k hk=>?_⟩
      rcases List.mem_cons.mp hk with rfl | hk
      · exact Int.le_refl _
      · have:=h2 k hk; omega
    · refine ⟨List.mem_cons_of_mem _ h1,fun k hk=>?_⟩
      rcases List.mem_cons.mp hk with rfl | hk
      · omega
      · exact h2 k hk
theorem best_gt (f:Nat→Int):∀ k,argBest (fun i j=>decide (f i > f j)) k≤k∧∀ j,j≤k→f j≤f (argBest (fun i j=>decide (f i > f j)) k)
  | 0=>⟨Nat.le_refl _,fun j hj=>by
    have:j=0:=by omega
    subst this
    exact Int.le_refl _⟩
  | k+1=>by
    obtain ⟨h1,h2⟩:=best_gt f k
    unfold argBest
    by_cases hc:f (k+1) > f (argBest (fun i j=>decide (f i > f j)) k)
    · rw [if_pos (by simpa using hc)]
      refine ⟨Nat.le_refl _,fun j hj=>?_⟩
      rcases Nat.lt_or_eq_of_le hj with h | h
      · have:=h2 j (by omega); omega
      · subst h; exact Int.le_refl _
    · rw [if_neg (by simpa using hc)]
      refine ⟨by omega,fun j hj=>?_⟩
      rcases Nat.lt_or_eq_of_le hj with h | h
      · exact h2 j (by omega)
      · subst h; omega
theorem best_lt (f:Nat→Int):∀ k,argBest (fun i j=>decide (f i < f j)) k≤k∧∀ j,j≤k→f (argBest (fun i j=>decide (f i < f j)) k)≤f j
  | 0=>⟨Nat.le_refl _,fun j hj=>by
    have:j=0:=by omega
    subst this
    exact Int.le_refl _⟩
  | k+1=>by
    obtain ⟨h1,h2⟩:=best_lt f k
    unfold argBest
    by_cases hc:f (k+1) < f (argBest (fun i j=>decide (f i < f j)) k)
    · rw [if_pos (by simpa using hc)]
      refine ⟨Nat.le_refl _,fun j hj=>?_⟩
      rcases Nat.lt_or_eq_of_le hj with h | h
      · have:=h2 j (by omega); omega
      · subst h; exact Int.le_refl _
    · rw [if_neg (by simpa using hc)]
      refine ⟨by omega,fun j hj=>?_⟩
      rcases Nat.lt_or_eq_of_le hj with h | h
      · exact h2 j (by omega)
      · subst h; omega
theorem call_maxD (hc:X.calm=true):CallR X (.builtin "max") (fun xs H Q=>∃ (b:Bool) (l:Addr) (ns:List Int),xs=[.ref l]∧H l=some (hoB b (ns.map V.int))∧ns≠[]∧Q (.int (maxL ns)) H):=by
  intro pins s σ H xs us Q I r h
  obtain ⟨b,l,ns,rfl,e1,hne,q⟩:=h
  obtain ⟨u,rfl,ru⟩:=vals1 r
  cases ru
  obtain ⟨vs,rv,sq⟩:=sqAt_of I.hok e1
  have hlt:l < s.heap.objs.size:=I.hok.lt e1
  have hsz:vs.toArray.size=ns.length:=by rw [List.size_toArray,← rv.length,List.length_map]
  have hpos:0 < ns.length:=List.length_pos_iff.mpr hne
  refine call_max_walk (pyIter_sq sq ?_)
  refine ⟨s.heap.objs.size,[s.heap.objs.size,l],[s.heap.objs.size],vs.toArray.size,_,_,fun i j=>decide ((ns[i]?).getD 0 > (ns[j]?).getD 0),rfl,walksAt (A:=X.A.in1) (I.ok.hd hc) b _ l (Nat.ne_of_lt hlt) vs.toArray,
    ⟨itObj_at (Heap.get?_push_size _ (by cases b <;> rfl)),sq.push _⟩,fun c hc=>?_,by omega,CmpOf.ints_gt (fun i=>(ns[i]?).getD 0) (fun i v hv=>ints_get rv (by simpa using hv)),fun v h' tk hv hk=>?_⟩
  · rw [Heap.size_push]
    simp at hc
    rcases hc with rfl | rfl
    · exact Nat.lt_succ_self _
    · exact Nat.lt_succ_of_lt hlt
  · obtain ⟨t,rfl⟩:=ints_get rv (by rw [← List.getElem?_toArray]; exact hv)
    obtain ⟨b1,b2⟩:=best_gt (fun i=>(ns[i]?).getD 0) (vs.toArray.size - 1)
    obtain ⟨m1,m2⟩:=maxL_spec hne
    refine ⟨.int (maxL ns),H,I.kept (t':=tk) fun c o e=>hk c o (fun z=>?_) (Heap.get?_push_of_some _ e),⟨t,?_⟩,q⟩
    · have:c=s.heap.objs.size:=by simpa using z
      subst this
      exact Nat.lt_irrefl _ (Heap.lt_size e)
    · congr 1
      obtain ⟨i,hi,ei⟩:=List.getElem_of_mem m1
      have h1:=b2 i (by omega)
      simp only [hi,List.getElem?_eq_getElem,Option.getD_some,ei] at h1
      have hb:argBest (fun i j=>decide ((ns[i]?).getD 0 > (ns[j]?).getD 0)) (vs.toArray.size - 1) < ns.length:=by omega
      have h2:=m2 _ (List.getElem_mem hb)
      simp only [hb,List.getElem?_eq_getElem,Option.getD_some] at h1 ⊢
      omega
theorem call_minD (hc:X.calm=true):CallR X (.builtin "min") (fun xs H Q=>∃ (b:Bool) (l:Addr) (ns:List Int),xs=[.ref l]∧H l=some (hoB b (ns.map V.int))∧ns≠[]∧Q (.int (minL ns)) H):=by
  intro pins s σ H xs us Q I r h
  obtain ⟨b,l,ns,rfl,e1,hne,q⟩:=h
  obtain ⟨u,rfl,ru⟩:=vals1 r
  cases ru
  obtain ⟨vs,rv,sq⟩:=sqAt_of I.hok e1
  have hlt:l < s.heap.objs.size:=I.hok.lt e1
  have hsz:vs.toArray.size=ns.length:=by rw [List.size_toArray,← rv.length,List.length_map]
  have hpos:0 < ns.length:=List.length_pos_iff.mpr hne
  refine call_min_walk (pyIter_sq sq ?_)
  refine ⟨s.heap.objs.size,[s.heap.objs.size,l],[s.heap.objs.size],vs.toArray.size,_,_,fun i j=>decide ((ns[i]?).getD 0 < (ns[j]?).getD 0),rfl,walksAt (A:=X.A.in1) (I.ok.hd hc) b _ l (Nat.ne_of_lt hlt) vs.toArray,
    ⟨itObj_at (Heap.get?_push_size _ (by cases b <;> rfl)),sq.push _⟩,fun c hc=>?_,by omega,CmpOf.ints_lt (fun i=>(ns[i]?).getD 0) (fun i v hv=>ints_get rv (by simpa using hv)),fun v h' tk hv hk=>?_⟩
  · rw [Heap.size_push]
    simp at hc
    rcases hc with rfl | rfl
    · exact Nat.lt_succ_self _
    · exact Nat.lt_succ_of_lt hlt
  · obtain ⟨t,rfl⟩:=ints_get rv (by rw [← List.getElem?_toArray]; exact hv)
    obtain ⟨b1,b2⟩:=best_lt (fun i=>(ns[i]?).getD 0) (vs.toArray.size - 1)
    obtain ⟨m1,m2⟩:=minL_spec hne
    refine ⟨.int (minL ns),H,I.kept (t':=tk) fun c o e=>hk c o (fun z=>?_) (Heap.get?_push_of_some _ e),⟨t,?_⟩,q⟩
    · have:c=s.heap.objs.size:=by simpa using z
      subst this
      exact Nat.lt_irrefl _ (Heap.lt_size e)
    · congr 1
      obtain ⟨i,hi,ei⟩:=List.getElem_of_mem m1
      have h1:=b2 i (by omega)
      simp only [hi,List.getElem?_eq_getElem,Option.getD_some,ei] at h1
      have hb:argBest (fun i j=>decide ((ns[i]?).getD 0 < (ns[j]?).getD 0)) (vs.toArray.size - 1) < ns.length:=by omega
      have h2:=m2 _ (List.getElem_mem hb)
      simp only [hb,List.getElem?_eq_getElem,Option.getD_some] at h1 ⊢
      omega

noncomputable def bools?:List PyData→Option (List Bool)
  | []=>some []
  | .bool n::xs=>(bools? xs).bind fun ns=>some (n::ns)
  | _=>none
@[simp] theorem bools?_map:∀ ns:List Bool,bools? (ns.map PyData.bool)=some ns
  | []=>rfl
  | n::ns=>by rw [List.map_cons,bools?,bools?_map ns]; rfl
noncomputable def onL {α:Type} (p:List PyData→Option α) (f:α→Option PyData):List PyData→Option PyData
  | [x]=>(itD x).bind fun xs=>(p xs).bind f
  | _=>none
noncomputable def sumD:List PyData→Option PyData:=onL ints? fun ns=>some (.int ns.sum)
noncomputable def max1D:List PyData→Option PyData:=onL ints? fun ns=>if (!ns.isEmpty)=true then some (.int (maxL ns)) else none
noncomputable def min1D:List PyData→Option PyData:=onL ints? fun ns=>if (!ns.isEmpty)=true then some (.int (minL ns)) else none
theorem onL_inv {α:Type} {p:List PyData→Option α} {f:α→Option PyData} {G:Hp} {vs:List V} {ds:List PyData} {d:PyData} (hv:DnAll G vs ds) (h:onL p f ds=some d):∃ b l us xs y,vs=[.ref l]∧G l=some (hoB b us)∧DnAll G us xs∧p xs=some y∧f y=some d:=by
  unfold onL at h
  split at h
  · rename_i x
    cases hx:itD x with
    | none=>rw [hx] at h; cases h
    | some xs =>
      rw [hx] at h
      have h':(p xs).bind f=some d:=h
      cases hp:p xs with
      | none=>rw [hp] at h'; cases h'
      | some y =>
        rw [hp] at h'
        cases hv with
        | cons h1 h2 =>
          cases h2
          obtain ⟨b,l,us,rfl,e1,e2⟩:=hoB_of h1 hx
          exact ⟨b,l,us,xs,y,rfl,e1,e2,hp,h'⟩
  · cases h
theorem vc_sum:VCl (fun xs H Q=>∃ (b:Bool) (l:Addr) (ns:List Int),xs=[.ref l]∧H l=some (hoB b (ns.map V.int))∧Q (.int ns.sum) H) sumD:=fun PK pa m G H vs ds d Q w hv hd k=>by
  obtain ⟨b,l,us,xs,ns,rfl,e1,e2,hp,hf⟩:=onL_inv hv hd
  obtain ⟨rfl,rfl⟩:=e2.ints_inv hp
  cases hf
  exact ⟨b,l,ns,rfl,w.sub _ _ e1,k.here w (.int _)⟩
theorem vc_max1:VCl (fun xs H Q=>∃ (b:Bool) (l:Addr) (ns:List Int),xs=[.ref l]∧H l=some (hoB b (ns.map V.int))∧ns≠[]∧Q (.int (maxL ns)) H) max1D:=fun PK pa m G H vs ds d Q w hv hd k=>by
  obtain ⟨b,l,us,xs,ns,rfl,e1,e2,hp,hf⟩:=onL_inv hv hd
  obtain ⟨rfl,rfl⟩:=e2.ints_inv hp
  split at hf
  · rename_i hc
    cases hf
    exact ⟨b,l,ns,rfl,w.sub _ _ e1,(fun z=>by subst z; cases hc),k.here w (.int _)⟩
  · cases hf
theorem vc_min1:VCl (fun xs H Q=>∃ (b:Bool) (l:Addr) (ns:List Int),xs=[.ref l]∧H l=some (hoB b (ns.map V.int))∧ns≠[]∧Q (.int (minL ns)) H) min1D:=fun PK pa m G H vs ds d Q w hv hd k=>by
  obtain ⟨b,l,us,xs,ns,rfl,e1,e2,hp,hf⟩:=onL_inv hv hd
  obtain ⟨rfl,rfl⟩:=e2.ints_inv hp
  split at hf
  · rename_i hc
    cases hf
    exact ⟨b,l,ns,rfl,w.sub _ _ e1,(fun z=>by subst z; cases hc),k.here w (.int _)⟩
  · cases hf
variable {a b c e:Expr} {pos:Pos} {i j l:List Sl→Tr PyData}
theorem iop_mulG:OpR X (inplaceOp .Mult) (rI CMulG fun i j=>.int (i * j)):=opI fun _ _ _ _ _ _ _ hc q=>imul_int q hc.ok
theorem pip {op:Operator} {r:R2} (h:OpR X (inplaceOp op) r):PIp X op r:=h
noncomputable def iaddD:PyData→PyData→Option PyData
  | .int m,.int n=>some (.int (m+n))
  | _,_=>none
theorem vo_iadd:VOp2 (rI0 fun i j=>.int (i+j)) iaddD:=fun PK pa m G H x y dx dy dz Q w hx hy hz k=>by
  unfold iaddD at hz
  split at hz
  · cases hz; cases hx; cases hy
    exact ⟨_,_,rfl,rfl,k.here w (.int _)⟩
  · cases hz
noncomputable def imulD:PyData→PyData→Option PyData
  | .int m,.int n=>if (fit m && fit n)=true then some (.int (m * n)) else none
  | _,_=>none
theorem vo_imul:VOp2 (rI CMulG fun i j=>.int (i * j)) imulD:=fun PK pa m G H x y dx dy dz Q w hx hy hz k=>by
  unfold imulD at hz
  split at hz
  · split at hz
    · rename_i hc
      rw [Bool.and_eq_true] at hc
      cases hz; cases hx; cases hy
      exact ⟨_,_,rfl,rfl,⟨of_decide_eq_true hc.1,of_decide_eq_true hc.2⟩,k.here w (.int _)⟩
    · cases hz
  · cases hz
end
theorem o_read {PK:Pk} {is:List Sl→Tr (List PyData)}:∀ σ H Q,TAe PK (aLst is) σ H Q→TAo PK is σ H Q:=by
  intro σ H Q z
  obtain ⟨pa,G₀,H₀,m,ρ,G,R,z⟩:=z
  exact ⟨pa,G₀,H₀,m,ρ,G,R,Tr.ok_mono (Tr.ok_bind.mp z) fun m1 xs k=>Ko1.of k R.wd.some⟩
theorem as_setLcD {PK:Pk} {X:Cx} {st:Stmt} {is:List Sl→Tr (List PyData)} {i:List Sl→Tr PyData} {n k:Nat} {ix:List Nat} {g:PyData→List Sl→Option (List Sl)} (h:PS X st (tAsg (tLc (TAi PK is) n ix (fun _=>TAg PK g) (fun _=>TAe PK i)) (gName k))) (hn:PresN n g):PS X st (TAs PK (aSet k (aLst (aLc is n ix g i)))) :=
  as_set (h.imp (tAsg_mono fun σ H Q z=>lc_read hn σ H Q (o_read σ H Q z)))
end L2
set_option Elab.async false
set_option linter.all false
set_option maxRecDepth 100000
namespace L2
open PySem PySem.Spec PyProof.Rows
variable {ρ:List Sl} {s t:List Sl→Tr Ou} {i j l:List Sl→Tr PyData} {is:List Sl→Tr (List PyData)} {as:List Sl→Tr (List Sl)} {f:List Sl→Tr Re} {p q:List Sl→Tr Bool} {k n:Nat} {x y d:PyData} {xs ys:List PyData} {sl:Sl}
theorem ev_var0:aVar 0 (.d x::ρ)=.ret x:=rfl
theorem ev_varS:aVar (k+1) (sl::ρ)=aVar k ρ:=rfl
theorem ev_C:aC d ρ=.ret d:=rfl
noncomputable def bin2 (g:PyData→PyData→Option PyData) (x y:PyData):Tr PyData:=Tr.of (g x y)
noncomputable def bin1 (g:PyData→PyData→Option PyData) (j:List Sl→Tr PyData) (ρ:List Sl) (x:PyData):Tr PyData:=(j ρ).bind (bin2 g x)
theorem ev_bin {g:PyData→PyData→Option PyData}:aBin g i j ρ=(i ρ).bind (bin1 g j ρ):=rfl
theorem ev_bin1 {g:PyData→PyData→Option PyData}:bin1 g j ρ x=(j ρ).bind (bin2 g x):=rfl
theorem ev_add (m n:Int):bin2 addD (.int m) (.int n)=.ret (.int (m+n)):=rfl
theorem ev_addT (h1:xs.isEmpty=false) (h2:small (xs.length+ys.length)=true):bin2 addD (.tuple xs) (.tuple ys)=.ret (.tuple (xs++ys)):=by
  simp [bin2,addD,h1,h2]
theorem ev_addL (h2:small (xs.length+ys.length)=true):bin2 addD (.list xs) (.list ys)=.ret (.list (xs++ys)):=by
  simp [bin2,addD,h2]
theorem ev_sub (m n:Int):bin2 subD (.int m) (.int n)=.ret (.int (m - n)):=rfl
theorem ev_mul {m n:Int} (h1:fit m=true) (h2:fit n=true):bin2 mulD' (.int m) (.int n)=.ret (.int (m * n)):=by
  simp [bin2,mulD',h1,h2]
theorem ev_cmp {g:Int→Int→Bool} (m n:Int):bin2 (cmpD g) (.int m) (.int n)=.ret (.bool (g m n)):=rfl
theorem ev_eqI (m n:Int):bin2 eqD (.int m) (.int n)=.ret (.bool (m == n)):=rfl
theorem ev_neI (m n:Int):bin2 neD (.int m) (.int n)=.ret (.bool (!(m == n))):=rfl
theorem ev_eqB (m n:Bool):bin2 eqD (.bool m) (.bool n)=.ret (.bool (m == n)):=rfl
theorem ev_eqS (m n:Str):bin2 eqD (.str m) (.str n)=.ret (.bool (m == n)):=rfl
theorem ev_neS (m n:Str):bin2 neD (.str m) (.str n)=.ret (.bool (!(m == n))):=rfl
theorem ev_ixL (n:Int):bin2 ixD (.list xs) (.int n)=Tr.of (atI xs n):=rfl
theorem ev_ixT (n:Int):bin2 ixD (.tuple xs) (.int n)=Tr.of (atI xs n):=rfl
theorem atI_ge {α:Type} {xs:List α} {n:Int} {v:α} (h0:0≤n) (h:xs[n.toNat]?=some v):atI xs n=some v:=by
  have e:(n.toNat:Int)=n:=Int.toNat_of_nonneg h0
  rw [← e]
  exact atI_nat h
section
variable {α:Type} {a0 a1 a2 a3 a4 a5 a6 a7 a8:α} {r:List α}
theorem at_0:atI (a0::r) 0=some a0:=atI_nat (j:=0) rfl
theorem at_1:atI (a0::a1::r) 1=some a1:=atI_nat (j:=1) rfl
theorem at_2:atI (a0::a1::a2::r) 2=some a2:=atI_nat (j:=2) rfl
theorem at_3:atI (a0::a1::a2::a3::r) 3=some a3:=atI_nat (j:=3) rfl
theorem at_4:atI (a0::a1::a2::a3::a4::r) 4=some a4:=atI_nat (j:=4) rfl
theorem at_5:atI (a0::a1::a2::a3::a4::a5::r) 5=some a5:=atI_nat (j:=5) rfl
theorem at_6:atI (a0::a1::a2::a3::a4::a5::a6::r) 6=some a6:=atI_nat (j:=6) rfl
theorem at_7:atI (a0::a1::a2::a3::a4::a5::a6::a7::r) 7=some a7:=atI_nat (j:=7) rfl
theorem at_8:atI (a0::a1::a2::a3::a4::a5::a6::a7::a8::r) 8=some a8:=atI_nat (j:=8) rfl
end
noncomputable def neg1:PyData→Tr PyData
  | .int n=>.ret (.int (-n))
  | _=>.fail
theorem ev_neg:aNeg i ρ=(i ρ).bind neg1:=by
  unfold aNeg
  refine congrArg (Tr.bind (i ρ)) (funext fun x=>?_)
  cases x <;> rfl
theorem ev_neg1 (n:Int):neg1 (.int n)=.ret (.int (-n)):=rfl
noncomputable def tst1 (x:PyData):Tr Bool:=Tr.of (toB x)
theorem ev_test:aTest i ρ=(i ρ).bind tst1:=rfl
theorem ev_tst1 (b:Bool):tst1 (.bool b)=.ret b:=rfl
noncomputable def tru1 (x:PyData):Tr Bool:=Tr.of (truD x)
theorem ev_tru:aTru i ρ=(i ρ).bind tru1:=rfl
theorem ev_truB (b:Bool):tru1 (.bool b)=.ret b:=rfl
theorem ev_truI (n:Int):tru1 (.int n)=.ret (n != 0):=rfl
theorem ev_truL:tru1 (.list xs)=.ret (!xs.isEmpty):=rfl
theorem ev_truT:tru1 (.tuple xs)=.ret (!xs.isEmpty):=rfl
theorem ev_truN:tru1 .none=.ret false:=rfl
noncomputable def and1 (q:List Sl→Tr Bool) (ρ:List Sl) (b:Bool):Tr Bool:=if b=true then q ρ else .ret false
noncomputable def or1 (q:List Sl→Tr Bool) (ρ:List Sl) (b:Bool):Tr Bool:=if b=true then .ret true else q ρ
noncomputable def not1 (b:Bool):Tr Bool:=.ret (!b)
theorem ev_and:aAnd p q ρ=(p ρ).bind (and1 q ρ):=rfl
theorem ev_or:aOr p q ρ=(p ρ).bind (or1 q ρ):=rfl
theorem ev_not:aNot p ρ=(p ρ).bind not1:=rfl
theorem ev_and1t:and1 q ρ true=q ρ:=rfl
theorem ev_and1f:and1 q ρ false=.ret false:=rfl
theorem ev_or1t:or1 q ρ true=.ret true:=rfl
theorem ev_or1f:or1 q ρ false=q ρ:=rfl
theorem ev_not1 (b:Bool):not1 b=.ret (!b):=rfl
noncomputable def andV1 (j:List Sl→Tr PyData) (ρ:List Sl) (b:Bool):Tr PyData:=if b=true then j ρ else .ret (.bool false)
theorem ev_andV:aAndV i j ρ=(aTest i ρ).bind (andV1 j ρ):=rfl
theorem ev_andV1t:andV1 j ρ true=j ρ:=rfl
theorem ev_andV1f:andV1 j ρ false=.ret (.bool false):=rfl
noncomputable def if1 (i j:List Sl→Tr PyData) (ρ:List Sl) (b:Bool):Tr PyData:=if b=true then i ρ else j ρ
theorem ev_if:aIf p i j ρ=(p ρ).bind (if1 i j ρ):=rfl
theorem ev_if1t:if1 i j ρ true=i ρ:=rfl
theorem ev_if1f:if1 i j ρ false=j ρ:=rfl
noncomputable def cons2 (x:PyData) (xs:List PyData):Tr (List PyData):=.ret (x::xs)
noncomputable def cons1 (is:List Sl→Tr (List PyData)) (ρ:List Sl) (x:PyData):Tr (List PyData):=(is ρ).bind (cons2 x)
theorem ev_nil:aNil ρ=.ret []:=rfl
theorem ev_cons:aCons i is ρ=(i ρ).bind (cons1 is ρ):=rfl
theorem ev_cons1:cons1 is ρ x=(is ρ).bind (cons2 x):=rfl
theorem ev_cons2:cons2 x xs=.ret (x::xs):=rfl
noncomputable def tup1 (xs:List PyData):Tr PyData:=if small xs.length=true then .ret (.tuple xs) else .fail
theorem ev_tup:aTup is ρ=(is ρ).bind tup1:=rfl
theorem ev_tup1 (h:small xs.length=true):tup1 xs=.ret (.tuple xs):=by unfold tup1; rw [if_pos h]
noncomputable def lst1 (xs:List PyData):Tr PyData:=.ret (.list xs)
theorem ev_lst:aLst is ρ=(is ρ).bind lst1:=rfl
theorem ev_lst1:lst1 xs=.ret (.list xs):=rfl
noncomputable def lo1 (xs:List PyData):Tr (List PyData):=if small xs.length=true then .ret xs else .fail
theorem ev_lo:aLo is ρ=(is ρ).bind lo1:=rfl
theorem ev_lo1 (h:small xs.length=true):lo1 xs=.ret xs:=by unfold lo1; rw [if_pos h]
theorem small_le {n:Nat} (h:n≤10000):small n=true:=decide_eq_true (Nat.le_trans h (by decide))
noncomputable def cb1 (g:List PyData→Option PyData) (xs:List PyData):Tr PyData:=Tr.of (g xs)
noncomputable def cbo1 (g:List PyData→Option (List PyData)) (xs:List PyData):Tr (List PyData):=Tr.of (g xs)
theorem ev_cb {g:List PyData→Option PyData}:aCB g is ρ=(is ρ).bind (cb1 g):=rfl
theorem ev_cbo {g:List PyData→Option (List PyData)}:aCBo g is ρ=(is ρ).bind (cbo1 g):=rfl
theorem ev_lenL:cb1 lenD [.list xs]=.ret (.int xs.length):=rfl
theorem ev_lenT:cb1 lenD [.tuple xs]=.ret (.int xs.length):=rfl
theorem ev_max2 (m n:Int):cb1 max2D [.int m,.int n]=.ret (.int (maxI m n)):=rfl
theorem ev_min2 (m n:Int):cb1 min2D [.int m,.int n]=.ret (.int (minI m n)):=rfl
theorem ev_tupL:cb1 tupD [.list xs]=.ret (.tuple xs):=rfl
theorem ev_tupT:cb1 tupD [.tuple xs]=.ret (.tuple xs):=rfl
theorem ev_sumL (ns:List Int):cb1 sumD [.list (ns.map .int)]=.ret (.int ns.sum):=by
  unfold cb1 sumD onL
  simp
theorem ev_sumT (ns:List Int):cb1 sumD [.tuple (ns.map .int)]=.ret (.int ns.sum):=by
  unfold cb1 sumD onL
  simp
theorem ev_maxL (ns:List Int) (h:ns.isEmpty=false):cb1 max1D [.list (ns.map .int)]=.ret (.int (maxL ns)):=by
  have h':ns≠[]:=fun z=>by subst z; cases h
  unfold cb1 max1D onL
  simp [h']
theorem ev_sort (ns:List Int) (h:ns.length < 64):cbo1 sortD [.list (ns.map .int)]=.ret ((sortI ns).map .int):=by
  unfold cbo1 sortD
  simp [h]
noncomputable def sl3 (x:PyData) (lo:Option Int) (hi:Option Int):Tr PyData:=Tr.of (sliceD x lo hi)
noncomputable def sl2 (q:aPart) (ρ:List Sl) (x:PyData) (lo:Option Int):Tr PyData:=(q ρ).bind (sl3 x lo)
noncomputable def sl1 (p q:aPart) (ρ:List Sl) (x:PyData):Tr PyData:=(p ρ).bind (sl2 q ρ x)
theorem ev_sl {p q:aPart}:aSl i p q ρ=(i ρ).bind (sl1 p q ρ):=rfl
theorem ev_sl1 {p q:aPart}:sl1 p q ρ x=(p ρ).bind (sl2 q ρ x):=rfl
theorem ev_sl2 {q:aPart} {lo:Option Int}:sl2 q ρ x lo=(q ρ).bind (sl3 x lo):=rfl
theorem ev_sl3L {lo hi:Option Int}:sl3 (.list xs) lo hi=.ret (.list (cutD xs lo hi)):=rfl
theorem ev_sl3T {lo hi:Option Int}:sl3 (.tuple xs) lo hi=.ret (.tuple (cutD xs lo hi)):=rfl
theorem ev_p0:aP0 ρ=.ret none:=rfl
noncomputable def pa1:PyData→Tr (Option Int)
  | .int n=>.ret (some n)
  | _=>.fail
theorem ev_p1:aP1 i ρ=(i ρ).bind pa1:=by
  unfold aP1
  refine congrArg (Tr.bind (i ρ)) (funext fun x=>?_)
  cases x <;> rfl
theorem ev_pa1 (n:Int):pa1 (.int n)=.ret (some n):=rfl
noncomputable def tupR1 (xs:List PyData):Tr PyData:=(Tr.of (rngV2 xs)).bind fun ys=>.ret (.tuple ys)
theorem ev_tupR:aTupR is ρ=(is ρ).bind tupR1:=rfl
theorem ev_tupR1 {lo hi:Int} (h:rngOk lo hi=true):tupR1 [.int lo,.int hi]=.ret (.tuple (rngL lo hi)):=by
  simp [tupR1,rngV2,h]
theorem ev_aaNil:aaNil ρ=.ret []:=rfl
noncomputable def aa2 (x:Sl) (xs:List Sl):Tr (List Sl):=.ret (x::xs)
noncomputable def aa1 (as:List Sl→Tr (List Sl)) (ρ:List Sl) (x:PyData):Tr (List Sl):=(as ρ).bind (aa2 (.d x))
theorem ev_aaCons:aaCons i as ρ=(i ρ).bind (aa1 as ρ):=rfl
theorem ev_aa1:aa1 as ρ x=(as ρ).bind (aa2 (.d x)):=rfl
theorem ev_aa2 {xs:List Sl}:aa2 sl xs=.ret (sl::xs):=rfl
noncomputable def penAt:Nat→List Sl→Tr Unit
  | 0,.pen::_=>.ret ()
  | k+1,_::ρ=>penAt k ρ
  | _,_=>.fail
theorem ev_pen0:penAt 0 (.pen::ρ)=.ret ():=rfl
theorem ev_penS:penAt (k+1) (sl::ρ)=penAt k ρ:=rfl
noncomputable def aap (as:List Sl→Tr (List Sl)) (ρ:List Sl) (_:Unit):Tr (List Sl):=(as ρ).bind (aa2 .pen)
theorem ev_aaPen:aaPen k as ρ=(penAt k ρ).bind (aap as ρ):=by
  have key:∀ (k:Nat) (σ:List Sl) (as:List Sl→Tr (List Sl)) (ρ:List Sl),(match σ[k]? with | some Sl.pen=>(as ρ).bind fun xs=>Tr.ret (Sl.pen::xs) | _=>Tr.fail)=(penAt k σ).bind (aap as ρ):=by
    intro k
    induction k with
    | zero =>
      intro σ as ρ
      cases σ with
      | nil=>rfl
      | cons s r=>cases s <;> rfl
    | succ k ih =>
      intro σ as ρ
      cases σ with
      | nil=>rfl
      | cons s r=>exact ih r as ρ
  exact key k ρ as ρ
theorem ev_aap (u:Unit):aap as ρ u=(as ρ).bind (aa2 .pen):=rfl
theorem ev_call:aCall f as ρ=(as ρ).bind f:=rfl
noncomputable def re1 (r:Re):Tr PyData:=.ret r.val
theorem ev_re:aRe f ρ=(f ρ).bind re1:=rfl
theorem ev_re1 (r:Re):re1 r=.ret r.val:=rfl
theorem ev_def {as:List Sl} (h:as.length=n):aDef n k s as=(s (as++List.replicate k .un)).bind finR:=by
  unfold aDef
  rw [if_pos (decide_eq_true h)]
theorem ev_finN:finR (.next ρ)=.ret (.d .none):=rfl
theorem ev_finR (r:Re):finR (.ret r)=.ret r:=rfl
noncomputable def seq1 (t:List Sl→Tr Ou):Ou→Tr Ou
  | .next ρ=>t ρ
  | o=>.ret o
theorem ev_seq:aSeq s t ρ=(s ρ).bind (seq1 t):=by
  unfold aSeq
  refine congrArg (Tr.bind (s ρ)) (funext fun o=>?_)
  cases o <;> rfl
theorem ev_seqN:seq1 t (.next ρ)=t ρ:=rfl
theorem ev_seqR (r:Re):seq1 t (.ret r)=.ret (.ret r):=rfl
theorem ev_seqB:seq1 t (.brk ρ)=.ret (.brk ρ):=rfl
theorem ev_seqC:seq1 t (.cont ρ)=.ret (.cont ρ):=rfl
theorem ev_skip:aSkip ρ=.ret (.next ρ):=rfl
noncomputable def ifs1 (s t:List Sl→Tr Ou) (ρ:List Sl) (b:Bool):Tr Ou:=if b=true then s ρ else t ρ
theorem ev_ifs:aIfS p s t ρ=(p ρ).bind (ifs1 s t ρ):=rfl
theorem ev_ifst:ifs1 s t ρ true=s ρ:=rfl
theorem ev_ifsf:ifs1 s t ρ false=t ρ:=rfl
noncomputable def ret1 (x:PyData):Tr Ou:=.ret (.ret (.d x))
theorem ev_ret:aRet i ρ=(i ρ).bind ret1:=rfl
theorem ev_ret1:ret1 x=.ret (.ret (.d x)):=rfl
noncomputable def retO1 (xs:List PyData):Tr Ou:=.ret (.ret (.own xs))
theorem ev_retO:aRetO is ρ=(is ρ).bind retO1:=rfl
theorem ev_retO1:retO1 xs=.ret (.ret (.own xs)):=rfl
noncomputable def retR1 (r:Re):Tr Ou:=.ret (.ret r)
theorem ev_retR:aRetR f ρ=(f ρ).bind retR1:=rfl
theorem ev_retR1 (r:Re):retR1 r=.ret (.ret r):=rfl
theorem ev_retVd:aRetV 0 (.d x::ρ)=.ret (.ret (.d x)):=rfl
theorem ev_retVo:aRetV 0 (.own xs::ρ)=.ret (.ret (.own xs)):=rfl
theorem ev_retVs:aRetV (k+1) (sl::ρ)=aRetV k ρ:=rfl
noncomputable def set1 (k:Nat) (ρ:List Sl) (x:PyData):Tr Ou:=.ret (.next (ρ.set k (.d x)))
theorem ev_set:aSet k i ρ=(i ρ).bind (set1 k ρ):=rfl
theorem ev_set1:set1 k ρ x=.ret (.next (ρ.set k (.d x))):=rfl
noncomputable def setO1 (k:Nat) (ρ:List Sl) (x:List PyData):Tr Ou:=.ret (.next (ρ.set k (.own x)))
theorem ev_setO:aSetO k is ρ=(is ρ).bind (setO1 k ρ):=rfl
theorem ev_setO1:setO1 k ρ xs=.ret (.next (ρ.set k (.own xs))):=rfl
theorem ls_0 {α:Type} {a b:α} {r:List α}:(a::r).set 0 b=b::r:=rfl
theorem ls_S {α:Type} {a b:α} {r:List α}:(a::r).set (k+1) b=a::r.set k b:=rfl
noncomputable def aug2 (g:PyData→PyData→Option PyData) (k:Nat) (ρ:List Sl) (x y:PyData):Tr Ou:=(bin2 g x y).bind (set1 k ρ)
noncomputable def aug1 (g:PyData→PyData→Option PyData) (k:Nat) (i:List Sl→Tr PyData) (ρ:List Sl) (x:PyData):Tr Ou:=(i ρ).bind (aug2 g k ρ x)
theorem ev_aug {g:PyData→PyData→Option PyData}:aAug g k i ρ=(aVar k ρ).bind (aug1 g k i ρ):=rfl
theorem ev_aug1 {g:PyData→PyData→Option PyData}:aug1 g k i ρ x=(i ρ).bind (aug2 g k ρ x):=rfl
theorem ev_aug2 {g:PyData→PyData→Option PyData}:aug2 g k ρ x y=(bin2 g x y).bind (set1 k ρ):=rfl
theorem ev_iadd (m n:Int):bin2 iaddD (.int m) (.int n)=.ret (.int (m+n)):=rfl
theorem ev_imul {m n:Int} (h1:fit m=true) (h2:fit n=true):bin2 imulD (.int m) (.int n)=.ret (.int (m * n)):=by
  simp [bin2,imulD,h1,h2]
noncomputable def ownAt:Nat→List Sl→Tr (List PyData)
  | 0,.own xs::_=>.ret xs
  | k+1,_::ρ=>ownAt k ρ
  | _,_=>.fail
theorem ev_own0:ownAt 0 (.own xs::ρ)=.ret xs:=rfl
theorem ev_ownS:ownAt (k+1) (sl::ρ)=ownAt k ρ:=rfl
theorem own_eq {β:Type} {g:List PyData→Tr β}:∀ (k:Nat) (σ:List Sl),(match σ[k]? with | some (Sl.own xs)=>g xs | _=>Tr.fail)=(ownAt k σ).bind g
  | 0,[]=>rfl
  | 0,s::r=>by cases s <;> rfl
  | k+1,[]=>rfl
  | k+1,s::r=>own_eq k r
noncomputable def app2 (k:Nat) (ρ:List Sl) (xs:List PyData) (x:PyData):Tr Ou:=if small (xs.length+1)=true then .ret (.next (ρ.set k (.own (xs++[x])))) else .fail
noncomputable def app1 (k:Nat) (i:List Sl→Tr PyData) (ρ:List Sl) (xs:List PyData):Tr Ou:=(i ρ).bind (app2 k ρ xs)
theorem ev_app:aApp k i ρ=(ownAt k ρ).bind (app1 k i ρ):=own_eq k ρ
theorem ev_app1:app1 k i ρ xs=(i ρ).bind (app2 k ρ xs):=rfl
theorem ev_app2 (h:small (xs.length+1)=true):app2 k ρ xs x=.ret (.next (ρ.set k (.own (xs++[x])))):=by unfold app2; rw [if_pos h]
noncomputable def rev1 (k:Nat) (ρ:List Sl) (xs:List PyData):Tr Ou:=.ret (.next (ρ.set k (.own xs.reverse)))
theorem ev_rev:aRev k ρ=(ownAt k ρ).bind (rev1 k ρ):=own_eq k ρ
theorem ev_rev1:rev1 k ρ xs=.ret (.next (ρ.set k (.own xs.reverse))):=rfl
theorem ev_fz:aFz k s ρ=s (fz k ρ):=rfl
theorem fz_o:fz 0 (.own xs::ρ)=.d (.list xs)::ρ:=rfl
theorem fz_d:fz 0 (.d x::ρ)=.d x::ρ:=rfl
theorem fz_p:fz 0 (.pen::ρ)=.pen::ρ:=rfl
theorem fz_u:fz 0 (.un::ρ)=.un::ρ:=rfl
theorem fz_S:fz (k+1) (sl::ρ)=sl::fz k ρ:=by
  unfold fz
  rw [List.getElem?_cons_succ]
  cases h:ρ[k]? with
  | none=>rfl
  | some s=>cases s <;> rfl
noncomputable def nx1 (ρ:List Sl):Tr Ou:=.ret (.next ρ)
noncomputable def asg1 (g:PyData→List Sl→Option (List Sl)) (ρ:List Sl) (x:PyData):Tr Ou:=(Tr.of (g x ρ)).bind nx1
theorem ev_asg {g:PyData→List Sl→Option (List Sl)}:aAsg g i ρ=(i ρ).bind (asg1 g ρ):=rfl
theorem ev_asg1 {g:PyData→List Sl→Option (List Sl)}:asg1 g ρ x=(Tr.of (g x ρ)).bind nx1:=rfl
theorem ev_nx1:nx1 ρ=.ret (.next ρ):=rfl
theorem g_set:gSet k x ρ=some (ρ.set k (.d x)):=rfl
theorem g_tup {gs:List PyData→List Sl→Option (List Sl)}:gTupD gs (.tuple xs) ρ=gs xs ρ:=rfl
theorem g_nil:gsNil [] ρ=some ρ:=rfl
theorem g_cons {g:PyData→List Sl→Option (List Sl)} {gs:List PyData→List Sl→Option (List Sl)}:gsCons g gs (x::xs) ρ=(g x ρ).bind (gs xs):=rfl
theorem g_some {α β:Type} {a:α} {g:α→Option β}:(some a).bind g=g a:=rfl
noncomputable def it1 (x:PyData):Tr (List PyData):=Tr.of (itD x)
theorem ev_it:aIt i ρ=(i ρ).bind it1:=rfl
theorem ev_it1L:it1 (.list xs)=.ret xs:=rfl
theorem ev_it1T:it1 (.tuple xs)=.ret xs:=rfl
noncomputable def rng1 (xs:List PyData):Tr (List PyData):=Tr.of (rngD1 xs)
noncomputable def rng2 (xs:List PyData):Tr (List PyData):=Tr.of (rngD2 xs)
theorem ev_rng1:aRng1 is ρ=(is ρ).bind rng1:=rfl
theorem inR_of {n:Int} (h1:-1000000000000≤n) (h2:n≤1000000000000):inR n=true:=decide_eq_true (by omega)
theorem ev_rg1 {n:Int} (h:inR n=true):rng1 [.int n]=.ret (rngL 0 n):=by
  simp [rng1,rngD1,h]
theorem ev_rg2 {m n:Int} (h1:inR m=true) (h2:inR n=true):rng2 [.int m,.int n]=.ret (rngL m n):=by
  simp [rng2,rngD2,h1,h2]
noncomputable def enu2 (xs:List PyData):Tr (List PyData):=.ret (enumD xs)
noncomputable def enu1 (x:PyData):Tr (List PyData):=(it1 x).bind enu2
theorem ev_enum:aEnum i ρ=(i ρ).bind enu1:=rfl
theorem ev_enu1:enu1 x=(it1 x).bind enu2:=rfl
theorem ev_enu2:enu2 xs=.ret (enumD xs):=rfl
noncomputable def for1 (g:PyData→List Sl→Option (List Sl)) (s:List Sl→Tr Ou) (ρ:List Sl) (xs:List PyData):Tr Ou:=forL g s xs ρ
theorem ev_for {g:PyData→List Sl→Option (List Sl)}:aFor is g s ρ=(is ρ).bind (for1 g s ρ):=rfl
theorem ev_for1 {g:PyData→List Sl→Option (List Sl)}:for1 g s ρ xs=forL g s xs ρ:=rfl
noncomputable def for3 (g:PyData→List Sl→Option (List Sl)) (s:List Sl→Tr Ou) (xs:List PyData):Ou→Tr Ou
  | .next ρ=>forL g s xs ρ
  | .cont ρ=>forL g s xs ρ
  | .brk ρ=>.ret (.next ρ)
  | .ret r=>.ret (.ret r)
noncomputable def for2 (g:PyData→List Sl→Option (List Sl)) (s:List Sl→Tr Ou) (xs:List PyData) (ρ:List Sl):Tr Ou:=(s ρ).bind (for3 g s xs)
theorem for_nil {g:PyData→List Sl→Option (List Sl)}:forL g s [] ρ=.ret (.next ρ):=rfl
theorem for_cons {g:PyData→List Sl→Option (List Sl)}:forL g s (x::xs) ρ=(Tr.of (g x ρ)).bind (for2 g s xs):=by
  rw [forL]
  refine congrArg (Tr.bind (Tr.of (g x ρ))) (funext fun ρ1=>?_)
  unfold for2
  refine congrArg (Tr.bind (s ρ1)) (funext fun o=>?_)
  cases o <;> rfl
theorem ev_for3n {g:PyData→List Sl→Option (List Sl)}:for3 g s xs (.next ρ)=forL g s xs ρ:=rfl
noncomputable def lc2 (g:PyData→List Sl→Option (List Sl)) (el:List Sl→Tr PyData) (τ:List Sl) (x:PyData):Tr PyData:=(Tr.of (g x τ)).bind el
noncomputable def lc1 (n:Nat) (ix:List Nat) (g:PyData→List Sl→Option (List Sl)) (el:List Sl→Tr PyData) (ρ:List Sl) (xs:List PyData):Tr (List PyData):=if small xs.length=true then mapT (lc2 g el (blk n ix ρ)) xs else .fail
theorem ev_lc {ix:List Nat} {g:PyData→List Sl→Option (List Sl)}:aLc is n ix g i ρ=(is ρ).bind (lc1 n ix g i ρ):=rfl
theorem ev_lc1 {ix:List Nat} {g:PyData→List Sl→Option (List Sl)} (h:small xs.length=true):lc1 n ix g i ρ xs=mapT (lc2 g i (blk n ix ρ)) xs:=by unfold lc1; rw [if_pos h]
theorem ev_lc2 {τ:List Sl} {g:PyData→List Sl→Option (List Sl)}:lc2 g i τ x=(Tr.of (g x τ)).bind i:=rfl
theorem for_all {g:PyData→List Sl→Option (List Sl)} {n:Nat} (I:List PyData→List Sl→Prop) {Q:Ou→Prop} :
    ∀ {xs pre:List PyData} {ρ:List Sl},I pre ρ→(∀ pre x post ρ,pre++x::post=pre++x::post→I pre ρ→x∈xs→∃ ρ1,g x ρ=some ρ1∧(s ρ1).all n fun o=>∃ ρ2,o=.next ρ2∧I (pre++[x]) ρ2)→(∀ ρ,I (pre++xs) ρ→Q (.next ρ))→(forL g s xs ρ).all (xs.length * n) Q
  | [],pre,ρ,h0,_,hq=>hq ρ (by rw [List.append_nil]; exact h0)
  | x::xs,pre,ρ,h0,ht,hq=>by
    obtain ⟨ρ1,e,ha⟩:=ht pre x xs ρ rfl h0 (by simp)
    have en:(x::xs).length * n=n+xs.length * n:=by rw [List.length_cons,Nat.succ_mul]; omega
    rw [en,for_cons,e,Tr.of_some,Tr.ret_bind]
    unfold for2
    refine Tr.all_bind ha fun o ⟨ρ2,eo,h2⟩=>?_
    subst eo
    rw [ev_for3n]
    exact for_all I h2 (fun pre y post ρ e h hy=>ht pre y post ρ e h (List.mem_cons_of_mem _ hy)) (fun ρ h=>hq ρ (by rw [List.append_assoc] at h; exact h))
theorem draw_all {α:Type} {w:Int} {k:Int→Tr α} {n:Nat} {P:α→Prop} (h1:0 < w) (h2:w < 1073741824) (h:∀ r,0≤r→r < w→(k r).all n P):(Tr.draw w k).all (n+1) P:=⟨h1,h2,h⟩
end L2
namespace L2
open PySem PySem.Spec PyProof.Rows
noncomputable def mt2 (y:PyData) (ys:List PyData):Tr (List PyData):=.ret (y::ys)
noncomputable def mt1 (h:PyData→Tr PyData) (xs:List PyData) (y:PyData):Tr (List PyData):=(mapT h xs).bind (mt2 y)
theorem mt_nil {h:PyData→Tr PyData}:mapT h []=.ret []:=rfl
theorem mt_cons {h:PyData→Tr PyData} {x:PyData} {xs:List PyData}:mapT h (x::xs)=(h x).bind (mt1 h xs):=rfl
theorem mt_1 {h:PyData→Tr PyData} {y:PyData} {xs:List PyData}:mt1 h xs y=(mapT h xs).bind (mt2 y):=rfl
theorem mt_2 {y:PyData} {ys:List PyData}:mt2 y ys=.ret (y::ys):=rfl
theorem pick {α:Type} {xs:List α} {r:Int} (h0:0≤r) (h1:r < xs.length):∃ v,atI xs r=some v∧v∈xs:=by
  have h:r.toNat < xs.length:=by omega
  exact ⟨xs[r.toNat],atI_ge h0 (by simp [h]),List.getElem_mem h⟩
theorem list7 {α:Type} {xs:List α} (h:xs.length=7):∃ a b c d e f g,xs=[a,b,c,d,e,f,g]:=by
  rcases xs with _ | ⟨a,_ | ⟨b,_ | ⟨c,_ | ⟨d,_ | ⟨e,_ | ⟨f,_ | ⟨g,_ | ⟨k,xs⟩⟩⟩⟩⟩⟩⟩⟩
  · cases h
  · cases h
  · cases h
  · cases h
  · cases h
  · cases h
  · cases h
  · exact ⟨a,b,c,d,e,f,g,rfl⟩
  · exact absurd h (by simp)
end L2
namespace L2
open PySem
@[irreducible] noncomputable def Al {α:Type} (t:Tr α) (n:Nat) (P:α→Prop):Prop:=t.all n P
section
variable {α β:Type} {t:Tr α} {n n' N:Nat} {P:α→Prop} {P':β→Prop}
theorem Al.of (h:t.all n P):Al t n P:=by unfold Al; exact h
theorem Al.out (h:Al t n P):t.all n P:=by unfold Al at h; exact h
theorem al_ret {a:α} (h:P a):Al (.ret a) n P:=.of h
theorem al_drw {w:Int} {k:Int→Tr α} (h1:0 < w) (h2:w < 1073741824) (hN:n+1≤N) (h:∀ r,0≤r→r < w→Al (k r) n P):Al (.draw w k) N P:=.of (Tr.all_mono (draw_all h1 h2 fun r a b=>(h r a b).out) hN fun _ h=>h)
theorem al_bind {f:α→Tr β} (h:Al t n P) (hN:n+n'≤N) (hf:∀ a,P a→Al (f a) n' P'):Al (t.bind f) N P':=.of (Tr.all_mono (Tr.all_bind h.out fun a ha=>(hf a ha).out) hN fun _ h=>h)
theorem al_mono {Q:α→Prop} (h:Al t n P) (hN:n≤N) (hq:∀ a,P a→Q a):Al t N Q:=.of (Tr.all_mono h.out hN hq)
theorem al_for {g:PyData→List Sl→Option (List Sl)} {s:List Sl→Tr Ou} {xs:List PyData} {ρ:List Sl} {Q:Ou→Prop} (I:List Sl→Prop) (h0:I ρ) (hN:xs.length * n≤N) (ht:∀ x ρ,x∈xs→I ρ→∃ ρ1,g x ρ=some ρ1∧Al (s ρ1) n fun o=>∃ ρ2,o=.next ρ2∧I ρ2) (hq:∀ ρ,I ρ→Q (.next ρ)):Al (forL g s xs ρ) N Q :=
  .of (Tr.all_mono (for_all (fun _ ρ=>I ρ) (pre:=[]) h0 (fun pre x post ρ _ h hx=>let ⟨ρ1,e,a⟩:=ht x ρ hx h; ⟨ρ1,e,a.out⟩) fun ρ h=>hq ρ h) hN fun _ h=>h)
end
noncomputable def intIn (lo hi:Int) (x:PyData):Prop:=∃ z:Int,x=.int z∧lo≤z∧z≤hi
theorem rngL_len {lo hi:Int}:(rngL lo hi).length=(hi - lo).toNat:=by unfold rngL; rw [List.length_map,rangeI_length]
theorem pickI {xs:List PyData} {lo hi r:Int} (h:∀ x∈xs,intIn lo hi x) (h0:0≤r) (h1:r < xs.length):∃ z:Int,atI xs r=some (.int z)∧lo≤z∧z≤hi:=by
  obtain ⟨v,e,m⟩:=pick h0 h1
  obtain ⟨z,rfl,a,b⟩:=h v m
  exact ⟨z,e,a,b⟩
end L2
set_option Elab.async false
set_option linter.all false
set_option maxRecDepth 100000
namespace L2
open PySem PySem.Spec PyProof.Rows
variable {PK:Pk} {X:Cx} {a b c e:Expr} {es:List Expr} {pos:Pos} {i j l:List Sl→Tr PyData} {is:List Sl→Tr (List PyData)} {p q:List Sl→Tr Bool} {st:Stmt}
noncomputable def flatD:PyData→Bool
  | .none=>true
  | .bool _=>true
  | .int _=>true
  | .str _=>true
  | _=>false
end L2
set_option Elab.async false
set_option linter.all false
set_option maxRecDepth 100000
namespace L2
open PySem PySem.Spec PyProof.Rows
variable {PK:Pk} {X:Cx} {a b c e:Expr} {es:List Expr} {pos:Pos} {i j l:List Sl→Tr PyData} {as:List Sl→Tr (List Sl)}
structure PkLow (PK:Pk):Prop where
  low:∀ {o o':HO} {G G':Hp} {m m':Nat},PK.is o G m→Sub G G'→PK.is o' G' m'→PK.is o' G m'
inductive ArB (pa:Addr) (G H:Hp):V→Sl→Prop
  | ok {v:V} {s:Sl}:ArOk pa G v s→ArB pa G H v s
  | own {p:Addr} {vs:List V} {xs:List PyData}:H p=some (.lst vs)→G p=none→pa≠p→DnAll G vs xs→ArB pa G H (.ref p) (.d (.list xs))
inductive ArsB (pa:Addr) (G H:Hp):List V→List Sl→Prop
  | nil:ArsB pa G H [] []
  | cons {v:V} {vs:List V} {s:Sl} {ss:List Sl}:ArB pa G H v s→ArsB pa G H vs ss→ArsB pa G H (v::vs) (s::ss)
theorem ArB.step {pa:Addr} {G H G' H':Hp} {v:V} {s:Sl} (h:ArB pa G H v s) (st:Stp pa G H G' H'):ArB pa G' H' v s:=by
  cases h with
  | ok h=>exact .ok (h.mono st.gs)
  | @own p vs xs h1 h2 h3 h4 =>
    refine .own (st.hk _ _ h1 (Ne.symm h3)) ?_ h3 (DnAll.mono st.gs h4)
    cases e:G' p with
    | none=>rfl
    | some u =>
      rcases st.gn p u e with z | z
      · rw [h2] at z; cases z
      · rw [h1] at z; cases z
theorem ArsB.ok {pa:Addr} {m:Nat} {G H:Hp}:∀ {vs:List V} {ss:List Sl} {G1:Hp},Sub G G1→Wd PK pa m G1 H→ArsB pa G H vs ss→∃ G2,Sub G1 G2∧Wd PK pa m G2 H∧ArsOk pa G2 vs ss
  | _,_,G1,_,w,.nil=>⟨G1,fun _ _ h=>h,w,.nil⟩
  | _,_,G1,sb,w,.cons h t=>by
    obtain ⟨G2,s2,w2,t2⟩:=ArsB.ok sb w t
    cases h with
    | ok h=>exact ⟨G2,s2,w2,.cons (h.mono (sb.trans s2)) t2⟩
    | @own p vs xs h1 h2 h3 h4 =>
      cases e:G2 p with
      | none =>
        have s3:Sub G2 (upd G2 p (.lst vs)):=Sub.new e
        exact ⟨upd G2 p (.lst vs),s2.trans s3,w2.freeze h1 e h3,.cons (.d (.lst upd_same (DnAll.mono ((sb.trans s2).trans s3) h4))) (ArsOk.mono s3 t2)⟩
      | some u =>
        have:=w2.sub p u e
        rw [h1] at this
        cases this
        exact ⟨G2,s2,w2,.cons (.d (.lst e (DnAll.mono (sb.trans s2) h4))) t2⟩
noncomputable def TAb (PK:Pk) (i:List Sl→Tr (List Sl)):TA:=fun σ H Q=>∃ pa G₀ H₀ m ρ G,Rl PK pa G₀ H₀ m σ ρ G H∧(i ρ).ok m fun m' as=>∀ vs G' H',Stp pa G H G' H'→Wd PK pa m' G' H'→ArsB pa G' H' vs as→Q vs H'
theorem TAb.then {σ:St} {H:Hp} {β:Type} {k:List Sl→Tr β} {Z:Nat→β→Prop} {Q:List V→Hp→Prop} {pa:Addr} {G₀ H₀ G:Hp} {m:Nat} {ρ:List Sl} (R:Rl PK pa G₀ H₀ m σ ρ G H) (h:((as ρ).bind k).ok m Z)
    (hq:∀ m1 xs vs G1 H1,Stp pa G H G1 H1→Wd PK pa m1 G1 H1→Rl PK pa G₀ H₀ m1 σ ρ G1 H1→ArsB pa G1 H1 vs xs→(k xs).ok m1 Z→Q vs H1):TAb PK as σ H Q:=by
  refine ⟨pa,G₀,H₀,m,ρ,G,R,Tr.ok_mono (Tr.ok_bind.mp h) fun m1 x hx v G1 H1 s1 w1 d1=>?_⟩
  exact hq m1 x v G1 H1 s1 w1 (R.step s1 w1) d1 hx
theorem ab_nil:PA X [] (TAb PK aaNil):=pa_nil.imp fun σ H Q hz0=>by
  obtain ⟨pa,G₀,H₀,m,ρ,G,R,z⟩:=hz0
  exact z [] G H .refl R.wd .nil
noncomputable def aaLend (k:Nat) (as:List Sl→Tr (List Sl)):List Sl→Tr (List Sl):=fun ρ=>match ρ[k]? with
  | some (.own xs)=>(as ρ).bind fun ys=>.ret (.d (.list xs)::ys)
  | some (.d x)=>(as ρ).bind fun ys=>.ret (.d x::ys)
  | _=>.fail
theorem ab_lend {k:Nat} (ha:PE X e (tVar k)) (hr:PA X es (TAb PK as)) (hs:starEach (e::es) X.env=(false,eval e X.env)::starEach es X.env:=by rfl):PA X (e::es) (TAb PK (aaLend k as)):=(pa_cons ha hr hs).imp fun σ H Q hz0=>by
  obtain ⟨pa,G₀,H₀,m,ρ,G,R,z⟩:=hz0
  unfold aaLend at z
  split at z
  · rename_i xs hk
    obtain ⟨o,h1,h2⟩:=R.sl k _ hk
    cases h2 with
    | @own p vs _ a1 a2 a3 a4 =>
      have hne:pa≠p:=fun e=>by
        obtain ⟨u,hu⟩:=R.p0
        rw [e,a3] at hu; cases hu
      refine ⟨_,h1,?_⟩
      refine TAb.then R z fun m2 ys ws G2 H2 s2 w2 R2 d2 q2=>?_
      exact q2 _ _ _ s2 w2 (.cons ((ArB.own a1 a2 hne a4).step s2) d2)
  · rename_i x hk
    obtain ⟨o,h1,h2⟩:=R.sl k _ hk
    cases h2 with
    | d d1 =>
      refine ⟨_,h1,?_⟩
      refine TAb.then R z fun m2 ys ws G2 H2 s2 w2 R2 d2 q2=>?_
      exact q2 _ _ _ s2 w2 (.cons (.ok (.d (d1.mono s2.gs))) d2)
  · exact z.elim
theorem Dn.flat_any {G G':Hp} {v:V} {x:PyData} (h:Dn G v x) (f:flatD x=true):Dn G' v x:=by
  cases h with
  | non=>exact .non
  | bl b=>exact .bl b
  | int i=>exact .int i
  | str s=>exact .str s
  | _=>cases f
variable {ρ:List Sl} {k:Nat} {xs:List PyData} {x:PyData} {sl:Sl} {f:List Sl→Tr Re}
noncomputable def lendAt:Nat→List Sl→Tr PyData
  | 0,.own xs::_=>.ret (.list xs)
  | 0,.d x::_=>.ret x
  | k+1,_::ρ=>lendAt k ρ
  | _,_=>.fail
theorem ev_len0o:lendAt 0 (.own xs::ρ)=.ret (.list xs):=rfl
theorem ev_len0d:lendAt 0 (.d x::ρ)=.ret x:=rfl
theorem ev_lenS:lendAt (k+1) (sl::ρ)=lendAt k ρ:=rfl
theorem ev_lend:aaLend k as ρ=(lendAt k ρ).bind (aa1 as ρ):=by
  have key:∀ (k:Nat) (σ:List Sl) (as:List Sl→Tr (List Sl)) (ρ:List Sl),(match σ[k]? with | some (.own xs)=>(as ρ).bind fun ys=>Tr.ret (Sl.d (.list xs)::ys) | some (.d x)=>(as ρ).bind fun ys=>Tr.ret (Sl.d x::ys) | _=>Tr.fail)=(lendAt k σ).bind (aa1 as ρ):=by
    intro k
    induction k with
    | zero =>
      intro σ as ρ
      cases σ with
      | nil=>rfl
      | cons s r=>cases s <;> rfl
    | succ k ih =>
      intro σ as ρ
      cases σ with
      | nil=>rfl
      | cons s r=>exact ih r as ρ
  exact key k ρ as ρ
end L2
set_option Elab.async false
set_option linter.all false
set_option maxRecDepth 100000
namespace L2
open PySem PySem.Spec PyProof.Rows
theorem compLoop_runIf {prog:Program} {w:World} {A:Around} {R:Result→Shared→Prop} {s:Shared} {elt target iter cnd:Expr} {scope:Scope} {pos:Pos} {it acc:Value} {env:Env} (J:Nat→Shared→Prop)
    (step:∀ k s0,J k s0→wpAny (model prog w) A (pyNext it) (fun got s1=>match got with
      | none=>R (.ok .next) s1
      | some v=>wpAny (model prog w) A (letOwnedTupleGo target it v) (fun _ s2=>wpAny (model prog w) A (assign target env v) (fun _ s3=>wpAny (model prog w) A (isTrue cnd env (eval cnd env)) (fun ok s3'=>if ok=true then wpAny (model prog w) A (eval elt env) (fun y s4 =>
          wpAny (model prog w) A (call (.builtin "list.append") [acc,y]) (fun _ s5=>∃ j,j < k∧J j s5) (fun _ _=>False) s4) (fun _ _=>False) s3' else ∃ j,j < k∧J j s3') (fun _ _=>False) s3) (fun _ _=>False) s2) (fun _ _=>False) s1) (fun _ _=>False) s0)
    (k:Nat) (h:J k s):codeAny (model prog w) A (.compLoop (.ListComp elt [⟨target,iter,[cnd],0⟩] scope pos) 0 it acc env) R s:=by
  refine codeAny_loop rfl J (fun k0 s0 hJ=>?_) k h
  show wpAny _ _ ((compTurn (.ListComp elt [⟨target,iter,[cnd],0⟩] scope pos) 0 it acc env).onRaise (fun x=>do noteFrame x env; theTreesLotGoes x)) _ _ s0
  apply wpAny_noted
  rw [compTurn_list]
  refine wpAny_bind (wpAny_standAt (wpAny_bind (wpAny_mono (step k0 s0 hJ) (fun got s1 h1=>?_) fun _ _ z=>z.elim)))
  cases got with
  | none=>exact wpAny_pure h1
  | some v =>
    refine wpAny_bind (wpAny_mono h1 (fun _ s2 h2=>?_) fun _ _ z=>z.elim)
    refine wpAny_bind (wpAny_mono h2 (fun _ s3 h3=>?_) fun _ _ z=>z.elim)
    refine wpAny_bind (wpAny_mono (wpAny_tests_one h3) (fun ok s3' h3'=>?_) fun _ _ z=>z.elim)
    cases ok with
    | false=>exact wpAny_pure ⟨rfl,h3'⟩
    | true =>
      refine wpAny_bind (wpAny_bind (wpAny_mono h3' (fun y s4 h4=>?_) fun _ _ z=>z.elim))
      exact wpAny_bind (wpAny_mono h4 (fun _ s5 h5=>wpAny_pure (wpAny_pure ⟨rfl,h5⟩)) fun _ _ z=>z.elim)

noncomputable def tLcif (wi:TI) (n:Nat) (ix:List Nat) (g:Blk→TG) (tc:Blk→TT) (te:Blk→TE):TE:=fun σ H Q=>wi σ H fun J H1=>∀ b:Blk,∃ W:Nat→Nat→St→List V→Hp→Prop,(∃ m,W 0 m (bSt n ix σ) [] H1)∧∀ i m τ ys H2,W i m τ ys H2 →
  (J.stop i H2∧∀ p v H',H2 p=none→v=V.ref p→H'=upd H2 p (.lst ys)→Q v H') ∨
  (J.go i H2∧ys.length < sizeLine∧∀ x H3,J.yld i H2 x H3→g b x τ H3 fun τ2 H4=>tc b τ2 H4 fun ok H4'=>if ok=true then te b τ2 H4' fun y H5=>∃ m',m' < m∧W (i+1) m' τ2 (ys++[y]) H5 else ∃ m',m' < m∧W (i+1) m' τ2 ys H4')

section
variable {X:Cx} {pins:List (Addr×Obj)} {σ:St} {H:Hp} {s:Shared}
theorem lcif_block {elt target iter cnd:Expr} {scope:Scope} {pos:Pos} {Nx ts:List Str} {ix:List Nat} {g:Blk→TG} {tc:Blk→TT} {te:Blk→TE} {cl:List (Str×Addr)} {s2:Shared} {itv:Value} {R:Value→Addr→Result→Shared→Prop}
    {E:Value→Shared→Prop} {Q:VK}
    (hc:X.calm=true) (hg:∀ b,PG (cxC X (bN Nx ts ix) scope b) target (g b)) (hcn:∀ b,PT (cxC X (bN Nx ts ix) scope b) cnd (tc b)) (he:∀ b,PE (cxC X (bN Nx ts ix) scope b) elt (te b))
    (hNx:X.N=Nx) (ok:BlkOk Nx X.env.scope scope ix) (cl1:∀ x c,cl.lookup x=some c→X.env.cells.lookup x=some c) (cl2:∀ y∈scope.names,y.2=.free→∃ c,cl.lookup y.1=some c)
    (h2:PIE X pins σ target (fun J H1=>∀ b:Blk,∃ W:Nat→Nat→St→List V→Hp→Prop,(∃ m,W 0 m (bSt ts.length ix σ) [] H1)∧∀ i m τ ys H2,W i m τ ys H2 →
      (J.stop i H2∧∀ p v H',H2 p=none→v=V.ref p→H'=upd H2 p (.lst ys)→Q v H') ∨
      (J.go i H2∧ys.length < sizeLine∧∀ x H3,J.yld i H2 x H3→g b x τ H3 fun τ2 H4=>tc b τ2 H4 fun ok H4'=>if ok=true then te b τ2 H4' fun y H5=>∃ m',m' < m∧W (i+1) m' τ2 (ys++[y]) H5 else ∃ m',m' < m∧W (i+1) m' τ2 ys H4')) itv s2)
    (hR:∀ (D C:Addr) (H':Hp) (s':Shared) (v:V),Inv X pins σ H' s'→v=.ref D→Q v H'→(∃ m,s'.heap.Ns C m)→H' C=none→C≠X.env.locals→X.s₀.heap.objs.size≤C→(∀ x c,X.env.cells.lookup x=some c→c≠C)→(∀ p∈X.pn++pins,p.1≠C) →
      R (.ref D) C (.ok .next) s') :
    wpAny (model X.prog X.w) X.A (newList []) (fun acc s₃=>wpAny (model X.prog X.w) X.A (newFunctionEnv scope X.env.globals cl [] X.env.qual none .none (some X.env)) (fun cenv s₄ =>
      codeAny (model X.prog X.w) X.A (.compStart (.ListComp elt [⟨target,iter,[cnd],0⟩] scope pos) 0 itv acc { cenv with scope:=relabel scope X.env }) (R acc cenv.locals) s₄) E s₃) E s2:=by
  obtain ⟨it,fp,tn,J,H1,e,I2,T,st2,f2,q2⟩:=h2
  subst e
  refine wpAny_newObj_type (wpAny_compEnv ?_)
  dsimp only
  generalize hG:s2.heap.push { cls:=.type "list",dict:=none,data:=.seq ([]:List Value).toArray }=G
  have hGs:G.objs.size=s2.heap.objs.size+1:=by rw [← hG,Heap.size_push]
  have hfs:∀ b∈fp,b < s2.heap.objs.size:=fun b hb=>let ⟨o,e,_⟩:=T.obj _ _ st2 b hb; Heap.lt_size e
  have kpG:∀ b o,G.get? b=some o→(pushCells (G.push { cls:=.type "dict",data:=.dict #[] }) scope.names).get? b=some o:=fun b o e=>pushCells_keeps _ _ _ _ (Heap.get?_push_of_some _ e)
  have hns3:(pushCells (G.push { cls:=.type "dict",data:=.dict #[] }) scope.names).Ns G.objs.size (fun _=>none):=(Heap.Ns.new G (.type "dict")).keeps (pushCells_keeps _ _)
  obtain ⟨sp1,sp2,sp4,sp3⟩:=cells_spec scope.names (G.push { cls:=.type "dict",data:=.dict #[] }) cl
  rw [Heap.size_push] at sp1 sp2 sp3 sp4
  generalize hh3:pushCells (G.push { cls:=.type "dict",data:=.dict #[] }) scope.names=h3 at kpG hns3 sp1 ⊢
  have kp:∀ b o,s2.heap.get? b=some o→h3.get? b=some o:=fun b o e=>kpG b o (by rw [← hG]; exact Heap.get?_push_of_some _ e)
  have hD3:h3.get? s2.heap.objs.size=some { cls:=.type "list",data:=.seq ([]:List Value).toArray }:=kpG _ _ (by rw [← hG]; exact Heap.get?_push_size _ rfl)
  have clB:∀ x c,cl.lookup x=some c→c < G.objs.size+1:=fun x c e=>by
    obtain ⟨v,q⟩:=I2.cell x c (cl1 x c e)
    exact Nat.lt_succ_of_lt (Nat.lt_of_lt_of_le q.lt (by rw [hGs]; exact Nat.le_succ _))
  have csI:=sp3 clB fun x y c e1 e2=>I2.ok.inj x y c (cl1 x c e1) (cl1 y c e2)
  have cs1:∀ x c,(cellsFrom (G.objs.size+1) scope.names cl).lookup x=some c→X.env.cells.lookup x=some c∨(G.objs.size < c∧h3.IsCell c none∧(x,NameKind.cell)∈scope.names):=fun x c e=>by
    rcases sp1 x c e with z | ⟨z1,z2,z3⟩
    · exact .inl (cl1 x c z)
    · exact .inr ⟨by omega,z2,z3⟩
  have cs2:∀ y∈scope.names,(y.2=.free∨y.2=.cell)→∃ c,(cellsFrom (G.objs.size+1) scope.names cl).lookup y.1=some c:=fun y hy hk=>by
    refine sp2 y.1 ?_
    rcases hk with z | z
    · exact .inr (cl2 y hy z)
    · exact .inl (by rw [← z]; exact hy)
  have csA:∀ x c,(x,NameKind.cell)∈scope.names→(cellsFrom (G.objs.size+1) scope.names cl).lookup x=some c→G.objs.size≤c:=fun x c e1 e2=>Nat.le_of_succ_le (sp4 x c e1 e2)
  generalize hcs:cellsFrom (G.objs.size+1) scope.names cl=cs at csI cs1 cs2 csA ⊢
  generalize hCe:G.objs.size=C at hns3 cs1 csA ⊢
  have hC:s2.heap.objs.size≤C:=by omega
  have hDC:s2.heap.objs.size≠C:=by omega
  let B:Blk:=⟨cs,C,s2,H1,fp,X.pn++pins⟩
  have I3:Inv (cxC X (bN Nx ts ix) scope B) [] (bSt ts.length ix σ) H1 { s2 with heap:=h3 }:=inv_block I2 hNx ok cs1 csI cs2 csA f2 hfs hC kp hns3
  have fC:H1 s2.heap.objs.size=none:=I2.hok.fresh (Nat.le_refl _)
  have cellIn:∀ x c,cs.lookup x=some c→c≠s2.heap.objs.size:=fun x c e=>by
    rcases cs1 x c e with z | ⟨z,_,_⟩
    · obtain ⟨v,q⟩:=I2.cell x c z
      exact Nat.ne_of_lt q.lt
    · exact Nat.ne_of_gt (Nat.lt_of_le_of_lt hC z)
  have pinIn:∀ p∈X.pn++pins,p.1 < s2.heap.objs.size:=fun p hp=>Heap.lt_size (I2.pin p hp).1
  have nofrs:s2.heap.objs.size ∉ frs X.stack:=fun hb=>by
    rcases List.mem_cons.mp (I2.stkSub _ hb) with z | z
    · exact absurd I2.lt (by rw [← z]; exact Nat.lt_irrefl _)
    · exact I2.nofs (Nat.le_refl _) z
  -- a state with the list at its place,pinned
  have pinD:∀ {τ:St} {H':Hp} {s':Shared} {ob:Obj},Inv (cxC X (bN Nx ts ix) scope B) [] τ H' s'→s'.heap.get? s2.heap.objs.size=some ob→H' s2.heap.objs.size=none→(∀ v,ob.data≠.cell v)→Inv (cxC X (bN Nx ts ix) scope B) [(s2.heap.objs.size,ob)] τ H' s' :=
    fun {τ H' s' ob} I' ho hn hd=>I'.pins_of fun p hp=>by
      have e:p=(s2.heap.objs.size,ob):=by simpa using hp
      subst e
      exact ⟨ho,hn,hDC,nofrs,hd⟩
  obtain ⟨W,⟨m0,w0⟩,turn⟩:=q2 B
  have stat:∀ {H':Hp} {ob:Obj},(∀ b∈fp,H' b=none)→∀ b∈fp,FpOk (cxC X (bN Nx ts ix) scope B) [(s2.heap.objs.size,ob)] H' b:=fun {H' ob} hn b hb=>by
    refine ⟨hn b hb,Nat.ne_of_lt (Nat.lt_of_lt_of_le (hfs b hb) hC),fun z=>?_,.inl hb,fun x c e=>by
      rcases cs1 x c e with z | ⟨z,_,_⟩
      · exact (f2 b hb).2.2.2.2.1 x c z
      · exact Nat.ne_of_gt (Nat.lt_of_lt_of_le (hfs b hb) (Nat.le_trans hC (Nat.le_of_lt z))),fun p hp=>?_⟩
    · rcases List.mem_cons.mp (I2.stkSub _ z) with q | q
      · exact (f2 b hb).2.1 q
      · exact (f2 b hb).2.2.1 q
    · rcases List.mem_append.mp hp with z | z
      · exact (f2 b hb).2.2.2.2.2 p z
      · have e:p=(s2.heap.objs.size,ob):=by simpa using z
        subst e
        exact Nat.ne_of_gt (hfs b hb)
  have loop:∀ s4:Shared,s4={ s2 with heap:=h3 } →
      codeAny (model X.prog X.w) X.A (.compLoop (.ListComp elt [⟨target,iter,[cnd],0⟩] scope pos) 0 (.ref it) (.ref s2.heap.objs.size) (compEnvC scope cs C X.env)) (R (.ref s2.heap.objs.size) C) s4:=by
    rintro s4 rfl
    refine compLoop_runIf (fun k s'=>∃ i τ ys its n H',Inv (cxC X (bN Nx ts ix) scope B) [(s2.heap.objs.size,({ cls:=.type "list",data:=.seq (List.toArray its) n }:Obj))] τ H' s'∧tn i s'.heap∧(∀ b∈fp,H' b=none)∧Vals ys its∧ys.length≤sizeLine∧W i k τ ys H') ?_ m0
      ⟨0,_,[],[],_,H1,pinD I3 hD3 fC (fun v z=>by cases z),T.keep _ _ _ st2 fun b hb o e=>kp b o e,fun b hb=>(f2 b hb).1,.nil,Nat.zero_le _,w0⟩
    rintro k s5 ⟨i,τ,ys,its,n,H5,I5,st5,fr5,rv,hz,w5⟩
    rcases turn i k τ ys H5 w5 with ⟨stop,qn⟩ | ⟨go,hlt,step⟩
    · refine thn (T.done (cxC X (bN Nx ts ix) scope B) rfl rfl rfl hc i _ s5 τ H5 _ I5 (stat fr5) st5 stop) fun got s6 hz0=>?_
      obtain ⟨hr,I6⟩:=hz0
      subst hr
      obtain ⟨ho,hn,_,_,_⟩:=I6.pin (s2.heap.objs.size,({ cls:=.type "list",data:=.seq (List.toArray its) n }:Obj)) (List.mem_append_right _ (by simp))
      have I7:Inv X pins σ H5 s6:=I2.call' (ch:=fp) (H':=H5) (by exact I6.os) I6.base I6.hok I6.bare fun b hb=>⟨(f2 b hb).2.2.2.1,(f2 b hb).2.1,(f2 b hb).2.2.2.2.1,(f2 b hb).2.2.2.2.2⟩
      have hs0:X.s₀.heap.objs.size≤s2.heap.objs.size:=I2.sz
      have I8:=I7.track hn ho rv hz (Nat.ne_of_gt I2.lt) hs0 (fun x c e z=>by
        obtain ⟨v,q⟩:=I2.cell x c e
        exact absurd q.lt (by rw [z]; exact Nat.lt_irrefl _)) (fun p hp=>Nat.ne_of_lt (pinIn p hp))
      obtain ⟨m6,hm6,_⟩:=I6.loc
      refine hR _ C _ s6 _ I8 rfl (qn _ _ _ hn rfl rfl) ⟨m6,hm6⟩ ?_ (fun z=>?_) (Nat.le_trans hs0 hC) (fun x c e z=>?_) fun p hp=>Nat.ne_of_lt (Nat.lt_of_lt_of_le (pinIn p hp) hC)
      · rw [upd_ne (Ne.symm hDC)]
        exact I6.free
      · exact absurd (Nat.lt_of_lt_of_le I2.lt hC) (by rw [z]; exact Nat.lt_irrefl _)
      · obtain ⟨v,q⟩:=I2.cell x c e
        exact absurd (Nat.lt_of_lt_of_le q.lt hC) (by rw [z]; exact Nat.lt_irrefl _)
    · refine thn (T.item (cxC X (bN Nx ts ix) scope B) rfl rfl rfl hc i _ s5 τ H5 _ I5 (stat fr5) st5 go) fun got s6 hz0=>?_
      obtain ⟨u,hr,h6⟩:=hz0
      subst hr
      refine thn h6 fun _ s7 hz0=>?_
      obtain ⟨x,H7,I7,r7,y7,st7,fr7⟩:=hz0
      have I7':=I7.pinned (stat fr7) (T.obj _ _ st7)
      refine thn (hg B _ s7 τ H7 x u _ I7' r7 (step x H7 y7)) fun _ s8 hz0=>?_
      obtain ⟨τ8,H8,I8,q8⟩:=hz0
      refine thn (hcn B _ s8 τ8 H8 _ I8 q8) fun okk s8' hz0=>?_
      obtain ⟨H8',I8',q8'⟩:=hz0
      cases okk with
      | false =>
        obtain ⟨m',hm',w9⟩:=q8'
        obtain ⟨ho,hn,_,_,_⟩:=I8'.pin (s2.heap.objs.size,({ cls:=.type "list",data:=.seq (List.toArray its) n }:Obj)) (List.mem_append_right _ (List.mem_append_left _ (by simp)))
        have I9':Inv (cxC X (bN Nx ts ix) scope B) [] τ8 H8' s8':=I8'.pins_of fun p hp=>absurd hp (by simp)
        refine ⟨m',hm',i+1,τ8,ys,its,n,H8',pinD I9' ho hn (fun v z=>by cases z),?_,fun b hb=>?_,rv,hz,w9⟩
        · refine T.keep _ _ _ st7 fun b hb o e=>?_
          exact (I8'.pin (b,o) (List.mem_append_right _ (List.mem_append_right _ (mem_pinsAt hb e)))).1
        · obtain ⟨o,e,d⟩:=T.obj _ _ st7 b hb
          exact (I8'.pin (b,o) (List.mem_append_right _ (List.mem_append_right _ (mem_pinsAt hb e)))).2.1
      | true =>
      refine thn (he B _ s8' τ8 H8' _ I8' q8') fun y s9 hz0=>?_
      obtain ⟨vy,H9,I9,r9,m',hm',w9⟩:=hz0
      obtain ⟨ho,hn,_,_,_⟩:=I9.pin (s2.heap.objs.size,({ cls:=.type "list",data:=.seq (List.toArray its) n }:Obj)) (List.mem_append_right _ (List.mem_append_left _ (by simp)))
      have lenv:=rv.length
      refine wpAny_list_append_plain (l:=s2.heap.objs.size) ⟨n,ho⟩ (fun h' hpl hsb=>?_) (by rw [List.size_toArray]; omega)
      obtain ⟨n',ho'⟩:=hpl
      have eobj:(its.toArray.push y)=List.toArray (its++[y]):=by simp
      rw [eobj] at ho'
      have I9':Inv (cxC X (bN Nx ts ix) scope B) [] τ8 H9 s9:=I9.pins_of fun p hp=>absurd hp (by simp)
      have I10:Inv (cxC X (bN Nx ts ix) scope B) [] τ8 H9 { s9 with heap:=h' }:=I9'.turned (it:=s2.heap.objs.size) (t':=s9.toks) (fun b o hb e=>(hsb.2 b hb).trans e) hn hDC (.inr (Nat.le_refl _)) cellIn (fun p hp=>by
        have hp':p∈(X.pn++pins)++[]:=hp
        rw [List.append_nil] at hp'
        exact Nat.ne_of_lt (pinIn p hp'))
      refine ⟨m',hm',i+1,τ8,ys++[vy],its++[y],n',H9,pinD I10 ho' hn (fun v z=>by cases z),?_,fun b hb=>?_,rv.append (.cons r9 .nil),by rw [List.length_append]; show ys.length+1≤_; omega,w9⟩
      · refine T.keep _ _ _ st7 fun b hb o e=>?_
        have q:=(I9.pin (b,o) (List.mem_append_right _ (List.mem_append_right _ (mem_pinsAt hb e)))).1
        exact (hsb.2 b (Nat.ne_of_lt (hfs b hb))).trans q
      · obtain ⟨o,e,d⟩:=T.obj _ _ st7 b hb
        exact (I9.pin (b,o) (List.mem_append_right _ (List.mem_append_right _ (mem_pinsAt hb e)))).2.1
  exact codeAny_compStart_list (loop _ rfl) (T.self X.A 0 _ _ _ (T.keep _ _ _ st2 fun b hb o e=>kp b o e) (loop _ rfl))

theorem pe_lcif {elt target iter cnd:Expr} {scope:Scope} {pos:Pos} {wi:TI} {g:Blk→TG} {tc:Blk→TT} {te:Blk→TE} (Nx:List Str) (ts:List Str) (ix:List Nat)
    (hc:X.calm=true) (hi:PI X target iter wi) (hg:∀ b,PG (cxC X (bN Nx ts ix) scope b) target (g b)) (hcn:∀ b,PT (cxC X (bN Nx ts ix) scope b) cnd (tc b)) (he:∀ b,PE (cxC X (bN Nx ts ix) scope b) elt (te b))
    (hNx:X.N=Nx) (ok:BlkOk Nx X.env.scope scope ix) (hs:∀ x,foldedSetIterable iter X.env x=pure x:=by intro _; rfl) :
    PE X (.ListComp elt [⟨target,iter,[cnd],0⟩] scope pos) (tLcif wi ts.length ix g tc te):=by
  intro pins s σ H Q I h
  obtain ⟨cl,hcl,cl1,cl2⟩:=closure_of (scope:=scope) (env:=X.env) fun y hy hf=>I.ok.has y.1 (ok.frees y hy hf)
  rw [eval_ListComp]
  refine wpAny_comprehension_free (use:=none) rfl hs hcl ok.kind ok.locs (thn (hi pins s σ H _ I h) fun v s1 h1=>thn h1 fun itv s2 h2=>?_)
  refine lcif_block (R:=fun acc C=>compPost (model X.prog X.w) X.A X.xe none (EP X pins σ Q) acc C) hc hg hcn he hNx ok cl1 cl2 h2 ?_
  rintro D C H' s' v I' rfl q ⟨m,hm⟩ hn hL h0 hcl' hp
  exact ⟨m,hm,fun h' hsb=>⟨.ref D,H',I'.turned (it:=C) (t':=s'.toks) (fun b o hb e=>(hsb.2 b hb).trans e) hn hL (.inr h0) hcl' hp,rfl,q⟩⟩

end
section
variable {PK:Pk} {X:Cx} {e:Expr} {st:Stmt} {i:List Sl→Tr PyData} {is:List Sl→Tr (List PyData)} {p:List Sl→Tr Bool}
noncomputable def mapC (y:Option PyData) (ys:List PyData):Tr (List PyData):=.ret (match y with
  | some y=>y::ys
  | none=>ys)
noncomputable def mapO (h:PyData→Tr (Option PyData)):List PyData→Tr (List PyData)
  | []=>.ret []
  | x::xs=>(h x).bind fun y=>(mapO h xs).bind (mapC y)
noncomputable def ifE (p:List Sl→Tr Bool) (i:List Sl→Tr PyData) (τ:List Sl):Tr (Option PyData):=(p τ).bind fun ok=>if ok=true then (i τ).bind fun y=>.ret (some y) else .ret none
noncomputable def aLcif (is:List Sl→Tr (List PyData)) (n:Nat) (ix:List Nat) (g:PyData→List Sl→Option (List Sl)) (p:List Sl→Tr Bool) (el:List Sl→Tr PyData):List Sl→Tr (List PyData):=fun ρ =>
  (is ρ).bind fun xs=>if small xs.length=true then mapO (fun x=>(Tr.of (g x (blk n ix ρ))).bind (ifE p el)) xs else .fail
theorem lcif_read {n:Nat} {ix:List Nat} {g:PyData→List Sl→Option (List Sl)} (hn:PresN n g):∀ σ H Q,TAo PK (aLcif is n ix g p i) σ H Q→tLcif (TAi PK is) n ix (fun _=>TAg PK g) (fun _=>TAt PK p) (fun _=>TAe PK i) σ H Q:=by
  rintro σ H Q ⟨pa,G₀,H₀,m,ρ,G,R,z⟩
  refine ⟨pa,G₀,H₀,m,ρ,G,R,Tr.ok_mono (Tr.ok_bind.mp z) fun m1 xs k J G1 H1 s1 w1 jo=>fun B=>?_⟩
  obtain ⟨hs,k⟩:=ok_if k
  have hs:xs.length≤sizeLine:=of_decide_eq_true hs
  let el:PyData→Tr (Option PyData):=fun x=>(Tr.of (g x (blk n ix ρ))).bind (ifE p i)
  let W:Nat→Nat→St→List V→Hp→Prop:=fun k mm τ ys H2=>mm=xs.length - k∧k≤xs.length∧ys.length≤k∧∃ m G2 ds,Sub G1 G2∧Stp pa G H G2 H2∧Rl PK pa G₀ H₀ m τ (blk n ix ρ) G2 H2 ∧
    DnAll G2 ys ds∧(mapO el (xs.drop k)).ok m fun m' zs=>Ko1 PK pa m' G H (ds++zs) Q
  refine ⟨W,⟨xs.length,rfl,Nat.zero_le _,Nat.le_refl _,m1,G1,[],.refl,s1,(R.step s1 w1).blk n ix,.nil,k⟩,?_⟩
  rintro k mm τ ys H2 ⟨rfl,hk,hy,m2,G2,ds,sb,st2,R2,dn,k2⟩
  obtain ⟨j1,j2⟩:=jo m2 G2 H2 sb R2.wd
  by_cases hlt:k < xs.length
  · have hx:xs[k]?=some xs[k]:=by simp [hlt]
    obtain ⟨jg,jy⟩:=j1 k _ hx
    refine .inr ⟨jg,by omega,fun x H3 y=>?_⟩
    obtain ⟨G3,s3,w3,d3⟩:=jy x H3 y
    rw [List.drop_eq_getElem_cons hlt] at k2
    unfold mapO at k2
    rw [Tr.ok_bind,Tr.ok_bind] at k2
    obtain ⟨ρ3,hg3,k3⟩:=Tr.ok_of k2
    refine ⟨pa,G₀,H₀,m2,_,G3,_,ρ3,R2.step s3 w3,d3,hg3,fun τ4 R4=>?_⟩
    obtain ⟨pl,pk⟩:=hn _ _ _ hg3
    have hback:∀ (q:Nat) (sl:Sl),(blk n ix ρ)[q]?=some sl→sl=.un∨ρ3[q]?=some sl:=fun q sl hq=>by
      by_cases hqn:q < n
      · left
        unfold blk at hq
        rw [List.getElem?_append_left (by simpa using hqn),List.getElem?_replicate,if_pos hqn] at hq
        cases hq
        rfl
      · right
        rw [pk q (Nat.le_of_not_lt hqn)]
        exact hq
    unfold ifE at k3
    rw [Tr.ok_bind] at k3
    refine ⟨pa,G₀,H₀,m2,ρ3,G3,R4,Tr.ok_mono k3 fun m4 ok k4 G4 H4 s4 w4=>?_⟩
    have R4':=R4.step s4 w4
    have s34:=s3.trans s4 w3.some
    cases ok with
    | false =>
      have k4':((mapO el (xs.drop (k+1))).bind (mapC none)).ok m4 fun m' zs=>Ko1 PK pa m' G H (ds++zs) Q:=k4
      refine ⟨xs.length - (k+1),by omega,rfl,hlt,by omega,m4,G4,ds,sb.trans s34.gs,st2.trans s34 R2.wd.some,R4'.weak pl hback,DnAll.mono s34.gs dn,?_⟩
      exact Tr.ok_mono (Tr.ok_bind.mp k4') fun m6 zs k6=>k6
    | true =>
      have k4':((i ρ3).bind fun y=>.ret (some y)).ok m4 fun m' y=>((mapO el (xs.drop (k+1))).bind (mapC y)).ok m' fun m' zs=>Ko1 PK pa m' G H (ds++zs) Q:=k4
      rw [Tr.ok_bind] at k4'
      refine ⟨pa,G₀,H₀,m4,ρ3,G4,R4',Tr.ok_mono k4' fun m5 yd k5=>?_⟩
      intro v G5 H5 s5 w5 d5
      have s35:=s34.trans s5 w4.some
      refine ⟨xs.length - (k+1),by omega,rfl,hlt,by rw [List.length_append]; show ys.length+1≤_; omega,m5,G5,ds++[yd],sb.trans s35.gs,st2.trans s35 R2.wd.some,(R4'.step s5 w5).weak pl hback,(DnAll.mono s35.gs dn).snoc d5,?_⟩
      have k5':((mapO el (xs.drop (k+1))).bind (mapC (some yd))).ok m5 fun m' zs=>Ko1 PK pa m' G H (ds++zs) Q:=k5
      refine Tr.ok_mono (Tr.ok_bind.mp k5') fun m6 zs k6=>?_
      rw [List.append_assoc]
      exact k6
  · have e:k=xs.length:=by omega
    subst e
    refine .inl ⟨j2,fun p v H' hp ev eH=>?_⟩
    subst ev eH
    rw [List.drop_length] at k2
    have k2':Ko1 PK pa m2 G H (ds++[]) Q:=k2
    rw [List.append_nil] at k2'
    exact (Ko1.later k2' st2 R2.wd.some).new R2.wd dn hp
theorem ao_lcif {n:Nat} {ix:List Nat} {g:PyData→List Sl→Option (List Sl)} (h:PE X e (tLcif (TAi PK is) n ix (fun _=>TAg PK g) (fun _=>TAt PK p) (fun _=>TAe PK i))) (hn:PresN n g):PE X e (TAo PK (aLcif is n ix g p i)):=h.imp (lcif_read hn)
end
theorem BlkOk.leaf {Nx:List Str} {sc scope:Scope} (h1:scope.kind=.function) (h2:∀ y∈scope.names,y.2≠.cell∧y.2≠.free) (h3:∀ y∈scope.names,y.2=.local→scope.names.lookup y.1=some .local):BlkOk Nx sc scope [] :=
  ⟨h1,fun y hy z=>absurd z (h2 y hy).1,h3,fun y hy z=>absurd z (h2 y hy).2,fun j hj=>by cases hj⟩
end L2
set_option Elab.async false
set_option linter.all false
set_option maxRecDepth 100000
namespace L2
open PySem PySem.Spec PyProof.Rows
section
variable {X:Cx}
theorem draw_list {prog:Program} {w:World} {A:Around} {E:Value→Shared→Prop} {it t:Addr} {items:Array Value} (hne:t≠it):∀ (n i:Nat) (s:Shared) (Q:List Value→Shared→Prop),s.heap.IsListIter it t i→s.heap.IsList t items→i+n≤items.size →
    (∀ h',h'.IsListIter it t (i+n)→Heap.SameBut it s.heap h'→Q ((items.toList.drop i).take n) { s with heap:=h' })→wpAny (model prog w) A (draw (.ref it) n) Q E s
  | 0,i,s,Q,hit,_,_,hQ=>by
    show wpAny _ _ (pure []) Q E s
    exact wpAny_pure (by simpa using hQ s.heap hit (Heap.SameBut.refl ..))
  | n+1,i,s,Q,hit,ht,hle,hQ=>by
    have hlt:i < items.size:=by omega
    show wpAny _ _ (pyNext (.ref it) >>= _) Q E s
    refine wpAny_bind (wpAny_pyNext_list_item hit ht (x:=items[i]) (by simp [hlt]) fun h₁ hit₁ hs₁=>?_)
    refine wpAny_bind (wpAny_holding (draw_list hne n (i+1) _ _ hit₁ (ht.extBut hs₁.extBut hne) (by omega) fun h₂ hit₂ hs₂=>wpAny_pure ?_))
    have hd:items.toList.drop i=items[i]::items.toList.drop (i+1):=by simp [List.drop_eq_getElem_cons,hlt]
    have:=hQ h₂ (by rw [show i+(n+1)=i+1+n by omega]; exact hit₂) (hs₁.trans hs₂)
    rw [hd,List.take_succ_cons] at this
    exact this
theorem unpackItems_list {prog:Program} {w:World} {A:Around} {E:Value→Shared→Prop} {s:Shared} {t:Addr} {items:Array Value} {Q:List Value→Shared→Prop} (hh:A.handled=none) (ht:s.heap.IsList t items)
    (hQ:∀ h',Heap.ExtBut s.heap.objs.size s.heap h'→Q items.toList { s with heap:=h' }):wpAny (model prog w) A (unpackItems (.ref t) items.size none) Q E s:=by
  have hlt:t≠s.heap.objs.size:=by obtain ⟨o,ho,_⟩:=ht; exact Nat.ne_of_lt (Heap.lt_size ho)
  have push:∀ ob,(s.heap.push ob).IsList t items:=fun ob=>ht.at fun o e=>Heap.get?_push_of_some _ e
  unfold unpackItems
  refine wpAny_bind ?_
  · unfold notIterableAtAll
    refine wpAny_bind (wpAny_specialOf ht.typeIs PySem.F.slot_list_iter.lookup ?_)
    refine wpAny_pure ?_
    simp only [Bool.false_eq_true,if_false]
    refine wpAny_bind (wpAny_holding (wpAny_pyIter_list ht ?_))
    refine wpAny_bind (wpAny_holding (draw_list hlt items.size 0 _ _ ⟨_,Heap.get?_push_size _ rfl,rfl,rfl⟩ (push _) (by omega) fun h₁ hit₁ hs₁=>?_))
    have hall:List.take items.size (List.drop 0 items.toList)=items.toList:=by
      rw [List.drop_zero]; exact List.take_of_length_le (by simp)
    rw [hall]
    rw [if_neg (by simp)]
    have ht₁:h₁.IsList t items:=(push _).extBut hs₁.extBut hlt
    refine wpAny_bind (wpAny_holding (wpAny_pyNext_list_end hh hit₁ ht₁ (by simp) fun h₂ he₂=>?_))
    simp only [Option.isSome_none,Bool.false_eq_true,if_false]
    refine wpAny_pure (hQ h₂ fun b o hb e=>he₂ b o hb (hs₁.extBut b o hb (Heap.get?_push_of_some _ e)))
theorem assign_Tuple_list {prog:Program} {w:World} {A:Around} {E:Value→Shared→Prop} {s:Shared} {env:Env} {elts:List Expr} {x1} {pos:Pos} {t:Addr} {items:Array Value} {Q:Unit→Shared→Prop} (hh:A.handled=none) (ht:s.heap.IsList t items)
    (hn:(assignEach elts env).length=items.size) (hstar:(assignEach elts env).findIdx? (·.1)=none)
    (h:∀ h',Heap.ExtBut s.heap.objs.size s.heap h'→wpAny (model prog w) A (assignInOrder ((assignEach elts env).map (·.2)) items.toList) Q E { s with heap:=h' }) :
    wpAny (model prog w) A (assign (.Tuple elts x1 pos) env (.ref t)) Q E s:=by
  rw [arm_assign_Tuple]
  refine wpAny_bind (wpAny_standAt ?_)
  unfold unpack
  rw [hn,hstar]
  exact wpAny_bind (wpAny_holding (unpackItems_list hh ht h))
noncomputable def gLst (n:Nat) (t:TGs):TG:=fun v σ H Q=>∃ a xs,v=.ref a∧H a=some (.lst xs)∧xs.length=n∧t xs σ H Q
theorem pg_lst {es:List Expr} {k:Nat} {t:TGs} {n:Nat} {pos:Pos} (hc:X.calm=true) (h:PGs X es t)
    (hn:(assignEach es X.env).length=n:=by rfl) (hst:(assignEach es X.env).findIdx? (·.1)=none:=by rfl):PG X (.Tuple es k pos) (gLst n t):=by
  intro pins s σ H v u Q I r hw
  obtain ⟨a,xs,e1,hq,hl,hw⟩:=hw
  subst e1
  cases r
  obtain ⟨its,rv,ht⟩:=sqAt_of I.hok (b:=true) hq
  have ht':s.heap.IsList a its.toArray:=ht
  refine assign_Tuple_list (I.ok.hd hc) ht' (by simp [hn,← hl,rv.length]) hst fun h' hx=>?_
  have I1:Inv X pins σ H { s with heap:=h' }:=I.kept (t':=s.toks) fun b o e=>hx b o (Nat.ne_of_lt (Heap.lt_size e)) e
  exact h pins _ σ H xs _ Q I1 (by simpa using rv) hw
noncomputable def gLstD (gs:List PyData→List Sl→Option (List Sl)) (x:PyData) (ρ:List Sl):Option (List Sl):=match x with
  | .list xs=>gs xs ρ
  | _=>none
theorem ag_lst {PK:Pk} {es:List Expr} {pos:Pos} {k:Nat} {gs:List PyData→List Sl→Option (List Sl)} {n:Nat} (hc:X.calm=true) (h:PGs X es (TAgs PK gs)) (hl:gsLen n gs)
    (hn:(assignEach es X.env).length=n:=by rfl) (hst:(assignEach es X.env).findIdx? (·.1)=none:=by rfl):PG X (.Tuple es k pos) (TAg PK (gLstD gs)):=(pg_lst hc h hn hst).imp fun v σ H Q hz0=>by
  obtain ⟨pa,G₀,H₀,m,ρ,G,x,ρ',R,d,e,q⟩:=hz0
  cases d with
  | lst h1 h2=>exact ⟨_,_,rfl,R.wd.sub _ _ h1,by rw [h2.length]; exact hl _ _ _ e,pa,G₀,H₀,m,ρ,G,_,ρ',R,h2,e,q⟩
  | _=>cases e
section
variable {ρ:List Sl} {is:List Sl→Tr (List PyData)} {n:Nat} {i:List Sl→Tr PyData} {p:List Sl→Tr Bool} {xs:List PyData} {x:PyData}
noncomputable def lci2 (g:PyData→List Sl→Option (List Sl)) (p:List Sl→Tr Bool) (el:List Sl→Tr PyData) (τ:List Sl) (x:PyData):Tr (Option PyData):=(Tr.of (g x τ)).bind (ifE p el)
noncomputable def lci1 (n:Nat) (ix:List Nat) (g:PyData→List Sl→Option (List Sl)) (p:List Sl→Tr Bool) (el:List Sl→Tr PyData) (ρ:List Sl) (xs:List PyData):Tr (List PyData):=if small xs.length=true then mapO (lci2 g p el (blk n ix ρ)) xs else .fail
theorem ev_lcif {ix:List Nat} {g:PyData→List Sl→Option (List Sl)}:aLcif is n ix g p i ρ=(is ρ).bind (lci1 n ix g p i ρ):=rfl
theorem ev_lci1 {ix:List Nat} {g:PyData→List Sl→Option (List Sl)} (h:small xs.length=true):lci1 n ix g p i ρ xs=mapO (lci2 g p i (blk n ix ρ)) xs:=by unfold lci1; rw [if_pos h]
theorem ev_lci2 {τ:List Sl} {g:PyData→List Sl→Option (List Sl)}:lci2 g p i τ x=(Tr.of (g x τ)).bind (ifE p i):=rfl
noncomputable def if3 (y:PyData):Tr (Option PyData):=.ret (some y)
noncomputable def if2 (i:List Sl→Tr PyData) (τ:List Sl) (b:Bool):Tr (Option PyData):=if b=true then (i τ).bind if3 else .ret none
theorem ev_ifE {τ:List Sl}:ifE p i τ=(p τ).bind (if2 i τ):=rfl
theorem ev_if2t {τ:List Sl}:if2 i τ true=(i τ).bind if3:=rfl
theorem ev_if2f {τ:List Sl}:if2 i τ false=.ret none:=rfl
theorem ev_if3:if3 x=.ret (some x):=rfl
end
end
end L2
set_option Elab.async false
set_option linter.all false
set_option maxRecDepth 100000
namespace L2
open PySem PySem.Spec PyProof.Rows
section
variable {PK:Pk} {X:Cx} {e:Expr} {as:List Sl→Tr (List Sl)}
noncomputable def slD:List Sl→Option (List PyData)
  | []=>some []
  | .d x::r=>(slD r).bind fun xs=>some (x::xs)
  | _=>none
theorem ArsOk.slD {pa:Addr} {G:Hp} {vs:List V} {ss:List Sl} {ds:List PyData} (a:ArsOk pa G vs ss) (h:L2.slD ss=some ds):DnAll G vs ds:=by
  induction a generalizing ds with
  | nil=>cases h; exact .nil
  | cons h0 t ih =>
    cases h0 with
    | d h1 =>
      unfold L2.slD at h
      cases e:L2.slD _ with
      | none=>rw [e] at h; cases h
      | some xs =>
        rw [e] at h
        cases h
        exact .cons h1 (ih e)
    | pen=>cases h
noncomputable def fl1 (d:PyData):Tr PyData:=if flatD d=true then .ret d else .fail
noncomputable def aCBF (f:List PyData→Option PyData) (as:List Sl→Tr (List Sl)):List Sl→Tr PyData:=fun ρ=>(as ρ).bind fun ss=>(Tr.of ((slD ss).bind f)).bind fl1
theorem ae_cbF {r:List V→Hp→VK→Prop} {f:List PyData→Option PyData} (L:PkLow PK) (h:PE X e (tCB r (TAb PK as))) (hv:VCl r f):PE X e (TAe PK (aCBF f as)):=h.imp fun σ H Q hz0=>by
  obtain ⟨pa,G₀,H₀,m,ρ,G,R,z⟩:=hz0
  refine TAb.then R z fun m1 ss vs G1 H1 s1 w1 R1 d1 q1=>?_
  obtain ⟨d,hd,q1⟩:=Tr.ok_of (Tr.ok_bind.mp q1)
  obtain ⟨G2,s2,w2,d2⟩:=ArsB.ok (fun _ _ h=>h) w1 d1
  cases e:slD ss with
  | none=>rw [e] at hd; cases hd
  | some ds =>
    rw [e] at hd
    unfold fl1 at q1
    obtain ⟨hf,k⟩:=ok_if (c:=flatD d) q1
    refine hv PK pa m1 G2 H1 vs ds d Q w2 (ArsOk.slD d2 e) hd ?_
    intro v G3 H3 s3 w3 d3
    have s13:Stp pa G1 H1 G1 H3:=⟨fun _ _ h=>h,fun _ _ h=>.inl h,s3.hk⟩
    obtain ⟨o1,e1,p1⟩:=w1.pen
    obtain ⟨o3,e3,p3⟩:=w3.pen
    have w13:Wd PK pa m1 G1 H3:=⟨fun b o h=>s3.hk b o (w1.sub b o h) (fun z=>by subst z; rw [w1.gpa] at h; cases h),w1.gpa,o3,e3,L.low p1 (s2.trans s3.gs) p3⟩
    exact k v G1 H3 (s1.trans s13 w1.some) w13 (Dn.flat_any d3 hf)
end
section
variable {ρ:List Sl} {as:List Sl→Tr (List Sl)} {f:List PyData→Option PyData} {x:PyData} {xs:List PyData} {i j:List Sl→Tr PyData} {k:Nat} {p:List Sl→Tr Bool} {s:List Sl→Tr Ou}
noncomputable def cbf2 (f:List PyData→Option PyData) (ss:List Sl):Tr PyData:=(Tr.of ((slD ss).bind f)).bind fl1
theorem ev_cbF:aCBF f as ρ=(as ρ).bind (cbf2 f):=rfl
theorem ev_cbf1:cbf2 f [.d x]=(cb1 f [x]).bind fl1:=rfl
theorem ev_fl1I (n:Int):fl1 (.int n)=.ret (.int n):=rfl
noncomputable def six3 (k:Nat) (ρ:List Sl) (x:PyData) (xs:List PyData):PyData→Tr Ou
  | .int y=>(Tr.of (ixN xs.length y)).bind fun t=>.ret (.next (ρ.set k (.own (xs.set t x))))
  | _=>.fail
noncomputable def six2 (k:Nat) (n:List Sl→Tr PyData) (ρ:List Sl) (x:PyData) (xs:List PyData):Tr Ou:=(n ρ).bind (six3 k ρ x xs)
noncomputable def six1 (k:Nat) (n:List Sl→Tr PyData) (ρ:List Sl) (x:PyData):Tr Ou:=(ownAt k ρ).bind (six2 k n ρ x)
theorem ev_six:aSetIx k j i ρ=(i ρ).bind (six1 k j ρ):=by
  unfold aSetIx
  refine congrArg (Tr.bind (i ρ)) (funext fun x=>?_)
  rw [six1,← own_eq k ρ]
  cases ρ[k]? with
  | none=>rfl
  | some sl =>
    cases sl with
    | own xs =>
      show ((j ρ).bind _:Tr Ou)=(j ρ).bind (six3 k ρ x xs)
      refine congrArg (Tr.bind (j ρ)) (funext fun y=>?_)
      cases y <;> rfl
    | _=>rfl
theorem ev_six1 {n:List Sl→Tr PyData}:six1 k n ρ x=(ownAt k ρ).bind (six2 k n ρ x):=rfl
theorem ev_six2 {n:List Sl→Tr PyData}:six2 k n ρ x xs=(n ρ).bind (six3 k ρ x xs):=rfl
theorem ev_six3 {y:Int} {t:Nat} (h:ixN xs.length y=some t):six3 k ρ x xs (.int y)=.ret (.next (ρ.set k (.own (xs.set t x)))):=by
  simp only [six3,h]
  rfl
end
end L2
set_option Elab.async false
set_option linter.all false
set_option maxRecDepth 100000
namespace L2
open PySem PySem.Spec PyProof.Rows
open AutoSeq1 (wpAny_loadPart')
noncomputable def Itd (hi:Int) (n:Nat):It:=⟨fun i _=>i < n,fun i H x H'=>H'=H∧x=.int (hi - i),fun i _=>n≤i⟩
theorem turn_ranged {P:Program} {w:World} {K:PySem.W.Frag} {tg:Expr} (it:Addr) (hi:Int) (n:Nat):Turn P w K tg (Itd hi n) [it] it (fun i h=>IsRangeIter h it (hi+(i:Nat) * (-1)) ((n:Int) - (i:Nat)) (-1)) where
  mem:=by simp
  obj:=fun i h st b hb=>by
    have e:b=it:=by simpa using hb
    subst e
    exact ⟨_,st,fun v z=>by
      have z':Data.fields _=Data.cell v:=z
      cases z'⟩
  keep:=fun i h h' st k=>k it (by simp) _ st
  item:=by
    intro X hP hw hK hc i pins s σ H E I hf st hg
    subst hP hw hK
    obtain ⟨f0,f1,f2,f3,f4,f5⟩:=hf it (by simp)
    have W:=Walks.range (prog:=X.prog) (w:=X.w) (I.ok.hd hc) it hi (-1) n
    refine W.item i s _ _ hg st fun v h' tk hv st' kk=>?_
    obtain ⟨t,rfl⟩:=hv
    have I1:Inv X pins σ H { s with heap:=h',toks:=tk }:=I.turned (fun b o hb e=>kk b o (by simpa using hb) e) f0 f1 f3 f4 f5
    refine ⟨_,rfl,go_of (s:={ s with heap:=h',toks:=tk }) (n:="range_iterator") st' rfl rfl (by decide) ⟨.int (hi - i),H,I1,⟨t,?_⟩,⟨rfl,rfl⟩,st',fun b hb=>(hf b hb).1⟩⟩
    have e:hi+(i:Int) * -1=hi - i:=by omega
    rw [e]
  done:=by
    intro X hP hw hK hc i pins s σ H E I hf st hg
    subst hP hw hK
    obtain ⟨f0,f1,f2,f3,f4,f5⟩:=hf it (by simp)
    exact wpAny_pyNext_range_end (I.ok.hd hc) st (by have:n≤i:=hg; omega) fun h' eb=>⟨rfl,I.turned (t':=s.toks) (fun b o hb e=>eb b o hb e) f0 f1 f3 f4 f5⟩
  self:=fun _ _ _ _ _ st h=>wpAny_pyIter_rangeiter st h

theorem meets_rrev (r:Addr) (a b c:Int) (t u v:Tok) (hs:¬ (!(Builtin.Range.rangeFitsLong a && Builtin.Range.rangeFitsLong b && Builtin.Range.rangeFitsLong c && Builtin.Range.rangeFitsLong (-c) && Builtin.Range.rangeFitsLong (a - c) && Builtin.Range.rangeFitsLong (Builtin.Range.rangeSize a b c)))=true) :
    Meets (Builtin.«range.__reversed__» ⟨[.ref r],[]⟩) (fun _ R s=>s.heap.get? r=some { cls:=.type "range",dict:=none,data:=.fields #[.int a t,.int b u,.int c v],slots:=#[] } ∧
      R (.ok (.ret (.ref s.heap.objs.size))) { s with heap:=s.heap.push { cls:=.type "range_iterator",data:=.fields #[rawInt (a+(Builtin.Range.rangeSize a b c - 1) * c),rawInt (Builtin.Range.rangeSize a b c),rawInt (-c)] },toks:=s.toks }) :=
  .of_wp fun prog w A R s h=>by
    obtain ⟨hp,g,d,tk,os⟩:=s
    obtain ⟨hl,h⟩:=h
    have hs':=hs
    rw [Bool.not_eq_true',Bool.not_eq_false] at hs'
    wp_walk
    rw [if_pos hs']
    exact ⟨_,rfl,h⟩
theorem fitsLong_of {n:Int} (h1:-(2 ^ 63)≤n) (h2:n < 2 ^ 63):Builtin.Range.rangeFitsLong n=true:=by
  unfold Builtin.Range.rangeFitsLong
  simp
  omega
section
variable {prog:Program} {w:World} {A:Around} {E:Value→Shared→Prop} {s:Shared}
theorem code_rrev {r:Addr} {a b:Int} {t u v:Tok} {Q₁:Value→Shared→Prop} (hr:IsRange s.heap r a b 1 t u v) (ha:-(2 ^ 62)≤a) (ha':a < 2 ^ 62) (hb:-(2 ^ 62)≤b) (hb':b < 2 ^ 62)
    (h:Q₁ (.ref s.heap.objs.size) { s with heap:=s.heap.push { cls:=.type "range_iterator",data:=.fields #[rawInt (a+(Builtin.Range.rangeSize a b 1 - 1) * 1),rawInt (Builtin.Range.rangeSize a b 1),rawInt (-1)] } }) :
    codeAny (model prog w) A (.call (.builtin "reversed.__new__") ⟨[.type "reversed",.ref r],[]⟩) (wants Q₁ E) s:=by
  have hT:s.TypeIs (.ref r) "range":=⟨_,hr,rfl⟩
  refine codeAny_of_tree ?_
  show wpAny _ A.in1 (do checkBuiltinCall "reversed.__new__" ⟨[.type "reversed",.ref r],[]⟩; again (.builtin "reversed.__new__" ⟨[.type "reversed",.ref r],[]⟩)) _ _ s
  refine wpAny_bind (wpAny_of_eq (F.newCall_reversed_1 _) (wpAny_pure ⟨plainId_quiet F.plain_reversed_new _,codeAny_builtin F.entry_reversed_new ?_⟩))
  rw [Around.under_plainId F.plain_reversed_new _]
  unfold Builtin.«reversed.__new__»
  refine wpAny_bind (wpAny_of_eq (newClass_reversed _) ?_)
  try dsimp only
  refine wpAny_bind (wpAny_of_eq (a:=()) (by first | rfl | kernel_rfl) ?_)
  refine wpAny_bind (wpAny_of_eq (a:=()) (by first | rfl | kernel_rfl) ?_)
  try dsimp only
  refine wpAny_bind (wpAny_specialOf hT F.slot_range_reversed.lookup ?_)
  try dsimp only
  refine wpAny_bind (wpAny_of_eq (F.slot_range_reversed.bind _) ?_)
  try dsimp only
  first
  | rw [if_neg (show ¬ ((Value.builtin "range.__reversed__" == Value.none)=true) from Bool.false_ne_true)]
  | (show wpAny _ _ (if (Value.builtin "range.__reversed__" == Value.none)=true then _ else _) _ _ _; rw [if_neg (show ¬ ((Value.builtin "range.__reversed__" == Value.none)=true) from Bool.false_ne_true)])
  refine wpAny_bind (wpAny_rule ?_)
  have hsz:Builtin.Range.rangeSize a b 1=if a < b then b - a else 0:=rangeSize_one a b
  refine wpAny_bind (m:=runValue (.call (.builtin "range.__reversed__") ⟨[.ref r],[]⟩)) (show wpAny _ _ (call (.builtin "range.__reversed__") [.ref r]) _ _ _ from
    call_meets F.slot_range_reversed hT F.entry_range_reversed (F.args_range_reversed_1 _) (meets_rrev r a b 1 t u v ?_) ⟨hr,?_⟩)
  · rw [Bool.not_eq_true',Bool.not_eq_false,fitsLong_of (by omega) (by omega),fitsLong_of (by omega) (by omega),fitsLong_of (by decide) (by decide),fitsLong_of (by decide) (by decide),fitsLong_of (n:=a - 1) (by omega) (by omega),fitsLong_of (n:=Builtin.Range.rangeSize a b 1) (by rw [hsz]; split <;> omega) (by rw [hsz]; split <;> omega)]
    rfl
  · first
    | exact wpAny_pure h
    | exact wpAny_bind (wpAny_pure (wpAny_pure h))
theorem sub_ri_reversed:isSubtype (.type "range_iterator") (.type "reversed")=pure false:=by rw [isSubtype_type]; kernel_rfl
theorem call_rrev {r:Addr} {a b:Int} {t u v:Tok} {Q:Value→Shared→Prop} (hr:IsRange s.heap r a b 1 t u v) (ha:-(2 ^ 62)≤a) (ha':a < 2 ^ 62) (hb:-(2 ^ 62)≤b) (hb':b < 2 ^ 62)
    (h:Q (.ref s.heap.objs.size) { s with heap:=s.heap.push { cls:=.type "range_iterator",data:=.fields #[rawInt (a+(Builtin.Range.rangeSize a b 1 - 1) * 1),rawInt (Builtin.Range.rangeSize a b 1),rawInt (-1)] } }):wpAny (model prog w) A (call (.type "reversed") [.ref r]) Q E s:=by
  refine callType_other (U:="range_iterator") (Q₁:=fun obj s₁=>obj=.ref s.heap.objs.size∧s₁={ s with heap:=s.heap.push { cls:=.type "range_iterator",data:=.fields #[rawInt (a+(Builtin.Range.rangeSize a b 1 - 1) * 1),rawInt (Builtin.Range.rangeSize a b 1),rawInt (-1)] } }) (by decide +kernel) F.create_reversed ⟨_,_,F.mro_reversed⟩ F.made_reversed sub_ri_reversed (F.typeCall_reversed_1 _) (code_rrev hr ha ha' hb hb' ⟨rfl,rfl⟩) ?_
  rintro obj s₁ ⟨rfl,rfl⟩
  exact ⟨⟨_,Heap.get?_push_size _ rfl,rfl⟩,h⟩
end
theorem owner_rev:Manifest.owners.lookup (String.ofList ['d','e','s','r','e','v','e','r'].reverse)=some Manifest.sig_reversed:=by kernel_rfl
theorem slot_rev_init:Slot "reversed" "__init__" "object.__init__" :=
  .of (owner:="object") (n:="__init__") (by rw [typeLookup_type,builtinLookup_eq_fast]; kernel_rfl) (by decide +kernel) (by decide +kernel) (by decide +kernel)
    (by first | exact .inl (by decide +kernel) | exact .inr (by decide +kernel)) (by rw [isSubtype_type]; kernel_rfl)
theorem slot_rev_next:Slot "reversed" "__next__" "reversed.__next__" :=
  .of (owner:="reversed") (n:="__next__") (by rw [typeLookup_type,builtinLookup_eq_fast]; kernel_rfl) (by decide +kernel) (by decide +kernel) (by decide +kernel)
    (by first | exact .inl (by decide +kernel) | exact .inr (by decide +kernel)) (by rw [isSubtype_type]; kernel_rfl)
theorem entry_rev_next:entryFor table "reversed.__next__"=some Builtin.«reversed.__next__»:=entryFor_of_tree (by kernel_rfl)
theorem args_rev_next_1 (a:Value):argsOk "reversed.__next__" ⟨[a],[]⟩:=by
  unfold argsOk; rw [signature?_of (id:="reversed.__next__") (n:=['_','_','t','x','e','n','_','_']) (o:=['d','e','s','r','e','v','e','r']) (by kernel_rfl) owner_rev]; kernel_rfl
theorem slot_rev_iter:Slot "reversed" "__iter__" "reversed.__iter__" :=
  .of (owner:="reversed") (n:="__iter__") (by rw [typeLookup_type,builtinLookup_eq_fast]; kernel_rfl) (by decide +kernel) (by decide +kernel) (by decide +kernel)
    (by first | exact .inl (by decide +kernel) | exact .inr (by decide +kernel)) (by rw [isSubtype_type]; kernel_rfl)
theorem args_rev_iter_1 (a:Value):argsOk "reversed.__iter__" ⟨[a],[]⟩:=by
  unfold argsOk; rw [signature?_of (id:="reversed.__iter__") (n:=['_','_','r','e','t','i','_','_']) (o:=['d','e','s','r','e','v','e','r']) (by kernel_rfl) owner_rev]; kernel_rfl
theorem entry_rev_iter:entryFor table "reversed.__iter__"=some Builtin.«dict_keyiterator.__iter__» :=
  entryFor_alias (id':="dict_keyiterator.__iter__") (by kernel_rfl) (by first | rfl | decide +kernel | (unfold String.splitOn; simp +decide [String.splitOnAux])) (by decide +kernel) (by kernel_rfl)
theorem called_rev:TypeCalled "reversed" "reversed.__new__" "object.__init__" :=
  ⟨by decide +kernel,by decide +kernel,⟨_,_,F.mro_reversed⟩,F.made_reversed,by decide +kernel,by rw [isSubtype_type]; kernel_rfl,slot_rev_init⟩
theorem notup_reversed:typeLookup (.type "tuple") "__reversed__"=pure none:=by rw [typeLookup_type,builtinLookup_eq_fast]; kernel_rfl
theorem meets_trev (l:Addr) (items:Array Value) (hfit:(items.size:Int) < 2 ^ 63) :
    Meets (Builtin.«reversed.__new__» ⟨[.type "reversed",.ref l],[]⟩) (fun _ R s=>IsTup s.heap l items ∧
      R (.ok (.ret (.ref s.heap.objs.size))) { s with heap:=s.heap.push { cls:=.type "reversed",data:=.fields #[.ref l,rawInt ((items.size:Int) - 1)] },toks:=s.toks+1+1 }) :=
  .of_wp fun prog w A R s h=>by
    obtain ⟨hp,g,d,tk,os⟩:=s
    obtain ⟨hl,h⟩:=h
    have hl':(Shared.mk hp g d tk os).heap.IsTuple l items:=hl
    unfold Builtin.«reversed.__new__»
    refine wpAny_bind (wpAny_of_eq (newClass_reversed _) ?_)
    try dsimp only
    refine wpAny_bind (wpAny_of_eq (a:=()) (by first | rfl | kernel_rfl) ?_)
    refine wpAny_bind (wpAny_of_eq (a:=()) (by first | rfl | kernel_rfl) ?_)
    try dsimp only
    refine wpAny_bind (wpAny_specialOf hl'.typeIs notup_reversed ?_)
    try dsimp only
    refine wpAny_bind ?_
    show wpAny _ _ (isInstance (Value.ref l) (.type "dict") >>= _) _ _ _
    refine wpAny_bind (wpAny_isInstance (T:="tuple") (b:=false) hl'.typeIs (by rw [isSubtype_type]; kernel_rfl) ?_)
    show wpAny _ _ (specialOf (Value.ref l) "__getitem__" >>= _) _ _ _
    refine wpAny_bind (wpAny_specialOf hl'.typeIs F.slot_tuple_getitem.lookup ?_)
    refine wpAny_pure ?_
    show wpAny _ _ (call (Value.builtin "len") [Value.ref l] >>= _) _ _ _
    refine wpAny_bind (len_tuple hl hfit ?_)
    refine wpAny_bind (wpAny_of_eq (a:=some (items.size:Int)) rfl ?_)
    show wpAny _ _ (newObj (.type "reversed") (.fields #[.ref l,rawInt ((items.size:Int) - 1)]) >>= _) _ _ _
    refine wpAny_bind (wpAny_newObj_type ?_)
    exact wpAny_pure ⟨_,rfl,h⟩
noncomputable def IsTRev (h:Heap) (a l:Addr) (i:Int):Prop:=∃ o,h.get? a=some o∧o.cls=.type "reversed"∧o.data=.fields #[.ref l,rawInt i]
theorem IsTRev.at {h h':Heap} {a l:Addr} {i:Int} (x:IsTRev h a l i) (e:∀ o,h.get? a=some o→h'.get? a=some o):IsTRev h' a l i:=let ⟨o,ho,r⟩:=x; ⟨o,e _ ho,r⟩
section
variable {prog:Program} {w:World} {A:Around} {E:Value→Shared→Prop} {s:Shared}
theorem call_trev {l:Addr} {items:Array Value} {Q:Value→Shared→Prop} (hl:IsTup s.heap l items) (hfit:(items.size:Int) < 2 ^ 63)
    (h:Q (.ref s.heap.objs.size) { s with heap:=s.heap.push { cls:=.type "reversed",data:=.fields #[.ref l,rawInt ((items.size:Int) - 1)] },toks:=s.toks+1+1 }) :
    wpAny (model prog w) A (call (.type "reversed") [.ref l]) Q E s :=
  callType_new called_rev (by decide) (F.typeCall_reversed_1 _) (F.newCall_reversed_1 _) (fun obj=>F.args_object_init_2 obj _) F.entry_reversed_new (meets_trev l items hfit) ⟨hl,⟨_,Heap.get?_push_size _ rfl,rfl⟩,h⟩
theorem pyNext_trev_item {it l:Addr} {i:Nat} {items:Array Value} {x:Value} {Q:Option Value→Shared→Prop} (hit:IsTRev s.heap it l (i:Int)) (hl:IsTup s.heap l items) (hne:l≠it) (hx:items[i]?=some x) (hfit:(items.size:Int) < 2 ^ 63)
    (hQ:∀ h',IsTRev h' it l ((i:Int) - 1)→Heap.SameBut it s.heap h'→Q (some x) { s with heap:=h',toks:=s.toks+1 }):wpAny (model prog w) A (pyNext (.ref it)) Q E s:=by
  obtain ⟨o,ho,hc,hd⟩:=id hit
  have hT:s.TypeIs (.ref it) "reversed":=⟨o,ho,hc⟩
  have hl':s.heap.IsTuple l items:=hl
  have hlt:i < items.size:=(Array.getElem?_eq_some_iff.mp hx).1
  unfold pyNext
  refine wpAny_bind (wpAny_attempt (wpAny_callSpecial?_slot (name:=Str.ofString "__next__") hT slot_rev_next
    (wpAny_call_entry slot_rev_next hT entry_rev_next ?_ (args_rev_next_1 _))))
  unfold Builtin.«reversed.__next__»
  refine wpAny_bind (wpAny_of_eq (a:=(Value.ref it,[])) rfl ?_)
  try dsimp only
  refine wpAny_bind (wpAny_field ho hd (x:=.ref l) rfl ?_)
  refine wpAny_bind (wpAny_field ho hd (x:=rawInt (i:Int)) rfl ?_)
  show wpAny _ _ (if (i:Int) < 0 then _ else _) _ _ s
  rw [if_neg (by omega)]
  refine wpAny_bind (wpAny_specialOf hl'.typeIs F.slot_tuple_getitem.lookup ?_)
  show wpAny _ _ (mkInt (i:Int) >>= _) _ _ s
  refine wpAny_bind (wpAny_mkInt ?_)
  refine wpAny_bind (wpAny_attempt (getItem_tuple (j:=i) (x:=x) hl (by omega) (by omega) ?_ hx ?_))
  · unfold seqIndex?
    simp
    omega
  · dsimp only
    refine wpAny_bind (wpAny_field ho hd (x:=rawInt (i:Int)) rfl ?_)
    show wpAny _ _ (setField (.ref it) 1 (rawInt ((i:Int) - 1)) >>= _) _ _ _
    refine wpAny_bind (wpAny_setField ho hd (by simp) ?_)
    refine wpAny_pure ⟨x,rfl,wpAny_pure (hQ _ ?_ (Heap.SameBut.update ..))⟩
    exact ⟨_,Heap.get?_update_self _ ho (Obj.isFreed_of_fields (Obj.data_mapFields hd _)),(Obj.cls_mapFields ..).trans hc,by
      rw [Obj.data_mapFields hd]; simp⟩
theorem pyNext_trev_end {it l:Addr} {Q:Option Value→Shared→Prop} (hh:A.handled=none) (hit:IsTRev s.heap it l (-1))
    (hQ:∀ h',Heap.ExtBut it s.heap h'→Q none { s with heap:=h' }):wpAny (model prog w) A (pyNext (.ref it)) Q E s:=by
  obtain ⟨o,ho,hc,hd⟩:=id hit
  have hT:s.TypeIs (.ref it) "reversed":=⟨o,ho,hc⟩
  unfold pyNext
  refine wpAny_bind (wpAny_attempt (wpAny_callSpecial?_slot (name:=Str.ofString "__next__") hT slot_rev_next
    (wpAny_call_entry slot_rev_next hT entry_rev_next ?_ (args_rev_next_1 _))))
  unfold Builtin.«reversed.__next__»
  refine wpAny_bind (wpAny_of_eq (a:=(Value.ref it,[])) rfl ?_)
  try dsimp only
  refine wpAny_bind (wpAny_field ho hd (x:=.ref l) rfl ?_)
  refine wpAny_bind (wpAny_field ho hd (x:=rawInt (-1)) rfl ?_)
  show wpAny _ _ (if (-1:Int) < 0 then _ else _) _ _ s
  rw [if_pos (by decide)]
  refine wpAny_bind (wpAny_rule ?_)
  refine wpAny_bind ?_
  show wpAny _ _ (setField (.ref it) 1 (rawInt (-1)) >>= _) _ _ _
  refine wpAny_bind (wpAny_setField ho hd (by simp) ?_)
  have ho2:=Heap.get?_update_self (Obj.mapFields fun x_1=>x_1.setIfInBounds 1 (rawInt (-1))) ho (Obj.isFreed_of_fields (Obj.data_mapFields hd _))
  refine wpAny_setField ho2 (Obj.data_mapFields hd _) (by simp) ?_
  have eb:Heap.ExtBut it s.heap ((s.heap.update it (Obj.mapFields fun x_1=>x_1.setIfInBounds 1 (rawInt (-1)))).update it (Obj.mapFields fun x_1=>x_1.setIfInBounds 0 Value.none)):=fun b o' hb e=>(Heap.SameBut.update _ _ _).extBut b o' hb ((Heap.SameBut.update _ _ _).extBut b o' hb e)
  show wpAny _ _ (newExc (.type "StopIteration") [] >>= _ >>= _) _ _ _
  refine wpAny_bind ?_
  refine wpAny_bind ?_
  simp only [newExc,newTuple]
  refine wpAny_bind (wpAny_newObj_type ?_ (by size_fits))
  refine wpAny_bind (m:=firstArgMember _ _) (wpAny_of_eq (a:=Value.none) (by first | rfl | (simp only [firstArgMember]; rfl)) ?_)
  refine wpAny_newObj_type ?_ (by size_fits)
  simp only [raiseNew]
  refine wpAny_bind (wpAny_handled ?_)
  first | rw [show A.in1.handled=none from hh] | rw [hh]
  refine wpAny_bind (wpAny_pure (wpAny_throw ?_))
  refine wpAny_bind (wpAny_isInstance (T:="StopIteration") (b:=true) ⟨_,Heap.get?_push_size _ rfl,rfl⟩ isSubtype_stop ?_)
  exact wpAny_pure (hQ _ ((eb.push _).push _))
theorem pyIter_trev {it l:Addr} {i:Int} {Q:Value→Shared→Prop} (hit:IsTRev s.heap it l i) (h:Q (.ref it) s):wpAny (model prog w) A (pyIter (.ref it)) Q E s:=by
  obtain ⟨o,ho,hc,hd⟩:=id hit
  have hT:s.TypeIs (.ref it) "reversed":=⟨o,ho,hc⟩
  refine wpAny_pyIter_slot hT slot_rev_iter (wpAny_call_entry slot_rev_iter hT entry_rev_iter ?_ (args_rev_iter_1 _))
  show wpAny _ _ (ret (.ref it)) _ _ s
  exact wpAny_pure ⟨_,rfl,"reversed",_,hT,slot_rev_next.lookup,h⟩
end
noncomputable def Itv (b:Bool) (l:Addr) (n:Nat):It :=
  ⟨fun i H=>i < n∧∃ xs,H l=some (hoB b xs)∧xs.length=n,fun i H x H'=>H'=H∧∃ xs,H l=some (hoB b xs)∧xs[n - 1 - i]?=some x,fun i _=>i=n⟩
noncomputable def RvAt (b:Bool) (h:Heap) (it l:Addr) (i:Int):Prop:=match b with
  | true=>h.IsRevIter it l i
  | false=>IsTRev h it l i
theorem RvAt.there {b:Bool} {h:Heap} {it l:Addr} {i:Int} (x:RvAt b h it l i):∃ o n vs,h.get? it=some o∧o.cls=.type n∧o.data=.fields vs∧["enumerate","zip","dict_itemiterator","dict_reverseitemiterator","odict_iterator","itertools.zip_longest","itertools.pairwise"].contains n=false:=by
  cases b with
  | true=>obtain ⟨o,h1,h2,h3⟩:=x; exact ⟨o,_,_,h1,h2,h3,by decide⟩
  | false=>obtain ⟨o,h1,h2,h3⟩:=x; exact ⟨o,_,_,h1,h2,h3,by decide⟩
theorem RvAt.at {b:Bool} {h h':Heap} {it l:Addr} {i:Int} (x:RvAt b h it l i) (e:∀ o,h.get? it=some o→h'.get? it=some o):RvAt b h' it l i:=by
  cases b with
  | true=>exact Heap.IsRevIter.at x e
  | false=>exact IsTRev.at x e
theorem turn_rev {P:Program} {w:World} {K:PySem.W.Frag} {tg:Expr} {b:Bool} {l:Addr} {n:Nat} (it:Addr) (hn:(n:Int) < 2 ^ 63):Turn P w K tg (Itv b l n) [it] it (fun i h=>RvAt b h it l ((n:Int) - 1 - (i:Nat))) where
  mem:=by simp
  obj:=fun i h st c hb=>by
    have e:c=it:=by simpa using hb
    subst e
    obtain ⟨o,_,_,h1,_,h3,_⟩:=st.there
    exact ⟨o,h1,fun v z=>by rw [h3] at z; cases z⟩
  keep:=fun i h h' st k=>st.at fun o e=>k it (by simp) o e
  item:=by
    intro X hP hw hK hc i pins s σ H E I hf st hg
    subst hP hw hK
    obtain ⟨hi,xs,e1,hlen⟩:=hg
    obtain ⟨us,r1,q1⟩:=sqAt_of I.hok e1
    obtain ⟨f0,f1,f2,f3,f4,f5⟩:=hf it (by simp)
    have hxl:n - 1 - i < xs.length:=by omega
    have hx:xs[n - 1 - i]?=some xs[n - 1 - i]:=List.getElem?_eq_getElem hxl
    obtain ⟨u,hu,ru⟩:=r1.get hx
    have ne:l≠it:=ne_of_none e1 f0
    have ei:(n:Int) - 1 - (i:Nat)=((n - 1 - i:Nat):Int):=by omega
    have ei2:((n - 1 - i:Nat):Int) - 1=(n:Int) - 1 - ((i+1:Nat):Int):=by omega
    rw [ei] at st
    have usz:us.toArray.size=n:=by rw [List.size_toArray,← r1.length]; exact hlen
    have fin:∀ (h':Heap) (tk:Nat),RvAt b h' it l ((n:Int) - 1 - ((i+1:Nat):Int))→Heap.SameBut it s.heap h'→∃ u',some u=some u'∧wpAny (model X.prog X.w) X.A (letOwnedTupleGo tg (.ref it) u') (fun _ s2=>∃ x H',Inv X pins σ H' s2∧RelV x u'∧(Itv b l n).yld i H x H'∧RvAt b s2.heap it l ((n:Int) - 1 - ((i+1:Nat):Int))∧∀ b∈[it],H' b=none) E { s with heap:=h',toks:=tk }:=fun h' tk st' sb=>by
      have I1:Inv X pins σ H { s with heap:=h',toks:=tk }:=I.turned (fun b o hb e=>(sb.2 b hb).trans e) f0 f1 f3 f4 f5
      obtain ⟨o,nm,vs,g1,g2,g3,g4⟩:=st'.there
      exact ⟨u,rfl,go_of (s:={ s with heap:=h',toks:=tk }) g1 g2 g3 g4 ⟨_,H,I1,ru,⟨rfl,xs,e1,hx⟩,st',fun b hb=>(hf b hb).1⟩⟩
    cases b with
    | true =>
      refine wpAny_pyNext_rev_item (i:=n - 1 - i) st q1 (x:=u) (by simpa using hu) fun h' st' sb=>?_
      rw [ei2] at st'
      exact fin h' s.toks st' sb
    | false =>
      refine pyNext_trev_item (i:=n - 1 - i) st q1 ne (x:=u) (by simpa using hu) (by rw [usz]; exact hn) fun h' st' sb=>?_
      rw [ei2] at st'
      exact fin h' (s.toks+1) st' sb
  done:=by
    intro X hP hw hK hc i pins s σ H E I hf st hg
    subst hP hw hK
    obtain ⟨f0,f1,f2,f3,f4,f5⟩:=hf it (by simp)
    have hi:i=n:=hg
    subst hi
    have e:(i:Int) - 1 - (i:Nat)=-1:=by omega
    rw [e] at st
    cases b with
    | true=>exact wpAny_pyNext_rev_end (I.ok.hd hc) st fun h' eb=>⟨rfl,I.turned (t':=s.toks) (fun b o hb e=>eb b o hb e) f0 f1 f3 f4 f5⟩
    | false=>exact pyNext_trev_end (I.ok.hd hc) st fun h' eb=>⟨rfl,I.turned (t':=s.toks) (fun b o hb e=>eb b o hb e) f0 f1 f3 f4 f5⟩
  self:=fun _ _ _ _ _ st h=>by
    cases b with
    | true=>exact wpAny_pyIter_revIter st h
    | false=>exact pyIter_trev st h
section
variable {X:Cx} {tg:Expr} {PK:Pk} {a b:Expr} {i j:List Sl→Tr PyData} {p pos:Pos}
noncomputable def iRev (ta:TE):TI:=fun σ H R=>ta σ H fun x H1=>(∃ b l xs,x=.ref l∧H1 l=some (hoB b xs)∧R (Itv b l xs.length) H1) ∨
  (∃ l lo hi,x=.ref l∧H1 l=some (.rng lo hi)∧-(2 ^ 62)≤lo∧lo < 2 ^ 62∧-(2 ^ 62)≤hi∧hi < 2 ^ 62∧R (Itd (lo+(hi - lo).toNat - 1) (hi - lo).toNat) H1)
theorem pi_rev {ta:TE} (hg:Gl X "reversed") (hm:X.mg "reversed"=none) (ha:PE X a ta)
    (hs:starEach [a] X.env=[(false,eval a X.env)]:=by rfl):PI X tg (.Call (.Name "reversed" p) [a] [] pos) (iRev ta):=by
  intro pins s σ H R I h
  have hab:PA X [a] (tCons ta tNil):=pa_cons ha pa_nil (by rw [hs]; rfl)
  have h':tCons ta tNil σ H fun vs H1=>∃ x,vs=[x]∧((∃ b l xs,x=.ref l∧H1 l=some (hoB b xs)∧R (Itv b l xs.length) H1) ∨
      (∃ l lo hi,x=.ref l∧H1 l=some (.rng lo hi)∧-(2 ^ 62)≤lo∧lo < 2 ^ 62∧-(2 ^ 62)≤hi∧hi < 2 ^ 62∧R (Itd (lo+(hi - lo).toNat - 1) (hi - lo).toNat) H1)):=by
    have h0:ta σ H fun x H1=>(∃ b l xs,x=.ref l∧H1 l=some (hoB b xs)∧R (Itv b l xs.length) H1) ∨
      (∃ l lo hi,x=.ref l∧H1 l=some (.rng lo hi)∧-(2 ^ 62)≤lo∧lo < 2 ^ 62∧-(2 ^ 62)≤hi∧hi < 2 ^ 62∧R (Itd (lo+(hi - lo).toNat - 1) (hi - lo).toNat) H1):=h
    refine cast (congrArg (ta σ H) ?_) h0
    funext x H1
    apply propext
    constructor
    · exact fun q=>⟨x,rfl,q⟩
    · rintro ⟨y,e,q⟩
      have e':x=y:=by simpa using e
      subst e'
      exact q
  refine Call_ (ld_blt I hg hm boot_reversed (PyProof.Rows.callWith_type1 (thn (hab pos pins s σ H _ I h') fun us s1 hz0=>?_) (by rw [hs]; rfl) rfl))
  obtain ⟨vs,H1,I1,r1,q1⟩:=hz0
  obtain ⟨x,rfl,q1⟩:=q1
  obtain ⟨u,rfl,ru⟩:=vals1 r1
  have fp:∀ c∈[s1.heap.objs.size],FpOk X pins H1 c:=fun c hb=>by
    have e:c=s1.heap.objs.size:=by simpa using hb
    subst e
    exact I1.fpOk (Nat.le_refl _) (I1.hok.fresh (Nat.le_refl _))
  have hn:=line63
  rcases q1 with ⟨b,l,xs,rfl,e1,q⟩ | ⟨l,lo,hi,rfl,e1,b1,b2,b3,b4,q⟩
  · cases ru
    obtain ⟨us,r2,q2⟩:=sqAt_of I1.hok e1
    have usz:us.toArray.size=xs.length:=by rw [List.size_toArray,← r2.length]
    have hz:xs.length≤sizeLine:=by
      cases b with
      | true=>exact (I1.hok _ _ e1).1
      | false=>exact (I1.hok _ _ e1).1
    cases b with
    | true =>
      refine call_reversed_list q2 (wpAny_pyIter_revIter ⟨_,Heap.get?_push_size _ rfl,rfl,rfl⟩ ?_)
      refine ⟨_,_,_,_,H1,rfl,I1.kept (t':=s1.toks) fun b o e=>Heap.get?_push_of_some _ e,turn_rev (b:=true) (l:=l) (n:=xs.length) s1.heap.objs.size (by omega),?_,fp,q⟩
      refine ⟨_,Heap.get?_push_size _ rfl,rfl,?_⟩
      rw [usz]
      show Data.fields #[_,rawInt ((xs.length:Int) - 1)]=Data.fields #[_,rawInt ((xs.length:Int) - 1 - ((0:Nat):Int))]
      simp
    | false =>
      refine call_trev q2 (by rw [usz]; omega) (pyIter_trev ⟨_,Heap.get?_push_size _ rfl,rfl,rfl⟩ ?_)
      refine ⟨_,_,_,_,H1,rfl,I1.kept (t':=s1.toks+1+1) fun b o e=>Heap.get?_push_of_some _ e,turn_rev (b:=false) (l:=l) (n:=xs.length) s1.heap.objs.size (by omega),?_,fp,q⟩
      refine ⟨_,Heap.get?_push_size _ rfl,rfl,?_⟩
      rw [usz]
      show Data.fields #[_,rawInt ((xs.length:Int) - 1)]=Data.fields #[_,rawInt ((xs.length:Int) - 1 - ((0:Nat):Int))]
      simp
  · cases ru
    obtain ⟨t,u,v,e⟩:=I1.hok _ _ e1
    have hsz:Builtin.Range.rangeSize lo hi 1=((hi - lo).toNat:Int):=by rw [rangeSize_one]; split <;> omega
    refine call_rrev e b1 b2 b3 b4 (wpAny_pyIter_rangeiter (Heap.get?_push_size _ rfl) ?_)
    refine ⟨_,_,_,_,H1,rfl,I1.kept (t':=s1.toks) fun b o e=>Heap.get?_push_of_some _ e,turn_ranged s1.heap.objs.size (lo+(hi - lo).toNat - 1) (hi - lo).toNat,?_,fp,q⟩
    rw [hsz]
    have e1:lo+(((hi - lo).toNat:Int) - 1) * 1=lo+(hi - lo).toNat - 1+((0:Nat):Int) * (-1):=by simp; omega
    have e2:((hi - lo).toNat:Int)=((hi - lo).toNat:Int) - ((0:Nat):Int):=by simp
    rw [e1]
    show IsRangeIter _ _ _ (((hi - lo).toNat:Int) - ((0:Nat):Int)) (-1)
    rw [← e2]
    exact Heap.get?_push_size _ rfl
end
end L2
set_option Elab.async false
set_option linter.all false
set_option maxRecDepth 100000
namespace L2
open PySem PySem.Spec PyProof.Rows
section
variable {X:Cx} {tg:Expr} {PK:Pk} {e:Expr} {i j:List Sl→Tr PyData} {is:List Sl→Tr (List PyData)} {p pos:Pos}
theorem jok_rev {pa:Addr} {G:Hp} {b:Bool} {l:Addr} {us:List V} {xs:List PyData} (h1:G l=some (hoB b us)) (d1:DnAll G us xs):JOk PK pa (Itv b l us.length) G xs.reverse:=fun m G2 H2 sb w=>by
  have e1:H2 l=some (hoB b us):=w.sub _ _ (sb _ _ h1)
  have hlen:us.length=xs.length:=d1.length
  refine ⟨fun n d hd=>?_,by show xs.reverse.length=us.length; rw [List.length_reverse,hlen]⟩
  have hn:n < xs.length:=by
    have:=(List.getElem?_eq_some_iff.mp hd).1
    rwa [List.length_reverse] at this
  have hd':xs[xs.length - 1 - n]?=some d:=by
    rw [List.getElem?_reverse hn] at hd
    exact hd
  refine ⟨⟨by omega,us,e1,rfl⟩,fun y H3 hz0=>?_⟩
  obtain ⟨eH,vs,f1,hy⟩:=hz0
  subst eH
  rw [e1] at f1
  have:=hoB_inj f1
  subst this
  rw [hlen] at hy
  obtain ⟨v,hv,dv⟩:=d1.get _ hd'
  rw [hv] at hy
  cases hy
  exact ⟨G2,.refl,w,dv.mono sb⟩
noncomputable def aRevI (i:List Sl→Tr PyData):List Sl→Tr (List PyData):=fun ρ=>(i ρ).bind fun x=>(Tr.of (itD x)).bind fun xs=>.ret xs.reverse
theorem ai_rev {iter:Expr} (h:PI X tg iter (iRev (TAe PK i))):PI X tg iter (TAi PK (aRevI i)):=h.imp fun σ H R0 hz0=>by
  obtain ⟨pa,G₀,H₀,m,ρ,G,R,z⟩:=hz0
  refine TAe.then R z fun m1 x v G1 H1 s1 w1 R1 d1 q1=>?_
  rw [Tr.ok_bind] at q1
  obtain ⟨xs,hx,q1⟩:=Tr.ok_of q1
  obtain ⟨b1,l1,us,rfl,e1,f1⟩:=hoB_of d1 hx
  exact .inl ⟨b1,l1,us,rfl,w1.sub _ _ e1,q1 _ G1 H1 s1 w1 (jok_rev e1 f1)⟩

theorem jok_rngd {pa:Addr} {G:Hp} {lo:Int} {n:Nat}:JOk PK pa (Itd (lo+n - 1) n) G ((rangeI lo n).map PyData.int).reverse:=fun m G2 H2 sb w=>by
  have hl:((rangeI lo n).map PyData.int).length=n:=by rw [List.length_map,rangeI_length]
  refine ⟨fun k x hx=>?_,by show n≤_; rw [List.length_reverse,hl]; exact Nat.le_refl _⟩
  have hk:k < n:=by
    have:=(List.getElem?_eq_some_iff.mp hx).1
    rwa [List.length_reverse,hl] at this
  refine ⟨hk,fun y H3 hz0=>?_⟩
  obtain ⟨e1,e2⟩:=hz0
  subst e1 e2
  have:x=.int (lo+n - 1 - k):=by
    rw [List.getElem?_reverse (by rw [hl]; exact hk),hl] at hx
    unfold rangeI at hx
    rw [List.map_map,List.getElem?_map,List.getElem?_range (by omega)] at hx
    cases hx
    show PyData.int (lo+((n - 1 - k:Nat):Int))=_
    congr 1
    omega
  subst this
  exact ⟨G2,.refl,w,.int _⟩
noncomputable def aRevR2 (is:List Sl→Tr (List PyData)):List Sl→Tr (List PyData):=fun ρ=>(is ρ).bind fun xs=>(Tr.of (rngD2 xs)).bind fun ys=>.ret ys.reverse
noncomputable def tRg2 (t:TA):TE:=tCB (fun xs H Q=>∃ i j:Int,xs=[.int i,.int j]∧∀ p,H p=none→Q (.ref p) (upd H p (.rng i j))) t
theorem ai_revr2 {iter:Expr} (h:PI X tg iter (iRev (tRg2 (TAd PK is)))):PI X tg iter (TAi PK (aRevR2 is)):=h.imp fun σ H R0 hz0=>by
  obtain ⟨pa,G₀,H₀,m,ρ,G,R,z⟩:=hz0
  refine TAd.then R z fun m1 xs vs G1 H1 s1 w1 R1 d1 q1=>?_
  rw [Tr.ok_bind] at q1
  obtain ⟨ys,hy,q1⟩:=Tr.ok_of q1
  obtain ⟨k,n,e,⟨h1,h2,h3,h4⟩,rfl⟩:=rngD2_inv d1 hy
  refine ⟨k,n,e,fun p hp=>?_⟩
  obtain ⟨w2,s2⟩:=w1.own (o:=.rng k n) hp
  refine .inr ⟨p,k,n,rfl,upd_same,h1,h2,h3,h4,?_⟩
  exact q1 (Itd (k+(n - k).toNat - 1) (n - k).toNat) G1 _ (s1.trans s2 w1.some) w2 jok_rngd
end
section
variable {X:Cx} {PK:Pk} {i n:List Sl→Tr PyData}
end
section
variable {prog:Program} {w:World} {A:Around} {E:Value→Shared→Prop} {s:Shared}
end
section
variable {X:Cx} {PK:Pk} {e st:Expr} {te ts:TE} {i j:List Sl→Tr PyData} {p2 pos:Pos}
end
end L2
set_option Elab.async false
set_option linter.all false
set_option maxRecDepth 100000
namespace L2
open PySem PySem.Spec PyProof.Rows
noncomputable abbrev Keeps (h0 h:Heap):Prop:=∀ c o,h0.get? c=some o→h.get? c=some o
noncomputable def CmpH (prog:Program) (w:World) (A:Around) (h0:Heap) (P:Nat→Value→Prop) (bt:Nat→Nat→Bool):Prop :=
  ∀ i j vi vj (s:Shared) (Q:Value→Shared→Prop) (E:Value→Shared→Prop),j < i→Keeps h0 s.heap→P i vi→P j vj→Q (.bool (bt i j)) s→wpAny (model prog w) A (richCompare .Lt vi vj) Q E s
theorem argBest_le (bt:Nat→Nat→Bool):∀ j,argBest bt j≤j
  | 0=>Nat.le_refl _
  | j+1=>by
    have:=argBest_le bt j
    unfold argBest
    split <;> omega
section
variable {prog:Program} {w:World} {A:Around} {R:Result→Shared→Prop} {I S:Addr} {fp wr:List Addr} {n:Nat} {P:Nat→Value→Prop} {St:Nat→Heap→Prop} {h0:Heap}
theorem minL_name:(toString "min"++toString ".loop":String)="min.loop":=by decide
theorem minL_turns (W:Walks prog w A.in1 I fp wr n P St) (bt:Nat→Nat→Bool) (hcmp:CmpH prog w A.in1 h0 P bt) (hSf:S ∉ fp) (h0w:∀ c o,h0.get? c=some o→c ∉ wr∧c≠S) :
    ∀ (k j:Nat) (s:Shared) (vb:Value) (c:Nat),n - (j+1)=k→j+1≤n→Keeps h0 s.heap→St (j+1) s.heap→P (argBest bt j) vb →
    s.heap.get? S=some { cls:=.type "list",data:=.seq #[vb,vb] c } →
    (∀ v h' tk,P (argBest bt (n - 1)) v→(∀ b o,b ∉ wr→b≠S→s.heap.get? b=some o→h'.get? b=some o)→R (.ok (.ret v)) { s with heap:=h',toks:=tk }) →
    codeAny (model prog w) A (.builtin "min.loop" ⟨[.ref I,.none,.ref S],[]⟩) R s:=by
  have hSw:S ∉ wr:=fun h=>hSf (W.sub _ h)
  intro k
  induction k with
  | zero =>
    intro j s vb c hk hj kp hst hPb hS hR
    have hin:j+1=n:=by omega
    refine codeAny_builtin F.entry_min_loop (by
      rw [Around.under_plainId F.plain_min_loop _]
      show wpAny _ A.in1 (seqItems? (.ref S) >>= _) _ _ s
      refine wpAny_bind (wpAny_seqItems hS rfl ?_)
      show wpAny _ A.in1 (tryCatch (pyNext (.ref I)) _ >>= _) _ _ s
      refine wpAny_bind (wpAny_tryCatch (W.done s _ _ (hin ▸ hst) fun h' tk hk'=>?_))
      have hS':=hk' S _ hSw hS
      show wpAny _ A.in1 (updateSeq S (fun _=>#[]) >>= _) _ _ _
      refine wpAny_bind (wpAny_updateSeq hS' rfl (wpAny_bind (wpAny_letGo (wpAny_pure ?_))))
      exact hR vb _ tk (by rw [← hin]; exact hPb) fun b o hbw hbS e=>(Heap.get?_update_other _ _ (Ne.symm hbS)).trans (hk' b o hbw e))
  | succ k ih =>
    intro j s vb c hk hj kp hst hPb hS hR
    have hlt:j+1 < n:=by omega
    refine codeAny_builtin F.entry_min_loop (by
      rw [Around.under_plainId F.plain_min_loop _]
      show wpAny _ A.in1 (seqItems? (.ref S) >>= _) _ _ s
      refine wpAny_bind (wpAny_seqItems hS rfl ?_)
      show wpAny _ A.in1 (tryCatch (pyNext (.ref I)) _ >>= _) _ _ s
      refine wpAny_bind (wpAny_tryCatch (W.item (j+1) s _ _ hlt hst fun v h' tk hP hst' hk'=>?_))
      have hS':=hk' S _ hSw hS
      have kp':Keeps h0 h':=fun c o e=>hk' c o (h0w c o e).1 (kp c o e)
      show wpAny _ A.in1 (tryCatch (holding [v,v] (richCompare .Lt v vb >>= _)) _ >>= _) _ _ _
      refine wpAny_bind (wpAny_tryCatch (wpAny_holding (wpAny_bind (hcmp (j+1) (argBest bt j) v vb _ _ _ (Nat.lt_succ_of_le (argBest_le bt j)) kp' hP hPb (wpAny_bind (wpAny_holding (wpAny_truthy_bool (wpAny_bind (wpAny_letGo (wpAny_pure ?_))))))))))
      cases hb:bt (j+1) (argBest bt j) with
      | true =>
        simp only [if_true]
        refine wpAny_bind (wpAny_updateSeq hS' rfl (wpAny_bind (wpAny_letGo ?_)))
        rw [minL_name]
        refine wpAny_pure ⟨plainId_quiet F.plain_min_loop _,ih (j+1) _ v _ (by omega) hlt (fun c o e=>(Heap.get?_update_other _ _ (Ne.symm (h0w c o e).2)).trans (kp' c o e)) (W.frame _ _ _ hst' fun b hbf o e=>?_) (by simp only [argBest,hb,if_true]; exact hP) (Heap.get?_update_self _ hS' rfl)
          fun v' h'' tk'' hP' hk''=>hR v' h'' tk'' hP' fun b o hbw hbS e=>hk'' b o hbw hbS ((Heap.get?_update_other _ _ (Ne.symm hbS)).trans (hk' b o hbw e))⟩
        exact (Heap.get?_update_other _ _ (fun h:S=b=>hSf (by rw [h]; exact hbf))).trans e
      | false =>
        simp only [Bool.false_eq_true,if_false]
        refine wpAny_bind (wpAny_letGo ?_)
        rw [minL_name]
        exact wpAny_pure ⟨plainId_quiet F.plain_min_loop _,ih (j+1) _ vb c (by omega) hlt kp' hst' (by simp only [argBest,hb,Bool.false_eq_true,if_false]; exact hPb) hS' fun v' h'' tk'' hP' hk'' =>
          hR v' h'' tk'' hP' fun b o hbw hbS e=>hk'' b o hbw hbS (hk' b o hbw e)⟩)
theorem minL_first (W:Walks prog w A.in1 I fp wr n P St) (bt:Nat→Nat→Bool) (hcmp:CmpH prog w A.in1 h0 P bt) (hSf:S ∉ fp) (h0w:∀ c o,h0.get? c=some o→c ∉ wr∧c≠S) (hn:0 < n) {s:Shared} {c:Nat} (kp:Keeps h0 s.heap) (hst:St 0 s.heap)
    (hS:s.heap.get? S=some { cls:=.type "list",data:=.seq #[] c })
    (hR:∀ v h' tk,P (argBest bt (n - 1)) v→(∀ b o,b ∉ wr→b≠S→s.heap.get? b=some o→h'.get? b=some o)→R (.ok (.ret v)) { s with heap:=h',toks:=tk }) :
    codeAny (model prog w) A (.builtin "min.loop" ⟨[.ref I,.none,.ref S],[]⟩) R s:=by
  have hSw:S ∉ wr:=fun h=>hSf (W.sub _ h)
  refine codeAny_builtin F.entry_min_loop (by
    rw [Around.under_plainId F.plain_min_loop _]
    show wpAny _ A.in1 (seqItems? (.ref S) >>= _) _ _ s
    refine wpAny_bind (wpAny_seqItems hS rfl ?_)
    show wpAny _ A.in1 (tryCatch (pyNext (.ref I)) _ >>= _) _ _ s
    refine wpAny_bind (wpAny_tryCatch (W.item 0 s _ _ hn hst fun v h' tk hP hst' hk'=>?_))
    have hS':=hk' S _ hSw hS
    have kp':Keeps h0 h':=fun c o e=>hk' c o (h0w c o e).1 (kp c o e)
    show wpAny _ A.in1 (updateSeq S (fun _=>#[v,v]) >>= _) _ _ _
    refine wpAny_bind (wpAny_updateSeq hS' rfl ?_)
    rw [minL_name]
    refine wpAny_pure ⟨plainId_quiet F.plain_min_loop _,minL_turns W bt hcmp hSf h0w _ 0 _ v _ rfl hn (fun c o e=>(Heap.get?_update_other _ _ (Ne.symm (h0w c o e).2)).trans (kp' c o e)) (W.frame _ _ _ hst' fun b hbf o e=>?_) hP (Heap.get?_update_self _ hS' rfl)
      fun v' h'' tk'' hP' hk''=>hR v' h'' tk'' hP' fun b o hbw hbS e=>hk'' b o hbw hbS ((Heap.get?_update_other _ _ (Ne.symm hbS)).trans (hk' b o hbw e))⟩
    exact (Heap.get?_update_other _ _ (fun h:S=b=>hSf (by rw [h]; exact hbf))).trans e)
end
section
variable {prog:Program} {w:World} {A:Around} {E:Value→Shared→Prop} {s:Shared}
theorem min_two_h {a b:Value} {Q:Value→Shared→Prop} {c:Bool} (hh:A.handled=none) (hcmp:∀ (s':Shared) (Q:Value→Shared→Prop) (E:Value→Shared→Prop),Keeps s.heap s'.heap→Q (.bool c) s'→wpAny (model prog w) A.in1 (richCompare .Lt b a) Q E s')
    (h:∀ h' tk,Keeps s.heap h'→Q (if c=true then b else a) { s with heap:=h',toks:=tk }):wpAny (model prog w) A (call (.builtin "min") [a,b]) Q E s:=by
  refine call_function_tree F.kind_min F.plain_min F.entry_min (F.args_min2 _ _) (by
    show wpAny _ A.in1 (Builtin.Builtins.bindParams "min" ["key","default"] 0 ⟨[],[]⟩ >>= _) _ _ s
    refine wpAny_bind (wpAny_of_eq (a:=[none,none]) rfl ?_)
    show wpAny _ A.in1 (newTuple [a,b] >>= _) _ _ s
    refine wpAny_bind (wpAny_newObj_type ?_)
    have hT:(s.heap.push { cls:=.type "tuple",data:=.seq #[a,b] }).IsTuple s.heap.objs.size #[a,b]:=⟨_,Heap.get?_push_size _ rfl,rfl,0,rfl⟩
    have hsz:(s.heap.push { cls:=.type "tuple",data:=.seq #[a,b] }).objs.size=s.heap.objs.size+1:=Heap.size_push ..
    have hgk:Keeps s.heap (s.heap.push { cls:=.type "tuple",data:=.seq #[a,b] }):=fun c o e=>Heap.get?_push_of_some _ e
    generalize (s.heap.push { cls:=.type "tuple",data:=.seq #[a,b] })=g at hT hsz hgk ⊢
    refine wpAny_bind (wpAny_pyIter_tuple hT (wpAny_bind (wpAny_newObj_type ?_)))
    rw [minL_name]
    have hlt:∀ {c:Nat} {o:Obj},s.heap.get? c=some o→c < s.heap.objs.size:=fun e=>Heap.lt_size e
    have hsz2:∀ ob:Obj,(g.push ob).objs.size=s.heap.objs.size+2:=fun ob=>by rw [Heap.size_push,hsz]
    have W:=Walks.tuple (prog:=prog) (w:=w) (A:=A.in1) hh g.objs.size s.heap.objs.size (by rw [hsz]; exact Nat.ne_of_lt (Nat.lt_succ_self _)) #[a,b]
    refine wpAny_pure ⟨plainId_quiet F.plain_min_loop _,minL_first (A:=A) (h0:=s.heap) W (fun i j=>if i=1∧j=0 then c else false) ?_ ?_ ?_ (show 0 < 2 by decide) ?_ ⟨?_,?_⟩ (Heap.get?_push_size _ rfl) ?_⟩
    · intro i j vi vj s' Q' E' hji kp hi hj hq
      have hi2:i < 2:=by
        have:=(Array.getElem?_eq_some_iff.mp hi).1
        simpa using this
      have e1:i=1:=by omega
      have e2:j=0:=by omega
      subst e1 e2
      have e3:b=vi:=by simpa using hi
      have e4:a=vj:=by simpa using hj
      subst e3 e4
      exact hcmp s' Q' E' kp (by simpa using hq)
    · intro hm
      have hm':(g.push { cls:=.type "tuple_iterator",data:=.fields #[.ref s.heap.objs.size,.int 0 0] }).objs.size∈[g.objs.size,s.heap.objs.size]:=hm
      rw [hsz2,hsz] at hm'
      simp at hm'
    · intro (c:Nat) o e
      have hc:=hlt e
      refine ⟨fun hm=>?_,?_⟩
      · have hm':c=g.objs.size:=by simpa using hm
        rw [hm',hsz] at hc
        omega
      · show c≠(g.push { cls:=.type "tuple_iterator",data:=.fields #[.ref s.heap.objs.size,.int 0 0] }).objs.size
        rw [hsz2]
        omega
    · exact fun c o e=>Heap.get?_push_of_some _ (Heap.get?_push_of_some _ (hgk c o e))
    · exact ⟨_,Heap.get?_push_of_some _ (Heap.get?_push_size _ rfl),rfl,rfl⟩
    · exact hT.at fun o e=>Heap.get?_push_of_some _ (Heap.get?_push_of_some _ e)
    · intro v h' tk hP hk
      have hv:v=if c=true then b else a:=by
        cases c with
        | true =>
          have e:argBest (fun i j=>if i=1∧j=0 then true else false) ((#[a,b]:Array Value).size - 1)=1:=rfl
          rw [e] at hP
          simpa using hP.symm
        | false =>
          have e:argBest (fun i j=>if i=1∧j=0 then false else false) ((#[a,b]:Array Value).size - 1)=0:=rfl
          rw [e] at hP
          simpa using hP.symm
      rw [hv]
      refine h h' tk fun (c:Nat) o e=>hk c o (fun hm=>?_) ?_ (Heap.get?_push_of_some _ (Heap.get?_push_of_some _ (hgk c o e)))
      · have hc:=hlt e
        have hm':c=g.objs.size:=by simpa using hm
        rw [hm',hsz] at hc
        omega
      · have hc:=hlt e
        show c≠(g.push { cls:=.type "tuple_iterator",data:=.fields #[.ref s.heap.objs.size,.int 0 0] }).objs.size
        rw [hsz2]
        omega)
end
end L2
namespace L2
open PySem PySem.Spec PyProof.Rows
section
variable {X:Cx}
noncomputable def rMin2T:List V→Hp→VK→Prop:=fun xs H Q=>∃ a b ns ms,xs=[.ref a,.ref b]∧H a=some (.tup (ns.map V.int))∧H b=some (.tup (ms.map V.int))∧Q (if HT.lexLt ms ns=true then .ref b else .ref a) H
theorem call_min2T {k:Nat} (hr:Room k X.A) (hc:X.calm=true):CallR X (.builtin "min") rMin2T:=by
  intro pins s σ H xs us Q I r h
  obtain ⟨a,b,ns,ms,rfl,ha,hb,q⟩:=h
  obtain ⟨u,w',rfl,ru,rw'⟩:=vals2 r
  cases ru
  cases rw'
  obtain ⟨u1,r1,p1⟩:=sqAt_of (b:=false) I.hok ha
  obtain ⟨u2,r2,p2⟩:=sqAt_of (b:=false) I.hok hb
  have i1:IntsAre u1.toArray.toList ns:=intsAre_of r1
  have i2:IntsAre u2.toArray.toList ms:=intsAre_of r2
  refine min_two_h (c:=HT.lexLt ms ns) (I.ok.hd hc) (fun s' Q' E' kp hq=>?_) fun h' tk kp=>⟨_,H,I.kept kp,?_,q⟩
  · have q1:IsTup s'.heap a u1.toArray:=SqAt.at (b:=false) p1 fun o e=>kp a o e
    have q2:IsTup s'.heap b u2.toArray:=SqAt.at (b:=false) p2 fun o e=>kp b o e
    exact HT.lt_tupInts q2 q1 i2 i1 (show X.A.units+1 < cLine from by have:=hr.units; omega) hq
  · cases HT.lexLt ms ns
    · exact rfl
    · exact rfl
noncomputable def min2T:List PyData→Option PyData
  | [.tuple xs,.tuple ys]=>(ints? xs).bind fun ns=>(ints? ys).bind fun ms=>some (if HT.lexLt ms ns=true then .tuple (ms.map PyData.int) else .tuple (ns.map PyData.int))
  | _=>none
theorem vc_min2T:VCl rMin2T min2T:=fun PK pa m G H vs ds d Q w hv hd k=>by
  unfold min2T at hd
  split at hd
  · rename_i xs ys
    cases e1:ints? xs with
    | none=>rw [e1] at hd; cases hd
    | some ns =>
      cases e2:ints? ys with
      | none=>rw [e1,e2] at hd; cases hd
      | some ms =>
        rw [e1,e2] at hd
        have hd':(if HT.lexLt ms ns=true then PyData.tuple (ms.map PyData.int) else .tuple (ns.map PyData.int))=d:=Option.some.inj hd
        cases hv with
        | cons h1 h2 =>
          cases h2 with
          | cons h2 h3 =>
            cases h3
            cases h1 with
            | @tup a us _ a1 a2 =>
              cases h2 with
              | @tup b ws _ b1 b2 =>
                obtain ⟨rfl,rfl⟩:=a2.ints_inv e1
                obtain ⟨rfl,rfl⟩:=b2.ints_inv e2
                refine ⟨a,b,ns,ms,rfl,w.sub _ _ a1,w.sub _ _ b1,?_⟩
                subst hd'
                cases hl:HT.lexLt ms ns
                · rw [hl] at k
                  exact k.here w (.tup a1 (DnAll.ints _))
                · rw [hl] at k
                  exact k.here w (.tup b1 (DnAll.ints _))
  · cases hd
end
end L2
namespace L2
open PySem PySem.Spec PyProof.Rows
section
variable {X:Cx} {PK:Pk} {e:Expr} {is:List Sl→Tr (List PyData)}
end
end L2
set_option Elab.async false
set_option linter.all false
set_option maxRecDepth 100000
namespace L2
open PySem PySem.Spec PyProof.Rows
section
variable {prog:Program} {w:World} {A:Around} {E:Value→Shared→Prop} {s:Shared}
end
section
variable {X:Cx}
end
end L2
namespace L2
open PySem PySem.Spec PyProof.Rows
section
variable {X:Cx} {PK:Pk} {a b:Expr} {pos:Pos} {j:List Sl→Tr PyData}
end
end L2
set_option Elab.async false
set_option linter.all false
set_option maxRecDepth 100000
namespace L2
open PySem PySem.Spec PyProof.Rows
section
variable {prog:Program} {w:World} {A:Around} {E:Value→Shared→Prop} {s:Shared}
end
section
variable {X:Cx}
end
end L2
set_option Elab.async false
set_option linter.all false
set_option maxRecDepth 100000
namespace L2
open PySem PySem.Spec PyProof.Rows
section
variable {PK:Pk} {X:Cx} {a b:Expr} {pos:Pos} {i j:List Sl→Tr PyData}
end
theorem len_succ {α:Type} {n:Nat}:∀ {us:List α},us.length=n+1→∃ (a:α) (t:List α),us=a::t∧t.length=n
  | a::t,h=>⟨a,t,rfl,Nat.succ.inj h⟩
theorem len_zero {α:Type} {us:List α} (h:us.length=0):us=[]:=List.eq_nil_of_length_eq_zero h
theorem len1 {α:Type} {us:List α} (h:us.length=1):∃ a,us=[a]:=by
  obtain ⟨a,t,rfl,h2⟩:=len_succ h
  exact ⟨a,by rw [len_zero h2]⟩
theorem len2 {α:Type} {us:List α} (h:us.length=2):∃ a0 a1,us=[a0,a1]:=by
  obtain ⟨a0,t,rfl,h2⟩:=len_succ h
  obtain ⟨a1,rfl⟩:=len1 h2
  exact ⟨a0,a1,rfl⟩
theorem len3 {α:Type} {us:List α} (h:us.length=3):∃ a0 a1 a2,us=[a0,a1,a2]:=by
  obtain ⟨a0,t,rfl,h2⟩:=len_succ h
  obtain ⟨a1,a2,rfl⟩:=len2 h2
  exact ⟨a0,a1,a2,rfl⟩
theorem len4 {α:Type} {us:List α} (h:us.length=4):∃ a0 a1 a2 a3,us=[a0,a1,a2,a3]:=by
  obtain ⟨a0,t,rfl,h2⟩:=len_succ h
  obtain ⟨a1,a2,a3,rfl⟩:=len3 h2
  exact ⟨a0,a1,a2,a3,rfl⟩
theorem len5 {α:Type} {us:List α} (h:us.length=5):∃ a0 a1 a2 a3 a4,us=[a0,a1,a2,a3,a4]:=by
  obtain ⟨a0,t,rfl,h2⟩:=len_succ h
  obtain ⟨a1,a2,a3,a4,rfl⟩:=len4 h2
  exact ⟨a0,a1,a2,a3,a4,rfl⟩
end L2
set_option Elab.async false
set_option linter.all false
set_option maxRecDepth 100000
namespace L2
open PySem PySem.Spec PyProof.Rows
section
variable {PK:Pk} {X:Cx} {pos:Pos} {n:Nat} {is:List Sl→Tr (List PyData)} {s t:List Sl→Tr Ou}
end
end L2
set_option Elab.async false
set_option linter.all false
set_option maxRecDepth 100000
namespace L2
open PySem PySem.Spec PyProof.Rows
section
variable {PK:Pk} {X:Cx} {a b c d e:Expr} {pos:Pos} {i j l n:List Sl→Tr PyData}
end
end L2
set_option Elab.async false
set_option linter.all false
set_option maxRecDepth 100000
set_option exponentiation.threshold 9000
namespace Tw
open PySem L2
noncomputable def nb (k:Nat) (n:Int):Prop:=n.natAbs < 2 ^ k
theorem nb_fit {k:Nat} {n:Int} (h:nb k n) (hk:k≤8000):fit n=true:=decide_eq_true (Nat.lt_of_lt_of_le h (Nat.pow_le_pow_right (by decide) hk))
theorem nb_mono {k l:Nat} {n:Int} (h:nb k n) (hk:k≤l):nb l n:=Nat.lt_of_lt_of_le h (Nat.pow_le_pow_right (by decide) hk)
theorem nb_mul {k l:Nat} {m n:Int} (h:nb k m) (h':nb l n):nb (k+l) (m * n):=by
  unfold nb at *
  rw [Int.natAbs_mul,Nat.pow_add]
  exact Nat.mul_lt_mul'' h h'
theorem nb_add {k l:Nat} {m n:Int} (h:nb k m) (h':nb l n):nb (max k l+1) (m+n):=by
  have h1:=nb_mono h (Nat.le_max_left k l)
  have h2:=nb_mono h' (Nat.le_max_right k l)
  unfold nb at *
  rw [Nat.pow_succ,Nat.mul_two]
  exact Nat.lt_of_le_of_lt (Int.natAbs_add_le m n) (Nat.add_lt_add h1 h2)
theorem nb_neg {k:Nat} {n:Int} (h:nb k n):nb k (-n):=by
  unfold nb at *
  omega
theorem nb_sub {k l:Nat} {m n:Int} (h:nb k m) (h':nb l n):nb (max k l+1) (m - n):=by
  rw [Int.sub_eq_add_neg]
  exact nb_add h (nb_neg h')
theorem nb_of {k:Nat} {n:Int} (h1:-(2 ^ k:Nat) < n) (h2:n < (2 ^ k:Nat)):nb k n:=by
  unfold nb
  omega
theorem nb_ite {k:Nat} {c:Prop} [Decidable c] {m n:Int} (h:nb k m) (h':nb k n):nb k (if c then m else n):=by split <;> assumption
noncomputable def ws (f:Int→Int):Nat→List Int→Int
  | _,[]=>0
  | k,w::l=>w * f k+ws f (k+1) l
theorem sum_nb {a:Nat}:∀ {l:List Int},(∀ w∈l,nb a w)→nb (a+l.length) l.sum
  | [],h=>by unfold nb; simp; exact Nat.pos_of_ne_zero (by simp)
  | w::l,h=>by
    rw [List.sum_cons]
    refine nb_mono (nb_add (h w (by simp)) (sum_nb (l:=l) fun v hv=>h v (List.mem_cons_of_mem _ hv))) ?_
    rw [List.length_cons]
    omega
structure Shp where
  top:Int
  depth:Int
  start:Int
  piece:Int
  keep:Int
  lack:Int
  lost:Int
  back:Int
  late:Int
noncomputable def Shp.l (s:Shp):List Int:=[s.top,s.depth,s.start,s.piece,s.keep,s.lack,s.lost,s.back,s.late]
@[irreducible] noncomputable def Shp.d (s:Shp):PyData:=.tuple (s.l.map PyData.int)
structure Shp.Ok (s:Shp):Prop where
  t0:0≤s.top
  d0:0≤s.depth
  td:s.top+s.depth≤100
  start0:0≤s.start
  start:nb 45 s.start
  piece:nb 45 s.piece
  keep:nb 45 s.keep
  lack:nb 45 s.lack
  lost:nb 45 s.lost
  back:nb 45 s.back
  late:nb 45 s.late
theorem shp_0 (s:Shp):bin2 ixD s.d (.int 0)=.ret (.int s.top):=by unfold Shp.d; rw [ev_ixT]; exact congrArg Tr.of at_0
theorem shp_1 (s:Shp):bin2 ixD s.d (.int 1)=.ret (.int s.depth):=by unfold Shp.d; rw [ev_ixT]; exact congrArg Tr.of at_1
theorem shp_2 (s:Shp):bin2 ixD s.d (.int 2)=.ret (.int s.start):=by unfold Shp.d; rw [ev_ixT]; exact congrArg Tr.of at_2
theorem shp_3 (s:Shp):bin2 ixD s.d (.int 3)=.ret (.int s.piece):=by unfold Shp.d; rw [ev_ixT]; exact congrArg Tr.of at_3
theorem shp_4 (s:Shp):bin2 ixD s.d (.int 4)=.ret (.int s.keep):=by unfold Shp.d; rw [ev_ixT]; exact congrArg Tr.of at_4
theorem shp_5 (s:Shp):bin2 ixD s.d (.int 5)=.ret (.int s.lack):=by unfold Shp.d; rw [ev_ixT]; exact congrArg Tr.of at_5
theorem shp_6 (s:Shp):bin2 ixD s.d (.int 6)=.ret (.int s.lost):=by unfold Shp.d; rw [ev_ixT]; exact congrArg Tr.of at_6
theorem shp_7 (s:Shp):bin2 ixD s.d (.int 7)=.ret (.int s.back):=by unfold Shp.d; rw [ev_ixT]; exact congrArg Tr.of at_7
theorem shp_8 (s:Shp):bin2 ixD s.d (.int 8)=.ret (.int s.late):=by unfold Shp.d; rw [ev_ixT]; exact congrArg Tr.of at_8
section
variable (s:Shp)
noncomputable def Shp.nx (y f:Int):Int:=maxI (y - f) (-s.depth)
noncomputable def Shp.day (y f:Int):Int:=(if s.nx y f > 0 then s.keep * s.nx y f else s.lack * -s.nx y f)+s.lost * (s.nx y f - (y - f))
noncomputable def Shp.fin (x:Int):Int:=if x > 0 then -s.back * x else s.late * -x
noncomputable def Shp.wg (day:List Int) (y:Int) (ahead:Int→Int) (sc:Int):Int:=ws (fun f=>sc * s.day y f+ahead (s.nx y f)) 0 day
noncomputable def Shp.sm (day:List Int) (ahead:Int→Int) (sc:Int) (y:Int):Int:=sc * day.sum * s.piece * y+s.wg day y ahead sc
end
noncomputable def Shp.n (s:Shp):Nat:=(s.top+1 - -s.depth).toNat
noncomputable def Shp.row (s:Shp) (f:Int→Int):List Int:=(rangeI (-s.depth) s.n).map f
noncomputable def lI (l:List Int):PyData:=.list (l.map PyData.int)
noncomputable def tI (l:List Int):PyData:=.tuple (l.map PyData.int)
noncomputable def fD (fs:List (List Int)):PyData:=.tuple (fs.map tI)
theorem Shp.Ok.n_eq {s:Shp} (h:s.Ok):(s.n:Int)=s.top+s.depth+1:=by have:=h.t0; have:=h.d0; unfold Shp.n; omega
theorem row_len (s:Shp) (f:Int→Int):(s.row f).length=s.n:=by unfold Shp.row; rw [List.length_map,rangeI_length]
theorem row_at {s:Shp} {f:Int→Int} {x:Int} (h1:-s.depth≤x) (h2:x≤s.top):(s.row f)[(x+s.depth).toNat]?=some (f x):=by
  unfold Shp.row rangeI
  rw [List.map_map,List.getElem?_map,List.getElem?_range (by unfold Shp.n; omega)]
  show some (f (-s.depth+((x+s.depth).toNat:Int)))=_
  congr 2
  omega
theorem row_atI {s:Shp} {f:Int→Int} {x:Int} (h1:-s.depth≤x) (h2:x≤s.top):atI ((s.row f).map PyData.int) (x+s.depth)=some (.int (f x)) :=
  atI_ge (by omega) (by rw [List.getElem?_map,row_at h1 h2]; rfl)
theorem nx_ge (s:Shp) (y f:Int):-s.depth≤s.nx y f:=by unfold Shp.nx maxI; split <;> omega
theorem nx_le {s:Shp} (h:s.Ok) {y f:Int} (hy:y≤s.top) (hf:0≤f):s.nx y f≤s.top:=by have:=h.t0; have:=h.d0; unfold Shp.nx maxI; split <;> omega
end Tw
set_option Elab.async false
set_option linter.all false
set_option maxRecDepth 100000
namespace L2
open PySem PySem.Spec PyProof.Rows
variable {ρ:List Sl} {s t:List Sl→Tr Ou} {i j l:List Sl→Tr PyData} {is:List Sl→Tr (List PyData)} {k n:Nat} {x y d:PyData} {xs ys:List PyData} {sl:Sl}
theorem rb2 {α β:Type} {a:α} {f:α→Tr β}:(Tr.ret a).bind f=f a:=Eq.trans (Tr.ret_bind a f) (Eq.refl _)
theorem g_lst2 {gs:List PyData→List Sl→Option (List Sl)}:gLstD gs (.list xs) ρ=gs xs ρ:=by
  cases h:gs xs ρ <;> exact h
noncomputable def rvi2 (xs:List PyData):Tr (List PyData):=.ret xs.reverse
noncomputable def rvi1 (x:PyData):Tr (List PyData):=(it1 x).bind rvi2
theorem ev_revI:aRevI i ρ=(i ρ).bind rvi1:=rfl
theorem ev_rvi1:rvi1 x=(it1 x).bind rvi2:=rfl
theorem ev_rvi2:rvi2 xs=.ret xs.reverse:=rfl
noncomputable def rvr2 (xs:List PyData):Tr (List PyData):=(rng2 xs).bind rvi2
theorem ev_revR2:aRevR2 is ρ=(is ρ).bind rvr2:=rfl
theorem ev_rvr2:rvr2 xs=(rng2 xs).bind rvi2:=rfl
theorem ev_min2T (a b c d:Int):cb1 min2T [.tuple [.int a,.int b],.tuple [.int c,.int d]]=.ret (if c < a∨c=a∧d < b then .tuple [.int c,.int d] else .tuple [.int a,.int b]):=by
  have h1:ints? [PyData.int a,.int b]=some [a,b]:=ints?_map [a,b]
  have h2:ints? [PyData.int c,.int d]=some [c,d]:=ints?_map [c,d]
  unfold cb1 min2T
  simp only [h1,h2]
  show Tr.of (some _)=_
  rw [Tr.of_some]
  have e:HT.lexLt [c,d] [a,b]=true ↔ (c < a∨c=a∧d < b):=by
    simp only [HT.lexLt_cons,HT.lexLt_nil_nil]
    by_cases hca:c=a
    · subst hca
      by_cases hdb:d=b
      · simp [hdb]
      · simp [hdb]
    · simp [hca]
  by_cases hc:(c < a∨c=a∧d < b)
  · rw [if_pos (e.mpr hc),if_pos hc]; rfl
  · rw [if_neg (fun z=>hc (e.mp z)),if_neg hc]; rfl
theorem min1_of (ns:List Int) (h:ns≠[]):cb1 min1D [.list (ns.map PyData.int)]=.ret (.int (minL ns)):=by
  unfold cb1 min1D onL
  simp [h]
theorem max1_of (ns:List Int) (h:ns≠[]):cb1 max1D [.list (ns.map PyData.int)]=.ret (.int (maxL ns)):=by
  unfold cb1 max1D onL
  simp [h]
theorem al_ex {α:Type} {t:Tr α} {P:α→Prop} (h:Al t 0 P):∃ a,t=.ret a∧P a:=by
  have h':=h.out
  cases t with
  | ret a=>exact ⟨a,rfl,h'⟩
  | draw w k=>exact h'.elim
  | fail=>exact h'.elim
theorem al_eq {α:Type} {t:Tr α} {a:α} (h:Al t 0 fun b=>b=a):t=.ret a:=by
  obtain ⟨b,e,rfl⟩:=al_ex h
  exact e
theorem for_all2 {s:List Sl→Tr Ou} {g:PyData→List Sl→Option (List Sl)} {n:Nat} {full:List PyData} (I:List PyData→List Sl→Prop) {Q:Ou→Prop} (ht:∀ pre x post ρ,full=pre++x::post→I pre ρ→∃ ρ1,g x ρ=some ρ1∧(s ρ1).all n fun o=>∃ ρ2,o=.next ρ2∧I (pre++[x]) ρ2) (hq:∀ ρ,I full ρ→Q (.next ρ)) :
    ∀ {xs pre:List PyData} {ρ:List Sl},full=pre++xs→I pre ρ→(forL g s xs ρ).all (xs.length * n) Q
  | [],pre,ρ,e,h0=>hq ρ (by rw [e,List.append_nil]; exact h0)
  | x::xs,pre,ρ,e0,h0=>by
    obtain ⟨ρ1,e,ha⟩:=ht pre x xs ρ e0 h0
    have en:(x::xs).length * n=n+xs.length * n:=by rw [List.length_cons,Nat.succ_mul]; omega
    rw [en,for_cons,e,Tr.of_some,Tr.ret_bind]
    unfold for2
    refine Tr.all_bind ha fun o ⟨ρ2,eo,h2⟩=>?_
    subst eo
    rw [ev_for3n]
    exact for_all2 I ht hq (by rw [e0,List.append_assoc]; rfl) h2
theorem al_forQ {n N:Nat} {g:PyData→List Sl→Option (List Sl)} {s:List Sl→Tr Ou} {xs:List PyData} {ρ:List Sl} {Q:Ou→Prop} (I:List PyData→List Sl→Prop) (h0:I [] ρ) (hN:xs.length * n≤N) (ht:∀ pre x post ρ,xs=pre++x::post→I pre ρ→∃ ρ1,g x ρ=some ρ1∧Al (s ρ1) n fun o=>∃ ρ2,o=.next ρ2∧I (pre++[x]) ρ2) (hq:∀ ρ,I xs ρ→Q (.next ρ)):Al (forL g s xs ρ) N Q :=
  .of (Tr.all_mono (for_all2 (full:=xs) I (fun pre x post ρ e h=>let ⟨ρ1,e,a⟩:=ht pre x post ρ e h; ⟨ρ1,e,a.out⟩) hq (pre:=[]) rfl h0) hN fun _ h=>h)
theorem for_find {g:PyData→List Sl→Option (List Sl)} {s:List Sl→Tr Ou} {f:PyData→Option Re} (I:List Sl→Prop) :
    ∀ {xs:List PyData} {ρ:List Sl},(∀ x∈xs,∀ ρ,I ρ→∃ ρ1,g x ρ=some ρ1∧((∃ r,f x=some r∧s ρ1=.ret (.ret r))∨(f x=none∧∃ ρ2,s ρ1=.ret (.next ρ2)∧I ρ2)))→I ρ →
      (∃ r,xs.findSome? f=some r∧forL g s xs ρ=.ret (.ret r))∨(xs.findSome? f=none∧∃ ρ2,forL g s xs ρ=.ret (.next ρ2)∧I ρ2)
  | [],ρ,_,h0=>.inr ⟨rfl,ρ,rfl,h0⟩
  | x::xs,ρ,h,h0=>by
    obtain ⟨ρ1,e,hx⟩:=h x (by simp) ρ h0
    rw [for_cons,e,Tr.of_some,Tr.ret_bind]
    unfold for2
    rcases hx with ⟨r,e1,e2⟩ | ⟨e1,ρ2,e2,h2⟩
    · exact .inl ⟨r,by simp [e1],by rw [e2,Tr.ret_bind]; rfl⟩
    · rw [e2,Tr.ret_bind,ev_for3n]
      rcases for_find I (fun y hy=>h y (List.mem_cons_of_mem _ hy)) h2 with ⟨r,q1,q2⟩ | ⟨q1,ρ3,q2,q3⟩
      · exact .inl ⟨r,by simp [e1,q1],q2⟩
      · exact .inr ⟨by simp [e1,q1],ρ3,q2,q3⟩
theorem rngL_mid {lo hi:Int} {pre post:List PyData} {x:PyData} (h:rngL lo hi=pre++x::post):x=.int (lo+pre.length)∧(pre.length:Int) < hi - lo:=by
  have h1:(rngL lo hi)[pre.length]?=some x:=by rw [h]; simp
  have hl:pre.length < (rngL lo hi).length:=(List.getElem?_eq_some_iff.mp h1).1
  rw [rngL_len] at hl
  unfold rngL rangeI at h1
  rw [List.map_map,List.getElem?_map,List.getElem?_range (by omega)] at h1
  refine ⟨?_,by omega⟩
  cases h1
  rfl
theorem rngR_mid {lo hi:Int} {pre post:List PyData} {x:PyData} (h:(rngL lo hi).reverse=pre++x::post):x=.int (hi - 1 - pre.length)∧(pre.length:Int) < hi - lo:=by
  have h1:((rngL lo hi).reverse)[pre.length]?=some x:=by rw [h]; simp
  have hl:pre.length < ((rngL lo hi).reverse).length:=(List.getElem?_eq_some_iff.mp h1).1
  rw [List.length_reverse,rngL_len] at hl
  rw [List.getElem?_reverse (by rw [rngL_len]; exact hl),rngL_len] at h1
  unfold rngL rangeI at h1
  rw [List.map_map,List.getElem?_map,List.getElem?_range (by omega)] at h1
  refine ⟨?_,by omega⟩
  cases h1
  show PyData.int (lo+(((hi - lo).toNat - 1 - pre.length:Nat):Int))=_
  congr 1
  omega
theorem rngL_mem {lo hi:Int} {x:PyData} (h:x∈rngL lo hi):∃ z:Int,x=.int z∧lo≤z∧z < hi:=by
  unfold rngL at h
  obtain ⟨z,hz,rfl⟩:=List.mem_map.mp h
  have:=rangeI_mem hz
  exact ⟨z,rfl,by omega,by omega⟩
theorem mapT_rng {h:PyData→Tr PyData} {f:Int→PyData} {lo hi:Int} (hx:∀ z:Int,lo≤z→z < hi→h (.int z)=.ret (f z)):mapT h (rngL lo hi)=.ret ((rangeI lo (hi - lo).toNat).map f):=by
  have key:∀ l:List Int,(∀ z∈l,lo≤z∧z < hi)→mapT h (l.map PyData.int)=.ret (l.map f):=by
    intro l
    induction l with
    | nil=>intro _; rfl
    | cons z l ih =>
      intro hz
      have hh:=hz z (by simp)
      rw [List.map_cons,mapT,hx z hh.1 hh.2,Tr.ret_bind,ih fun y hy=>hz y (List.mem_cons_of_mem _ hy)]
      rfl
  unfold rngL
  refine key _ fun z hz=>?_
  have:=rangeI_mem hz
  omega
theorem enum_mid {xs:List PyData} {pre post:List PyData} {x:PyData} (h:enumD xs=pre++x::post):∃ y,xs[pre.length]?=some y∧x=.tuple [.int pre.length,y]:=by
  have h1:(enumD xs)[pre.length]?=some x:=by rw [h]; simp
  unfold enumD at h1
  rw [List.getElem?_zipWith] at h1
  cases hx:xs[pre.length]? with
  | none=>rw [hx] at h1; simp at h1
  | some y =>
    have hl:pre.length < xs.length:=(List.getElem?_eq_some_iff.mp hx).1
    rw [hx,List.getElem?_range hl] at h1
    simp at h1
    exact ⟨y,rfl,h1.symm⟩
theorem enumD_len (xs:List PyData):(enumD xs).length=xs.length:=by unfold enumD; simp
end L2
set_option Elab.async false
set_option linter.all false
set_option maxRecDepth 100000
namespace Tw
open PySem L2
noncomputable def bst (g:Int→Int) (top:Int):Nat→Int×Int
  | 0=>(g top,top)
  | n+1=>if (bst g top n).1 < g (top - ((n+1:Nat):Int)) then bst g top n else (g (top - ((n+1:Nat):Int)),top - ((n+1:Nat):Int))
theorem bst_lvl (g:Int→Int) (top:Int):∀ n:Nat,top - n≤(bst g top n).2∧(bst g top n).2≤top∧g (bst g top n).2=(bst g top n).1
  | 0=>by unfold bst; simp
  | n+1=>by
    have ih:=bst_lvl g top n
    unfold bst
    split
    · exact ⟨by omega,ih.2.1,ih.2.2⟩
    · exact ⟨Int.le_refl _,by omega,rfl⟩
theorem bst_min (g:Int→Int) (top:Int):∀ (n:Nat) (y:Int),top - n≤y→y≤top→(bst g top n).1≤g y
  | 0,y,h1,h2=>by
    have:y=top:=by omega
    subst this
    unfold bst
    exact Int.le_refl _
  | n+1,y,h1,h2=>by
    by_cases hy:y=top - ((n+1:Nat):Int)
    · unfold bst
      split
      · subst hy; omega
      · subst hy; exact Int.le_refl _
    · have ih:=bst_min g top n y (by omega) h2
      unfold bst
      split
      · exact ih
      · omega
theorem bst_least (g:Int→Int) (top:Int):∀ (n:Nat) (y:Int),top - n≤y→y < (bst g top n).2→(bst g top n).1 < g y
  | 0,y,h1,h2=>by
    unfold bst at h2
    dsimp only at h2
    omega
  | n+1,y,h1,h2=>by
    by_cases hc:(bst g top n).1 < g (top - ((n+1:Nat):Int))
    · have e:bst g top (n+1)=bst g top n:=by rw [bst,if_pos hc]
      rw [e] at h2 ⊢
      by_cases hy:y=top - ((n+1:Nat):Int)
      · subst hy; exact hc
      · exact bst_least g top n y (by omega) h2
    · have e:bst g top (n+1)=(g (top - ((n+1:Nat):Int)),top - ((n+1:Nat):Int)):=by rw [bst,if_neg hc]
      rw [e] at h2
      dsimp only at h2
      omega
noncomputable def pck (g:Int→Int) (top K x:Int):Int×Int :=
  match (top - x).toNat with
  | 0=>(g x,x)
  | n+1=>if K+(bst g top n).1 < g x then (K+(bst g top n).1,(bst g top n).2) else (g x,x)
noncomputable def cst (g:Int→Int) (top K P x:Int):Int:=(pck g top K x).1 - P * x
noncomputable def lvl (g:Int→Int) (top K x:Int):Int:=(pck g top K x).2
theorem pck_top (g:Int→Int) (top K:Int):pck g top K top=(g top,top):=by
  unfold pck
  rw [Int.sub_self]
  rfl
theorem pck_at (g:Int→Int) (top K:Int) (n:Nat):pck g top K (top - ((n+1:Nat):Int))=if K+(bst g top n).1 < g (top - ((n+1:Nat):Int)) then (K+(bst g top n).1,(bst g top n).2) else (g (top - ((n+1:Nat):Int)),top - ((n+1:Nat):Int)):=by
  unfold pck
  have e:(top - (top - ((n+1:Nat):Int))).toNat=n+1:=by omega
  rw [e]
theorem pck_le {g:Int→Int} {top K x:Int} (hx:x≤top):(pck g top K x).1≤g x∧∀ y,x < y→y≤top→(pck g top K x).1≤K+g y:=by
  by_cases ht:x=top
  · subst ht
    rw [pck_top]
    exact ⟨Int.le_refl _,fun y h1 h2=>by omega⟩
  · obtain ⟨n,hn⟩:∃ n:Nat,x=top - ((n+1:Nat):Int):=⟨(top - x - 1).toNat,by omega⟩
    subst hn
    rw [pck_at]
    split
    · rename_i hc
      exact ⟨by dsimp only; omega,fun y h1 h2=>by have:=bst_min g top n y (by omega) h2; dsimp only; omega⟩
    · rename_i hc
      exact ⟨Int.le_refl _,fun y h1 h2=>by have:=bst_min g top n y (by omega) h2; dsimp only; omega⟩
theorem pck_is {g:Int→Int} {top K x:Int} (hx:x≤top):x≤(pck g top K x).2∧(pck g top K x).2≤top∧(((pck g top K x).2=x∧(pck g top K x).1=g x)∨(x < (pck g top K x).2∧(pck g top K x).1=K+g (pck g top K x).2∧(pck g top K x).1 < g x)):=by
  by_cases ht:x=top
  · subst ht
    rw [pck_top]
    exact ⟨Int.le_refl _,Int.le_refl _,.inl ⟨rfl,rfl⟩⟩
  · obtain ⟨n,hn⟩:∃ n:Nat,x=top - ((n+1:Nat):Int):=⟨(top - x - 1).toNat,by omega⟩
    subst hn
    rw [pck_at]
    have hb:=bst_lvl g top n
    split
    · rename_i hc
      exact ⟨by dsimp only; omega,hb.2.1,.inr ⟨by dsimp only; omega,by dsimp only; rw [hb.2.2],hc⟩⟩
    · exact ⟨Int.le_refl _,by dsimp only; omega,.inl ⟨rfl,rfl⟩⟩
theorem pck_least {g:Int→Int} {top K x y:Int} (hx:x≤top) (h1:x < y) (h2:y < (pck g top K x).2):(pck g top K x).1 < K+g y:=by
  by_cases ht:x=top
  · subst ht
    rw [pck_top] at h2
    dsimp only at h2
    omega
  · obtain ⟨n,hn⟩:∃ n:Nat,x=top - ((n+1:Nat):Int):=⟨(top - x - 1).toNat,by omega⟩
    subst hn
    rw [pck_at] at h2 ⊢
    split at h2
    · rename_i hc
      rw [if_pos hc]
      have:=bst_least g top n y (by omega) h2
      dsimp only
      omega
    · dsimp only at h2
      omega
theorem pck_nb {g:Int→Int} {top K x:Int} {b:Nat} (hx:x≤top) (hg:∀ y,x≤y→y≤top→nb b (g y)) (hK:nb b K):nb (b+1) (pck g top K x).1:=by
  obtain ⟨h1,h2,h3⟩:=pck_is (g:=g) (K:=K) hx
  rcases h3 with ⟨e1,e2⟩ | ⟨e1,e2,e3⟩
  · rw [e2]
    exact nb_mono (hg x (Int.le_refl _) hx) (by omega)
  · rw [e2]
    exact nb_mono (nb_add hK (hg _ h1 h2)) (by omega)
structure DayB (l:List Int):Prop where
  len:l.length≤16
  nb:∀ w∈l,nb 30 w
  w0:∀ w∈l,0≤w
  pos:0 < l.sum
theorem day_nb {s:Shp} (h:s.Ok) {y f:Int} (hy:nb 20 y) (hf:nb 40 f):nb 100 (s.day y f):=by
  have hd:nb 7 s.depth:=by have:=h.t0; have:=h.d0; have:=h.td; exact nb_of (by show -128 < _; omega) (by show _ < 128; omega)
  have hn:nb 50 (s.nx y f):=by
    unfold Shp.nx maxI
    exact nb_ite (nb_mono (nb_neg hd) (by decide)) (nb_mono (nb_sub hy hf) (by decide))
  unfold Shp.day
  refine nb_mono (nb_add (nb_ite (k:=95) (nb_mul h.keep hn) (nb_mul h.lack (nb_neg hn))) (nb_mul h.lost (nb_sub hn (nb_sub hy hf)))) (by decide)
noncomputable def Bd (s:Shp) (b:Nat) (f:Int→Int):Prop:=∀ x,-s.depth≤x→x≤s.top→nb b (f x)
theorem wg_nb {s:Shp} (h:s.Ok) {day:List Int} (hd:DayB day) {y:Int} (y1:-s.depth≤y) (y2:y≤s.top) {A:Int→Int} {b:Nat} (hA:Bd s b A) {sc:Int} (hs:nb b sc):nb (b+150) (s.wg day y A sc):=by
  have:=h.t0
  have:=h.d0
  have:=h.td
  have hlen:=hd.len
  have hy:nb 20 y:=nb_of (by show -1048576 < _; omega) (by show _ < 1048576; omega)
  have key:∀ (l:List Int) (k:Nat),(∀ w∈l,nb 30 w)→k+l.length≤16→nb (30+(b+101)+l.length) (ws (fun f=>sc * s.day y f+A (s.nx y f)) k l):=by
    intro l
    induction l with
    | nil=>intro k _ _; unfold ws nb; exact Nat.pos_of_ne_zero (by simp)
    | cons w l ih =>
      intro k hw hk
      rw [List.length_cons] at hk ⊢
      have hf:nb 40 (k:Int):=nb_of (by show -1099511627776 < _; omega) (by show _ < 1099511627776; omega)
      have b1:=nb_add (nb_mul hs (day_nb h hy hf)) (hA _ (nx_ge s y k) (nx_le h y2 (show (0:Int)≤k by omega)))
      have h1:=nb_mul (hw w (by simp)) b1
      have h2:=ih (k+1) (fun v hv=>hw v (List.mem_cons_of_mem _ hv)) (by omega)
      unfold ws
      exact nb_mono (nb_add h1 h2) (by omega)
  exact nb_mono (key day 0 hd.nb (by omega)) (by omega)
theorem sum_nbD {day:List Int} (hd:DayB day):nb 46 day.sum:=nb_mono (sum_nb hd.nb) (by have:=hd.len; omega)
theorem sm_nb {s:Shp} (h:s.Ok) {day:List Int} (hd:DayB day) {A:Int→Int} {b:Nat} (hA:Bd s b A) {sc:Int} (hs:nb b sc):Bd s (b+151) (s.sm day A sc):=fun y y1 y2=>by
  have:=h.t0
  have:=h.d0
  have:=h.td
  have hy:nb 20 y:=nb_of (by show -1048576 < _; omega) (by show _ < 1048576; omega)
  unfold Shp.sm
  exact nb_mono (nb_add (nb_mul (nb_mul (nb_mul hs (sum_nbD hd)) h.piece) hy) (wg_nb h hd y1 y2 hA hs)) (by omega)
noncomputable def Shp.bk (s:Shp):List (List Int)→(Int→Int)×Int
  | []=>(s.fin,1)
  | day::rest=>(cst (s.sm day (s.bk rest).1 (s.bk rest).2) s.top ((s.bk rest).2 * day.sum * s.start) ((s.bk rest).2 * day.sum * s.piece),(s.bk rest).2 * day.sum)
noncomputable def Shp.sms (s:Shp) (day:List Int) (rest:List (List Int)) (y:Int):Int:=s.sm day (s.bk rest).1 (s.bk rest).2 y
theorem bk_sc {s:Shp}:∀ {fs:List (List Int)},(∀ l∈fs,DayB l)→0 < (s.bk fs).2
  | [],_=>by show (0:Int) < 1; decide
  | day::rest,h=>Int.mul_pos (bk_sc fun l hl=>h l (List.mem_cons_of_mem _ hl)) (h day (by simp)).pos
theorem fin_nb {s:Shp} (h:s.Ok):Bd s 100 s.fin:=fun x h1 h2=>by
  have:=h.t0
  have:=h.d0
  have:=h.td
  have hx:nb 20 x:=nb_of (by show -1048576 < _; omega) (by show _ < 1048576; omega)
  unfold Shp.fin
  exact nb_mono (nb_ite (k:=65) (nb_mul (nb_neg h.back) hx) (nb_mul h.late (nb_neg hx))) (by decide)
theorem cst_nb {s:Shp} (h:s.Ok) {g:Int→Int} {b:Nat} (hg:Bd s b g) {sc:Int} (hs:nb b sc):Bd s (b+112) (cst g s.top (sc * s.start) (sc * s.piece)):=fun x h1 h2=>by
  have:=h.t0
  have:=h.d0
  have:=h.td
  have hx:nb 20 x:=nb_of (by show -1048576 < _; omega) (by show _ < 1048576; omega)
  unfold cst
  have k1:=pck_nb (b:=b+45) (K:=sc * s.start) h2 (fun y y1 y2=>nb_mono (hg y (by omega) y2) (by omega)) (nb_mul hs h.start)
  exact nb_mono (nb_sub k1 (nb_mul (nb_mul hs h.piece) hx)) (by omega)
theorem bk_nb {s:Shp} (h:s.Ok):∀ {fs:List (List Int)},(∀ l∈fs,DayB l)→Bd s (100+300 * fs.length) (s.bk fs).1∧nb (100+300 * fs.length) (s.bk fs).2
  | [],_=>⟨fin_nb h,nb_of (by show -(2 ^ 100:Nat) < (1:Int); omega) (by show (1:Int) < (2 ^ 100:Nat); omega)⟩
  | day::rest,hf=>by
    obtain ⟨i1,i2⟩:=bk_nb h (fs:=rest) fun l hl=>hf l (List.mem_cons_of_mem _ hl)
    have hd:=hf day (by simp)
    have k1:=sm_nb h hd i1 i2
    have k2:=nb_mul i2 (sum_nbD hd)
    rw [List.length_cons]
    refine ⟨fun x h1 h2=>nb_mono (cst_nb h (b:=100+300 * rest.length+151) k1 (nb_mono k2 (by omega)) x h1 h2) (by omega),nb_mono k2 (by omega)⟩
theorem cut_tail (fs:List (List Int)) (t:Nat):L2.cutD (fs.map tI) (some ((t:Int)+1)) none=(fs.drop (t+1)).map tI:=by
  unfold L2.cutD
  have e1:HT.sIx (fs.map tI).length 0 (some ((t:Int)+1))=min (t+1) fs.length:=by
    unfold HT.sIx
    rw [List.length_map]
    simp only
    split <;> omega
  have e2:HT.sIx (fs.map tI).length (fs.map tI).length none=fs.length:=by
    unfold HT.sIx
    rw [List.length_map]
  rw [e1,e2,List.map_drop]
  rcases Nat.le_total (t+1) fs.length with hle | hle
  · rw [Nat.min_eq_left hle,List.take_of_length_le (by rw [List.length_drop,List.length_map]; exact Nat.le_refl _)]
  · rw [Nat.min_eq_right hle,List.drop_eq_nil_of_le (by rw [List.length_map]; exact Nat.le_refl _),List.drop_eq_nil_of_le (by rw [List.length_map]; exact hle)]
    simp
theorem revT_mid {fs:List (List Int)} {pre post:List PyData} {x:PyData} (h:(fs.map tI).reverse=pre++x::post):∃ (day:List Int),x=tI day∧pre.length < fs.length∧fs.drop (fs.length - (pre.length+1))=day::fs.drop (fs.length - pre.length):=by
  have h1:((fs.map tI).reverse)[pre.length]?=some x:=by rw [h]; simp
  have hl:pre.length < ((fs.map tI).reverse).length:=(List.getElem?_eq_some_iff.mp h1).1
  rw [List.length_reverse,List.length_map] at hl
  rw [List.getElem?_reverse (by rw [List.length_map]; exact hl),List.length_map,List.getElem?_map] at h1
  obtain ⟨day,hd,rfl⟩:=Option.map_eq_some_iff.mp h1
  refine ⟨day,rfl,hl,?_⟩
  have e:fs.length - (pre.length+1)=fs.length - 1 - pre.length:=by rw [Nat.add_comm pre.length 1,Nat.sub_add_eq]
  have e2:fs.length - pre.length=fs.length - 1 - pre.length+1:=by omega
  rw [e,e2,List.drop_eq_getElem_cons (by omega)]
  congr 1
  exact (List.getElem?_eq_some_iff.mp hd).2
end Tw
set_option Elab.async false
set_option linter.all false
set_option maxRecDepth 100000
namespace Tw
open PySem L2
noncomputable abbrev rng (lo hi:Int):List Int:=rangeI lo (hi - lo).toNat
variable {α:Type}
theorem rangeI_add (lo:Int) (a b:Nat):rangeI lo (a+b)=rangeI lo a++rangeI (lo+a) b:=by
  unfold rangeI
  rw [List.range_add,List.map_append,List.map_map]
  congr 1
  apply List.map_congr_left
  intro k _
  show lo+((a+k:Nat):Int)=lo+(a:Int)+(k:Int)
  omega
noncomputable def f3 (lo a b c:Int) (t:Int→Int→Int→Option α):Option α:=(rng lo a).findSome? fun u=>(rng (u+1) b).findSome? fun v=>(rng (v+1) c).findSome? fun w=>t u v w
end Tw
set_option Elab.async false
set_option linter.all false
set_option maxRecDepth 100000
namespace Tw
open PySem L2
noncomputable def enu:Nat→List Int→List PyData
  | _,[]=>[]
  | k,n::ns=>.tuple [.int k,.int n]::enu (k+1) ns
theorem enu_eq':∀ (ns:List Int) (k:Nat),(List.range' k (ns.map PyData.int).length).zipWith (fun (n:Nat) x=>PyData.tuple [.int n,x]) (ns.map PyData.int)=enu k ns
  | [],k=>rfl
  | n::ns,k=>by
    rw [List.map_cons,List.length_cons,List.range'_succ,List.zipWith_cons_cons,enu_eq' ns (k+1)]
    rfl
theorem enu_eq (ns:List Int):enumD (ns.map PyData.int)=enu 0 ns:=by
  unfold enumD
  rw [List.range_eq_range',enu_eq']
theorem enu_len:∀ (ns:List Int) (k:Nat),(enu k ns).length=ns.length
  | [],k=>rfl
  | n::ns,k=>by rw [enu,List.length_cons,List.length_cons,enu_len ns]
noncomputable def snF:Nat→List Int→List Int
  | _,[]=>[]
  | k,n::ns=>if n > 0 then (k:Int)::snF (k+1) ns else snF (k+1) ns
theorem snF_mem:∀ {ns:List Int} {k:Nat} {x:Int},x∈snF k ns→(k:Int)≤x∧x < k+ns.length
  | [],k,x,h=>by cases h
  | n::ns,k,x,h=>by
    unfold snF at h
    rw [List.length_cons]
    split at h
    · rcases List.mem_cons.mp h with rfl | h
      · omega
      · have:=snF_mem h
        omega
    · have:=snF_mem h
      omega
theorem snF_ne:∀ {ns:List Int} {k:Nat},(∃ n∈ns,n > 0)→snF k ns≠[]
  | [],k,h=>by obtain ⟨n,h,_⟩:=h; cases h
  | n::ns,k,h=>by
    unfold snF
    split
    · simp
    · rename_i hn
      obtain ⟨m,hm,hp⟩:=h
      rcases List.mem_cons.mp hm with rfl | hm
      · exact absurd hp hn
      · exact snF_ne ⟨m,hm,hp⟩
noncomputable def great (ls:List Int):Int:=maxL (snF 0 ls)
noncomputable def reach (fs:List (List Int)):Int:=(fs.map great).sum
structure DayOk (most:Nat) (ls:List Int):Prop where
  len:ls.length≤most
  pos:∃ n∈ls,n > 0
  le:∀ n∈ls,0≤n∧n≤1001
theorem DayOk.mono {m n:Nat} {ls:List Int} (h:DayOk m ls) (hm:m≤n):DayOk n ls:=⟨Nat.le_trans h.len hm,h.pos,h.le⟩
theorem sum_ge {ls:List Int} (h:∀ n∈ls,0≤n):∀ n∈ls,n≤ls.sum:=by
  induction ls with
  | nil=>intro n hn; cases hn
  | cons a l ih =>
    intro n hn
    have h0:0≤l.sum:=by
      clear ih hn
      have h':∀ n∈l,0≤n:=fun m hm=>h m (List.mem_cons_of_mem _ hm)
      clear h
      induction l with
      | nil=>decide
      | cons b l ih2 =>
        rw [List.sum_cons]
        have:=h' b (by simp)
        have:=ih2 fun m hm=>h' m (List.mem_cons_of_mem _ hm)
        omega
    have ha:=h a (by simp)
    rw [List.sum_cons]
    rcases List.mem_cons.mp hn with rfl | hn
    · omega
    · have:=ih (fun m hm=>h m (List.mem_cons_of_mem _ hm)) n hn
      omega
theorem sum_pos:∀ {ns:List Int},(∀ n∈ns,0≤n)→ns.sum≠0→∃ n∈ns,n > 0
  | [],_,h=>absurd rfl h
  | n::ns,hn,h=>by
    by_cases hp:n > 0
    · exact ⟨n,by simp,hp⟩
    · have h0:=hn n (by simp)
      rw [List.sum_cons] at h
      obtain ⟨m,hm,hp⟩:=sum_pos (ns:=ns) (fun m hm=>hn m (List.mem_cons_of_mem _ hm)) (by omega)
      exact ⟨m,List.mem_cons_of_mem _ hm,hp⟩
theorem DayOk.B {m:Nat} {ls:List Int} (h:DayOk m ls) (hm:m≤16):DayB ls:=by
  refine ⟨Nat.le_trans h.len hm,fun w hw=>?_,fun w hw=>(h.le w hw).1,?_⟩
  · have:=h.le w hw
    exact nb_of (by show -1073741824 < _; omega) (by show _ < 1073741824; omega)
  · obtain ⟨n,hn,hp⟩:=h.pos
    have:=sum_ge (fun n hn=>(h.le n hn).1) n hn
    omega
theorem great_le {most:Nat} {ls:List Int} (h:DayOk most ls):0≤great ls∧great ls≤(most:Int) - 1:=by
  have h1:=(maxL_spec (snF_ne (k:=0) h.pos)).1
  have h2:=snF_mem h1
  have:=h.len
  unfold great
  omega
theorem reach_le:∀ {fs:List (List Int)} {most:Nat},1≤most→(∀ ls∈fs,DayOk most ls)→0≤reach fs∧reach fs≤fs.length * ((most:Int) - 1)
  | [],most,_,_=>by unfold reach; simp
  | ls::fs,most,hm,h=>by
    have ih:=reach_le (fs:=fs) hm fun l hl=>h l (List.mem_cons_of_mem _ hl)
    have hg:=great_le (h ls (by simp))
    unfold reach at ih ⊢
    rw [List.map_cons,List.sum_cons,List.length_cons]
    have e:(((fs.length+1:Nat):Int)) * ((most:Int) - 1)=fs.length * ((most:Int) - 1)+((most:Int) - 1):=by
      rw [Int.natCast_add,Int.add_mul]
      simp
    rw [e]
    omega
structure FalOk (fs:List (List Int)):Prop where
  f:∀ ls∈fs,DayOk 8 ls
  l0:1≤fs.length
  l1:fs.length≤6
theorem FalOk.B {fs:List (List Int)} (h:FalOk fs):∀ l∈fs,DayB l:=fun l hl=>(h.f l hl).B (by decide)
structure Shp.Dr (s:Shp):Prop where
  t0:0≤s.top
  d0:0≤s.depth
  td:s.top+s.depth≤39
  p:∀ n∈[s.start,s.piece,s.keep,s.lack,s.lost,s.back,s.late],0≤n∧n≤1000000
theorem Shp.Dr.ok {s:Shp} (h:s.Dr):s.Ok:=by
  have hp:=h.p
  simp only [List.mem_cons,List.not_mem_nil,or_false,forall_eq_or_imp,forall_eq] at hp
  obtain ⟨h1,h2,h3,h4,h5,h6,h7⟩:=hp
  have k:∀ n:Int,0≤n∧n≤1000000→nb 45 n:=fun n hn=>nb_of (by show -35184372088832 < _; omega) (by show _ < 35184372088832; omega)
  exact ⟨h.t0,h.d0,by have:=h.td; omega,h1.1,k _ h1,k _ h2,k _ h3,k _ h4,k _ h5,k _ h6,k _ h7⟩
theorem shp_of {a b c d e f g h i:Int}:PyData.tuple [.int a,.int b,.int c,.int d,.int e,.int f,.int g,.int h,.int i]=(Shp.mk a b c d e f g h i).d:=by
  unfold Shp.d
  rfl
theorem it_tI (l:List Int):it1 (tI l)=.ret (l.map PyData.int):=rfl
theorem it_fD (l:List (List Int)):it1 (fD l)=.ret (l.map tI):=rfl
theorem len_fD (l:List (List Int)):cb1 lenD [fD l]=.ret (.int l.length):=by
  show Tr.ret (PyData.int ((l.map tI).length:Int))=_
  rw [List.length_map]
end Tw
set_option Elab.async false
set_option linter.all false
set_option maxRecDepth 100000
set_option exponentiation.threshold 9000
namespace Tw
open PySem L2
end Tw
set_option Elab.async false
set_option linter.all false
set_option maxRecDepth 100000
set_option exponentiation.threshold 9000
namespace Tw
open PySem L2
noncomputable def pr (p:Int×Int):List Int:=[p.1,p.2]
end Tw
set_option Elab.async false
set_option linter.all false
set_option maxRecDepth 100000
namespace Tw
open PySem L2
end Tw
set_option Elab.async false
set_option linter.all false
set_option maxRecDepth 100000
namespace Tw
open PySem L2
noncomputable def prd:List (List Int)→Int
  | []=>1
  | d::fs=>prd fs * d.sum
theorem prd_bk (s:Shp):∀ fs:List (List Int),prd fs=(s.bk fs).2
  | []=>rfl
  | d::fs=>by
    show prd fs * d.sum=(s.bk fs).2 * d.sum
    rw [prd_bk s fs]
end Tw
set_option Elab.async false
set_option linter.all false
set_option maxRecDepth 100000
namespace Tw
open PySem L2
theorem reach_cons (d:List Int) (fs:List (List Int)):reach (d::fs)=great d+reach fs:=by
  unfold reach
  rw [List.map_cons,List.sum_cons]
theorem reach_0:∀ {fs:List (List Int)},(∀ l∈fs,∃ n∈l,n > 0)→0≤reach fs
  | [],_=>by decide
  | d::fs,h=>by
    have:=reach_0 (fs:=fs) fun l hl=>h l (List.mem_cons_of_mem _ hl)
    have h1:=(maxL_spec (snF_ne (k:=0) (h d (by simp)))).1
    have h2:=snF_mem h1
    rw [reach_cons]
    unfold great
    omega
end Tw
set_option Elab.async false
set_option linter.all false
set_option maxRecDepth 100000
namespace Tw
open PySem L2
theorem rangeI_snoc (lo:Int) (n:Nat):rangeI lo (n+1)=rangeI lo n++[lo+n]:=by
  rw [rangeI_add]
  congr 1
  unfold rangeI
  simp
noncomputable def lsr (o:Int→Bool):Nat→Int
  | 0=>0
  | n+1=>if o n=true then lsr o n else (n:Int)+1
theorem lsr_find {o:Int→Bool}:∀ n:Nat,((rangeI 0 n).reverse.find? (fun k=>!o k)=none∧lsr o n=0)∨∃ k,(rangeI 0 n).reverse.find? (fun k=>!o k)=some k∧lsr o n=k+1∧0≤k∧k < n∧o k=false
  | 0=>.inl ⟨rfl,rfl⟩
  | n+1=>by
    rw [rangeI_snoc,List.reverse_append]
    have er:([0+(n:Int)]:List Int).reverse=[(n:Int)]:=by simp
    rw [er]
    show (((n:Int)::(rangeI 0 n).reverse).find? _=none∧_)∨∃ k,((n:Int)::(rangeI 0 n).reverse).find? _=some k∧_
    unfold lsr
    cases hp:o n with
    | true =>
      rw [List.find?_cons_of_neg (by simp [hp]),if_pos rfl]
      rcases lsr_find (o:=o) n with z | ⟨k,a,b,c,d,e⟩
      · exact .inl z
      · exact .inr ⟨k,a,b,c,by omega,e⟩
    | false =>
      rw [List.find?_cons_of_pos (by simp [hp]),if_neg (by simp)]
      exact .inr ⟨n,rfl,rfl,by omega,by omega,hp⟩
theorem wh_down {p:List Sl→Tr Bool} {s:List Sl→Tr Ou} {E:Int→List Sl} {o:Int→Bool} {N:Nat} (hp0:p (E 0)=.ret false) (hp:∀ j:Nat,j < N→p (E (j+1))=.ret (o j)) (hs:∀ j:Nat,j < N→s (E (j+1))=.ret (.next (E j))) :
    ∀ n k:Nat,n≤N→whL p s (n+1+k) (E n)=.ret (.next (E (lsr o n)))
  | 0,k,_=>by
    have e:0+1+k=k+1:=by omega
    rw [e,whL]
    show ((p (E 0)).bind _)=_
    rw [hp0,Tr.ret_bind]
    rfl
  | n+1,k,h=>by
    have e:n+1+1+k=(n+1+k)+1:=by omega
    have ec:(((n+1:Nat):Int))=(n:Int)+1:=by omega
    rw [e,whL,ec,hp n (by omega),Tr.ret_bind]
    unfold lsr
    cases ho:o n with
    | true =>
      rw [if_pos rfl,if_pos rfl,hs n (by omega),Tr.ret_bind]
      exact wh_down hp0 hp hs n k (by omega)
    | false =>
      rw [if_neg (by simp),if_neg (by simp)]
noncomputable def ownD (g:Int→Int) (top K least k:Int):Bool:=decide (lvl g top K (least+k)=least+k)
noncomputable def chkD (g:Int→Int) (top K G x:Int):Bool:=decide (K+g G=(pck g top K x).1)
noncomputable def mks (a b:Int):PyData:=.tuple [.str "marks",.int a,.int b]
noncomputable def mkn (a b:Int):PyData:=.tuple [.str "none",.int a,.int b]
noncomputable def mkD (g:Int→Int) (top K least:Int):PyData :=
  match (rangeI 0 (top - least).toNat).reverse.find? (fun k=>!ownD g top K least k) with
  | none=>mks least least
  | some l=>match (rangeI 0 l.toNat).reverse.find? (fun k=>!chkD g top K (lvl g top K (least+l)) (least+k)) with
    | some k=>mkn (least+k) (least+l)
    | none=>mks (least+l+1) (lvl g top K (least+l))
theorem own_iff {g:Int→Int} {top K x:Int} (hx:x≤top):lvl g top K x=x ↔ g x=(pck g top K x).1:=by
  unfold lvl
  rcases (pck_is (g:=g) (K:=K) hx).2.2 with ⟨a,b⟩ | ⟨a,b,c⟩
  · exact ⟨fun _=>b.symm,fun _=>a⟩
  · exact ⟨fun z=>by omega,fun z=>by omega⟩
theorem chk_iff {g:Int→Int} {top K x G:Int} (h1:x < G) (h2:G≤top):(K+g G≤g x∧g G=minL ((rangeI (x+1) (top - x).toNat).map g)) ↔ K+g G=(pck g top K x).1:=by
  have hx:x≤top:=by omega
  have hne:(rangeI (x+1) (top - x).toNat).map g≠[]:=by
    intro z
    have:=congrArg List.length z
    rw [List.length_map,rangeI_length] at this
    simp at this
    omega
  obtain ⟨m1,m2⟩:=minL_spec hne
  obtain ⟨y,hy,ey⟩:=List.mem_map.mp m1
  have hy':=rangeI_mem hy
  obtain ⟨p1,p2⟩:=pck_le (g:=g) (K:=K) hx
  have hG:∀ z,x < z→z≤top→minL ((rangeI (x+1) (top - x).toNat).map g)≤g z:=fun z z1 z2=>m2 _ (List.mem_map.mpr ⟨z,by
    unfold rangeI
    exact List.mem_map.mpr ⟨(z - (x+1)).toNat,List.mem_range.mpr (by omega),by omega⟩,rfl⟩)
  constructor
  · rintro ⟨a,b⟩
    have:=p2 G h1 h2
    obtain ⟨_,_,z | z⟩:=pck_is (g:=g) (K:=K) hx
    · omega
    · obtain ⟨z1,z2,z3⟩:=z
      have:=hG _ z1 (pck_is (g:=g) (K:=K) hx).2.1
      omega
  · intro e
    have a:=p2 y (by omega) (by omega)
    have b:=hG G h1 h2
    rw [← ey] at b ⊢
    omega
end Tw
set_option Elab.async false
set_option linter.all false
set_option maxRecDepth 100000
namespace Tw
open PySem PySem.Spec PyProof.Rows L2
noncomputable def KC (K a b:Int) (g:Int→Int):Prop:=∀ u v w,a≤u→u < v→v < w→w≤b→(w - u) * g v≤(w - v) * g u+(v - u) * (g w+K)
theorem KC.mono {K K' a b:Int} {g:Int→Int} (h:KC K a b g) (hK:K≤K'):KC K' a b g:=fun u v w h1 h2 h3 h4=>by
  have a1:=h u v w h1 h2 h3 h4
  have a2:=Int.mul_le_mul_of_nonneg_left (show g w+K≤g w+K' by omega) (show 0≤v - u by omega)
  omega
theorem KC.sub {K a a' b:Int} {g:Int→Int} (h:KC K a b g) (ha:a≤a'):KC K a' b g:=fun u v w h1 h2 h3 h4=>h u v w (by omega) h2 h3 h4
theorem KC.congr {K a b:Int} {g g':Int→Int} (h:KC K a b g) (e:∀ x,a≤x→x≤b→g' x=g x):KC K a b g':=fun u v w h1 h2 h3 h4=>by
  rw [e u h1 (by omega),e v (by omega) (by omega),e w (by omega) h4]
  exact h u v w h1 h2 h3 h4
theorem KC.add {K K' a b:Int} {g g':Int→Int} (h:KC K a b g) (h':KC K' a b g'):KC (K+K') a b fun x=>g x+g' x:=fun u v w h1 h2 h3 h4=>by
  have a1:=h u v w h1 h2 h3 h4
  have a2:=h' u v w h1 h2 h3 h4
  show (w - u) * (g v+g' v)≤(w - v) * (g u+g' u)+(v - u) * (g w+g' w+(K+K'))
  have e1:(w - u) * (g v+g' v)=(w - u) * g v+(w - u) * g' v:=by grind
  have e2:(w - v) * (g u+g' u)+(v - u) * (g w+g' w+(K+K'))=((w - v) * g u+(v - u) * (g w+K))+((w - v) * g' u+(v - u) * (g' w+K')):=by grind
  omega
theorem KC.mul {K a b m:Int} {g:Int→Int} (h:KC K a b g) (hm:0≤m):KC (m * K) a b fun x=>m * g x:=fun u v w h1 h2 h3 h4=>by
  have a1:=Int.mul_le_mul_of_nonneg_left (h u v w h1 h2 h3 h4) hm
  have e1:m * ((w - u) * g v)=(w - u) * (m * g v):=by grind
  have e2:m * ((w - v) * g u+(v - u) * (g w+K))=(w - v) * (m * g u)+(v - u) * (m * g w+m * K):=by grind
  rw [e1,e2] at a1
  exact a1
theorem kc_lin (P a b:Int):KC 0 a b fun x=>P * x:=fun u v w h1 h2 h3 h4=>by
  show (w - u) * (P * v)≤(w - v) * (P * u)+(v - u) * (P * w+0)
  have:(w - u) * (P * v)=(w - v) * (P * u)+(v - u) * (P * w+0):=by grind
  omega
theorem KC.shift {K a b c:Int} {g:Int→Int} (h:KC K a b g):KC K (a+c) (b+c) fun x=>g (x - c):=fun u v w h1 h2 h3 h4=>by
  have:=h (u - c) (v - c) (w - c) (by omega) (by omega) (by omega) (by omega)
  have e1:w - c - (u - c)=w - u:=by omega
  have e2:w - c - (v - c)=w - v:=by omega
  have e3:v - c - (u - c)=v - u:=by omega
  rw [e1,e2,e3] at this
  exact this
theorem kc_two {p q a b:Int} (hpq:p≤q):KC 0 a b fun x=>if x > 0 then q * x else p * x:=fun u v w h1 h2 h3 h4=>by
  have hd:0≤q - p:=by omega
  have key:∀ x:Int,(if x > 0 then q * x else p * x)=p * x+(q - p) * (if x > 0 then x else 0):=fun x=>by split <;> grind
  show (w - u) * (if v > 0 then q * v else p * v)≤(w - v) * (if u > 0 then q * u else p * u)+(v - u) * ((if w > 0 then q * w else p * w)+0)
  rw [key u,key v,key w]
  have hm:(w - u) * (if v > 0 then v else 0)≤(w - v) * (if u > 0 then u else 0)+(v - u) * (if w > 0 then w else 0):=by
    by_cases hu:u > 0
    · rw [if_pos hu,if_pos (by omega),if_pos (by omega)]
      have:(w - u) * v=(w - v) * u+(v - u) * w:=by grind
      omega
    · rw [if_neg hu]
      by_cases hv:v > 0
      · rw [if_pos hv,if_pos (by omega)]
        have e:(v - u) * w - (w - u) * v=(-u) * (w - v):=by grind
        have:=Int.mul_nonneg (show 0≤-u by omega) (show 0≤w - v by omega)
        omega
      · rw [if_neg hv]
        have:=Int.mul_nonneg (show 0≤v - u by omega) (show 0≤(if w > 0 then w else 0) by split <;> omega)
        omega
  have a1:=Int.mul_le_mul_of_nonneg_left hm hd
  generalize (if u > 0 then u else 0)=mu at *
  generalize (if v > 0 then v else 0)=mv at *
  generalize (if w > 0 then w else 0)=mw at *
  have e1:(w - u) * (p * v+(q - p) * mv)=(w - u) * (p * v)+(q - p) * ((w - u) * mv):=by grind
  have e2:(w - v) * (p * u+(q - p) * mu)+(v - u) * (p * w+(q - p) * mw+0)=(w - u) * (p * v)+(q - p) * ((w - v) * mu+(v - u) * mw):=by grind
  omega
theorem kc_pck {K a top:Int} {g:Int→Int} (hK:0≤K) (h:KC K a top g):KC K a top fun x=>(pck g top K x).1:=fun u v w h1 h2 h3 h4=>by
  show (w - u) * (pck g top K v).1≤(w - v) * (pck g top K u).1+(v - u) * ((pck g top K w).1+K)
  obtain ⟨v1,v2⟩:=pck_le (g:=g) (top:=top) (K:=K) (x:=v) (by omega)
  have vK:∀ y,v≤y→y≤top→(pck g top K v).1≤K+g y:=fun y y1 y2=>by
    by_cases e:y=v
    · subst e; omega
    · exact v2 y (by omega) y2
  have fw:(pck g top K v).1≤(pck g top K w).1+K:=by
    obtain ⟨_,w2,w3⟩:=pck_is (g:=g) (top:=top) (K:=K) (x:=w) (by omega)
    rcases w3 with ⟨_,e⟩ | ⟨l,e,_⟩
    · have:=vK w (by omega) h4
      omega
    · have:=vK _ (show v≤(pck g top K w).2 by omega) w2
      omega
  -- from a place p before v,by its own sum
  have base:∀ p,a≤p→p < v→(w - p) * (pck g top K v).1≤(w - v) * g p+(v - p) * ((pck g top K w).1+K):=fun p p1 p2=>by
    obtain ⟨_,w2,w3⟩:=pck_is (g:=g) (top:=top) (K:=K) (x:=w) (by omega)
    rcases w3 with ⟨_,e⟩ | ⟨l,e,_⟩
    · rw [e]
      have a1:=h p v w p1 p2 h3 h4
      have a2:=Int.mul_le_mul_of_nonneg_left v1 (show 0≤w - p by omega)
      omega
    · rw [e]
      generalize (pck g top K w).2=q at *
      have fq:=vK q (by omega) w2
      have a1:=h p v q p1 p2 (by omega) w2
      have a2:=Int.mul_le_mul_of_nonneg_left v1 (show 0≤q - p by omega)
      generalize (pck g top K v).1=f at *
      generalize g v=gv at *
      generalize g q=gq at *
      generalize g p=gp at *
      have a3:=Int.mul_nonneg (show 0≤v - p by omega) hK
      by_cases hg:f≤gp
      · have b1:=Int.mul_le_mul_of_nonneg_left hg (show 0≤w - v by omega)
        have b2:=Int.mul_le_mul_of_nonneg_left fq (show 0≤v - p by omega)
        have e1:(w - p) * f=(w - v) * f+(v - p) * f:=by grind
        have e2:(v - p) * (K+gq+K)=(v - p) * (K+gq)+(v - p) * K:=by grind
        omega
      · have b1:=Int.mul_nonneg (show 0≤q - w by omega) (show 0≤f - gp by omega)
        have e1:(q - p) * f - (q - v) * gp=(w - p) * f - (w - v) * gp+(q - w) * (f - gp):=by grind
        have e2:(v - p) * (K+gq+K)=(v - p) * (gq+K)+(v - p) * K:=by grind
        omega
  obtain ⟨_,u2,u3⟩:=pck_is (g:=g) (top:=top) (K:=K) (x:=u) (by omega)
  rcases u3 with ⟨_,e⟩ | ⟨l,e,_⟩
  · rw [e]
    exact base u h1 h2
  · rw [e]
    generalize (pck g top K u).2=p at *
    by_cases hp:p < v
    · have b:=base p (by omega) hp
      have c1:=Int.mul_nonneg (show 0≤w - v by omega) hK
      have c2:=Int.mul_le_mul_of_nonneg_left fw (show 0≤p - u by omega)
      generalize (pck g top K v).1=f at *
      generalize (pck g top K w).1+K=fwK at *
      have e1:(w - u) * f=(w - p) * f+(p - u) * f:=by grind
      have e2:(w - v) * (K+g p)+(v - u) * fwK=(w - v) * g p+(v - p) * fwK+((w - v) * K+(p - u) * fwK):=by grind
      omega
    · have b:=vK p (by omega) u2
      have c1:=Int.mul_le_mul_of_nonneg_left b (show 0≤w - v by omega)
      have c2:=Int.mul_le_mul_of_nonneg_left fw (show 0≤v - u by omega)
      generalize (pck g top K v).1=f at *
      have e1:(w - u) * f=(w - v) * f+(v - u) * f:=by grind
      omega
theorem kc_ws {K a b:Int} {F:Int→Int→Int}:∀ {l:List Int} {k:Nat},(∀ w∈l,0≤w)→(∀ f∈snF k l,KC K a b fun y=>F y f)→KC (l.sum * K) a b fun y=>ws (fun f=>F y f) k l
  | [],k,_,_=>fun u v w h1 h2 h3 h4=>by
    show (w - u) * 0≤(w - v) * 0+(v - u) * (0+([]:List Int).sum * K)
    simp
  | w::l,k,h0,h=>by
    have hw:=h0 w (by simp)
    by_cases hp:w > 0
    · have es:snF k (w::l)=(k:Int)::snF (k+1) l:=by rw [snF,if_pos hp]
      rw [es] at h
      have a1:=(h k (by simp)).mul (m:=w) (by omega)
      have a2:=kc_ws (K:=K) (a:=a) (b:=b) (F:=F) (l:=l) (k:=k+1) (fun v hv=>h0 v (List.mem_cons_of_mem _ hv)) fun f hf=>h f (List.mem_cons_of_mem _ hf)
      have e:(w::l).sum * K=w * K+l.sum * K:=by rw [List.sum_cons,Int.add_mul]
      rw [e]
      exact a1.add a2
    · have hz:w=0:=by omega
      have es:snF k (w::l)=snF (k+1) l:=by rw [snF,if_neg hp]
      rw [es] at h
      have a2:=kc_ws (K:=K) (a:=a) (b:=b) (F:=F) (l:=l) (k:=k+1) (fun v hv=>h0 v (List.mem_cons_of_mem _ hv)) h
      have e:(w::l).sum=l.sum:=by rw [List.sum_cons,hz,Int.zero_add]
      rw [e]
      refine a2.congr fun x _ _=>?_
      show ws (fun f=>F x f) k (w::l)=ws (fun f=>F x f) (k+1) l
      rw [ws,hz,Int.zero_mul,Int.zero_add]
end Tw
set_option Elab.async false
set_option linter.all false
set_option maxRecDepth 100000
namespace Tw
open PySem PySem.Spec PyProof.Rows L2
theorem KC.subR {K a b b':Int} {g:Int→Int} (h:KC K a b g) (hb:b'≤b):KC K a b' g:=fun u v w h1 h2 h3 h4=>h u v w h1 h2 h3 (by omega)
structure Shp.Cv (s:Shp):Prop where
  k0:0≤s.keep
  l0:0≤s.lack
  bl:s.back≤s.late
theorem kc_fin {s:Shp} (c:s.Cv) (a b:Int):KC 0 a b s.fin:=by
  have h:=kc_two (p:=-s.late) (q:=-s.back) (a:=a) (b:=b) (by have:=c.bl; omega)
  refine h.congr fun x _ _=>?_
  unfold Shp.fin
  split
  · rfl
  · grind
theorem kc_day {s:Shp} (c:s.Cv) {a b f:Int} (ha:-s.depth+f≤a):KC 0 a b fun y=>s.day y f:=by
  have h:=kc_two (p:=-s.lack) (q:=s.keep) (a:=a - f) (b:=b - f) (by have:=c.k0; have:=c.l0; omega)
  have h2:=h.shift (c:=f)
  have e1:a - f+f=a:=by omega
  have e2:b - f+f=b:=by omega
  rw [e1,e2] at h2
  refine h2.congr fun x x1 _=>?_
  have en:s.nx x f=x - f:=by unfold Shp.nx maxI; split <;> omega
  show s.day x f=if x - f > 0 then s.keep * (x - f) else -s.lack * (x - f)
  unfold Shp.day
  rw [en]
  split <;> grind
theorem great_ge {d:List Int} {f:Int} (h:f∈snF 0 d):f≤great d:=by
  unfold great
  exact (maxL_spec (List.ne_nil_of_mem h)).2 f h
theorem kc_wg {s:Shp} (c:s.Cv) {d:List Int} (h0:∀ w∈d,0≤w) {A:Int→Int} {K a sc:Int} (ha:-s.depth≤a) (hA:KC K a s.top A) (hsc:0≤sc):KC (d.sum * K) (great d+a) s.top fun y=>s.wg d y A sc:=by
  refine kc_ws (F:=fun y f=>sc * s.day y f+A (s.nx y f)) h0 fun f hf=>?_
  have f0:=(snF_mem hf).1
  have f1:=great_ge hf
  have b1:=(kc_day c (a:=great d+a) (b:=s.top) (f:=f) (by omega)).mul hsc
  have b2:=((hA.shift (c:=f)).sub (a':=great d+a) (by omega)).subR (b':=s.top) (by omega)
  have b3:=b1.add b2
  have e:sc * 0+K=K:=by omega
  rw [e] at b3
  refine b3.congr fun y y1 _=>?_
  have en:s.nx y f=y - f:=by unfold Shp.nx maxI; split <;> omega
  show sc * s.day y f+A (s.nx y f)=sc * s.day y f+A (y - f)
  rw [en]
theorem kc_sm {s:Shp} (c:s.Cv) {d:List Int} (h0:∀ w∈d,0≤w) {A:Int→Int} {K a sc:Int} (ha:-s.depth≤a) (hA:KC K a s.top A) (hsc:0≤sc):KC (d.sum * K) (great d+a) s.top (s.sm d A sc):=by
  have b:=(kc_lin (sc * d.sum * s.piece) (great d+a) s.top).add (kc_wg c h0 ha hA hsc)
  rw [Int.zero_add] at b
  exact b
theorem kc_bk {s:Shp} (c:s.Cv) (s0:0≤s.start):∀ {fs:List (List Int)},(∀ l∈fs,DayB l)→(∀ l∈fs,∃ n∈l,n > 0)→KC ((s.bk fs).2 * s.start) (reach fs - s.depth) s.top (s.bk fs).1
  | [],_,_=>(kc_fin c _ _).mono (by show 0≤1 * s.start; omega)
  | d::fs,hB,hp=>by
    have hB':∀ l∈fs,DayB l:=fun l hl=>hB l (List.mem_cons_of_mem _ hl)
    have hp':∀ l∈fs,∃ n∈l,n > 0:=fun l hl=>hp l (List.mem_cons_of_mem _ hl)
    have ih:=kc_bk c s0 hB' hp'
    have r0:=reach_0 hp'
    have sc:=bk_sc (s:=s) hB'
    have hd:=hB d (by simp)
    have h1:=kc_sm c hd.w0 (show -s.depth≤reach fs - s.depth by omega) ih (Int.le_of_lt sc)
    have e1:d.sum * ((s.bk fs).2 * s.start)=(s.bk fs).2 * d.sum * s.start:=by grind
    have e2:great d+(reach fs - s.depth)=reach (d::fs) - s.depth:=by rw [reach_cons]; omega
    rw [e1,e2] at h1
    have hK:0≤(s.bk fs).2 * d.sum * s.start:=Int.mul_nonneg (Int.mul_nonneg (Int.le_of_lt sc) (Int.le_of_lt hd.pos)) s0
    have h2:=(kc_pck hK h1).add (kc_lin (-((s.bk fs).2 * d.sum * s.piece)) (reach (d::fs) - s.depth) s.top)
    rw [Int.add_zero] at h2
    show KC ((s.bk fs).2 * d.sum * s.start) _ _ (cst _ _ _ _)
    refine h2.congr fun x _ _=>?_
    unfold cst
    grind
theorem kc_sms {s:Shp} (c:s.Cv) (s0:0≤s.start) {d:List Int} {fs:List (List Int)} (hB:∀ l∈d::fs,DayB l) (hp:∀ l∈d::fs,∃ n∈l,n > 0):KC ((s.bk fs).2 * d.sum * s.start) (reach (d::fs) - s.depth) s.top (s.sms d fs):=by
  have hB':∀ l∈fs,DayB l:=fun l hl=>hB l (List.mem_cons_of_mem _ hl)
  have hp':∀ l∈fs,∃ n∈l,n > 0:=fun l hl=>hp l (List.mem_cons_of_mem _ hl)
  have ih:=kc_bk c s0 hB' hp'
  have r0:=reach_0 hp'
  have sc:=bk_sc (s:=s) hB'
  have h1:=kc_sm c (hB d (by simp)).w0 (show -s.depth≤reach fs - s.depth by omega) ih (Int.le_of_lt sc)
  have e1:d.sum * ((s.bk fs).2 * s.start)=(s.bk fs).2 * d.sum * s.start:=by grind
  have e2:great d+(reach fs - s.depth)=reach (d::fs) - s.depth:=by rw [reach_cons]; omega
  rw [e1,e2] at h1
  exact h1
end Tw
set_option Elab.async false
set_option linter.all false
set_option maxRecDepth 100000
namespace Tw
open PySem PySem.Spec PyProof.Rows L2
theorem kc_below {K a top:Int} {g:Int→Int} (h:KC K a top g) {z y G:Int} (hz:a≤z) (zy:z < y) (yG:y < G) (Gt:G≤top) (hy:K+g G < g y):K+g G < g z:=by
  have k:=h z y G hz zy yG Gt
  apply Int.not_le.mp
  intro hc
  have a1:=Int.mul_le_mul_of_nonneg_left hc (show 0≤G - y by omega)
  have a2:=Int.mul_le_mul_of_nonneg_left (show K+g G+1≤g y by omega) (show 0≤G - z by omega)
  have e1:(G - z) * (K+g G+1)=(G - y) * (K+g G)+(y - z) * (g G+K)+(G - z):=by grind
  omega
theorem kc_same {K a top:Int} {g:Int→Int} (hK:0≤K) (h:KC K a top g) {z y G:Int} (hz:a≤z) (zy:z≤y) (yG:y < G) (Gt:G≤top) (hy:K+g G < g y) (ey:(pck g top K y).1=K+g G):K+g G=(pck g top K z).1:=by
  by_cases e:z=y
  · subst e; exact ey.symm
  · have zy':z < y:=by omega
    obtain ⟨b1,b2⟩:=pck_le (g:=g) (top:=top) (K:=K) (x:=z) (by omega)
    obtain ⟨c1,c2⟩:=pck_le (g:=g) (top:=top) (K:=K) (x:=y) (by omega)
    have hzG:=b2 G (by omega) Gt
    have hz':=kc_below h hz zy' yG Gt hy
    obtain ⟨_,w2,w3⟩:=pck_is (g:=g) (top:=top) (K:=K) (x:=z) (by omega)
    rcases w3 with ⟨_,e⟩ | ⟨l,e,_⟩
    · omega
    · generalize (pck g top K z).2=w at *
      have:g G≤g w:=by
        by_cases h1:y < w
        · have:=c2 w h1 w2
          omega
        · by_cases h2:w=y
          · subst h2; omega
          · have:=kc_below h (z:=w) (by omega) (by omega) yG Gt hy
            omega
      omega
theorem rangeI_rev (n:Nat):(rangeI 0 (n+1)).reverse=(n:Int)::(rangeI 0 n).reverse:=by
  unfold rangeI
  rw [List.range_succ,List.map_append,List.reverse_append]
  simp
theorem revf {p:Int→Bool}:∀ n:Nat,((∀ k:Int,0≤k→k < n→p k=false)∧(rangeI 0 n).reverse.find? p=none)∨∃ l:Int,0≤l∧l < n∧p l=true∧(∀ k:Int,l < k→k < n→p k=false)∧(rangeI 0 n).reverse.find? p=some l
  | 0=>.inl ⟨fun k k0 k1=>by omega,rfl⟩
  | n+1=>by
    rw [rangeI_rev]
    cases hp:p n with
    | true=>exact .inr ⟨n,by omega,by omega,hp,fun k k0 k1=>by omega,by rw [List.find?_cons,hp]⟩
    | false =>
      have ef:((n:Int)::(rangeI 0 n).reverse).find? p=(rangeI 0 n).reverse.find? p:=by rw [List.find?_cons,hp]
      rw [ef]
      rcases revf (p:=p) n with ⟨h1,h2⟩ | ⟨l,l0,l1,h1,h2,h3⟩
      · refine .inl ⟨fun k k0 k1=>?_,h2⟩
        by_cases e:k=n
        · rw [e]; exact hp
        · exact h1 k k0 (by omega)
      · refine .inr ⟨l,l0,by omega,h1,fun k k0 k1=>?_,h3⟩
        by_cases e:k=n
        · rw [e]; exact hp
        · exact h2 k k0 (by omega)
inductive Mk (g:Int→Int) (top K least:Int):Int→Int→Prop where
  | own:(∀ x,least≤x→x≤top→lvl g top K x=x)→Mk g top K least least least
  | two:∀ y G:Int,least≤y→y < G→G≤top→lvl g top K y=G→(∀ x,y < x→x≤top→lvl g top K x=x)→(∀ x,least≤x→x≤y→K+g G=(pck g top K x).1)→(K=0→y+1=G)→Mk g top K least (y+1) G
theorem lvl_top (g:Int→Int) (top K:Int):lvl g top K top=top:=by unfold lvl; rw [pck_top]
theorem mk_of {K a top:Int} {g:Int→Int} (hK:0≤K) (h:KC K a top g) {least:Int} (l0:a≤least) (l1:least≤top):∃ L G,mkD g top K least=mks L G∧Mk g top K least L G:=by
  have own:∀ k,ownD g top K least k=true ↔ lvl g top K (least+k)=least+k:=fun k=>by unfold ownD; exact decide_eq_true_iff
  rcases revf (p:=fun k=>!ownD g top K least k) (top - least).toNat with ⟨h1,h2⟩ | ⟨l,n0,n1,h1,h2,h3⟩
  · refine ⟨least,least,?_,.own fun x x1 x2=>?_⟩
    · unfold mkD
      rw [h2]
    · by_cases e:x=top
      · rw [e]; exact lvl_top g top K
      · have:=h1 (x - least) (by omega) (by omega)
        have hx:=(own (x - least)).mp (by simpa using this)
        have e2:least+(x - least)=x:=by omega
        rw [e2] at hx
        exact hx
  · have hno:¬ lvl g top K (least+l)=least+l:=fun e=>by
      have:=(own l).mpr e
      rw [this] at h1
      cases h1
    obtain ⟨p1,p2,p3⟩:=pck_is (g:=g) (top:=top) (K:=K) (x:=least+l) (by omega)
    unfold lvl at hno
    rcases p3 with ⟨e,_⟩ | ⟨p4,p5,p6⟩
    · exact absurd e hno
    · have hown:∀ x,least+l < x→x≤top→lvl g top K x=x:=fun x x1 x2=>by
        by_cases e:x=top
        · rw [e]; exact lvl_top g top K
        · have:=h2 (x - least) (by omega) (by omega)
          have hx:=(own (x - least)).mp (by simpa using this)
          have e2:least+(x - least)=x:=by omega
          rw [e2] at hx
          exact hx
      have hsame:∀ x,least≤x→x≤least+l→K+g (pck g top K (least+l)).2=(pck g top K x).1:=fun x x1 x2=>kc_same hK h (by omega) x2 p4 p2 (by omega) p5
      refine ⟨least+l+1,(pck g top K (least+l)).2,?_,.two (least+l) _ (by omega) p4 p2 rfl hown hsame fun k0=>?_⟩
      · have hf:(rangeI 0 l.toNat).reverse.find? (fun k=>!chkD g top K (lvl g top K (least+l)) (least+k))=none:=by
          rw [List.find?_eq_none]
          intro k hk
          have hk':=rangeI_mem (List.mem_reverse.mp hk)
          have:=hsame (least+k) (by omega) (by omega)
          have hc:chkD g top K (lvl g top K (least+l)) (least+k)=true:=by
            unfold chkD lvl
            exact decide_eq_true this
          rw [hc]
          decide
        unfold mkD
        rw [h3]
        dsimp only
        rw [hf]
        rfl
      · by_cases e:least+l+1=(pck g top K (least+l)).2
        · exact e
        · have q1:=pck_least (g:=g) (top:=top) (K:=K) (x:=least+l) (y:=least+l+1) (by omega) (by omega) (by omega)
          have q2:=(own_iff (g:=g) (top:=top) (K:=K) (x:=least+l+1) (by omega)).mp (hown _ (by omega) (by omega))
          have q3:=(pck_le (g:=g) (top:=top) (K:=K) (x:=least+l+1) (by omega)).2 (pck g top K (least+l)).2 (by omega) p2
          omega
end Tw
set_option Elab.async false
set_option linter.all false
set_option maxRecDepth 100000
namespace Tw
open PySem PySem.Spec PyProof.Rows L2
end Tw
set_option Elab.async false
set_option linter.all false
set_option maxRecDepth 100000
namespace Tw
open PySem PySem.Spec PyProof.Rows L2
noncomputable def Dns (a b:Int) (g g':Int→Int):Prop:=∀ x z,a≤x→x≤z→z≤b→g' z - g' x≤g z - g x
theorem Dns.sub {a a' b b':Int} {g g':Int→Int} (h:Dns a b g g') (ha:a≤a') (hb:b'≤b):Dns a' b' g g':=fun x z h1 h2 h3=>h x z (by omega) h2 (by omega)
theorem Dns.refl (a b:Int) (g:Int→Int):Dns a b g g:=fun x z _ _ _=>Int.le_refl _
theorem Dns.add {a b:Int} {g g' k k':Int→Int} (h:Dns a b g g') (h2:Dns a b k k'):Dns a b (fun x=>g x+k x) (fun x=>g' x+k' x):=fun x z h1 h3 h4=>by
  have a1:=h x z h1 h3 h4
  have a2:=h2 x z h1 h3 h4
  show g' z+k' z - (g' x+k' x)≤g z+k z - (g x+k x)
  omega
theorem Dns.mul {a b m:Int} {g g':Int→Int} (h:Dns a b g g') (hm:0≤m):Dns a b (fun x=>m * g x) (fun x=>m * g' x):=fun x z h1 h3 h4=>by
  have a1:=Int.mul_le_mul_of_nonneg_left (h x z h1 h3 h4) hm
  have e1:m * (g' z - g' x)=m * g' z - m * g' x:=by grind
  have e2:m * (g z - g x)=m * g z - m * g x:=by grind
  show m * g' z - m * g' x≤m * g z - m * g x
  omega
theorem Dns.shift {a b c:Int} {g g':Int→Int} (h:Dns a b g g'):Dns (a+c) (b+c) (fun x=>g (x - c)) (fun x=>g' (x - c)):=fun x z h1 h2 h3=>h (x - c) (z - c) (by omega) (by omega) (by omega)
theorem Dns.congr {a b:Int} {g g' k k':Int→Int} (h:Dns a b g g') (e:∀ x,a≤x→x≤b→k x=g x) (e':∀ x,a≤x→x≤b→k' x=g' x):Dns a b k k':=fun x z h1 h2 h3=>by
  rw [e x h1 (by omega),e z (by omega) h3,e' x h1 (by omega),e' z (by omega) h3]
  exact h x z h1 h2 h3
theorem dn_ws {a b:Int} {F F':Int→Int→Int}:∀ {l:List Int} {k:Nat},(∀ w∈l,0≤w)→(∀ f∈snF k l,Dns a b (fun y=>F y f) (fun y=>F' y f))→Dns a b (fun y=>ws (fun f=>F y f) k l) (fun y=>ws (fun f=>F' y f) k l)
  | [],k,_,_=>fun x z _ _ _=>by show (0:Int) - 0≤0 - 0; decide
  | w::l,k,h0,h=>by
    have hw:=h0 w (by simp)
    by_cases hp:w > 0
    · have es:snF k (w::l)=(k:Int)::snF (k+1) l:=by rw [snF,if_pos hp]
      rw [es] at h
      have a1:=(h k (by simp)).mul (m:=w) (by omega)
      have a2:=dn_ws (a:=a) (b:=b) (F:=F) (F':=F') (l:=l) (k:=k+1) (fun v hv=>h0 v (List.mem_cons_of_mem _ hv)) fun f hf=>h f (List.mem_cons_of_mem _ hf)
      exact a1.add a2
    · have hz:w=0:=by omega
      have es:snF k (w::l)=snF (k+1) l:=by rw [snF,if_neg hp]
      rw [es] at h
      have a2:=dn_ws (a:=a) (b:=b) (F:=F) (F':=F') (l:=l) (k:=k+1) (fun v hv=>h0 v (List.mem_cons_of_mem _ hv)) h
      refine a2.congr (fun x _ _=>?_) fun x _ _=>?_
      · show ws (fun f=>F x f) k (w::l)=ws (fun f=>F x f) (k+1) l
        rw [ws,hz,Int.zero_mul,Int.zero_add]
      · show ws (fun f=>F' x f) k (w::l)=ws (fun f=>F' x f) (k+1) l
        rw [ws,hz,Int.zero_mul,Int.zero_add]
theorem dn_pck {a top:Int} {g g':Int→Int} (h:Dns a top g g'):Dns a top (fun x=>(pck g top 0 x).1) (fun x=>(pck g' top 0 x).1):=fun x z h1 h2 h3=>by
  show (pck g' top 0 z).1 - (pck g' top 0 x).1≤(pck g top 0 z).1 - (pck g top 0 x).1
  obtain ⟨x1,x2⟩:=pck_le (g:=g) (top:=top) (K:=0) (x:=x) (by omega)
  obtain ⟨z1,z2⟩:=pck_le (g:=g') (top:=top) (K:=0) (x:=z) (by omega)
  -- the least of g from z on is taken at p,that of g' from x on at q
  obtain ⟨p,p1,p2,p3⟩:∃ p,z≤p∧p≤top∧(pck g top 0 z).1=g p:=by
    obtain ⟨w1,w2,w3⟩:=pck_is (g:=g) (top:=top) (K:=0) (x:=z) (by omega)
    rcases w3 with ⟨_,e⟩ | ⟨l,e,_⟩
    · exact ⟨z,Int.le_refl _,h3,e⟩
    · exact ⟨_,w1,w2,by rw [e]; omega⟩
  obtain ⟨q,q1,q2,q3⟩:∃ q,x≤q∧q≤top∧(pck g' top 0 x).1=g' q:=by
    obtain ⟨w1,w2,w3⟩:=pck_is (g:=g') (top:=top) (K:=0) (x:=x) (by omega)
    rcases w3 with ⟨_,e⟩ | ⟨l,e,_⟩
    · exact ⟨x,Int.le_refl _,by omega,e⟩
    · exact ⟨_,w1,w2,by rw [e]; omega⟩
  have zz:∀ y,z≤y→y≤top→(pck g' top 0 z).1≤g' y:=fun y y1 y2=>by
    by_cases e:y=z
    · subst e; exact z1
    · have:=z2 y (by omega) y2
      omega
  have xx:∀ y,x≤y→y≤top→(pck g top 0 x).1≤g y:=fun y y1 y2=>by
    by_cases e:y=x
    · subst e; exact x1
    · have:=x2 y (by omega) y2
      omega
  rw [p3,q3]
  by_cases hq:z≤q
  · have:=zz q hq q2
    have:=xx p (by omega) p2
    omega
  · have a1:=h q p (by omega) (by omega) p2
    have a2:=zz p p1 p2
    have a3:=xx q q1 q2
    omega
structure Shp.Ri (s s':Shp):Prop where
  top:s'.top=s.top
  depth:s'.depth=s.depth
  start:s'.start=s.start
  piece:s'.piece=s.piece
  lost:s'.lost=s.lost
  back:s'.back=s.back
  late:s'.late=s.late
  keep:s'.keep≤s.keep
  lack:s.lack≤s'.lack
noncomputable def hh (p q x:Int):Int:=if x > 0 then p * x else q * -x
theorem dn_hh {p q p' q' a b:Int} (hp:p'≤p) (hq:q≤q'):Dns a b (hh p q) (hh p' q'):=fun x z _ hz _=>by
  have e:∀ x:Int,hh p q x - hh p' q' x=(p - p') * (if x > 0 then x else 0)+(q' - q) * (if x > 0 then 0 else x):=fun x=>by
    unfold hh
    split <;> grind
  have e1:=e x
  have e2:=e z
  have m1:=Int.mul_le_mul_of_nonneg_left (show (if x > 0 then x else 0)≤(if z > 0 then z else 0) by split <;> split <;> omega) (show 0≤p - p' by omega)
  have m2:=Int.mul_le_mul_of_nonneg_left (show (if x > 0 then 0 else x)≤(if z > 0 then 0 else z) by split <;> split <;> omega) (show 0≤q' - q by omega)
  omega
theorem dn_day {s s':Shp} (r:s.Ri s') {a b f:Int} (ha:-s.depth+f≤a):Dns a b (fun y=>s.day y f) (fun y=>s'.day y f):=by
  have h:=(dn_hh (a:=a - f) (b:=b - f) r.keep r.lack).shift (c:=f)
  have e1:a - f+f=a:=by omega
  have e2:b - f+f=b:=by omega
  rw [e1,e2] at h
  refine h.congr (fun x x1 _=>?_) fun x x1 _=>?_
  · have en:s.nx x f=x - f:=by unfold Shp.nx maxI; split <;> omega
    show s.day x f=hh s.keep s.lack (x - f)
    unfold Shp.day hh
    rw [en,Int.sub_self,Int.mul_zero,Int.add_zero]
  · have en:s'.nx x f=x - f:=by unfold Shp.nx maxI; rw [r.depth]; split <;> omega
    show s'.day x f=hh s'.keep s'.lack (x - f)
    unfold Shp.day hh
    rw [en,Int.sub_self,Int.mul_zero,Int.add_zero]
theorem dn_sm {s s':Shp} (r:s.Ri s') {d:List Int} (h0:∀ w∈d,0≤w) {A A':Int→Int} {a sc:Int} (ha:-s.depth≤a) (hA:Dns a s.top A A') (hsc:0≤sc):Dns (great d+a) s.top (s.sm d A sc) (s'.sm d A' sc):=by
  have hw:Dns (great d+a) s.top (fun y=>s.wg d y A sc) (fun y=>s'.wg d y A' sc):=by
    refine dn_ws (F:=fun y f=>sc * s.day y f+A (s.nx y f)) (F':=fun y f=>sc * s'.day y f+A' (s'.nx y f)) h0 fun f hf=>?_
    have f0:=(snF_mem hf).1
    have f1:=great_ge hf
    have b1:=(dn_day r (a:=great d+a) (b:=s.top) (f:=f) (by omega)).mul hsc
    have b2:=(hA.shift (c:=f)).sub (a':=great d+a) (b':=s.top) (by omega) (by omega)
    refine (b1.add b2).congr (fun y y1 _=>?_) fun y y1 _=>?_
    · have en:s.nx y f=y - f:=by unfold Shp.nx maxI; split <;> omega
      show sc * s.day y f+A (s.nx y f)=sc * s.day y f+A (y - f)
      rw [en]
    · have en:s'.nx y f=y - f:=by unfold Shp.nx maxI; rw [r.depth]; split <;> omega
      show sc * s'.day y f+A' (s'.nx y f)=sc * s'.day y f+A' (y - f)
      rw [en]
  have hl:=(Dns.refl (great d+a) s.top fun y=>sc * d.sum * s.piece * y).add hw
  refine hl.congr (fun x _ _=>rfl) fun x _ _=>?_
  show sc * d.sum * s'.piece * x+s'.wg d x A' sc=sc * d.sum * s.piece * x+s'.wg d x A' sc
  rw [r.piece]
theorem fin_ri {s s':Shp} (r:s.Ri s'):s'.fin=s.fin:=by
  funext x
  unfold Shp.fin
  rw [r.back,r.late]
theorem sc_ri {s s':Shp} (fs:List (List Int)):(s'.bk fs).2=(s.bk fs).2:=by rw [← prd_bk,← prd_bk]
theorem dn_bk {s s':Shp} (r:s.Ri s') (s0:s.start=0):∀ {fs:List (List Int)},(∀ l∈fs,DayB l)→(∀ l∈fs,∃ n∈l,n > 0)→Dns (reach fs - s.depth) s.top (s.bk fs).1 (s'.bk fs).1
  | [],_,_=>by
    show Dns _ _ s.fin s'.fin
    rw [fin_ri r]
    exact Dns.refl _ _ _
  | d::fs,hB,hp=>by
    have hB':∀ l∈fs,DayB l:=fun l hl=>hB l (List.mem_cons_of_mem _ hl)
    have hp':∀ l∈fs,∃ n∈l,n > 0:=fun l hl=>hp l (List.mem_cons_of_mem _ hl)
    have ih:=dn_bk r s0 hB' hp'
    have r0:=reach_0 hp'
    have sc:=bk_sc (s:=s) hB'
    have h1:=dn_sm r (hB d (by simp)).w0 (show -s.depth≤reach fs - s.depth by omega) ih (Int.le_of_lt sc)
    have e2:great d+(reach fs - s.depth)=reach (d::fs) - s.depth:=by rw [reach_cons]; omega
    rw [e2] at h1
    have h2:=(dn_pck h1).add (Dns.refl (reach (d::fs) - s.depth) s.top fun x=>-((s.bk fs).2 * d.sum * s.piece) * x)
    show Dns _ _ (cst _ _ _ _) (cst _ _ _ _)
    rw [sc_ri (s:=s) (s':=s') fs,r.top,r.start,r.piece,s0,Int.mul_zero]
    refine h2.congr (fun x _ _=>?_) fun x _ _=>?_
    · unfold cst; grind
    · unfold cst; grind
theorem dn_sms {s s':Shp} (r:s.Ri s') {d:List Int} {fs:List (List Int)} (h:s.start=0∨fs=[]) (hB:∀ l∈d::fs,DayB l) (hp:∀ l∈d::fs,∃ n∈l,n > 0):Dns (reach (d::fs) - s.depth) s.top (s.sms d fs) (s'.sms d fs):=by
  have hB':∀ l∈fs,DayB l:=fun l hl=>hB l (List.mem_cons_of_mem _ hl)
  have hp':∀ l∈fs,∃ n∈l,n > 0:=fun l hl=>hp l (List.mem_cons_of_mem _ hl)
  have r0:=reach_0 hp'
  have sc:=bk_sc (s:=s) hB'
  have ih:Dns (reach fs - s.depth) s.top (s.bk fs).1 (s'.bk fs).1:=by
    rcases h with h | h
    · exact dn_bk r h hB' hp'
    · subst h
      show Dns _ _ s.fin s'.fin
      rw [fin_ri r]
      exact Dns.refl _ _ _
  have h1:=dn_sm r (hB d (by simp)).w0 (show -s.depth≤reach fs - s.depth by omega) ih (Int.le_of_lt sc)
  have e2:great d+(reach fs - s.depth)=reach (d::fs) - s.depth:=by rw [reach_cons]; omega
  rw [e2] at h1
  refine h1.congr (fun x _ _=>rfl) fun x _ _=>?_
  show s'.sm d (s'.bk fs).1 (s'.bk fs).2 x=_
  rw [sc_ri (s:=s) (s':=s') fs]
theorem mk_rise {g g':Int→Int} {top K least L G L' G':Int} (hK:0≤K) (h:Mk g top K least L G) (h':Mk g' top K least L' G') (hd:Dns least top g g') (hl:least≤top):L≤L'∧G≤G':=by
  cases h with
  | own h1 =>
    cases h' with
    | own=>exact ⟨Int.le_refl _,Int.le_refl _⟩
    | two y' G' k1 k2=>exact ⟨by omega,by omega⟩
  | two y G h1 h2 h3 h4 h5 h6 h7 =>
    obtain ⟨p1,p2,p3⟩:=pck_is (g:=g) (top:=top) (K:=K) (x:=y) (by omega)
    have h4':(pck g top K y).2=G:=h4
    rcases p3 with ⟨e,_⟩ | ⟨e1,e2,e3⟩
    · omega
    · rw [h4'] at e2
      have dd:=hd y G h1 (by omega) h3
      have nown:∀ z,z≤y→y < top→lvl g' top K y=y→False:=fun z _ _ hy=>by
        have o:=(own_iff (g:=g') (top:=top) (K:=K) (x:=y) (by omega)).mp hy
        have:=(pck_le (g:=g') (top:=top) (K:=K) (x:=y) (by omega)).2 G h2 h3
        omega
      cases h' with
      | own k1=>exact (nown y (Int.le_refl _) (by omega) (k1 y h1 (by omega))).elim
      | two y' G' k1 k2 k3 k4 k5 k6 k7 =>
        have hy:y≤y':=by
          apply Int.not_lt.mp
          intro hc
          exact nown y (Int.le_refl _) (by omega) (k5 y hc (by omega))
        refine ⟨by omega,?_⟩
        apply Int.not_lt.mp
        intro hc
        have q1:=pck_least (g:=g) (top:=top) (K:=K) (x:=y) (y:=G') (by omega) (by omega) (by omega)
        have q2:=hd G' G (by omega) (by omega) h3
        obtain ⟨r1,r2,r3⟩:=pck_is (g:=g') (top:=top) (K:=K) (x:=y') (by omega)
        have k4':(pck g' top K y').2=G':=k4
        have q3:=(pck_le (g:=g') (top:=top) (K:=K) (x:=y') (by omega)).2 G (by omega) h3
        rcases r3 with ⟨e,_⟩ | ⟨f1,f2,f3⟩
        · omega
        · rw [k4'] at f2
          omega
end Tw
set_option Elab.async false
set_option linter.all false
set_option maxRecDepth 100000
namespace L2
open PySem PySem.Spec PyProof.Rows
noncomputable def Ris (xs:Array Nat):Prop:=xs.toList.Pairwise (· < ·)
theorem Ris.lt {xs:Array Nat} (h:Ris xs) {i j a b:Nat} (hij:i < j) (ha:xs[i]?=some a) (hb:xs[j]?=some b):a < b:=by
  unfold Ris at h
  rw [← Array.getElem?_toList] at ha hb
  obtain ⟨ha1,ha2⟩:=List.getElem?_eq_some_iff.mp ha
  obtain ⟨hb1,hb2⟩:=List.getElem?_eq_some_iff.mp hb
  subst ha2 hb2
  exact List.pairwise_iff_getElem.mp h i j ha1 hb1 hij
theorem below_go {xs:Array Nat} (h:Ris xs) (j:Nat):∀ (fuel lo hi:Nat),lo≤hi→hi≤xs.size→hi - lo≤fuel→(∀ i a,i < lo→xs[i]?=some a→a < j)→(∀ i a,hi≤i→xs[i]?=some a→j≤a) →
    ∃ r,SetTable.below.go xs j fuel lo hi=r∧r≤xs.size∧(∀ i a,i < r→xs[i]?=some a→a < j)∧(∀ i a,r≤i→xs[i]?=some a→j≤a)
  | 0,lo,hi,h1,h2,h3,h4,h5=>by
    have e:lo=hi:=by omega
    subst e
    exact ⟨lo,rfl,h2,h4,h5⟩
  | fuel+1,lo,hi,h1,h2,h3,h4,h5=>by
    unfold SetTable.below.go
    by_cases hl:lo < hi
    · rw [if_pos hl]
      have hm:(lo+hi) / 2 < xs.size:=by omega
      have hx:xs[(lo+hi) / 2]?=some xs[(lo+hi) / 2]:=Array.getElem?_eq_getElem hm
      have hg:xs.getD ((lo+hi) / 2) j=xs[(lo+hi) / 2]:=by
        rw [Array.getD_eq_getD_getElem?,hx]; rfl
      dsimp only
      rw [hg]
      by_cases hc:xs[(lo+hi) / 2] < j
      · rw [if_pos hc]
        refine below_go h j fuel _ hi (by omega) h2 (by omega) (fun i a hi' ha=>?_) h5
        by_cases e:i=(lo+hi) / 2
        · subst e; rw [hx] at ha; cases ha; exact hc
        · exact Nat.lt_trans (h.lt (show i < (lo+hi) / 2 by omega) ha hx) hc
      · rw [if_neg hc]
        refine below_go h j fuel lo _ (by omega) (by omega) (by omega) h4 fun i a hi' ha=>?_
        by_cases e:i=(lo+hi) / 2
        · subst e; rw [hx] at ha; cases ha; omega
        · exact Nat.le_trans (Nat.le_of_not_lt hc) (Nat.le_of_lt (h.lt (show (lo+hi) / 2 < i by omega) hx ha))
    · rw [if_neg hl]
      have e:lo=hi:=by omega
      subst e
      exact ⟨lo,rfl,h2,h4,h5⟩
theorem below_is {xs:Array Nat} (h:Ris xs) (j:Nat):SetTable.below xs j≤xs.size∧(∀ i a,i < SetTable.below xs j→xs[i]?=some a→a < j)∧(∀ i a,SetTable.below xs j≤i→xs[i]?=some a→j≤a):=by
  obtain ⟨r,e,h1,h2,h3⟩:=below_go h j xs.size 0 xs.size (Nat.zero_le _) (Nat.le_refl _) (by omega) (fun i a hi=>by omega) fun i a hi ha=>by
    have:=(Array.getElem?_eq_some_iff.mp ha).1
    omega
  have e':SetTable.below xs j=r:=e
  rw [e']
  exact ⟨h1,h2,h3⟩
theorem insertAt_list {α:Type} (xs:Array α) (p:Nat) (x:α):(SetTable.insertAt xs p x).toList=xs.toList.take p++x::xs.toList.drop p:=by
  unfold SetTable.insertAt
  rw [Array.toList_append,Array.toList_push,Array.toList_extract,Array.toList_extract,List.append_assoc,List.singleton_append]
  have e2:xs.toList.extract p xs.size=xs.toList.drop p:=by
    rw [List.extract_eq_take_drop]
    exact List.take_of_length_le (by simp)
  rw [e2]
  simp [List.extract]
theorem ris_insert {xs:Array Nat} (h:Ris xs) {j:Nat} (hn:xs[SetTable.below xs j]?≠some j):Ris (SetTable.insertAt xs (SetTable.below xs j) j):=by
  obtain ⟨h1,h2,h3⟩:=below_is h j
  unfold Ris at h ⊢
  rw [insertAt_list]
  generalize SetTable.below xs j=p at *
  have hd:=h
  rw [← List.take_append_drop p xs.toList] at hd
  obtain ⟨d1,d2,d3⟩:=List.pairwise_append.mp hd
  have lo:∀ a∈xs.toList.take p,a < j:=fun a ha=>by
    obtain ⟨i,hi,e⟩:=List.getElem_of_mem ha
    rw [List.length_take] at hi
    refine h2 i a (by omega) ?_
    rw [← Array.getElem?_toList,List.getElem?_eq_getElem (by omega),← e,List.getElem_take]
  have up:∀ a∈xs.toList.drop p,j < a:=fun a ha=>by
    obtain ⟨i,hi,e⟩:=List.getElem_of_mem ha
    rw [List.length_drop] at hi
    have ea:xs[p+i]?=some a:=by
      rw [← Array.getElem?_toList,List.getElem?_eq_getElem (by omega),← e,List.getElem_drop]
    have hle:=h3 (p+i) a (by omega) ea
    refine Nat.lt_of_le_of_ne hle fun e2=>?_
    subst e2
    by_cases hi0:i=0
    · subst hi0
      exact hn (by rw [Nat.add_zero] at ea; exact ea)
    · have hp:p < xs.size:=by
        have:=(Array.getElem?_eq_some_iff.mp ea).1
        omega
      have hb:=h3 p xs[p] (Nat.le_refl _) (Array.getElem?_eq_getElem hp)
      have hlt:=Ris.lt (xs:=xs) h (show p < p+i by omega) (Array.getElem?_eq_getElem hp) ea
      omega
  refine List.pairwise_append.mpr ⟨d1,List.pairwise_cons.mpr ⟨up,d2⟩,fun a ha b hb=>?_⟩
  rcases List.mem_cons.mp hb with rfl | hb
  · exact lo a ha
  · exact Nat.lt_trans (lo a ha) (up b hb)
structure TabOk (L:Bool) (t:SetTable):Prop where
  led:t.led=L
  no:t.dummies=#[]
  ris:Ris t.place
theorem has_nil (j:Nat):SetTable.has #[] j=false:=by
  unfold SetTable.has SetTable.below SetTable.below.go
  rfl
theorem probe_go {L:Bool} {t:SetTable} (ht:TabOk L t) {f:Nat→Int} {h:Int}:∀ (fuel:Nat) (p:SetTable.Probe) (j:Nat) (d:Option Nat),p.dummy=none→SetTable.probe.go t f h fuel p=some (.empty j d)→d=none∧t.slot j=.empty
  | 0,p,j,d,_,e=>by unfold SetTable.probe.go at e; cases e
  | fuel+1,p,j,d,hp,e=>by
    unfold SetTable.probe.go at e
    have adv:(t.advance p).dummy=none:=by
      unfold SetTable.advance
      split <;> exact hp
    split at e
    · rename_i hs
      cases e
      exact ⟨hp,hs⟩
    · rename_i hs
      exfalso
      unfold SetTable.slot at hs
      dsimp only at hs
      split at hs
      · cases hs
      · rw [ht.no,has_nil] at hs
        cases hs
    · split at e
      · cases e
      · exact probe_go ht fuel _ j d adv e
theorem slot_empty {L:Bool} {t:SetTable} {j:Nat} (hs:t.slot j=.empty):t.place[SetTable.below t.place j]?≠some j:=fun e=>by
  unfold SetTable.slot at hs
  dsimp only at hs
  rw [e] at hs
  simp at hs
theorem standIn_ok {L:Bool} {t:SetTable} (ht:TabOk L t) (n:Nat):TabOk L (t.standIn n):=by
  refine ⟨ht.led,rfl,?_⟩
  unfold Ris SetTable.standIn
  rw [Array.toList_range]
  exact List.pairwise_lt_range
theorem layNew_ok {L:Bool} {t:SetTable} (ht:TabOk L t) (es:Array (Int×Value)) (h:Int) (x:Value):TabOk L (layNew t es h x).2.1:=by
  unfold layNew
  split
  · rename_i slot wd hf
    unfold SetTable.freeSlot at hf
    split at hf
    · rename_i j d hp
      obtain ⟨hd,hs⟩:=probe_go ht _ _ j d rfl hp
      subst hd
      cases hf
      have ok:TabOk L (t.put j).1:=by
        unfold SetTable.put
        refine ⟨ht.led,?_,ris_insert ht.ris (slot_empty (L:=L) hs)⟩
        dsimp only
        rw [ht.no,has_nil]
        rfl
      show TabOk L (SetTable.orStandIn _ _)
      unfold SetTable.orStandIn
      split
      · exact ok
      · exact standIn_ok ok _
    · cases hf
  · exact standIn_ok ht _
theorem filterMap_ris {f:Nat→Option (Nat×Nat)} (hf:∀ j q,f j=some q→q.1=j):∀ {l:List Nat},l.Pairwise (· < ·)→((l.filterMap f).map (·.1)).Pairwise (· < ·)∧∀ a∈(l.filterMap f).map (·.1),a∈l
  | [],_=>⟨.nil,fun a h=>by cases h⟩
  | j::l,h=>by
    obtain ⟨h1,h2⟩:=List.pairwise_cons.mp h
    obtain ⟨i1,i2⟩:=filterMap_ris hf h2
    cases e:f j with
    | none =>
      rw [List.filterMap_cons_none e]
      exact ⟨i1,fun a ha=>List.mem_cons_of_mem _ (i2 a ha)⟩
    | some q =>
      rw [List.filterMap_cons_some e,List.map_cons,hf j q e]
      refine ⟨List.pairwise_cons.mpr ⟨fun a ha=>h1 a (i2 a ha),i1⟩,fun a ha=>?_⟩
      rcases List.mem_cons.mp ha with rfl | ha
      · exact List.mem_cons_self
      · exact List.mem_cons_of_mem _ (i2 a ha)
theorem relay_ok {L:Bool} {t:SetTable} (ht:TabOk L t) (es:Array (Int×Value)) (wanted:Nat):TabOk L (relayAll t es wanted).2.1:=by
  unfold relayAll
  split
  · rename_i t' order hr
    dsimp only
    split
    · unfold SetTable.relaid SetTable.laid at hr
      obtain ⟨owner,_,hr⟩:=Option.bind_eq_some_iff.mp hr
      cases hr
      refine ⟨ht.led,rfl,?_⟩
      unfold Ris
      refine (filterMap_ris (fun j q e=>?_) List.pairwise_lt_range).1
      obtain ⟨z,_,rfl⟩:=Option.map_eq_some_iff.mp e
      rfl
    · exact standIn_ok ht _
  · exact standIn_ok ht _
end L2
set_option Elab.async false
set_option linter.all false
set_option maxRecDepth 100000
namespace L2
open PySem PySem.Spec PyProof.Rows
noncomputable def keyOf:Value→Int
  | .int n _=>n
  | _=>0
noncomputable def ObjS (prog:Program) (w:World) (L:Bool) (ks:List Int) (o:Obj):Prop:=∃ es ep t,o.ExactSet∧o.data=.set es ep t∧ElemsOf (intKind prog w) es.toList∧(∀ e∈es.toList,∃ n tk,e.2=.int n tk) ∧
  es.toList.map (fun e=>keyOf e.2)=ks∧ks.Nodup∧ks.length < scanBound∧t.fits es.size=true∧TabOk L t
noncomputable def SetT (prog:Program) (w:World) (L:Bool) (ks:List Int) (h:Heap) (a:Addr):Prop:=∃ o,h.get? a=some o∧ObjS prog w L ks o
section
variable {prog:Program} {w:World} {A:Around} {E:Value→Shared→Prop} {s:Shared}
theorem int_is (k n:Int) (tk:Tok):(intKind prog w).is k (.int n tk)=decide (k=n):=KeyKind.is_eq_decide (intKind_is _ _ _ _) k
theorem scan_none {k:Int}:∀ {l:List (Int×Value)},(∀ e∈l,∃ n tk,e.2=.int n tk)→(l.findIdx? (fun e=>(intKind prog w).is k e.2)=none ↔ k ∉ l.map fun e=>keyOf e.2):=by
  intro l hl
  rw [List.findIdx?_eq_none_iff]
  constructor
  · intro h z
    obtain ⟨e,he,e2⟩:=List.mem_map.mp z
    obtain ⟨n,tk,e3⟩:=hl e he
    have:=h e he
    rw [e3,int_is] at this
    rw [e3] at e2
    exact of_decide_eq_false this e2.symm
  · intro h e he
    obtain ⟨n,tk,e3⟩:=hl e he
    rw [e3,int_is]
    refine decide_eq_false fun z=>h (List.mem_map.mpr ⟨e,he,?_⟩)
    rw [e3]
    exact z.symm
theorem store_relay {a:Addr} {o:Obj} {es es1:Array (Int×Value)} {ep:Nat} {t t1:SetTable} {L:Bool} {ks:List Int} {wd:Bool} {g:Bool→Sem Unit} {R:Option Bool→Shared→Prop} (hg:∀ (b:Bool) (s₁:Shared) (Q':Unit→Shared→Prop),Q' () s₁→wpAny (model prog w) A (g b) Q' E s₁)
    (ho:s.heap.get? a=some o) (hx:o.ExactSet) (hd:o.data=.set es ep t) (hel:ElemsOf (intKind prog w) es1.toList) (hint:∀ e∈es1.toList,∃ n tk,e.2=.int n tk) (hks:es1.toList.map (fun e=>keyOf e.2)=ks) (hnd:ks.Nodup) (hb:ks.length < scanBound) (hf:t1.fits es1.size=true) (ht:TabOk L t1)
    (h:∀ h' ks',Heap.SameBut a s.heap h'→SetT prog w L ks' h' a→ks'.Perm ks→R (some true) { s with heap:=h' }) :
    wpAny (model prog w) A (storeSet a es1 t1 >>= fun _=>if (!wd && t1.tooFull)=true then (g (relayAll t1 es1 (SetTable.grown es1.size)).2.2 >>= fun _=>storeSet a (relayAll t1 es1 (SetTable.grown es1.size)).1 (relayAll t1 es1 (SetTable.grown es1.size)).2.1 >>= fun _=>pure (some true)) else pure (some true)) R E s:=by
  have hz:es1.size=ks.length:=by rw [← hks,List.length_map,Array.length_toList]
  refine wpAny_bind (wpAny_storeSet_of ho hd ?_ (fits_of_scanBound (by rw [hz]; exact hb)))
  have g1:(s.heap.update a (Obj.putSet es1 t1)).get? a=some { o with data:=.set es1 (ep+1) t1 }:=by
    have q:=Heap.get?_update_self (Obj.putSet es1 t1) ho (by rw [putSet_of es1 t1 hd]; rfl)
    rwa [putSet_of es1 t1 hd] at q
  have sb1:=Heap.SameBut.update s.heap a (Obj.putSet es1 t1)
  have s1:SetT prog w L ks (s.heap.update a (Obj.putSet es1 t1)) a:=⟨_,g1,es1,ep+1,t1,hx,rfl,hel,hint,hks,hnd,hb,hf,ht⟩
  by_cases hc:(!wd && t1.tooFull)=true
  · rw [if_pos hc]
    have p:=relayAll_perm t1 es1 (SetTable.grown es1.size)
    have f:=relayAll_fits t1 es1 (SetTable.grown es1.size)
    have k:=relay_ok ht es1 (SetTable.grown es1.size)
    generalize relayAll t1 es1 (SetTable.grown es1.size)=q at *
    obtain ⟨es2,t2,gv⟩:=q
    dsimp only at p f k ⊢
    refine wpAny_bind (hg _ _ _ ?_)
    have z2:es2.size=es1.size:=by rw [← Array.length_toList,p.length_eq,Array.length_toList]
    have pk:(es2.toList.map fun e=>keyOf e.2).Perm ks:=by rw [← hks]; exact p.map _
    refine wpAny_bind (wpAny_storeSet_of g1 rfl ?_ (fits_of_scanBound (by rw [z2,hz]; exact hb)))
    refine wpAny_pure (h _ _ (sb1.trans (Heap.SameBut.update _ a _)) ⟨{ o with data:=.set es2 (ep+1+1) t2 },?_,es2,ep+1+1,t2,hx,rfl,hel.perm p,fun e he=>hint e (p.mem_iff.mp he),rfl,pk.nodup_iff.mpr hnd,by rw [pk.length_eq]; exact hb,f,k⟩ pk)
    have q:=Heap.get?_update_self (Obj.putSet es2 t2) g1 (by rw [putSet_of es2 t2 rfl]; rfl)
    rwa [putSet_of es2 t2 rfl] at q
  · rw [if_neg hc]
    exact wpAny_pure (h _ _ sb1 s1 (List.Perm.refl _))
theorem addT {a:Addr} {L:Bool} {ks:List Int} {k:Int} {tk:Tok} {Q:Shared→Prop} (hS:SetT prog w L ks s.heap a) (hroom:ks.length+1 < scanBound)
    (h:∀ h' ks',Heap.SameBut a s.heap h'→SetT prog w L ks' h' a→(∀ j,j∈ks' ↔ j∈ks∨j=k)→ks'.length≤ks.length+1→Q { s with heap:=h' }) :
    wpAny (model prog w) A (setAddHashed a (.int k tk) ((intKind prog w).hash k)) (fun _ s'=>Q s') E s:=by
  obtain ⟨o,ho,es,ep,t,hx,hd,hel,hint,hks,hnd,hb,hf,ht⟩:=hS
  have hz:es.size=ks.length:=by rw [← hks,List.length_map,Array.length_toList]
  have hk:=intKind_is prog w k tk
  unfold setAddHashed setAddHashedIn
  refine wpAny_holding (wpAny_bind (wpAny_setState_of ho hd hf ?_))
  dsimp only
  rw [byScan_of (knd:=intKind prog w) (x:=.int k tk) rfl (by omega) hel,if_pos rfl]
  unfold setAddByScan
  refine wpAny_bind (wpAny_bind (wpAny_rule (wpAny_bind (wpAny_setScan_of hk ho hd hf hel ?_))))
  cases hr:es.toList.findIdx? (fun e=>(intKind prog w).is k e.2) with
  | some j =>
    dsimp only
    have hin:k∈ks:=by
      refine Decidable.byContradiction fun z=>?_
      rw [← hks] at z
      rw [(scan_none hint).mpr z] at hr
      cases hr
    refine wpAny_pure (wpAny_pure ?_)
    exact h s.heap ks (Heap.SameBut.refl a s.heap) ⟨o,ho,es,ep,t,hx,hd,hel,hint,hks,hnd,hb,hf,ht⟩ (fun j=>⟨.inl,fun z=>z.elim id fun e=>e ▸ hin⟩) (by omega)
  | none =>
    dsimp only
    have hni:k ∉ ks:=by rw [← hks]; exact (scan_none hint).mp hr
    have p:=layNew_perm t es ((intKind prog w).hash k) (.int k tk)
    have f:=layNew_fits t es ((intKind prog w).hash k) (.int k tk)
    have k1:=layNew_ok ht es ((intKind prog w).hash k) (.int k tk)
    generalize layNew t es ((intKind prog w).hash k) (.int k tk)=q at *
    obtain ⟨es1,t1,wd,gv⟩:=q
    dsimp only at p f k1 ⊢
    rw [Array.toList_push] at p
    have pk:(es1.toList.map fun e=>keyOf e.2).Perm (ks++[k]):=by
      have:=p.map fun e:Int×Value=>keyOf e.2
      rw [List.map_append,hks] at this
      exact this
    have nd1:(ks++[k]).Nodup:=List.nodup_append.mpr ⟨hnd,List.nodup_cons.mpr ⟨by simp,List.nodup_nil⟩,fun x hx y hy=>by
      rw [List.mem_singleton] at hy
      subst hy
      intro e
      subst e
      exact hni hx⟩
    have int1:∀ e∈es1.toList,∃ n tk,e.2=.int n tk:=fun e he=>by
      rcases List.mem_append.mp (p.mem_iff.mp he) with z | z
      · exact hint e z
      · rw [List.mem_singleton] at z
        subst z
        exact ⟨k,tk,rfl⟩
    have l1:(es1.toList.map fun e=>keyOf e.2).length=ks.length+1:=by rw [pk.length_eq]; simp
    have fin:∀ h' ks',Heap.SameBut a s.heap h'→SetT prog w L ks' h' a→ks'.Perm (es1.toList.map fun e=>keyOf e.2)→Q { s with heap:=h' }:=fun h' ks' sb st pp=>by
      refine h h' ks' sb st (fun j=>?_) (by rw [pp.length_eq,l1]; exact Nat.le_refl _)
      rw [(pp.trans pk).mem_iff]
      simp
    refine wpAny_bind ?_
    have gw:∀ (b:Bool) (s₁:Shared) (Q':Unit→Shared→Prop),Q' () s₁→wpAny (model prog w) A (match b with | true=>rule "set.scan.the-table-gave-way" | false=>pure ()) Q' E s₁:=fun b s₁ Q' z=>by
      cases b
      · exact wpAny_pure z
      · exact wpAny_rule z
    refine gw gv s _ ?_
    have tail:wpAny (model prog w) A (storeSet a es1 t1 >>= fun _=>if (!wd && t1.tooFull)=true then ((match (relayAll t1 es1 (SetTable.grown es1.size)).2.2 with | true=>rule "set.scan.the-table-gave-way" | false=>pure ()) >>= fun _=>storeSet a (relayAll t1 es1 (SetTable.grown es1.size)).1 (relayAll t1 es1 (SetTable.grown es1.size)).2.1 >>= fun _=>pure (some true)) else pure (some true))
        (fun r s'=>wpAny (model prog w) A (match r with | some added=>pure added | none=>setAddHashedIn a (.int k tk) ((intKind prog w).hash k) 99999) (fun _ s''=>Q s'') E s') E s :=
      store_relay (g:=fun b=>match b with | true=>rule "set.scan.the-table-gave-way" | false=>pure ()) gw ho hx hd ((hel.push hk rfl).perm p) int1 rfl (pk.nodup_iff.mpr nd1) (by rw [l1]; exact hroom) f k1 fun h' ks' sb st pp=>wpAny_pure (fin h' ks' sb st pp)
    by_cases hp:t1.plain=true
    · rw [if_pos hp]
      refine wpAny_bind ?_
      rw [hashByValue_scannable 8 rfl]
      refine wpAny_pure ?_
      exact tail
    · rw [if_neg hp]
      refine wpAny_bind (wpAny_pure ?_)
      exact tail
end
end L2
set_option Elab.async false
set_option linter.all false
set_option maxRecDepth 100000
namespace L2
open PySem PySem.Spec PyProof.Rows
noncomputable def ledBy (w:World):Bool:=!w.params.followText "set-order"
noncomputable abbrev bareSet (w:World):Obj:={ cls:=.type "set",dict:=none,data:=.set #[] 0 (.fresh 0 0 (ledBy w)) }
theorem bare_ok {prog:Program} {w:World}:ObjS prog w (ledBy w) [] (bareSet w) :=
  ⟨#[],0,_,⟨rfl,rfl,rfl⟩,rfl,fun e he=>(by simp at he),fun e he=>(by simp at he),rfl,List.nodup_nil,by decide,rfl,rfl,rfl,List.Pairwise.nil⟩
theorem SetT.stay {prog:Program} {w:World} {L:Bool} {ks:List Int} {h h':Heap} {a:Addr} (x:SetT prog w L ks h a) (k:∀ o,h.get? a=some o→h'.get? a=some o):SetT prog w L ks h' a:=by
  obtain ⟨o,ho,r⟩:=x
  exact ⟨o,k o ho,r⟩
section
variable {prog:Program} {w:World} {A:Around} {R:Result→Shared→Prop} {I:Addr} {fp wr:List Addr} {G:Array GenState→Array GenState→Prop} {n:Nat} {P:Nat→Value→Prop} {St:Nat→Shared→Prop}
theorem loopT {L:Bool} (W:WalksS prog w A.in1 I fp wr G n P St) {S:Addr} (hS:S ∉ fp) {val:Nat→Int} (hval:∀ i v,P i v→∃ t,v=.int (val i) t) (hb:n+1 < scanBound) :
    ∀ (d i:Nat) (s:Shared) (ks:List Int),i+d=n→St i s→SetT prog w L ks s.heap S→ks.length≤i→(∀ j,j∈ks ↔ ∃ i',i' < i∧val i'=j) →
      (∀ s' ks',Moved (S::wr) G s s'→SetT prog w L ks' s'.heap S→ks'.length≤n→(∀ j,j∈ks' ↔ ∃ i',i' < n∧val i'=j)→R (.ok (.ret .none)) s') →
      codeAny (model prog w) A (.builtin "set.update.loop" ⟨[.ref S,.ref I],[]⟩) R s:=by
  have hw:S ∉ wr:=fun z=>hS (W.sub _ z)
  have up:∀ b∈wr,b∈S::wr:=fun b z=>.tail _ z
  intro d
  induction d with
  | zero =>
    intro i s ks e st sT hl hk done
    rw [Nat.add_zero] at e
    subst e
    refine codeAny_builtin F.entry_set_update_loop ?_
    rw [Around.under_plainId F.plain_set_update_loop _]
    refine wpAny_bind (m:=pyNext (.ref I)) (W.done s _ _ st fun s' mv=>?_)
    exact wpAny_pure (done s' ks (mv.mono up) (sT.stay fun o q=>mv.heap S o hw q) hl hk)
  | succ d ih =>
    intro i s ks e st sT hl hk done
    refine codeAny_builtin F.entry_set_update_loop ?_
    rw [Around.under_plainId F.plain_set_update_loop _]
    refine wpAny_bind (m:=pyNext (.ref I)) (W.item i s _ _ (by omega) st fun v s1 hP st1 mv=>?_)
    obtain ⟨t,rfl⟩:=hval i v hP
    have sT1:SetT prog w L ks s1.heap S:=sT.stay fun o q=>mv.heap S o hw q
    refine wpAny_bind (m:=holding [Value.int (val i) t] (setAdd S (.int (val i) t))) (wpAny_holding ?_)
    unfold setAdd
    refine wpAny_holding (wpAny_bind ((intKind prog w).pyHash (k:=val i) (intKind_is _ _ _ _) ?_))
    refine addT (s:={ s1 with toks:=s1.toks+1 }) sT1 (by omega) fun h2 ks2 sb sT2 hm hl2=>?_
    refine wpAny_pure ⟨plainId_quiet F.plain_set_update_loop _,ih (i+1) _ ks2 (by omega) (W.frame _ s1 _ _ st1 (Nat.le_succ _) fun b hb o q=>?_) sT2 (by omega) (fun j=>?_) fun s3 ks3 mv3=>done s3 ks3 (Moved.trans W.gtrans ((mv.mono up).then_heap (Nat.le_succ _) fun b o hb q=>?_) mv3)⟩
    · rw [sb.2 b fun z=>hS (z ▸ hb)]; exact q
    · rw [hm j,hk j]
      constructor
      · rintro (⟨i',h1,h2⟩ | rfl)
        · exact ⟨i',by omega,h2⟩
        · exact ⟨i,by omega,rfl⟩
      · rintro ⟨i',h1,h2⟩
        by_cases e:i'=i
        · subst e; exact .inr h2.symm
        · exact .inl ⟨i',by omega,h2⟩
    · rw [sb.2 b fun z=>hb (z ▸ .head _)]; exact q
end
section
variable {prog:Program} {w:World} {A:Around} {E:Value→Shared→Prop} {s:Shared}
theorem made_bare (a:Value) {Q₁:Value→Shared→Prop} (h:Q₁ (.ref s.heap.objs.size) { s with heap:=s.heap.push (bareSet w) }) :
    codeAny (model prog w) A (.call (.builtin "set.__new__") ⟨[.type "set",a],[]⟩) (wants Q₁ E) s:=by
  refine codeAny_of_tree ?_
  refine wpAny_bind (m:=checkBuiltinCall "set.__new__" ⟨[.type "set",a],[]⟩) (wpAny_of_eq (F.newCall_set_1 a) (wpAny_pure ?_))
  refine ⟨plainId_quiet F.plain_set_new _,codeAny_builtin F.entry_set_new ?_⟩
  rw [Around.under_plainId F.plain_set_new _]
  have sb:=sub_set_self
  obtain ⟨h1,g1,d1,t1,o1⟩:=s
  unfold Builtin.«set.__new__» Builtin.Frozenset.newClass
  dsimp only
  wp_walk
  refine wpAny_askSetting (wpAny_pure ?_)
  dsimp only
  unfold newObj
  exact wpAny_bind (wpAny_alloc (wpAny_pure (wpAny_pure h)))
end
end L2
set_option Elab.async false
set_option linter.all false
set_option maxRecDepth 100000
namespace L2
open PySem PySem.Spec PyProof.Rows
section
variable {prog:Program} {w:World} {A:Around} {E:Value→Shared→Prop} {s:Shared}
theorem init_fill {l:Addr} {items:Array Value} {ns:List Int} {Z:Value→Shared→Prop} (hh:A.handled=none) (hl:s.heap.IsList l items) (hi:IntsAre items.toList ns) (hb:items.size+1 < scanBound)
    (h:∀ (h':Heap) (tk:Nat) (ks:List Int),SetT prog w (ledBy w) ks h' s.heap.objs.size→ks.length≤items.size→(∀ j,j∈ks ↔ j∈ns)→(∀ b o,s.heap.get? b=some o→h'.get? b=some o)→Z .none { s with heap:=h',toks:=tk }) :
    codeAny (model prog w) A (.call (.builtin "set.__init__") ⟨[.ref s.heap.objs.size,.ref l],[]⟩) (wants Z E) { s with heap:=s.heap.push (bareSet w) }:=by
  have g0:(s.heap.push (bareSet w)).get? s.heap.objs.size=some (bareSet w):=Heap.get?_push_size _ rfl
  have hT:Shared.TypeIs { s with heap:=s.heap.push (bareSet w) } (.ref s.heap.objs.size) "set":=⟨_,g0,rfl⟩
  refine codeAny_call_builtin F.called_set.init.plain F.entry_set_init (check_set_init_1 hT ?_)
  obtain ⟨ol,hol,hcl,nl,hdl⟩:=hl
  obtain ⟨c1,c2,c3,c4⟩:=ol
  dsimp only at hcl hdl
  subst hcl hdl
  have hol':(s.heap.push (bareSet w)).get? l=some { cls:=.type "list",dict:=c2,data:=.seq items nl,slots:=c4 }:=Heap.get?_push_of_some _ hol
  have a1:=F.sub_list_set
  have a2:=F.sub_list_frozenset
  have a3:(Value.type "list" == Value.type "dict")=false:=by decide
  have hl1:(s.heap.push (bareSet w)).IsList l items:=⟨_,hol',rfl,nl,rfl⟩
  have lS:l < s.heap.objs.size:=Heap.lt_size hol
  unfold Builtin.«set.__init__» noKeywords Builtin.Frozenset.updateFrom
  generalize hPI:pyIter=PI
  wp_walk
  subst hPI
  refine wpAny_pyIter_list hl1 (wpAny_bind (wpAny_runValue ?_))
  have h3:A.in1.in1.handled=none:=by simp [hh]
  have n1:l≠(s.heap.push (bareSet w)).objs.size:=by rw [Heap.size_push]; exact Nat.ne_of_lt (Nat.lt_succ_of_lt lS)
  have n2:s.heap.objs.size ∉ [(s.heap.push (bareSet w)).objs.size,l]:=by
    rw [Heap.size_push]
    intro z
    rcases List.mem_cons.mp z with z | z
    · exact Nat.ne_of_lt (Nat.lt_succ_self _) z
    · rw [List.mem_singleton] at z; exact Nat.ne_of_gt lS z
  have hv:∀ (i:Nat) (v:Value),items[i]?=some v→∃ t,v=.int (ns.getD i 0) t:=fun i v q=>IntsAre.int_at hi i v (by rw [Array.getElem?_toList]; exact q)
  have hln:items.size=ns.length:=by rw [← IntsAre.length hi,Array.length_toList]
  refine loopT (L:=ledBy w) ((Walks.list h3 _ l n1 items).toS) n2 (val:=fun i=>ns.getD i 0) hv hb items.size 0 _ [] (by omega) ⟨⟨_,Heap.get?_push_size _ rfl,rfl,rfl⟩,hl1.push _⟩ ⟨_,Heap.get?_push_of_some _ g0,bare_ok⟩ (Nat.le_refl _) (fun j=>⟨fun z=>absurd z List.not_mem_nil,fun ⟨i',h1,_⟩=>absurd h1 (Nat.not_lt_zero _)⟩) fun s' ks mv sT hle hk=>?_
  obtain ⟨h',g',d',tk',os'⟩:=s'
  have e1:g'=s.gens:=mv.gens
  have e2:d'=s.drawn:=mv.drawn
  have e3:os'=s.os:=mv.os
  subst e1 e2 e3
  refine wpAny_pure (wpAny_pure ?_)
  refine h h' tk' ks sT hle (fun j=>?_) fun b o q=>?_
  · rw [hk j]
    constructor
    · rintro ⟨i',h1,h2⟩
      rw [← h2,List.getD_eq_getElem?_getD,List.getElem?_eq_getElem (by omega)]
      exact List.getElem_mem _
    · intro z
      obtain ⟨i',h1,h2⟩:=List.getElem_of_mem z
      exact ⟨i',by omega,by rw [List.getD_eq_getElem?_getD,List.getElem?_eq_getElem h1,h2]; rfl⟩
  · have hb:=Heap.lt_size q
    refine mv.heap b o (fun z=>?_) (Heap.get?_push_of_some _ (Heap.get?_push_of_some _ q))
    rcases List.mem_cons.mp z with z | z
    · exact Nat.ne_of_lt hb z
    · rw [List.mem_singleton,Heap.size_push] at z; exact Nat.ne_of_lt (Nat.lt_succ_of_lt hb) z
theorem set_call {l:Addr} {items:Array Value} {ns:List Int} {Q:Value→Shared→Prop} (hh:A.handled=none) (hl:s.heap.IsList l items) (hi:IntsAre items.toList ns) (hb:items.size+1 < scanBound)
    (h:∀ (h':Heap) (tk:Nat) (ks:List Int),SetT prog w (ledBy w) ks h' s.heap.objs.size→ks.length≤items.size→(∀ j,j∈ks ↔ j∈ns)→(∀ b o,s.heap.get? b=some o→h'.get? b=some o)→Q (.ref s.heap.objs.size) { s with heap:=h',toks:=tk }) :
    wpAny (model prog w) A (call (.type "set") [.ref l]) Q E s:=by
  obtain ⟨c,tl,hmro⟩:=F.called_set.mro
  have m1:=F.called_set.made
  have m2:=F.called_set.sub
  have m3:=F.called_set.notType
  have m4:=F.called_set.canCreate
  have m5:=F.typeCall_set_1 (.ref l)
  refine wpAny_call (codeAny_of_tree ?_)
  show wpAny _ _ (callAny (.type "set") _) _ _ _
  refine wpAny_pure ⟨Code.quiet_builtin _ (by decide +kernel),codeAny_builtin F.entry_type_call ?_⟩
  rw [Around.under_plain (weight_type_call_type "set" [.ref l] []) rfl]
  repeat (any_goals (first | assumption | wp_step))
  refine codeAny_mono (made_bare (w:=w) (.ref l) (E:=E) (Q₁:=fun obj s₁=>obj=.ref s.heap.objs.size∧s₁={ s with heap:=s.heap.push (bareSet w) }) ⟨rfl,rfl⟩) fun r s₁ hr=>?_
  cases r with
  | error e=>exact hr
  | ok fl =>
    cases fl with
    | ret obj =>
      obtain ⟨e1,e2⟩:=hr
      subst e1 e2
      have g0:(s.heap.push (bareSet w)).get? s.heap.objs.size=some (bareSet w):=Heap.get?_push_size _ rfl
      have hT:Shared.TypeIs { s with heap:=s.heap.push (bareSet w) } (.ref s.heap.objs.size) "set":=⟨_,g0,rfl⟩
      have q1:=F.called_set.init.lookup
      have q2:=F.called_set.init.bind (.ref s.heap.objs.size)
      repeat (any_goals (first | assumption | wp_step))
      refine codeAny_mono (init_fill (Z:=fun r s₂=>r=.none∧Q (.ref s.heap.objs.size) s₂) (E:=E) (by simp [hh]) hl hi hb fun h' tk ks z1 z2 z3 z4=>⟨rfl,h h' tk ks z1 z2 z3 z4⟩) fun r₂ s₂ hr₂=>?_
      cases r₂ with
      | error e=>exact hr₂
      | ok f₂ =>
        cases f₂ with
        | ret r =>
          obtain ⟨e1,hq⟩:=hr₂
          subst e1
          repeat (any_goals (first | assumption | wp_step))
        | _=>exact hr₂.elim
    | _=>exact hr.elim
end
end L2
set_option Elab.async false
set_option linter.all false
set_option maxRecDepth 100000
namespace PySem.F
theorem st_own:Manifest.owners.lookup (String.ofList "set_iterator".toList.reverse.reverse)=some Manifest.sig_set_iterator:=by kernel_rfl
theorem st_next:Slot "set_iterator" "__next__" "set_iterator.__next__" :=
  .of (owner:="set_iterator") (n:="__next__") (by rw [typeLookup_type,builtinLookup_eq_fast]; kernel_rfl) (by decide +kernel) (by decide +kernel) (by decide +kernel)
    (by first | exact .inl (by decide +kernel) | exact .inr (by decide +kernel)) (by rw [isSubtype_type]; kernel_rfl)
theorem st_iter:Slot "set_iterator" "__iter__" "set_iterator.__iter__" :=
  .of (owner:="set_iterator") (n:="__iter__") (by rw [typeLookup_type,builtinLookup_eq_fast]; kernel_rfl) (by decide +kernel) (by decide +kernel) (by decide +kernel)
    (by first | exact .inl (by decide +kernel) | exact .inr (by decide +kernel)) (by rw [isSubtype_type]; kernel_rfl)
theorem st_entry:entryFor table "set_iterator.__next__"=some Builtin.«set_iterator.__next__»:=entryFor_of_tree (by kernel_rfl)
theorem st_args (a:Value):argsOk "set_iterator.__next__" ⟨[a],[]⟩:=by
  unfold argsOk
  rw [signature?_of (id:="set_iterator.__next__") (n:="__next__".toList.reverse) (o:="set_iterator".toList.reverse) (by kernel_rfl) st_own]
  kernel_rfl
theorem st_set:entryFor table "set.__iter__"=some Builtin.«frozenset.__iter__»:=entryFor_alias (id':="frozenset.__iter__") (by rw [fastTable_eq_tree]; kernel_rfl) (by first | rfl | decide +kernel) (by decide +kernel) (by rw [fastTable_eq_tree]; kernel_rfl)
end PySem.F
namespace L2
open PySem PySem.Spec PyProof.Rows
noncomputable def SetIt (I p:Addr) (first:Value) (i n ep:Nat) (h:Heap):Prop:=∃ o,h.get? I=some o∧o.cls=.type "set_iterator"∧o.data=.fields #[first,.int i 0,.ref p,.int n 0,.int ep 0]
theorem SetIt.typeIs {I p:Addr} {first:Value} {i n ep:Nat} {s:Shared} (x:SetIt I p first i n ep s.heap):s.TypeIs (.ref I) "set_iterator":=by
  obtain ⟨o,h1,h2,_⟩:=x
  exact ⟨o,h1,h2⟩
section
variable {prog:Program} {w:World} {A:Around} {E:Value→Shared→Prop} {s:Shared} {I p:Addr} {first:Value} {i n ep ep':Nat} {o:Obj} {es:Array (Int×Value)} {t:SetTable}
theorem fld {h:Heap} {I:Addr} {oi:Obj} {vs:Array Value} (hoi:h.get? I=some oi) (hdi:oi.data=.fields vs) (k:Nat) (v:Value):∃ o',(h.update I (Obj.mapFields (·.setIfInBounds k v))).get? I=some o'∧o'.cls=oi.cls∧o'.data=.fields (vs.setIfInBounds k v) :=
  ⟨_,Heap.get?_update_self _ hoi (Obj.isFreed_of_fields (Obj.data_mapFields hdi _)),Obj.cls_mapFields ..,Obj.data_mapFields hdi _⟩
theorem nx_int_item {slot nxt:Nat} {x:Value} {Q:Option Value→Shared→Prop} (hit:SetIt I p (.int slot 0) i n ep s.heap) (ho:s.heap.get? p=some o) (hd:o.data=.set es ep' t) (hf:t.fits es.size=true) (hn:es.size=n)
    (hs:∀ (A':Around) (E':Value→Shared→Prop) (Q':Option (Value×Nat)→Shared→Prop),Q' (some (x,nxt)) s→wpAny (model prog w) A' (setNext p slot i ep) Q' E' s)
    (h:∀ h',SetIt I p (.int nxt 0) (i+1) n ep h'→Heap.SameBut I s.heap h'→Q (some x) { s with heap:=h' }):wpAny (model prog w) A (pyNext (.ref I)) Q E s:=by
  obtain ⟨oi,hoi,hci,hdi⟩:=id hit
  unfold pyNext
  refine wpAny_bind (wpAny_attempt (wpAny_callSpecial?_slot (name:=Str.ofString "__next__") hit.typeIs F.st_next (wpAny_call_entry F.st_next hit.typeIs F.st_entry ?_ (F.st_args _))))
  unfold Builtin.«set_iterator.__next__»
  refine wpAny_bind (wpAny_pure ?_)
  refine wpAny_bind (wpAny_fieldsOf hoi hdi ?_)
  dsimp only
  refine wpAny_bind (wpAny_setEntries_of ho hd hf ?_)
  rw [if_neg (by rw [hn]; simp)]
  refine wpAny_bind (hs _ _ _ ?_)
  dsimp only
  refine wpAny_bind (wpAny_setField hoi hdi (by simp) ?_)
  obtain ⟨o1,g1,c1,d1⟩:=fld hoi hdi 0 (rawInt nxt)
  refine wpAny_bind (wpAny_setField (s:={ s with heap:=s.heap.update I (Obj.mapFields (·.setIfInBounds 0 (rawInt nxt))) }) g1 d1 (by simp) ?_)
  obtain ⟨o2,g2,c2,d2⟩:=fld g1 d1 1 (rawInt ((i:Int)+1))
  refine wpAny_pure ⟨_,rfl,wpAny_pure (h _ ⟨o2,g2,c2.trans (c1.trans hci),by rw [d2]; simp [rawInt]⟩ ((Heap.SameBut.update ..).trans (Heap.SameBut.update ..)))⟩
theorem stop_here {h':Heap} {Q:Option Value→Shared→Prop} (hh:A.handled=none) (hq:∀ h2,Heap.ExtBut I h' h2→Q none { s with heap:=h2 }) :
    wpAny (model prog w) A.in1 (newExc (.type "StopIteration") [] >>= fun e=>raiseNew e:Sem Fin) (fun fin s'=>∃ v,fin=Fin.done (Flow.ret v)∧wpAny (model prog w) A (pure (some v)) Q E s')
      (fun e s'=>wpAny (model prog w) A (isInstance e (.type "StopIteration") >>= fun b=>if b=true then pure none else throw e) Q E s') { s with heap:=h' }:=by
  refine wpAny_bind ?_
  simp only [newExc,newTuple]
  refine wpAny_bind (wpAny_newObj_type ?_ (by size_fits))
  refine wpAny_bind (m:=firstArgMember _ _) (wpAny_of_eq (a:=Value.none) (by first | rfl | (simp only [firstArgMember]; rfl)) ?_)
  refine wpAny_newObj_type ?_ (by size_fits)
  unfold raiseNew
  refine wpAny_bind (wpAny_handled ?_)
  rw [show A.in1.handled=none from hh]
  refine wpAny_bind (wpAny_pure (wpAny_throw ?_))
  refine wpAny_bind (wpAny_isInstance (T:="StopIteration") (b:=true) ⟨_,Heap.get?_push_size _ rfl,rfl⟩ isSubtype_stop ?_)
  exact wpAny_pure (hq _ ((Heap.ExtBut.push (fun b o _ q=>q) _).push _))
theorem nx_int_done {slot:Nat} {Q:Option Value→Shared→Prop} (hh:A.handled=none) (hit:SetIt I p (.int slot 0) i n ep s.heap) (ho:s.heap.get? p=some o) (hd:o.data=.set es ep' t) (hf:t.fits es.size=true) (hn:es.size=n)
    (hs:∀ (A':Around) (E':Value→Shared→Prop) (Q':Option (Value×Nat)→Shared→Prop),Q' none s→wpAny (model prog w) A' (setNext p slot i ep) Q' E' s)
    (h:∀ h',Heap.ExtBut I s.heap h'→Q none { s with heap:=h' }):wpAny (model prog w) A (pyNext (.ref I)) Q E s:=by
  obtain ⟨oi,hoi,hci,hdi⟩:=id hit
  unfold pyNext
  refine wpAny_bind (wpAny_attempt (wpAny_callSpecial?_slot (name:=Str.ofString "__next__") hit.typeIs F.st_next (wpAny_call_entry F.st_next hit.typeIs F.st_entry ?_ (F.st_args _))))
  unfold Builtin.«set_iterator.__next__»
  refine wpAny_bind (wpAny_pure ?_)
  refine wpAny_bind (wpAny_fieldsOf hoi hdi ?_)
  dsimp only
  refine wpAny_bind (wpAny_setEntries_of ho hd hf ?_)
  rw [if_neg (by rw [hn]; simp)]
  refine wpAny_bind (hs _ _ _ ?_)
  dsimp only
  refine wpAny_bind (wpAny_setField hoi hdi (by simp) ?_)
  exact stop_here (I:=I) hh fun h2 x=>h h2 fun b o hb q=>x b o hb ((Heap.SameBut.update ..).extBut b o hb q)
theorem nx_tup_item {tp:Addr} {ot:Obj} {pl:Array Value} {c k:Nat} {x:Int×Value} {Q:Option Value→Shared→Prop} (hit:SetIt I p (.ref tp) i n ep s.heap) (ho:s.heap.get? p=some o) (hd:o.data=.set es ep t) (hf:t.fits es.size=true) (hn:es.size=n)
    (ht:s.heap.get? tp=some ot) (htd:ot.data=.seq pl c) (hk:pl[i]?=some (.int k 0)) (hx:es[k]?=some x)
    (h:∀ h',SetIt I p (.ref tp) (i+1) n ep h'→Heap.SameBut I s.heap h'→Q (some x.2) { s with heap:=h' }):wpAny (model prog w) A (pyNext (.ref I)) Q E s:=by
  obtain ⟨oi,hoi,hci,hdi⟩:=id hit
  unfold pyNext
  refine wpAny_bind (wpAny_attempt (wpAny_callSpecial?_slot (name:=Str.ofString "__next__") hit.typeIs F.st_next (wpAny_call_entry F.st_next hit.typeIs F.st_entry ?_ (F.st_args _))))
  unfold Builtin.«set_iterator.__next__»
  refine wpAny_bind (wpAny_pure ?_)
  refine wpAny_bind (wpAny_fieldsOf hoi hdi ?_)
  dsimp only
  refine wpAny_bind (wpAny_setEntries_of ho hd hf ?_)
  rw [if_neg (by rw [hn]; simp)]
  refine wpAny_bind (wpAny_seqItems ht htd ?_)
  dsimp only
  rw [Int.toNat_natCast,hk]
  dsimp only
  unfold setNextDrawn
  refine wpAny_bind (wpAny_bind (wpAny_setState_of ho hd hf ?_))
  dsimp only
  rw [if_neg (by simp),Int.toNat_natCast,hx]
  refine wpAny_pure ?_
  refine wpAny_bind (wpAny_setField hoi hdi (by simp) ?_)
  obtain ⟨o2,g2,c2,d2⟩:=fld hoi hdi 1 (rawInt ((i:Int)+1))
  refine wpAny_pure ⟨_,rfl,wpAny_pure (h _ ⟨o2,g2,c2.trans hci,by rw [d2]; simp [rawInt]⟩ (Heap.SameBut.update ..))⟩
theorem nx_tup_done {tp:Addr} {ot:Obj} {pl:Array Value} {c:Nat} {Q:Option Value→Shared→Prop} (hh:A.handled=none) (hit:SetIt I p (.ref tp) i n ep s.heap) (ho:s.heap.get? p=some o) (hd:o.data=.set es ep t) (hf:t.fits es.size=true) (hn:es.size=n)
    (ht:s.heap.get? tp=some ot) (htd:ot.data=.seq pl c) (hk:pl[i]?=none)
    (h:∀ h',Heap.ExtBut I s.heap h'→Q none { s with heap:=h' }):wpAny (model prog w) A (pyNext (.ref I)) Q E s:=by
  obtain ⟨oi,hoi,hci,hdi⟩:=id hit
  unfold pyNext
  refine wpAny_bind (wpAny_attempt (wpAny_callSpecial?_slot (name:=Str.ofString "__next__") hit.typeIs F.st_next (wpAny_call_entry F.st_next hit.typeIs F.st_entry ?_ (F.st_args _))))
  unfold Builtin.«set_iterator.__next__»
  refine wpAny_bind (wpAny_pure ?_)
  refine wpAny_bind (wpAny_fieldsOf hoi hdi ?_)
  dsimp only
  refine wpAny_bind (wpAny_setEntries_of ho hd hf ?_)
  rw [if_neg (by rw [hn]; simp)]
  refine wpAny_bind (wpAny_seqItems ht htd ?_)
  dsimp only
  rw [Int.toNat_natCast,hk]
  dsimp only
  refine wpAny_bind (wpAny_setField hoi hdi (by simp) ?_)
  obtain ⟨o1,g1,c1,d1⟩:=fld hoi hdi 0 (rawInt 0)
  refine wpAny_bind (wpAny_setField (s:={ s with heap:=s.heap.update I (Obj.mapFields (·.setIfInBounds 0 (rawInt 0))) }) g1 d1 (by simp) ?_)
  exact stop_here (I:=I) hh fun h2 x=>h h2 fun b o hb q=>x b o hb ((Heap.SameBut.update ..).extBut b o hb ((Heap.SameBut.update ..).extBut b o hb q))
end
end L2
set_option Elab.async false
set_option linter.all false
set_option maxRecDepth 100000
namespace L2
open PySem PySem.Spec PyProof.Rows
section
variable {prog:Program} {w:World} {A:Around} {E:Value→Shared→Prop} {s:Shared} {I p:Addr} {i n ep:Nat} {o:Obj} {es:Array (Int×Value)} {t:SetTable}
theorem sn_text {slot:Nat} {Q:Option (Value×Nat)→Shared→Prop} (hw:w.params.followText "set-order"=true) (ho:s.heap.get? p=some o) (hd:o.data=.set es ep t) (hf:t.fits es.size=true)
    (h:Q (((pickOrder (w.params.setOrder p ep) es)[i]?).map fun e=>(e.2,slot)) s):wpAny (model prog w) A (setNext p slot i ep) Q E s:=by
  unfold setNext setsByText
  refine wpAny_bind (wpAny_setState_of ho hd hf ?_)
  dsimp only
  refine wpAny_bind (wpAny_bind (wpAny_askSetting (wpAny_pure ?_)))
  dsimp only
  rw [if_pos (show (model prog w).w.params.followText "set-order"=true from hw),if_neg (by simp)]
  unfold setWalk setsByText
  refine wpAny_bind (wpAny_bind (wpAny_setState_of ho hd hf ?_))
  dsimp only
  refine wpAny_bind (wpAny_bind (wpAny_askSetting (wpAny_pure ?_)))
  dsimp only
  rw [if_pos (show (model prog w).w.params.followText "set-order"=true from hw)]
  exact wpAny_bind (wpAny_askSetting (wpAny_pure (wpAny_pure h)))
theorem sn_place {slot:Nat} {Q:Option (Value×Nat)→Shared→Prop} (hw:w.params.followText "set-order"=false) (ho:s.heap.get? p=some o) (hd:o.data=.set es ep t) (hf:t.fits es.size=true) (hl:t.led=true) (hdr:(!t.plain && decide (es.size > 1))=false)
    (h:Q (match es[SetTable.below t.place slot]?,t.place[SetTable.below t.place slot]? with | some (_,x),some j=>some (x,j+1) | _,_=>none) s):wpAny (model prog w) A (setNext p slot i ep) Q E s:=by
  unfold setNext setsByText
  refine wpAny_bind (wpAny_setState_of ho hd hf ?_)
  dsimp only
  refine wpAny_bind (wpAny_bind (wpAny_askSetting (wpAny_pure ?_)))
  dsimp only
  refine wpAny_ite_split (fun z=>?_) (fun _=>?_)
  · have z':w.params.followText "set-order"=true:=z
    rw [hw] at z'
    cases z'
  refine wpAny_ite_split (fun z=>?_) (fun _=>?_)
  · have z':(!t.plain && decide (es.size > 1))=true:=z
    rw [hdr] at z'
    cases z'
  refine wpAny_bind ?_
  show wpAny _ _ (if (!t.led && !es.isEmpty)=true then unsupported "set:maker-not-led" else pure ()) _ _ _
  rw [if_neg (by simp [hl])]
  exact wpAny_pure (wpAny_pure h)
noncomputable def slotAt (t:SetTable):Nat→Nat
  | 0=>0
  | i+1=>t.place.getD i 0+1
theorem below_at {L:Bool} (ht:TabOk L t) {i:Nat} (hi:i≤t.place.size):SetTable.below t.place (slotAt t i)=i:=by
  obtain ⟨h1,h2,h3⟩:=below_is ht.ris (slotAt t i)
  generalize hr:SetTable.below t.place (slotAt t i)=r at *
  have at':∀ k,(hk:k < t.place.size)→t.place[k]?=some t.place[k]:=fun k hk=>Array.getElem?_eq_getElem hk
  cases i with
  | zero =>
    cases r with
    | zero=>rfl
    | succ r=>exact absurd (h2 0 _ (Nat.succ_pos _) (at' 0 (by omega))) (Nat.not_lt_zero _)
  | succ i =>
    have e:slotAt t (i+1)=t.place[i]'(by omega)+1:=by
      show t.place.getD i 0+1=_
      rw [Array.getD_eq_getD_getElem?,at' i (by omega)]
      rfl
    rw [e] at h2 h3
    by_cases c1:r≤i
    · have:=h3 i _ c1 (at' i (by omega))
      omega
    · by_cases c2:i+1 < r
      · have a:=h2 (i+1) _ c2 (at' (i+1) (by omega))
        have b:=ht.ris.lt (Nat.lt_succ_self i) (at' i (by omega)) (at' (i+1) (by omega))
        omega
      · omega
theorem perm_erase {α:Type}:∀ {xs:List α} {j:Nat} (h:j < xs.length),(xs[j]::xs.eraseIdx j).Perm xs
  | x::xs,0,h=>List.Perm.refl _
  | x::xs,j+1,h=>by
    have hj:j < xs.length:=by simpa using h
    have ih:=perm_erase (xs:=xs) (j:=j) hj
    show (xs[j]::x::xs.eraseIdx j).Perm (x::xs)
    exact (List.Perm.swap _ _ _).trans (List.Perm.cons _ ih)
theorem pick_perm {α:Type} (f:Nat→Nat):∀ (fuel k:Nat) (left:List α) (out:Array α),left.length=fuel→((pickOrder.go f fuel k left out).toList).Perm (out.toList++left)
  | 0,k,left,out,h=>by
    rw [List.length_eq_zero_iff.mp h]
    unfold pickOrder.go
    rw [List.append_nil]
  | fuel+1,k,left,out,h=>by
    have hlt:f k % left.length < left.length:=Nat.mod_lt _ (by omega)
    unfold pickOrder.go
    rw [List.getElem?_eq_getElem hlt]
    dsimp only
    refine (pick_perm f fuel (k+1) _ _ (by rw [List.length_eraseIdx,if_pos hlt]; omega)).trans ?_
    rw [Array.toList_push,List.append_assoc,List.singleton_append]
    exact List.Perm.append_left _ (perm_erase hlt)
theorem draw_perm {α:Type} {Q:List α→Shared→Prop}:∀ (k:Nat) (xs:List α) (s:Shared),xs.length=k→(∀ ys d,ys.Perm xs→Q ys { s with drawn:=d })→wpAny (model prog w) A (drawOrder k xs) Q E s
  | 0,xs,s,h,hq=>by
    rw [List.length_eq_zero_iff.mp h]
    exact wpAny_pure (hq [] s.drawn (by rw [List.length_eq_zero_iff.mp h]))
  | k+1,xs,s,h,hq=>by
    cases xs with
    | nil=>cases h
    | cons x xs =>
      unfold drawOrder
      refine wpAny_bind ?_
      intro Γ q hΓ
      show Sem.wp _ _ (Sem.choose _ _ _) _ _ _ _
      rw [Sem.wp_choose]
      refine ⟨by simp,?_⟩
      have hlt:=Nat.mod_lt ((model prog w).w.draws .order (s.drawn.get .order)) (show 0 < (x::xs).length by simp)
      generalize (model prog w).w.draws .order (s.drawn.get .order) % (x::xs).length=j at *
      have key:wpAny (model prog w) A (match (x::xs)[j]? with | some y=>(drawOrder k ((x::xs).eraseIdx j) >>= fun r=>pure (y::r)) | none=>unsupported "internal:drawOrder") Q E { s with drawn:=s.drawn.bump .order }:=by
        rw [List.getElem?_eq_getElem hlt]
        refine wpAny_bind (draw_perm k _ _ (by rw [List.length_eraseIdx,if_pos hlt]; exact Nat.succ.inj h) fun ys d pm=>wpAny_pure ?_)
        exact hq _ d ((List.Perm.cons _ pm).trans (perm_erase hlt))
      rw [Sem.wp]
      exact key
end
end L2
set_option Elab.async false
set_option linter.all false
set_option maxRecDepth 100000
namespace PySem.F
theorem st_argsI (a:Value):argsOk "set_iterator.__iter__" ⟨[a],[]⟩:=by
  unfold argsOk
  rw [signature?_of (id:="set_iterator.__iter__") (n:="__iter__".toList.reverse) (o:="set_iterator".toList.reverse) (by kernel_rfl) st_own]
  kernel_rfl
theorem st_entryI:entryFor table "set_iterator.__iter__"=some Builtin.«dict_keyiterator.__iter__»:=entryFor_alias (id':="dict_keyiterator.__iter__") (by rw [fastTable_eq_tree]; kernel_rfl) (by first | rfl | decide +kernel) (by decide +kernel) (by rw [fastTable_eq_tree]; kernel_rfl)
end PySem.F
namespace L2
open PySem PySem.Spec PyProof.Rows
noncomputable abbrev setItO (p:Addr) (first:Value) (n ep:Nat):Obj:={ cls:=.type "set_iterator",data:=.fields #[first,.int 0 0,.ref p,.int n 0,.int ep 0] }
section
variable {prog:Program} {w:World} {A:Around} {E:Value→Shared→Prop} {s:Shared} {I p tp:Addr} {n ep:Nat} {o:Obj} {es:Array (Int×Value)} {t:SetTable}
theorem walk_int (hh:A.handled=none) {sl:Nat→Nat} {vs:List Value} (hv:vs.length=n) (hd:o.data=.set es ep t) (hf:t.fits es.size=true) (hn:es.size=n) (hpI:p≠I)
    (hnx:∀ (i:Nat) (x:Value),vs[i]?=some x→∀ (s:Shared) (A':Around) (E':Value→Shared→Prop) (Q':Option (Value×Nat)→Shared→Prop),s.heap.get? p=some o→Q' (some (x,sl (i+1))) s→wpAny (model prog w) A' (setNext p (sl i) i ep) Q' E' s)
    (hend:∀ (s:Shared) (A':Around) (E':Value→Shared→Prop) (Q':Option (Value×Nat)→Shared→Prop),s.heap.get? p=some o→Q' none s→wpAny (model prog w) A' (setNext p (sl n) n ep) Q' E' s) :
    Walks prog w A I [I,p] [I] n (fun i v=>vs[i]?=some v) (fun i h=>SetIt I p (.int (sl i) 0) i n ep h∧h.get? p=some o) where
  sub:=fun b hb=>by simp at hb; simp [hb]
  frame:=fun i h h' st k=>by
    obtain ⟨⟨oi,a,b,c⟩,d⟩:=st
    exact ⟨⟨oi,k I (by simp) oi a,b,c⟩,k p (by simp) o d⟩
  item:=fun i s Q E hi st hQ=>by
    have hx:vs[i]?=some (vs[i]'(by omega)):=List.getElem?_eq_getElem (by omega)
    refine nx_int_item st.1 st.2 hd hf hn (fun A' E' Q' q=>hnx i _ hx s A' E' Q' st.2 q) fun h' it sb=>?_
    exact hQ _ h' s.toks hx ⟨it,sb.extBut p o hpI st.2⟩ fun b o hb q=>sb.extBut b o (fun z=>hb (by simp [z])) q
  done:=fun s Q E st hQ=>nx_int_done hh st.1 st.2 hd hf hn (fun A' E' Q' q=>hend s A' E' Q' st.2 q) fun h' x=>hQ h' s.toks fun b o hb q=>x b o (fun z=>hb (by simp [z])) q
  self:=fun i s Q E st h=>by
    refine wpAny_pyIter_slot st.1.typeIs F.st_iter (wpAny_call_entry F.st_iter st.1.typeIs F.st_entryI ?_ (F.st_argsI _))
    show wpAny _ _ (ret (.ref I)) _ _ s
    exact wpAny_pure ⟨_,rfl,"set_iterator",_,st.1.typeIs,F.st_next.lookup,h⟩
theorem walk_tup (hh:A.handled=none) {ot:Obj} {pl:Array Value} {c:Nat} {ord:List Nat} {vs:List Value} (hv:vs.length=n) (hd:o.data=.set es ep t) (hf:t.fits es.size=true) (hn:es.size=n) (hpI:p≠I) (htI:tp≠I)
    (htd:ot.data=.seq pl c) (hpl:pl.toList=ord.map fun (k:Nat)=>Value.int (k:Int) 0) (hvs:∀ (i k:Nat),ord[i]?=some k→∃ x,es[k]?=some x∧vs[i]?=some x.2) (hol:ord.length=n) :
    Walks prog w A I [I,p,tp] [I] n (fun i v=>vs[i]?=some v) (fun i h=>SetIt I p (.ref tp) i n ep h∧h.get? p=some o∧h.get? tp=some ot) where
  sub:=fun b hb=>by simp at hb; simp [hb]
  frame:=fun i h h' st k=>by
    obtain ⟨⟨oi,a,b,c⟩,d,e⟩:=st
    exact ⟨⟨oi,k I (by simp) oi a,b,c⟩,k p (by simp) o d,k tp (by simp) ot e⟩
  item:=fun i s Q E hi st hQ=>by
    have hk:ord[i]?=some (ord[i]'(by omega)):=List.getElem?_eq_getElem (by omega)
    obtain ⟨x,hx,hxv⟩:=hvs i _ hk
    have hp':pl[i]?=some (.int (ord[i]'(by omega):Nat) 0):=by rw [← Array.getElem?_toList,hpl,List.getElem?_map,hk]; rfl
    refine nx_tup_item st.1 st.2.1 hd hf hn st.2.2 htd hp' hx fun h' it sb=>?_
    exact hQ _ h' s.toks hxv ⟨it,sb.extBut p o hpI st.2.1,sb.extBut tp ot htI st.2.2⟩ fun b o hb q=>sb.extBut b o (fun z=>hb (by simp [z])) q
  done:=fun s Q E st hQ=>by
    have hp':pl[n]?=none:=by rw [← Array.getElem?_toList,hpl,List.getElem?_map,List.getElem?_eq_none (by omega)]; rfl
    exact nx_tup_done hh st.1 st.2.1 hd hf hn st.2.2 htd hp' fun h' x=>hQ h' s.toks fun b o hb q=>x b o (fun z=>hb (by simp [z])) q
  self:=fun i s Q E st h=>by
    refine wpAny_pyIter_slot st.1.typeIs F.st_iter (wpAny_call_entry F.st_iter st.1.typeIs F.st_entryI ?_ (F.st_argsI _))
    show wpAny _ _ (ret (.ref I)) _ _ s
    exact wpAny_pure ⟨_,rfl,"set_iterator",_,st.1.typeIs,F.st_next.lookup,h⟩
theorem set_typeIs (ho:s.heap.get? p=some o) (hx:o.ExactSet):s.TypeIs (.ref p) "set":=⟨o,ho,hx.1⟩
theorem iter_int {Q:Value→Shared→Prop} (ho:s.heap.get? p=some o) (hx:o.ExactSet) (hd:o.data=.set es ep t) (hf:t.fits es.size=true) (hm:(!w.params.followText "set-order" && (!t.plain && decide (es.size > 1)))=false)
    (h:Q (.ref s.heap.objs.size) { s with heap:=s.heap.push (setItO p (.int 0 0) es.size ep) }):wpAny (model prog w) A (pyIter (.ref p)) Q E s:=by
  refine wpAny_pyIter_slot (set_typeIs ho hx) F.slot_set_iter (wpAny_call_entry F.slot_set_iter (set_typeIs ho hx) F.st_set ?_ (F.args_set_iter_1 _))
  unfold Builtin.«frozenset.__iter__» Builtin.Frozenset.slot0
  refine wpAny_bind (wpAny_bind (wpAny_pure ?_))
  refine wpAny_pure ?_
  unfold Builtin.Frozenset.sizeOf
  refine wpAny_bind (wpAny_bind (wpAny_setEntries_of ho hd hf (wpAny_pure ?_)))
  unfold setDrawn setsByText
  refine wpAny_bind (wpAny_bind (wpAny_setState_of ho hd hf ?_))
  refine wpAny_bind (wpAny_bind (wpAny_askSetting (wpAny_pure (wpAny_pure ?_))))
  refine wpAny_ite_split (fun z=>?_) (fun _=>?_)
  · have z':(!w.params.followText "set-order" && (!t.plain && decide (es.size > 1)))=true:=z
    rw [hm] at z'
    cases z'
  refine wpAny_bind (wpAny_pure ?_)
  refine wpAny_bind (wpAny_setEpoch_of ho hd hf ?_)
  refine wpAny_bind (wpAny_newObj_type (wpAny_pure ⟨_,rfl,"set_iterator",_,⟨_,Heap.get?_push_size _ rfl,rfl⟩,F.st_next.lookup,?_⟩))
  exact h
end
end L2
set_option Elab.async false
set_option linter.all false
set_option maxRecDepth 100000
namespace L2
open PySem PySem.Spec PyProof.Rows
theorem ints_keys:∀ {vs:List Value},(∀ v∈vs,∃ n t,v=.int n t)→IntsAre vs (vs.map keyOf)
  | [],_=>.nil
  | v::vs,h=>by
    obtain ⟨n,t,rfl⟩:=h v (by simp)
    exact .cons n t (ints_keys fun u hu=>h u (List.mem_cons_of_mem _ hu))
section
variable {prog:Program} {w:World} {A:Around} {E:Value→Shared→Prop} {s:Shared} {p:Addr}
theorem iter_drawn {o:Obj} {es:Array (Int×Value)} {ep:Nat} {t:SetTable} {Q:Value→Shared→Prop} (ho:s.heap.get? p=some o) (hx:o.ExactSet) (hd:o.data=.set es ep t) (hf:t.fits es.size=true) (hb:es.size < scanBound) (hm:(!w.params.followText "set-order" && (!t.plain && decide (es.size > 1)))=true)
    (h:∀ (ord:List Nat) (d:Drawn),ord.Perm (List.range es.size)→Q (.ref (s.heap.push { cls:=.type "tuple",data:=.seq (ord.map fun (k:Nat)=>rawInt k).toArray }).objs.size) { s with drawn:=d,heap:=(s.heap.push { cls:=.type "tuple",data:=.seq (ord.map fun (k:Nat)=>rawInt k).toArray }).push (setItO p (.ref s.heap.objs.size) es.size ep) }):wpAny (model prog w) A (pyIter (.ref p)) Q E s:=by
  refine wpAny_pyIter_slot (set_typeIs ho hx) F.slot_set_iter (wpAny_call_entry F.slot_set_iter (set_typeIs ho hx) F.st_set ?_ (F.args_set_iter_1 _))
  unfold Builtin.«frozenset.__iter__» Builtin.Frozenset.slot0
  refine wpAny_bind (wpAny_bind (wpAny_pure ?_))
  refine wpAny_pure ?_
  unfold Builtin.Frozenset.sizeOf
  refine wpAny_bind (wpAny_bind (wpAny_setEntries_of ho hd hf (wpAny_pure ?_)))
  unfold setDrawn setsByText
  refine wpAny_bind (wpAny_bind (wpAny_setState_of ho hd hf ?_))
  refine wpAny_bind (wpAny_bind (wpAny_askSetting (wpAny_pure (wpAny_pure ?_))))
  refine wpAny_ite_split (fun _=>?_) (fun z=>absurd (show (!w.params.followText "set-order" && (!t.plain && decide (es.size > 1)))=true from hm) z)
  refine wpAny_bind (draw_perm es.size (List.range es.size) s (by simp) fun ord d pm=>?_)
  have hl:ord.length=es.size:=by rw [pm.length_eq]; simp
  refine wpAny_bind (wpAny_newTuple ?_ (by rw [List.length_map,hl]; exact fits_of_scanBound hb))
  have ho':(s.heap.push { cls:=.type "tuple",data:=.seq (ord.map fun (k:Nat)=>rawInt k).toArray }).get? p=some o:=Heap.get?_push_of_some _ ho
  refine wpAny_bind (wpAny_setEpoch_of (s:={ s with drawn:=d,heap:=s.heap.push { cls:=.type "tuple",data:=.seq (ord.map fun (k:Nat)=>rawInt k).toArray } }) ho' hd hf ?_)
  refine wpAny_bind (wpAny_newObj_type (wpAny_pure ⟨_,rfl,"set_iterator",_,⟨_,Heap.get?_push_size _ rfl,rfl⟩,F.st_next.lookup,?_⟩))
  exact h ord d pm
noncomputable def ItAny (prog:Program) (w:World) (A:Around) (p:Addr) (ks:List Int) (s:Shared) (itv:Value) (s2:Shared):Prop :=
  ∃ (I:Addr) (fp:List Addr) (St:Nat→Heap→Prop) (vs:List Value) (h2:Heap) (d:Drawn),itv=.ref I∧Walks prog w A I fp [I] ks.length (fun i v=>vs[i]?=some v) St∧St 0 h2∧(∀ b∈fp,b=p∨s.heap.objs.size≤b) ∧
    vs.length=ks.length∧IntsAre vs (vs.map keyOf)∧(vs.map keyOf).Perm ks∧s.heap.objs.size≤I∧s2={ s with heap:=h2,drawn:=d }∧∀ b o,s.heap.get? b=some o→h2.get? b=some o
theorem iter_any {ks:List Int} (hh:A.handled=none) (hS:SetT prog w (ledBy w) ks s.heap p):wpAny (model prog w) A (pyIter (.ref p)) (ItAny prog w A p ks s) E s:=by
  obtain ⟨o,ho,es,ep,t,hx,hd,hel,hint,hks,hnd,hb,hf,ht⟩:=hS
  have hz:es.size=ks.length:=by rw [← hks,List.length_map,Array.length_toList]
  have hpl:t.place.size=es.size:=by
    simp only [SetTable.fits,Bool.and_eq_true,beq_iff_eq] at hf
    exact hf.1
  have hpI:p≠s.heap.objs.size:=Nat.ne_of_lt (Heap.lt_size ho)
  have allI:∀ vs:List Value,vs.Perm (es.toList.map (·.2))→vs.length=ks.length∧IntsAre vs (vs.map keyOf)∧(vs.map keyOf).Perm ks:=fun vs pm=>by
    refine ⟨by rw [pm.length_eq,List.length_map,Array.length_toList,hz],ints_keys fun v hv=>?_,?_⟩
    · obtain ⟨e,he,rfl⟩:=List.mem_map.mp (pm.mem_iff.mp hv)
      exact hint e he
    · have q:=pm.map keyOf
      rw [List.map_map] at q
      rw [← hks]
      exact q
  cases hm:(!w.params.followText "set-order" && (!t.plain && decide (es.size > 1))) with
  | true =>
    refine iter_drawn ho hx hd hf (by rw [hz]; exact hb) hm fun ord d pm=>?_
    have hol:ord.length=es.size:=by rw [pm.length_eq]; simp
    have hlt:∀ k∈ord,k < es.size:=fun k hk=>List.mem_range.mp (pm.mem_iff.mp hk)
    have hgo:∀ l:List Nat,(∀ k∈l,k < es.size)→∀ (i k:Nat),l[i]?=some k→∃ x,es[k]?=some x∧(l.map fun k=>(es.getD k (0,.none)).2)[i]?=some x.2:=fun l hl i k hk=>by
      have hk':=hl k (List.mem_of_getElem? hk)
      refine ⟨es[k],Array.getElem?_eq_getElem hk',?_⟩
      rw [List.getElem?_map,hk]
      show some (es.getD k (0,.none)).2=_
      rw [Array.getD_eq_getD_getElem?,Array.getElem?_eq_getElem hk']
      rfl
    have hpm:(ord.map fun k=>(es.getD k (0,.none)).2).Perm (es.toList.map (·.2)):=by
      refine (pm.map _).trans (List.Perm.of_eq ?_)
      refine List.ext_getElem? fun i=>?_
      rw [List.getElem?_map,List.getElem?_map]
      by_cases hi:i < es.size
      · have a1:(List.range es.size)[i]?=some i:=List.getElem?_range hi
        have a2:es.toList[i]?=some es[i]:=by rw [Array.getElem?_toList]; exact Array.getElem?_eq_getElem hi
        rw [a1,a2]
        show some (es.getD i (0,.none)).2=_
        rw [Array.getD_eq_getD_getElem?,Array.getElem?_eq_getElem hi]
        rfl
      · have a1:(List.range es.size)[i]?=none:=List.getElem?_eq_none (by simpa using hi)
        have a2:es.toList[i]?=none:=List.getElem?_eq_none (by simpa using hi)
        rw [a1,a2]
        rfl
    obtain ⟨v1,v2,v3⟩:=allI _ hpm
    have sz:(s.heap.push { cls:=.type "tuple",data:=.seq (ord.map fun (k:Nat)=>rawInt k).toArray }).objs.size=s.heap.objs.size+1:=Heap.size_push ..
    have hlp:p < s.heap.objs.size:=Heap.lt_size ho
    refine ⟨_,_,_,_,_,d,rfl,walk_tup (tp:=s.heap.objs.size) (ot:={ cls:=.type "tuple",data:=.seq (ord.map fun (k:Nat)=>rawInt k).toArray }) hh v1 hd hf hz (by rw [sz]; exact Nat.ne_of_lt (Nat.lt_succ_of_lt hlp)) (by rw [sz]; exact Nat.ne_of_lt (Nat.lt_succ_self _)) rfl rfl (hgo ord hlt) (by rw [hol,hz]),⟨⟨_,Heap.get?_push_size _ rfl,rfl,by rw [← hz]; rfl⟩,Heap.get?_push_of_some _ (Heap.get?_push_of_some _ ho),Heap.get?_push_of_some _ (Heap.get?_push_size _ rfl)⟩,fun b hb=>?_,v1,v2,v3,by rw [sz]; exact Nat.le_succ _,rfl,fun b o q=>Heap.get?_push_of_some _ (Heap.get?_push_of_some _ q)⟩
    simp only [List.mem_cons,List.not_mem_nil,or_false] at hb
    rcases hb with rfl | rfl | rfl
    · exact .inr (by rw [sz]; exact Nat.le_succ _)
    · exact .inl rfl
    · exact .inr (Nat.le_refl _)
  | false =>
    have fin:∀ (sl:Nat→Nat) (vs:List Value),sl 0=0→vs.Perm (es.toList.map (·.2))→(∀ (i:Nat) (x:Value),vs[i]?=some x→∀ (s:Shared) (A':Around) (E':Value→Shared→Prop) (Q':Option (Value×Nat)→Shared→Prop),s.heap.get? p=some o→Q' (some (x,sl (i+1))) s→wpAny (model prog w) A' (setNext p (sl i) i ep) Q' E' s) →
        (∀ (s:Shared) (A':Around) (E':Value→Shared→Prop) (Q':Option (Value×Nat)→Shared→Prop),s.heap.get? p=some o→Q' none s→wpAny (model prog w) A' (setNext p (sl ks.length) ks.length ep) Q' E' s)→wpAny (model prog w) A (pyIter (.ref p)) (ItAny prog w A p ks s) E s:=fun sl vs h0 pm h1 h2=>by
      obtain ⟨v1,v2,v3⟩:=allI vs pm
      refine iter_int ho hx hd hf hm ?_
      refine ⟨_,_,_,vs,_,s.drawn,rfl,walk_int hh (sl:=sl) v1 hd hf hz hpI h1 h2,⟨⟨_,Heap.get?_push_size _ rfl,rfl,by rw [h0,← hz]; rfl⟩,Heap.get?_push_of_some _ ho⟩,fun b hb=>?_,v1,v2,v3,Nat.le_refl _,rfl,fun b o q=>Heap.get?_push_of_some _ q⟩
      simp only [List.mem_cons,List.not_mem_nil,or_false] at hb
      rcases hb with rfl | rfl
      · exact .inr (Nat.le_refl _)
      · exact .inl rfl
    cases hw:w.params.followText "set-order" with
    | true =>
      have pk:=pick_perm (w.params.setOrder p ep) es.size 0 es.toList #[] (by simp)
      rw [List.nil_append] at pk
      refine fin (fun _=>0) ((pickOrder (w.params.setOrder p ep) es).toList.map (·.2)) rfl (pk.map _) (fun i x hx' s1 A' E' Q' h1 q=>?_) fun s1 A' E' Q' h1 q=>?_
      · refine sn_text hw h1 hd hf ?_
        rw [List.getElem?_map,Array.getElem?_toList] at hx'
        obtain ⟨e,he,rfl⟩:=Option.map_eq_some_iff.mp hx'
        rw [he]
        exact q
      · refine sn_text hw h1 hd hf ?_
        have hl:(pickOrder (w.params.setOrder p ep) es).size=es.size:=by rw [← Array.length_toList,← Array.length_toList]; exact pk.length_eq
        rw [Array.getElem?_eq_none (by omega)]
        exact q
    | false =>
      have hl:t.led=true:=by rw [ht.led]; unfold ledBy; rw [hw]; rfl
      have hdr:(!t.plain && decide (es.size > 1))=false:=by rw [hw] at hm; simpa using hm
      refine fin (slotAt t) (es.toList.map (·.2)) rfl (List.Perm.refl _) (fun i x hx' s1 A' E' Q' h1 q=>?_) fun s1 A' E' Q' h1 q=>?_
      · rw [List.getElem?_map,Array.getElem?_toList] at hx'
        obtain ⟨e,he,rfl⟩:=Option.map_eq_some_iff.mp hx'
        have hi:i < es.size:=(Array.getElem?_eq_some_iff.mp he).1
        refine sn_place hw h1 hd hf hl hdr ?_
        rw [below_at ht (by omega),he,Array.getElem?_eq_getElem (show i < t.place.size by omega)]
        have e2:slotAt t (i+1)=t.place[i]+1:=by
          show t.place.getD i 0+1=_
          rw [Array.getD_eq_getD_getElem?,Array.getElem?_eq_getElem (show i < t.place.size by omega)]
          rfl
        rw [e2] at q
        exact q
      · refine sn_place hw h1 hd hf hl hdr ?_
        rw [below_at ht (by omega),Array.getElem?_eq_none (by omega)]
        exact q
end
end L2
set_option Elab.async false
set_option linter.all false
set_option maxRecDepth 100000
namespace L2
open PySem PySem.Spec PyProof.Rows
section
variable {prog:Program} {w:World} {A:Around} {E:Value→Shared→Prop} {s:Shared} {p:Addr}
theorem hint_set {Q:Bool→Shared→Prop} (hT:s.TypeIs (.ref p) "set") (h:Q false s):wpAny (model prog w) A (Builtin.List.listLengthHint (.ref p)) Q E s:=by
  unfold Builtin.List.listLengthHint
  refine wpAny_bind (wpAny_specialOf hT F.slot_set_len.lookup ?_)
  generalize hid:("set.__len__":String)=id0
  wp_delta
  rw [show splitId id0=some ("set","__len__") from by subst hid; decide +kernel]
  subst hid
  refine wpAny_bind (wpAny_isInstance (T:="set") (b:=true) hT sub_set_self ?_)
  refine wpAny_ite_split (fun z=>absurd z (by decide)) (fun _=>?_)
  refine wpAny_ite_split (fun _=>wpAny_bind (wpAny_typeOf hT (wpAny_pure h))) (fun z=>absurd (by decide +kernel) z)
theorem collect_set {ks:List Int} {Q:List Value→Shared→Prop} (hh:A.handled=none) (hS:SetT prog w (ledBy w) ks s.heap p) (hk:ks.length≤sizeLine)
    (h:∀ h' d tk vs,IntsAre vs (vs.map keyOf)→(vs.map keyOf).Perm ks→s.heap.objs.size≤h'.objs.size→(∀ b o,s.heap.get? b=some o→h'.get? b=some o)→Q vs { s with heap:=h',drawn:=d,toks:=tk }):wpAny (model prog w) A (collect (.ref p)) Q E s:=by
  unfold collect
  refine wpAny_bind (wpAny_runValue (codeAny_builtin F.entry_proto_collect ?_))
  rw [Around.under_plainId F.plain_proto_collect _]
  show wpAny _ A.in1 (newList [] >>= fun l=>again (.builtin "list.__iadd__" ⟨[l,.ref p],[]⟩)) _ _ s
  refine wpAny_bind (wpAny_newObj_type (wpAny_pure ⟨plainId_quiet F.plain_list_iadd _,codeAny_builtin F.entry_list_iadd ?_⟩))
  rw [Around.under_plainId F.plain_list_iadd _]
  have hp:p < s.heap.objs.size:=by obtain ⟨o,ho,_⟩:=hS; exact Heap.lt_size ho
  have s1:SetT prog w (ledBy w) ks (s.heap.push { cls:=.type "list",data:=.seq ([]:List Value).toArray }) p:=hS.stay fun o q=>Heap.get?_push_of_some _ q
  have g1:(s.heap.push { cls:=.type "list",data:=.seq ([]:List Value).toArray }).get? s.heap.objs.size=some { cls:=.type "list",data:=.seq ([]:List Value).toArray }:=Heap.get?_push_size _ rfl
  have hT:Shared.TypeIs { s with heap:=s.heap.push { cls:=.type "list",data:=.seq ([]:List Value).toArray } } (.ref p) "set":=by
    obtain ⟨o,ho,es,ep,t,hx,_⟩:=s1
    exact ⟨o,ho,hx.1⟩
  have hsr:Builtin.List.listSameRef (.ref s.heap.objs.size) (.ref p)=false:=by simp [Builtin.List.listSameRef,Nat.ne_of_gt hp]
  show wpAny _ A.in1 (Builtin.List.listExtendWith (.ref s.heap.objs.size) (.ref p) (.ref s.heap.objs.size)) _ _ _
  unfold Builtin.List.listExtendWith
  refine wpAny_bind (wpAny_typeOf hT ?_)
  rw [if_neg (by rw [hsr]; decide)]
  refine wpAny_bind (wpAny_mono (iter_any (A:=A.in1) (by simp [hh]) s1) (fun itv s2 hz=>?_) fun _ _ z=>z)
  obtain ⟨I,fp,St,vs,h2,d,rfl,W,st,hfp,hv,i1,i2,hI,rfl,kp⟩:=hz
  rw [Heap.size_push] at hfp hI
  have hSf:s.heap.objs.size ∉ fp:=fun z=>by
    rcases hfp _ z with q | q
    · exact Nat.ne_of_gt hp q
    · exact absurd q (Nat.not_le_of_lt (Nat.lt_succ_self _))
  have hT2:Shared.TypeIs { s with heap:=h2,drawn:=d } (.ref p) "set":=by
    obtain ⟨o,ho,hc⟩:=hT
    exact ⟨o,kp _ _ ho,hc⟩
  refine wpAny_bind (wpAny_holding (hint_set hT2 ?_))
  have g2:=kp _ _ g1
  have key:∀ (h3:Heap) (c tk:Nat),St 0 h3→(∀ b o,b≠s.heap.objs.size→h2.get? b=some o→h3.get? b=some o)→h3.get? s.heap.objs.size=some { cls:=.type "list",data:=.seq #[] c } →
      codeAny (model prog w) A (.builtin "list.extend.loop" ⟨[.ref s.heap.objs.size,.ref I,.ref s.heap.objs.size],[]⟩) (wants (fun v s'=>wpAny (model prog w) A (match v with | .ref a=>(load a >>= fun o=>match o.data with | .seq xs _=>pure xs.toList | _=>unsupported "internal:collect") | _=>unsupported "internal:collect") Q E s') E) { s with heap:=h3,drawn:=d,toks:=tk }:=by
    intro h3 c tk st3 k3 g3
    refine codeAny_extend_loopS W.toS hk _ hSf _ ks.length 0 _ #[] c rfl (Nat.zero_le _) st3 g3 (ItemsOf.nil _) fun s4 acc c4 mv g4 it=>?_
    refine wpAny_bind (wpAny_load g4 ?_)
    have e4:=Moved.eq_with mv
    have ea:acc.toList=vs:=by
      refine List.ext_getElem? fun j=>?_
      rw [Array.getElem?_toList]
      by_cases hj:j < ks.length
      · have hja:j < acc.size:=by rw [it.1]; exact hj
        have:=it.2 j _ (Array.getElem?_eq_getElem hja)
        rw [Array.getElem?_eq_getElem hja,this]
      · rw [Array.getElem?_eq_none (by rw [it.1]; omega),List.getElem?_eq_none (by omega)]
    rw [e4]
    refine wpAny_pure ?_
    rw [ea]
    refine h s4.heap d s4.toks vs i1 i2 (Nat.le_of_lt (Heap.lt_size g4)) fun b o q=>?_
    have hb:=Heap.lt_size q
    refine mv.heap b o (fun z=>?_) (k3 b o (Nat.ne_of_lt hb) (kp b o (Heap.get?_push_of_some _ q)))
    rcases List.mem_cons.mp z with z | z
    · exact Nat.ne_of_lt hb z
    · rw [List.mem_singleton] at z
      subst z
      exact absurd hI (Nat.not_le_of_lt (Nat.lt_succ_of_lt hb))
  refine wpAny_ite_split (fun _=>?_) (fun _=>wpAny_pure ⟨plainId_quiet F.plain_extend_loop _,key _ _ _ st (fun b o _ q=>q) g2⟩)
  refine wpAny_bind (wpAny_rule (wpAny_bind ?_))
  show wpAny _ _ (updateSeq s.heap.objs.size (·.push .none) >>= fun _=>updateSeq s.heap.objs.size (·.pop)) _ _ _
  refine wpAny_bind (wpAny_updateSeq g2 rfl ?_)
  have g3:=Heap.get?_update_self (Obj.mapSeq (·.push Value.none)) g2 rfl
  refine wpAny_updateSeq (hz:=by seq_fits) g3 rfl ?_
  have g4:=Heap.get?_update_self (Obj.mapSeq (·.pop)) g3 rfl
  have oth:∀ b o,b≠s.heap.objs.size→h2.get? b=some o→((h2.update s.heap.objs.size (Obj.mapSeq (·.push Value.none))).update s.heap.objs.size (Obj.mapSeq (·.pop))).get? b=some o:=fun b o hb q =>
    (Heap.get?_update_other _ _ (Ne.symm hb)).trans ((Heap.get?_update_other _ _ (Ne.symm hb)).trans q)
  exact wpAny_pure ⟨plainId_quiet F.plain_extend_loop _,key _ _ _ (W.frame 0 _ _ st fun b hb o q=>oth b o (fun z=>hSf (z ▸ hb)) q) oth g4⟩
end
end L2
set_option Elab.async false
set_option linter.all false
set_option maxRecDepth 100000
namespace L2
open PySem PySem.Spec PyProof.Rows
section
variable {prog:Program} {w:World} {A:Around} {E:Value→Shared→Prop} {s:Shared} {p:Addr}
theorem sorted_set {ks:List Int} {Q:Value→Shared→Prop} (hh:A.handled=none) (hS:SetT prog w (ledBy w) ks s.heap p) (h64:ks.length < 64)
    (h:∀ h' d tk q (out:Array Value) (ms:List Int) e,IntsAre out.toList ms→ms.Perm ks→ms.Pairwise (·≤·)→s.heap.objs.size≤q→h'.get? q=some (seqObj "list" out e)→(∀ b o,s.heap.get? b=some o→h'.get? b=some o)→Q (.ref q) { s with heap:=h',drawn:=d,toks:=tk }) :
    wpAny (model prog w) A (call (.builtin "sorted") [.ref p]) Q E s:=by
  refine Calls.call_function_entry kind_sorted plain_sorted entry_sorted (args_sorted1 _) ?_
  unfold Builtin.«sorted»
  refine wpAny_bind (m:=checkCount "sorted" 1 1 _) (wpAny_pure (wpAny_bind (collect_set (by simp [hh]) hS (by rw [sizeLine_eq]; omega) fun h1 d tk vs i1 i2 hsz kp=>?_)))
  have hl:vs.length=ks.length:=by have:=i2.length_eq; rwa [List.length_map] at this
  refine wpAny_bind (wpAny_newList ?_ (by rw [hl,sizeLine_eq]; omega))
  have g1:(h1.push (seqObj "list" vs.toArray 0)).get? h1.objs.size=some (seqObj "list" vs.toArray 0):=Heap.get?_push_size _ rfl
  refine wpAny_bind (wpAny_holding (wpAny_call_entry slot_list_sort ⟨_,g1,rfl⟩ entry_list_sort (list_sort_tree (s:={ s with heap:=h1.push (seqObj "list" vs.toArray 0),drawn:=d,toks:=tk }) g1 i1 (by omega) fun out ms a1 a2 a3=>⟨_,rfl,?_⟩) (args_list_sort _)))
  obtain ⟨e,he⟩:=sortedHeap_at (out:=out) g1
  refine wpAny_pure ⟨_,rfl,h _ d tk _ out ms e a1 (a2.trans i2) a3 hsz he fun b o q=>?_⟩
  have hb:=Heap.lt_size (kp b o q)
  rw [sortedHeap_old (Nat.ne_of_lt hb) (by rw [Heap.size_push]; exact Nat.lt_succ_of_lt hb)]
  exact Heap.get?_push_of_some _ (kp b o q)
end
noncomputable def stAt (prog:Program) (w:World) (p:Addr) (ns:List Int) (h:Heap):Prop:=∃ ks,SetT prog w (ledBy w) ks h p∧∀ j,j∈ks ↔ j∈ns
theorem SetT.nodup {prog:Program} {w:World} {L:Bool} {ks:List Int} {h:Heap} {a:Addr} (x:SetT prog w L ks h a):ks.Nodup:=by
  obtain ⟨o,ho,es,ep,t,hx,hd,hel,hint,hks,hnd,_⟩:=x
  exact hnd
theorem Inv.drew {X:Cx} {pins:List (Addr×Obj)} {σ:St} {H:Hp} {s:Shared} (I:Inv X pins σ H s) (d:Drawn):Inv X pins σ H { s with drawn:=d } :=
  ⟨I.ok,I.os,I.bare,I.base,I.loc,I.cell,I.free,I.freeC,I.pin,I.hok,I.len⟩
section
variable {X:Cx}
noncomputable def rSet (P:Program) (w:World):List V→Hp→VK→Prop:=fun xs H Q=>∃ l ns,xs=[.ref l]∧H l=some (.lst (ns.map V.int))∧ns.length < 4000∧∀ p,H p=none→Q (.ref p) (upd H p (.ext (stAt P w p ns)))
theorem call_setI (hc:X.calm=true):CallR X (.type "set") (rSet X.prog X.w):=by
  intro pins s σ H xs us Q I r h
  obtain ⟨l,ns,rfl,hl,hb,q⟩:=h
  obtain ⟨u,rfl,ru⟩:=vals1 r
  cases ru
  obtain ⟨z,its,n,rv,h1⟩:=I.hok _ _ hl
  have hlen:its.length=ns.length:=by
    have:=rv.length
    rw [List.length_map] at this
    exact this.symm
  refine set_call (items:=its.toArray) (ns:=ns) (I.ok.hd hc) ⟨_,h1,rfl,n,rfl⟩ (by simpa using ints_of_vals ns its rv) (by rw [List.size_toArray,hlen]; unfold scanBound; omega) fun h' tk ks sT _ hm kp=>?_
  refine ⟨.ref s.heap.objs.size,_,I.laid (a:=s.heap.objs.size) (o:=.ext (stAt X.prog X.w s.heap.objs.size ns)) (h':=h') (t':=tk) kp (Nat.le_refl _) ⟨⟨ks,sT,hm⟩,?_,fun a b z k=>?_⟩,rfl,q _ (I.hok.fresh (Nat.le_refl _))⟩
  · obtain ⟨o,ho,_⟩:=sT
    exact ⟨o,ho⟩
  · obtain ⟨ks,z1,z2⟩:=z
    exact ⟨ks,z1.stay k,z2⟩
noncomputable def rSrt (P:Program) (w:World):List V→Hp→VK→Prop:=fun xs H Q=>∃ p ns,xs=[.ref p]∧H p=some (.ext (stAt P w p ns))∧(∀ ks:List Int,ks.Nodup→(∀ j,j∈ks ↔ j∈ns)→ks.length < 64) ∧
    ∀ (ms:List Int) q,ms.Nodup→ms.Pairwise (·≤·)→(∀ j,j∈ms ↔ j∈ns)→H q=none→Q (.ref q) (upd H q (.lst (ms.map V.int)))
theorem call_sortS (hc:X.calm=true):CallR X (.builtin "sorted") (rSrt X.prog X.w):=by
  intro pins s σ H xs us Q I r h
  obtain ⟨p,ns,rfl,hp,h64,q⟩:=h
  obtain ⟨u,rfl,ru⟩:=vals1 r
  cases ru
  obtain ⟨ks,sT,hm⟩:stAt X.prog X.w p ns s.heap:=(I.hok p _ hp).1
  refine sorted_set (I.ok.hd hc) sT (h64 ks sT.nodup hm) fun h' d tk a out ms e a1 a2 a3 ha he kp=>?_
  have hml:ms.length < 64:=by rw [a2.length_eq]; exact h64 ks sT.nodup hm
  refine ⟨.ref a,_,(I.drew d).laid (s:={ s with drawn:=d }) (a:=a) (o:=.lst (ms.map V.int)) (h':=h') (t':=tk) kp ha ⟨?_,out.toList,e,vals_of_ints a1,by simpa using he⟩,rfl,q ms a (a2.nodup_iff.mpr sT.nodup) a3 (fun j=>a2.mem_iff.trans (hm j)) (I.hok.fresh ha)⟩
  rw [List.length_map,sizeLine_eq]
  omega
end
noncomputable def uniq:List Int→List Int
  | []=>[]
  | x::l=>if x∈l then uniq l else x::uniq l
theorem uniq_mem:∀ (l:List Int) (j:Int),j∈uniq l ↔ j∈l
  | [],j=>Iff.rfl
  | x::l,j=>by
    have ih:=uniq_mem l j
    rw [uniq]
    by_cases h:x∈l
    · rw [if_pos h,ih]
      constructor
      · exact fun z=>List.mem_cons_of_mem _ z
      · intro z
        rcases List.mem_cons.mp z with rfl | z
        · exact h
        · exact z
    · rw [if_neg h,List.mem_cons,List.mem_cons,ih]
theorem uniq_nodup:∀ l:List Int,(uniq l).Nodup
  | []=>List.nodup_nil
  | x::l=>by
    rw [uniq]
    by_cases h:x∈l
    · rw [if_pos h]; exact uniq_nodup l
    · rw [if_neg h]; exact List.nodup_cons.mpr ⟨fun z=>h ((uniq_mem l x).mp z),uniq_nodup l⟩
theorem perm_of_mem:∀ {a b:List Int},a.Nodup→b.Nodup→(∀ j,j∈a ↔ j∈b)→a.Perm b:=fun ha hb h=>(List.perm_ext_iff_of_nodup ha hb).mpr h
noncomputable def setS (ns:List Int):List Int:=sortI (uniq ns)
noncomputable def srtSD:List PyData→Option (List PyData)
  | [.list xs]=>(ints? xs).bind fun ns=>if decide (ns.length < 4000∧(uniq ns).length < 64)=true then some ((setS ns).map PyData.int) else none
  | _=>none
variable {PK:Pk} {X:Cx} {is:List Sl→Tr (List PyData)} {e:Expr}
theorem ao_srtS (h:PE X e (tCB (rSrt X.prog X.w) (tCons (tCB (rSet X.prog X.w) (TAd PK is)) tNil))):PE X e (TAo PK (aCBo srtSD is)):=h.imp fun σ H Q hz0=>by
  obtain ⟨pa,G₀,H₀,m,ρ,G,R,z⟩:=hz0
  refine TAd.then R z fun m1 xs vs G1 H1 s1 w1 R1 d1 q1=>?_
  obtain ⟨d,hd,k⟩:=Tr.ok_of q1
  unfold srtSD at hd
  split at hd
  · rename_i xs
    cases ei:ints? xs with
    | none=>rw [ei] at hd; cases hd
    | some ns =>
      rw [ei] at hd
      have hd':(if decide (ns.length < 4000∧(uniq ns).length < 64)=true then some ((setS ns).map PyData.int) else none)=some d:=hd
      split at hd'
      · rename_i hc
        obtain ⟨c1,c2⟩:=of_decide_eq_true hc
        cases hd'
        cases d1 with
        | cons h1 h2 =>
          cases h2
          cases h1 with
          | lst a1 a2 =>
            obtain ⟨rfl,rfl⟩:=a2.ints_inv ei
            refine ⟨_,ns,rfl,w1.sub _ _ a1,c1,fun p hp=>?_⟩
            obtain ⟨w2,s2⟩:=w1.own (o:=.ext (stAt X.prog X.w p ns)) hp
            refine ⟨p,ns,rfl,upd_same,fun ks hn hm=>?_,fun ms q hn hs hm hq=>?_⟩
            · rw [(perm_of_mem hn (uniq_nodup ns) fun j=>(hm j).trans (uniq_mem ns j).symm).length_eq]
              exact c2
            · have:ms=setS ns:=sort_one ((perm_of_mem hn (uniq_nodup ns) fun j=>(hm j).trans (uniq_mem ns j).symm).trans (sortI_perm _).symm) hs (sortI_le _)
              subst this
              exact (Ko1.later k (s1.trans s2 w1.some) w2.some).new w2 (DnAll.ints _) hq
      · cases hd'
  · cases hd
theorem setS_mem (ns:List Int) (j:Int):j∈setS ns ↔ j∈ns:=((sortI_perm _).mem_iff).trans (uniq_mem ns j)
theorem setS_len (ns:List Int):(setS ns).length=(uniq ns).length:=(sortI_perm _).length_eq
end L2
set_option Elab.async false
set_option linter.all false
set_option maxRecDepth 100000
namespace L2
open PySem PySem.Spec PyProof.Rows
structure Pen4 (K:PySem.W.Frag) (H:Hp) (p c:Addr) (ns:List Int) (m:Nat):Prop where
  ex:∃ (k:Nat) (left:Int),H p=some (.dK (penK c k left))∧k≤m∧0≤left
  cells:SqL K H c (ns.map V.int)
  len:ns.length≤63
noncomputable def spDraw4 (K:PySem.W.Frag):Sp:=fun vs H Q _=>∃ (p c:Addr) (ns:List Int) (m:Nat) (most:Int),vs=[.ref p,.int most]∧Pen4 K H p c ns m∧m≤500000∧0 < most∧most < 1073741824 ∧
  ∀ (r:Int) (H':Hp),0≤r→r < most→Pen4 K H' p c ns (m+1)→Kept p H H'→Q (.int r) H'
noncomputable def spPen4 (K:PySem.W.Frag):Sp:=fun vs H Q _=>∃ (a:Addr) (ns:List Int),vs=[.ref a]∧SqL K H a (ns.map V.int)∧ns.length≤63 ∧
  ∀ (p:Addr) (H':Hp),H p=none→Pen4 K H' p a ns 0→Same H H'→Q (.ref p) H'
noncomputable def PK2 (cn:PySem.W.Frag×Addr×List Int):Pk where
  is:=fun o G m=>∃ (k:Nat) (left:Int),o=.dK (penK cn.2.1 k left)∧k≤m∧0≤left∧SqL cn.1 G cn.2.1 (cn.2.2.map V.int)∧cn.2.2.length≤63
  mono:=fun s ⟨k,left,e,h1,h2,h3,h4⟩=>⟨k,left,e,h1,h2,Same.seq (fun b o h=>s b o h) h3,h4⟩
theorem pkLow {cn:PySem.W.Frag×Addr×List Int}:PkLow (PK2 cn):=⟨fun ⟨_,_,_,_,_,h3,_⟩ _ ⟨k,left,e,h1,h2,_,h4⟩=>⟨k,left,e,h1,h2,h3,h4⟩⟩
theorem pss_ex {ι:Type} {X:Cx} {e:List Stmt} {t:ι→TS} (h:∀ i,PSs X e (t i)):PSs X e (fun D σ H=>∃ i,t i D σ H):=fun pins s σ H D I z=>by
  obtain ⟨i,z⟩:=z
  exact h i pins s σ H D I z
noncomputable def m_draw:List Sl→Tr Re:=fun as=>match as with
  | [.pen,.d (.int most)]=>.draw most fun r=>.ret (.d (.int r))
  | _=>.fail
theorem draw_len {as:List Sl} {m:Nat} {Z:Nat→Re→Prop} (h:(m_draw as).ok m Z):∃ most,as=[.pen,.d (.int most)]:=by
  unfold m_draw at h
  split at h
  · exact ⟨_,rfl⟩
  · exact h.elim
theorem draw1 {P:Program} {w:World} {K:PySem.W.Frag} {c:Addr×List Int} {mg:Str→Option Value} {base:Heap} {x:Str} {k:Nat} {ps:List Str} (hp:ps.length=2) (C:Callee P w K mg base x k ps (spDraw4 K)):ACal (PK2 (K,c)) P w K mg base x k ps m_draw:=by
  refine ⟨?_,fun as m Z h=>by obtain ⟨most,rfl⟩:=draw_len h; exact hp.symm⟩
  obtain ⟨f,fd,F,hm,hk,hb⟩:=C.ex
  refine ⟨f,fd,F.imp fun vs H Q E h=>?_,hm,hk,hb⟩
  obtain ⟨hv,pa,m,G,as,wd,ar,z⟩:=h
  obtain ⟨most,rfl⟩:=draw_len z
  obtain ⟨h1,h2,h3,h4⟩:=z
  cases ar with
  | cons a1 ar =>
    cases ar with
    | cons a2 ar =>
      cases ar
      cases a1
      cases a2 with
      | d d2 =>
        cases d2
        obtain ⟨c,ns⟩:=c
        obtain ⟨o,ho,kk,left,rfl,q1,q2,q3,q4⟩:=wd.pen
        replace q3:SqL K G c (ns.map V.int):=q3
        refine ⟨pa,c,ns,m,most,rfl,⟨⟨kk,left,ho,q1,q2⟩,Same.seq (fun b o h=>wd.sub b o h) q3,q4⟩,by omega,h2,h3,fun r H' r0 r1 P' K'=>?_⟩
        refine h4 r r0 r1 (.int r) G H' ⟨fun _ _ q=>q,fun _ _ q=>.inl q,fun b o e n=>K' b o e n⟩ ⟨fun b o e=>K' b o (wd.sub b o e) (fun z=>by subst z; rw [wd.gpa] at e; cases e),wd.gpa,?_⟩ (.int r)
        obtain ⟨⟨k2,l2,e2,g1,g2⟩,_,_⟩:=P'
        exact ⟨_,e2,k2,l2,rfl,g1,g2,q3,q4⟩
noncomputable def spLaw:PySem.W.Frag→Sp:=fun K vs H Q _=>∃ (a:Addr) (ns:List Int),vs=[.ref a]∧SqL K H a (ns.map V.int)∧ns.length≤63∧∀ H',Q (.bl true) H'
theorem law_start {K:PySem.W.Frag} {D:Ends} {p c:Addr} {ns:List Int} {H:Hp} {σ:St} {s:List Sl→Tr Ou} {n:Nat} (P:Pen4 K H p c ns 0) (hσ:σ.length=n+2) (h1:σ[1]?=some (some (.ref p))) (hrt:∀ H',D.rt (.bl true) H')
    (h:(s (.un::.pen::List.replicate n .un)).ok 0 fun _ o=>o=.ret (.d (.bool true))):∃ cn:Addr×List Int,TAs (PK2 (K,cn)) s D σ H:=by
  obtain ⟨⟨k,l,e,hk,hl⟩,hc,hn⟩:=P
  obtain ⟨G,gs,gp,gc⟩:∃ G:Hp,(∀ b o,G b=some o→H b=some o)∧G p=none∧SqL K G c (ns.map V.int):=by
    rcases hc with (hc | ⟨o,hc⟩) | hc
    · refine ⟨fun b=>if b=c then H c else none,fun b o hb=>?_,?_,.inl (.inl (by simp [hc]))⟩
      · by_cases hbc:b=c
        · subst hbc; simpa using hb
        · simp [hbc] at hb
      · have:p≠c:=ne_of e hc (by intro z; cases z)
        exact if_neg this
    · refine ⟨fun b=>if b=c then H c else none,fun b o hb=>?_,?_,.inl (.inr ⟨o,by simp [hc]⟩)⟩
      · by_cases hbc:b=c
        · subst hbc; simpa using hb
        · simp [hbc] at hb
      · have:p≠c:=ne_of e hc (by intro z; cases z)
        exact if_neg this
    · exact ⟨fun _=>none,fun b o hb=>(by cases hb),rfl,.inr hc⟩
  have key:∀ (i:Nat) (sl:Sl),(Sl.un::.pen::List.replicate n .un)[i]?=some sl→sl=.un∨(i=1∧sl=.pen):=fun i sl hi=>by
    match i with
    | 0=>simp at hi; exact .inl hi.symm
    | 1=>simp at hi; exact .inr ⟨rfl,hi.symm⟩
    | i+2 =>
      simp [List.getElem?_replicate] at hi
      exact .inl hi.2.symm
  refine ⟨(c,ns),p,G,H,0,_,G,⟨⟨gs,gp,?_⟩,.refl,⟨_,e⟩,fun i sl hi=>?_,by simp [hσ],fun i j xs ys _ hi _=>?_,fun i j xs ys _ hi _=>by rcases key i _ hi with z | ⟨_,z⟩ <;> cases z⟩,Tr.ok_mono h fun m o ho=>?_⟩
  · exact ⟨_,e,k,l,rfl,hk,hl,gc,hn⟩
  · have hlt:i < σ.length:=by
      have:=(List.getElem?_eq_some_iff.mp hi).1
      simp at this
      omega
    rcases key i sl hi with rfl | ⟨rfl,rfl⟩
    · exact ⟨σ[i],by simp [hlt],.un⟩
    · exact ⟨_,h1,.pen⟩
  · rcases key i _ hi with z | ⟨_,z⟩ <;> cases z
  · subst ho
    intro v G H' s' w' d
    cases (show Dn G v (.bool true) from d)
    exact hrt H'
end L2
set_option Elab.async false
set_option linter.all false
set_option maxRecDepth 100000
namespace My
open PySem PySem.Spec PyProof.Rows L2
noncomputable def top (i:Nat):Stmt:=PySem.Challenge.pw_twomarks_k33_whole_dearer_lacking_and_ke.main.body.getD i (.Pass ⟨0,0,0,0⟩)
noncomputable abbrev s_stocks:Stmt:=top 10
noncomputable abbrev N_stocks:List Str:=["shop"]
theorem sc_stocks:FnScope N_stocks ["shop"] (defScope s_stocks):=⟨rfl,rfl,rfl,by decide +kernel,rfl,by decide +kernel,by decide +kernel⟩
noncomputable abbrev s_greatest_seen:Stmt:=top 11
noncomputable abbrev N_greatest_seen:List Str:=["day"]
theorem sc_greatest_seen:FnScope N_greatest_seen ["day"] (defScope s_greatest_seen):=⟨rfl,rfl,rfl,by decide +kernel,rfl,by decide +kernel,by decide +kernel⟩
noncomputable abbrev s_next_stock:Stmt:=top 12
noncomputable abbrev N_next_stock:List Str:=["shop","level","fall"]
theorem sc_next_stock:FnScope N_next_stock ["shop","level","fall"] (defScope s_next_stock):=⟨rfl,rfl,rfl,by decide +kernel,rfl,by decide +kernel,by decide +kernel⟩
noncomputable abbrev s_day_cost:Stmt:=top 13
noncomputable abbrev N_day_cost:List Str:=["shop","level","fall","stock","sold_never","held"]
theorem sc_day_cost:FnScope N_day_cost ["shop","level","fall"] (defScope s_day_cost):=⟨rfl,rfl,rfl,by decide +kernel,rfl,by decide +kernel,by decide +kernel⟩
noncomputable abbrev s_end_cost:Stmt:=top 14
noncomputable abbrev N_end_cost:List Str:=["shop","stock"]
theorem sc_end_cost:FnScope N_end_cost ["shop","stock"] (defScope s_end_cost):=⟨rfl,rfl,rfl,by decide +kernel,rfl,by decide +kernel,by decide +kernel⟩
noncomputable abbrev s_end_costs:Stmt:=top 16
noncomputable abbrev N_end_costs:List Str:=["shop"]
theorem sc_end_costs:FnScope N_end_costs ["shop"] (defScope s_end_costs):=⟨rfl,rfl,rfl,by decide +kernel,rfl,by decide +kernel,by decide +kernel⟩
noncomputable abbrev s_weighed:Stmt:=top 17
noncomputable abbrev N_weighed:List Str:=["shop","day","level","ahead","scale","total","fall","weight","following"]
theorem sc_weighed:FnScope N_weighed ["shop","day","level","ahead","scale"] (defScope s_weighed):=⟨rfl,rfl,rfl,by decide +kernel,rfl,by decide +kernel,by decide +kernel⟩
noncomputable abbrev s_level_sums:Stmt:=top 19
noncomputable abbrev N_level_sums:List Str:=["shop","day","ahead","scale","own_scale"]
theorem sc_level_sums:FnScope N_level_sums ["shop","day","ahead","scale"] (defScope s_level_sums):=⟨rfl,rfl,rfl,by decide +kernel,rfl,by decide +kernel,by decide +kernel⟩
noncomputable abbrev s_cheapest_from:Stmt:=top 20
noncomputable abbrev N_cheapest_from:List Str:=["shop","low","by_level","scale","picks","best","stock","own","cost","level"]
theorem sc_cheapest_from:FnScope N_cheapest_from ["shop","low","by_level","scale"] (defScope s_cheapest_from):=⟨rfl,rfl,rfl,by decide +kernel,rfl,by decide +kernel,by decide +kernel⟩
noncomputable abbrev s_cheapest:Stmt:=top 21
noncomputable abbrev N_cheapest:List Str:=["shop","by_level","scale"]
theorem sc_cheapest:FnScope N_cheapest ["shop","by_level","scale"] (defScope s_cheapest):=⟨rfl,rfl,rfl,by decide +kernel,rfl,by decide +kernel,by decide +kernel⟩
noncomputable abbrev s_day_sums:Stmt:=top 22
noncomputable abbrev N_day_sums:List Str:=["shop","falls","t","ahead","scale","day","by_level"]
theorem sc_day_sums:FnScope N_day_sums ["shop","falls","t"] (defScope s_day_sums):=⟨rfl,rfl,rfl,by decide +kernel,rfl,by decide +kernel,by decide +kernel⟩
noncomputable abbrev s_is_cheapest:Stmt:=top 24
noncomputable abbrev N_is_cheapest:List Str:=["shop","by_level","scale","stock","level","at","cost"]
theorem sc_is_cheapest:FnScope N_is_cheapest ["shop","by_level","scale","stock","level"] (defScope s_is_cheapest):=⟨rfl,rfl,rfl,by decide +kernel,rfl,by decide +kernel,by decide +kernel⟩
noncomputable abbrev s_marks_by:Stmt:=top 25
noncomputable abbrev N_marks_by:List Str:=["shop","by_level","scale","least","picks","lesser","greater","stock"]
theorem sc_marks_by:FnScope N_marks_by ["shop","by_level","scale","least"] (defScope s_marks_by):=⟨rfl,rfl,rfl,by decide +kernel,rfl,by decide +kernel,by decide +kernel⟩
noncomputable abbrev s_marks:Stmt:=top 26
noncomputable abbrev N_marks:List Str:=["shop","falls","t","least","by_level","scale"]
theorem sc_marks:FnScope N_marks ["shop","falls","t","least"] (defScope s_marks):=⟨rfl,rfl,rfl,by decide +kernel,rfl,by decide +kernel,by decide +kernel⟩
noncomputable abbrev s_free_from:Stmt:=top 28
noncomputable abbrev N_free_from:List Str:=["shop","falls","t"]
theorem sc_free_from:FnScope N_free_from ["shop","falls","t"] (defScope s_free_from):=⟨rfl,rfl,rfl,by decide +kernel,rfl,by decide +kernel,by decide +kernel⟩
noncomputable abbrev s__law_pen:Stmt:=top 30
noncomputable abbrev N__law_pen:List Str:=["_law_script"]
theorem sc__law_pen:FnScope N__law_pen ["_law_script"] (defScope s__law_pen):=⟨rfl,rfl,rfl,by decide +kernel,rfl,by decide +kernel,by decide +kernel⟩
noncomputable abbrev s__law_draw:Stmt:=top 31
noncomputable abbrev N__law_draw:List Str:=["_law_pen_here","_law_many","_law_digit","_law_script","_law_at","_law_cell","_law_primes","_law_number"]
theorem sc__law_draw:FnScope N__law_draw ["_law_pen_here","_law_many"] (defScope s__law_draw):=⟨rfl,rfl,rfl,by decide +kernel,rfl,by decide +kernel,by decide +kernel⟩
noncomputable abbrev s__law_prices:Stmt:=top 32
noncomputable abbrev N__law_prices:List Str:=["_law_pen_here","_law_way","_law_found","_law_k","_law_some"]
theorem sc__law_prices:FnScope N__law_prices ["_law_pen_here"] (defScope s__law_prices):=⟨rfl,rfl,rfl,by decide +kernel,rfl,by decide +kernel,by decide +kernel⟩
noncomputable abbrev s__law_falls:Stmt:=top 33
noncomputable abbrev N__law_falls:List Str:=["_law_pen_here","_law_days","_law_most","_law_found","_law_t","_law_way","_law_one","_law_k"]
theorem sc__law_falls:FnScope N__law_falls ["_law_pen_here","_law_days","_law_most"] (defScope s__law_falls):=⟨rfl,rfl,rfl,by decide +kernel,rfl,by decide +kernel,by decide +kernel⟩
noncomputable abbrev s__law_reach:Stmt:=top 34
noncomputable abbrev N__law_reach:List Str:=["_law_falls_here"]
theorem sc__law_reach:FnScope N__law_reach ["_law_falls_here"] (defScope s__law_reach):=⟨rfl,rfl,rfl,by decide +kernel,rfl,by decide +kernel,by decide +kernel⟩
noncomputable abbrev s__law_shop:Stmt:=top 35
noncomputable abbrev N__law_shop:List Str:=["_law_pen_here","_law_is_free","_law_days","_law_falls_here","_law_room","_law_top","_law_depth"]
theorem sc__law_shop:FnScope N__law_shop ["_law_pen_here","_law_is_free"] (defScope s__law_shop):=⟨rfl,rfl,rfl,by decide +kernel,rfl,by decide +kernel,by decide +kernel⟩
noncomputable abbrev s__law_dearer:Stmt:=top 36
noncomputable abbrev N__law_dearer:List Str:=["_law_pen_here","_law_shop_here","_law_at","_law_more"]
theorem sc__law_dearer:FnScope N__law_dearer ["_law_pen_here","_law_shop_here","_law_at"] (defScope s__law_dearer):=⟨rfl,rfl,rfl,by decide +kernel,rfl,by decide +kernel,by decide +kernel⟩
noncomputable abbrev s__law_rises:Stmt:=top 37
noncomputable abbrev N__law_rises:List Str:=["_law_one","_law_other","_law_falls_here","_law_t","_law_begin","_law_here","_law_there"]
theorem sc__law_rises:FnScope N__law_rises ["_law_one","_law_other","_law_falls_here","_law_t","_law_begin"] (defScope s__law_rises):=⟨rfl,rfl,rfl,by decide +kernel,rfl,by decide +kernel,by decide +kernel⟩
noncomputable abbrev s__law_day_right:Stmt:=top 38
noncomputable abbrev N__law_day_right:List Str:=["_law_pen_here","_law_shop_here","_law_falls_here","_law_t","_law_begin","_law_dear","_law_kept","_law_both"]
theorem sc__law_day_right:FnScope N__law_day_right ["_law_pen_here","_law_shop_here","_law_falls_here","_law_t"] (defScope s__law_day_right):=⟨rfl,rfl,rfl,by decide +kernel,rfl,by decide +kernel,by decide +kernel⟩
noncomputable abbrev s_law:Stmt:=top 39
noncomputable abbrev N_law:List Str:=["_law_script","_law_pen_here","_law_shop_here","_law_falls_here","_law_plain","_law_t"]
theorem sc_law:FnScope N_law ["_law_script"] (defScope s_law):=⟨rfl,rfl,rfl,by decide +kernel,rfl,by decide +kernel,by decide +kernel⟩
structure Txt (K:PySem.W.Frag) (mg:Str→Option Value):Prop where
  n_len:mg "len"=none
  n_abs:mg "abs"=none
  n_max:mg "max"=none
  n_min:mg "min"=none
  n_tuple:mg "tuple"=none
  n_range:mg "range"=none
  n_sorted:mg "sorted"=none
  n_sum:mg "sum"=none
  n_enumerate:mg "enumerate"=none
  n_reversed:mg "reversed"=none
  n_set:mg "set"=none
  g_TOP:∃ t,mg "TOP"=some (.int 0 t)
  g_DEPTH:∃ t,mg "DEPTH"=some (.int 1 t)
  g_START:∃ t,mg "START"=some (.int 2 t)
  g_PIECE:∃ t,mg "PIECE"=some (.int 3 t)
  g_KEEP:∃ t,mg "KEEP"=some (.int 4 t)
  g_LACK:∃ t,mg "LACK"=some (.int 5 t)
  g_LOST:∃ t,mg "LOST"=some (.int 6 t)
  g_BACK:∃ t,mg "BACK"=some (.int 7 t)
  g_LATE:∃ t,mg "LATE"=some (.int 8 t)
  d_stocks:Def K mg "stocks" s_stocks ["shop"]
  d_greatest_seen:Def K mg "greatest_seen" s_greatest_seen ["day"]
  d_next_stock:Def K mg "next_stock" s_next_stock ["shop","level","fall"]
  d_day_cost:Def K mg "day_cost" s_day_cost ["shop","level","fall"]
  d_end_cost:Def K mg "end_cost" s_end_cost ["shop","stock"]
  d_end_costs:Def K mg "end_costs" s_end_costs ["shop"]
  d_weighed:Def K mg "weighed" s_weighed ["shop","day","level","ahead","scale"]
  d_level_sums:Def K mg "level_sums" s_level_sums ["shop","day","ahead","scale"]
  d_cheapest_from:Def K mg "cheapest_from" s_cheapest_from ["shop","low","by_level","scale"]
  d_cheapest:Def K mg "cheapest" s_cheapest ["shop","by_level","scale"]
  d_day_sums:Def K mg "day_sums" s_day_sums ["shop","falls","t"]
  d_is_cheapest:Def K mg "is_cheapest" s_is_cheapest ["shop","by_level","scale","stock","level"]
  d_marks_by:Def K mg "marks_by" s_marks_by ["shop","by_level","scale","least"]
  d_marks:Def K mg "marks" s_marks ["shop","falls","t","least"]
  d_free_from:Def K mg "free_from" s_free_from ["shop","falls","t"]
  d__law_pen:Def K mg "_law_pen" s__law_pen ["_law_script"]
  d__law_draw:Def K mg "_law_draw" s__law_draw ["_law_pen_here","_law_many"]
  d__law_prices:Def K mg "_law_prices" s__law_prices ["_law_pen_here"]
  d__law_falls:Def K mg "_law_falls" s__law_falls ["_law_pen_here","_law_days","_law_most"]
  d__law_reach:Def K mg "_law_reach" s__law_reach ["_law_falls_here"]
  d__law_shop:Def K mg "_law_shop" s__law_shop ["_law_pen_here","_law_is_free"]
  d__law_dearer:Def K mg "_law_dearer" s__law_dearer ["_law_pen_here","_law_shop_here","_law_at"]
  d__law_rises:Def K mg "_law_rises" s__law_rises ["_law_one","_law_other","_law_falls_here","_law_t","_law_begin"]
  d__law_day_right:Def K mg "_law_day_right" s__law_day_right ["_law_pen_here","_law_shop_here","_law_falls_here","_law_t"]
  d_law:Def K mg "law" s_law ["_law_script"]
set_option maxHeartbeats 4000000 in
theorem txt_mk {K:PySem.W.Frag} {mg:Str→Option Value} {h:Heap} (X:K.In h) (G:h.Ns mainGlobals mg)
    (z_len:PySem.W.nsIn K mainGlobals "len"=some none)
    (z_abs:PySem.W.nsIn K mainGlobals "abs"=some none)
    (z_max:PySem.W.nsIn K mainGlobals "max"=some none)
    (z_min:PySem.W.nsIn K mainGlobals "min"=some none)
    (z_tuple:PySem.W.nsIn K mainGlobals "tuple"=some none)
    (z_range:PySem.W.nsIn K mainGlobals "range"=some none)
    (z_sorted:PySem.W.nsIn K mainGlobals "sorted"=some none)
    (z_sum:PySem.W.nsIn K mainGlobals "sum"=some none)
    (z_enumerate:PySem.W.nsIn K mainGlobals "enumerate"=some none)
    (z_reversed:PySem.W.nsIn K mainGlobals "reversed"=some none)
    (z_set:PySem.W.nsIn K mainGlobals "set"=some none)
    {t_TOP:Tok} (z_TOP:PySem.W.nsIn K mainGlobals "TOP"=some (some (.int 0 t_TOP)))
    {t_DEPTH:Tok} (z_DEPTH:PySem.W.nsIn K mainGlobals "DEPTH"=some (some (.int 1 t_DEPTH)))
    {t_START:Tok} (z_START:PySem.W.nsIn K mainGlobals "START"=some (some (.int 2 t_START)))
    {t_PIECE:Tok} (z_PIECE:PySem.W.nsIn K mainGlobals "PIECE"=some (some (.int 3 t_PIECE)))
    {t_KEEP:Tok} (z_KEEP:PySem.W.nsIn K mainGlobals "KEEP"=some (some (.int 4 t_KEEP)))
    {t_LACK:Tok} (z_LACK:PySem.W.nsIn K mainGlobals "LACK"=some (some (.int 5 t_LACK)))
    {t_LOST:Tok} (z_LOST:PySem.W.nsIn K mainGlobals "LOST"=some (some (.int 6 t_LOST)))
    {t_BACK:Tok} (z_BACK:PySem.W.nsIn K mainGlobals "BACK"=some (some (.int 7 t_BACK)))
    {t_LATE:Tok} (z_LATE:PySem.W.nsIn K mainGlobals "LATE"=some (some (.int 8 t_LATE)))
    (z_stocks:Def K mg "stocks" s_stocks ["shop"])
    (z_greatest_seen:Def K mg "greatest_seen" s_greatest_seen ["day"])
    (z_next_stock:Def K mg "next_stock" s_next_stock ["shop","level","fall"])
    (z_day_cost:Def K mg "day_cost" s_day_cost ["shop","level","fall"])
    (z_end_cost:Def K mg "end_cost" s_end_cost ["shop","stock"])
    (z_end_costs:Def K mg "end_costs" s_end_costs ["shop"])
    (z_weighed:Def K mg "weighed" s_weighed ["shop","day","level","ahead","scale"])
    (z_level_sums:Def K mg "level_sums" s_level_sums ["shop","day","ahead","scale"])
    (z_cheapest_from:Def K mg "cheapest_from" s_cheapest_from ["shop","low","by_level","scale"])
    (z_cheapest:Def K mg "cheapest" s_cheapest ["shop","by_level","scale"])
    (z_day_sums:Def K mg "day_sums" s_day_sums ["shop","falls","t"])
    (z_is_cheapest:Def K mg "is_cheapest" s_is_cheapest ["shop","by_level","scale","stock","level"])
    (z_marks_by:Def K mg "marks_by" s_marks_by ["shop","by_level","scale","least"])
    (z_marks:Def K mg "marks" s_marks ["shop","falls","t","least"])
    (z_free_from:Def K mg "free_from" s_free_from ["shop","falls","t"])
    (z__law_pen:Def K mg "_law_pen" s__law_pen ["_law_script"])
    (z__law_draw:Def K mg "_law_draw" s__law_draw ["_law_pen_here","_law_many"])
    (z__law_prices:Def K mg "_law_prices" s__law_prices ["_law_pen_here"])
    (z__law_falls:Def K mg "_law_falls" s__law_falls ["_law_pen_here","_law_days","_law_most"])
    (z__law_reach:Def K mg "_law_reach" s__law_reach ["_law_falls_here"])
    (z__law_shop:Def K mg "_law_shop" s__law_shop ["_law_pen_here","_law_is_free"])
    (z__law_dearer:Def K mg "_law_dearer" s__law_dearer ["_law_pen_here","_law_shop_here","_law_at"])
    (z__law_rises:Def K mg "_law_rises" s__law_rises ["_law_one","_law_other","_law_falls_here","_law_t","_law_begin"])
    (z__law_day_right:Def K mg "_law_day_right" s__law_day_right ["_law_pen_here","_law_shop_here","_law_falls_here","_law_t"])
    (z_law:Def K mg "law" s_law ["_law_script"])
    : Txt K mg:=⟨PySem.W.mg_none_of X G z_len,PySem.W.mg_none_of X G z_abs,PySem.W.mg_none_of X G z_max,PySem.W.mg_none_of X G z_min,PySem.W.mg_none_of X G z_tuple,PySem.W.mg_none_of X G z_range,PySem.W.mg_none_of X G z_sorted,PySem.W.mg_none_of X G z_sum,PySem.W.mg_none_of X G z_enumerate,PySem.W.mg_none_of X G z_reversed,PySem.W.mg_none_of X G z_set,⟨_,PySem.W.mg_of X G z_TOP⟩,⟨_,PySem.W.mg_of X G z_DEPTH⟩,⟨_,PySem.W.mg_of X G z_START⟩,⟨_,PySem.W.mg_of X G z_PIECE⟩,⟨_,PySem.W.mg_of X G z_KEEP⟩,⟨_,PySem.W.mg_of X G z_LACK⟩,⟨_,PySem.W.mg_of X G z_LOST⟩,⟨_,PySem.W.mg_of X G z_BACK⟩,⟨_,PySem.W.mg_of X G z_LATE⟩,z_stocks,z_greatest_seen,z_next_stock,z_day_cost,z_end_cost,z_end_costs,z_weighed,z_level_sums,z_cheapest_from,z_cheapest,z_day_sums,z_is_cheapest,z_marks_by,z_marks,z_free_from,z__law_pen,z__law_draw,z__law_prices,z__law_falls,z__law_reach,z__law_shop,z__law_dearer,z__law_rises,z__law_day_right,z_law⟩

theorem cell_at (ns:List Int) (a:Nat) (h:ns≠[]):∃ z:Int,atI (ns.map V.int) ((a:Int) % ((ns.map V.int).length:Nat))=some (.int z):=by
  have hl:0 < ns.length:=List.length_pos_iff.mpr h
  have hl':(ns.map V.int).length=ns.length:=List.length_map ..
  have e:(a:Int) % ((ns.map V.int).length:Nat)=((a % ns.length:Nat):Int):=by rw [hl']; omega
  have hlt:a % ns.length < ns.length:=Nat.mod_lt _ hl
  rw [e]
  exact ⟨ns[a % ns.length],atI_nat (by rw [List.getElem?_map,List.getElem?_eq_getElem hlt]; rfl)⟩
noncomputable def prs:List V:=[V.int 2147483629,V.int 2147483587,V.int 2147483579,V.int 2147483563,V.int 2147483549,V.int 2147483543,V.int 2147483497,V.int 2147483489]++[V.int 2147483477,V.int 2147483423,V.int 2147483399,V.int 2147483353]
theorem prime_at (a:Nat):∃ pr:Int,atI prs ((a:Int) % 12)=some (.int pr)∧2147483000 < pr∧pr≤2147483647:=by
  have e:(a:Int) % 12=((a % 12:Nat):Int):=by omega
  rw [e]
  have h:a % 12 < prs.length:=by show a % 12 < 12; exact Nat.mod_lt _ (by decide)
  generalize a % 12=b at h ⊢
  have hm:∀ x∈prs,∃ pr:Int,x=.int pr∧2147483000 < pr∧pr≤2147483647:=by
    intro x hx
    simp only [prs,List.cons_append,List.nil_append,List.mem_cons,List.not_mem_nil,or_false] at hx
    rcases hx with rfl | rfl | rfl | rfl | rfl | rfl | rfl | rfl | rfl | rfl | rfl | rfl <;> exact ⟨_,rfl,by decide,by decide⟩
  obtain ⟨pr,e1,e2⟩:=hm prs[b] (List.getElem_mem h)
  exact ⟨pr,by rw [atI_nat (List.getElem?_eq_getElem h),e1],e2⟩
theorem base1 {z a:Int} (h0:0≤a) (h1:a≤500000):(z % 2147483647+48271 * a+11).natAbs < 2 ^ 64:=by omega
theorem base2 {n a:Int} (n0:0≤n) (n1:n < 2147483647) (h0:0≤a) (h1:a≤500000):(n * (2 * a+40503)+a).natAbs < 2 ^ 64:=by
  have p0:0≤n * (2 * a+40503):=Int.mul_nonneg n0 (by omega)
  have p1:n * (2 * a+40503)≤2147483647 * 1040503:=Int.mul_le_mul (by omega) (by omega) (by omega) (by omega)
  omega
theorem sql_upd {K:PySem.W.Frag} {H:Hp} {p c:Addr} {xs:List V} {d:List (Key×V)} {o:HO} (hd:H p=some (.dK d)) (hc:SqL K H c xs):SqL K (upd H p o) c xs:=by
  rcases hc with (hc | ⟨u,hc⟩) | hc
  · exact .inl (.inl (by rw [upd_ne (ne_of hc hd (by intro z; cases z))]; exact hc))
  · exact .inl (.inr ⟨u,by rw [upd_ne (ne_of hc hd (by intro z; cases z))]; exact hc⟩)
  · exact .inr hc
section
variable {P:Program} {w:World} {K:PySem.W.Frag} {mg:Str→Option Value} {base:Heap}
set_option maxHeartbeats 1000000 in
theorem ok_pen (T:Txt K mg):Callee P w K mg base "_law_pen" 1 ["_law_script"] (spPen4 K):=by
  refine T.d__law_pen.ok sc__law_pen (fun vs H Q E h=>?_) (fun f cdv A outer s H vs Q E hr h=>?_)
  · obtain ⟨a,ns,rfl,_⟩:=h
    rfl
  · obtain ⟨a,ns,rfl,hS,hlen,k⟩:=h
    have hu:=hu_of hr
    refine ⟨_,(pss_one (ps_ret (pe_disp (pps_cons pe_str (pv 0) (pps_cons pe_str pe_int (pps_cons pe_str pe_int pps_nil))) rfl rfl (by simp) (by decide)))),?_⟩
    intro p hp
    refine ⟨_,rfl,upd_same,penK a 0 0,rfl,(by show 3≤15; decide),?_⟩
    have s0:Same H (upd (upd H p (.dK [])) p (.dK (penK a 0 0))):=fun b o e=>by
      rw [upd_ne (ne_of_none e hp),upd_ne (ne_of_none e hp)]
      exact e
    exact k p _ hp ⟨⟨0,0,by rw [upd_same]; rfl,Nat.le_refl _,Int.le_refl _⟩,s0.seq hS,hlen⟩ s0
set_option maxHeartbeats 2000000 in
theorem ok_draw (T:Txt K mg):Callee P w K mg base "_law_draw" 1 ["_law_pen_here","_law_many"] (spDraw4 K):=by
  refine T.d__law_draw.ok sc__law_draw (fun vs H Q E h=>?_) (fun f cdv A outer s H vs Q E hr h=>?_)
  · obtain ⟨p,c,ns,m,most,rfl,_⟩:=h
    rfl
  · obtain ⟨p,c,ns,m,most,rfl,hP,hm,h0,h1,k⟩:=h
    have hu:=hu_of hr
    refine ⟨_,(pss_cons (ps_if (pt_cmpR op_gt (pe_dget hu (pv 0) pe_str (fun _ _=>rfl)) pe_int (nomark _)) (pss_cons (ps_set (i:=2) sc__law_draw.nd rfl (Or.inl rfl) (pe_op op_mod (pe_dget hu (pv 0) pe_str (fun _ _=>rfl)) (pv 1)))
 (pss_cons (ps_dput hu (pv 0) pe_str (pe_op op_fdiv (pe_dget hu (pv 0) pe_str (fun _ _=>rfl)) (pv 1)) rfl)
 (pss_one (ps_ret (pv 2))))) pss_nil)
 (pss_cons (ps_set (i:=3) sc__law_draw.nd rfl (Or.inl rfl) (pe_dget hu (pv 0) pe_str (fun _ _=>rfl)))
 (pss_cons (ps_set (i:=4) sc__law_draw.nd rfl (Or.inl rfl) (pe_dget hu (pv 0) pe_str (fun _ _=>rfl)))
 (pss_cons (ps_dput hu (pv 0) pe_str (pe_op op_add (pv 4) pe_int) rfl)
 (pss_cons (ps_set (i:=5) sc__law_draw.nd rfl (Or.inl rfl) pe_int)
 (pss_cons (PS.join (ps_if (pt_cmpR op_gt (pe_callB (call_len_seq) rfl T.n_len boot_len (pa_cons (pv 3) pa_nil)) pe_int (nomark _)) (pss_one (ps_set (i:=5) sc__law_draw.nd rfl (Or.inl rfl) (pe_ix ix_list (pv 3) (pe_op op_mod (pv 4) (pe_callB (call_len_seq) rfl T.n_len boot_len (pa_cons (pv 3) pa_nil))) (fun _ _=>rfl)))) pss_nil))
 (pss_cons (ps_if (PT.join (PW.pt (pw_and (pt_cmpR op_lt (pv 4) (pe_callB (call_len_seq) rfl T.n_len boot_len (pa_cons (pv 3) pa_nil)) (nomark _)) (pw_and1 (pt_cmpR op_ge (pe_callB (call_abs) rfl T.n_abs boot_abs (pa_cons (pv 5) pa_nil)) (pe_op op_pow pe_int pe_int) (nomark _)))))) (pss_cons (ps_dput hu (pv 0) pe_str (pe_op op_fdiv (pe_callB (call_abs) rfl T.n_abs boot_abs (pa_cons (pv 5) pa_nil)) (pv 1)) rfl)
 (pss_one (ps_ret (pe_op op_mod (pe_callB (call_abs) rfl T.n_abs boot_abs (pa_cons (pv 5) pa_nil)) (pv 1))))) pss_nil)
 (pss_cons (ps_set (i:=6) sc__law_draw.nd rfl (Or.inl rfl) (pe_lst (pa_cons pe_int (pa_cons pe_int (pa_cons pe_int (pa_cons pe_int (pa_cons pe_int (pa_cons pe_int (pa_cons pe_int (pa_cons pe_int pa_nil))))))))))
 (pss_cons (ps_set (i:=6) sc__law_draw.nd rfl (Or.inl rfl) (pe_op op_cat (pv 6) (pe_lst (pa_cons pe_int (pa_cons pe_int (pa_cons pe_int (pa_cons pe_int pa_nil)))))))
 (pss_cons (ps_set (i:=7) sc__law_draw.nd rfl (Or.inl rfl) (pe_op op_mod (pe_op op_pow (pe_op op_add (pe_op op_add (pe_op op_mod (pv 5) pe_int) (pe_op op_mul pe_int (pv 4))) pe_int) pe_int) (pe_ix ix_list (pv 6) (pe_op op_mod (pv 4) pe_int) (fun _ _=>rfl))))
 (pss_cons (ps_set (i:=7) sc__law_draw.nd rfl (Or.inl rfl) (pe_op op_mod (pe_op op_pow (pe_op op_add (pe_op op_mul (pv 7) (pe_op op_add (pe_op op_mul pe_int (pv 4)) pe_int)) (pv 4)) pe_int) (pe_ix ix_list (pv 6) (pe_op op_mod (pe_op op_add (pv 4) pe_int) pe_int) (fun _ _=>rfl))))
 (pss_one (ps_ret (pe_op op_mod (pe_op op_fdiv (pv 7) pe_int) (pv 1))))))))))))))),?_⟩
    obtain ⟨⟨a,l,hd,ha,hl⟩,hc,hn⟩:=hP
    refine ⟨_,rfl,p,_,rfl,dg_left hd,_,_,rfl,rfl,_,rfl,?_⟩
    refine ite2 (fun hz=>?_) (fun hz=>?_)
    · refine ⟨_,rfl,p,_,rfl,dg_left hd,_,rfl,_,_,rfl,rfl,h0,?_⟩
      refine ⟨_,rfl,p,_,rfl,dg_left hd,_,rfl,_,_,rfl,rfl,⟨h0,h1⟩,_,rfl,p,_,rfl,dp_left hd,?_⟩
      exact ⟨_,rfl,k _ _ (Int.emod_nonneg _ (by omega)) (Int.emod_lt_of_pos _ h0) ⟨⟨a,_,upd_same,by omega,Int.ediv_nonneg hl (by omega)⟩,sql_upd hd hc,hn⟩ Kept.refl.pen⟩
    · refine ⟨_,rfl,p,_,rfl,dg_script hd,?_⟩
      refine ⟨_,rfl,p,_,rfl,dg_at hd,?_⟩
      refine ⟨_,rfl,_,_,rfl,rfl,_,rfl,p,_,rfl,dp_at hd,?_⟩
      have hd1:(upd H p (.dK (penK c ((a:Int)+1) l))) p=some (.dK (penK c ((a+1:Nat):Int) l)):=by
        rw [upd_same]
        rfl
      have hc1:SqL K (upd H p (.dK (penK c ((a:Int)+1) l))) c (ns.map V.int):=sql_upd hd hc
      have k1:Kept p H (upd H p (.dK (penK c ((a:Int)+1) l))):=Kept.refl.pen
      generalize upd H p (.dK (penK c ((a:Int)+1) l))=H1 at hd1 hc1 k1
      refine ⟨fun σ' H'=>∃ (z:Int),σ'=[some (.ref p),some (.int most),none,some (.ref c),some (.int a),some (.int z),none,none]∧H'=H1,?_,?_⟩
      · refine ⟨_,rfl,c,_,rfl,.inl hc1,_,_,rfl,rfl,_,rfl,?_⟩
        refine ite2 (fun hlen=>?_) (fun _=>⟨1013,rfl,rfl⟩)
        have hlen':(0:Int) < ((ns.map V.int).length:Nat):=of_decide_eq_true hlen
        have hne':ns≠[]:=by
          rintro rfl
          simp at hlen'
        obtain ⟨z,hz2⟩:=cell_at ns a hne'
        refine ⟨_,rfl,_,rfl,_,rfl,c,_,rfl,.inl hc1,_,_,rfl,rfl,hlen',c,_,_,_,rfl,rfl,hc1,hz2,?_⟩
        exact ⟨z,rfl,rfl⟩
      · rintro σ2 H2 ⟨z,rfl,rfl⟩
        refine ⟨fun _ H'=>H'=H2,?_,?_⟩
        · refine ⟨_,rfl,_,rfl,c,_,rfl,.inl hc1,_,_,rfl,rfl,_,rfl,?_⟩
          refine ite2 (fun _=>?_) (fun _=>rfl)
          exact ⟨_,rfl,z,rfl,_,_,rfl,rfl,⟨by decide,by decide,by decide⟩,_,_,rfl,rfl,_,rfl,rfl⟩
        · rintro b H3 rfl
          have ab:0≤(if z < 0 then -z else z):=by split <;> omega
          refine ite2 (fun _=>?_) (fun _=>?_)
          · refine ⟨_,rfl,z,rfl,_,rfl,_,_,rfl,rfl,⟨h0,h1⟩,_,rfl,p,_,rfl,dp_left hd1,?_⟩
            refine ⟨_,rfl,z,rfl,_,rfl,_,_,rfl,rfl,h0,?_⟩
            exact k _ _ (Int.emod_nonneg _ (by omega)) (Int.emod_lt_of_pos _ h0) ⟨⟨a+1,_,upd_same,by omega,Int.ediv_nonneg ab (by omega)⟩,sql_upd hd1 hc1,hn⟩ k1.pen
          · refine ⟨by show 8≤sizeLine; decide,fun q hq=>?_⟩
            refine ⟨_,rfl,by show 4≤sizeLine; decide,fun q2 hq2=>?_⟩
            have eq1:(upd (upd H3 q (.lst [V.int 2147483629,V.int 2147483587,V.int 2147483579,V.int 2147483563,V.int 2147483549,V.int 2147483543,V.int 2147483497,V.int 2147483489])) q2 (.lst [V.int 2147483477,V.int 2147483423,V.int 2147483399,V.int 2147483353])) q=some (.lst [V.int 2147483629,V.int 2147483587,V.int 2147483579,V.int 2147483563,V.int 2147483549,V.int 2147483543,V.int 2147483497,V.int 2147483489]):=by
              rw [upd_ne (ne_of_none upd_same hq2),upd_same]
            refine ⟨q,q2,_,_,rfl,rfl,eq1,upd_same,by show 12≤sizeLine; decide,fun q3 hq3=>?_⟩
            have s3:Same H3 (upd (upd (upd H3 q (.lst [V.int 2147483629,V.int 2147483587,V.int 2147483579,V.int 2147483563,V.int 2147483549,V.int 2147483543,V.int 2147483497,V.int 2147483489])) q2 (.lst [V.int 2147483477,V.int 2147483423,V.int 2147483399,V.int 2147483353])) q3 (.lst prs)):=(((Same.refl H3).new hq).new hq2).new hq3
            obtain ⟨pr,hpr,g1,g2⟩:=prime_at a
            obtain ⟨pr2,hpr2,f1,f2⟩:=prime_at (a+5)
            rw [show ((a+5:Nat):Int)=(a:Int)+5 by omega] at hpr2
            refine ⟨_,rfl,_,_,rfl,rfl,(by show (0:Int) < 2147483647; decide),_,rfl,_,_,rfl,rfl,.inl ⟨by decide,by decide⟩,_,_,rfl,rfl,_,_,rfl,rfl,_,_,rfl,rfl,⟨by decide,by decide,base1 (by omega) (by omega)⟩,_,rfl,_,rfl,_,_,rfl,rfl,(by show (0:Int) < 12; decide),q3,_,_,_,rfl,rfl,SqL.of upd_same,hpr,_,_,rfl,rfl,(by omega),?_⟩
            have m0:0≤((z % 2147483647+48271 * (a:Int)+11) ^ (3:Int).toNat) % pr:=Int.emod_nonneg _ (by omega)
            have m1:((z % 2147483647+48271 * (a:Int)+11) ^ (3:Int).toNat) % pr < 2147483647:=Int.lt_of_lt_of_le (Int.emod_lt_of_pos _ (by omega)) g2
            refine ⟨_,rfl,_,rfl,_,_,rfl,rfl,.inl ⟨by decide,by decide⟩,_,_,rfl,rfl,_,_,rfl,rfl,.inl ⟨Int.lt_of_lt_of_le (by decide) m0,Int.lt_trans m1 (by decide)⟩,_,rfl,_,_,rfl,rfl,_,_,rfl,rfl,⟨by decide,by decide,base2 m0 m1 (by omega) (by omega)⟩,_,rfl,_,rfl,_,_,rfl,rfl,_,_,rfl,rfl,(by show (0:Int) < 12; decide),q3,_,_,_,rfl,rfl,SqL.of upd_same,hpr2,_,_,rfl,rfl,(by omega),?_⟩
            refine ⟨_,rfl,_,_,rfl,rfl,⟨by decide,by decide⟩,_,rfl,_,_,rfl,rfl,h0,?_⟩
            refine k _ _ (Int.emod_nonneg _ (by omega)) (Int.emod_lt_of_pos _ h0) ⟨⟨a+1,l,s3 _ _ hd1,by omega,hl⟩,s3.seq hc1,hn⟩ ?_
            exact fun b o e n=>s3 b o (k1 b o e n)
end
end My
set_option Elab.async false
set_option linter.all false
set_option maxRecDepth 100000
namespace My
open PySem PySem.Spec PyProof.Rows L2
section
variable {cn:Addr×List Int} {P:Program} {w:World} {K:PySem.W.Frag} {mg:Str→Option Value} {base:Heap}
noncomputable def m_stocks:List Sl→Tr Re:=aDef 1 0
 (aRet (aTupR (aCons (aNeg (aBin ixD (aVar 0) (aC (.int 1)))) (aCons (aBin addD (aBin ixD (aVar 0) (aC (.int 0))) (aC (.int 1))) aNil))))
set_option maxHeartbeats 2000000 in
theorem c_stocks (T:Txt K mg):ACal (PK2 (K,cn)) P w K mg base "stocks" 1 ["shop"] m_stocks:=acal_of T.d_stocks sc_stocks rfl fun f cdv A outer sh H E hr=>by
  exact (ass_one (as_ret (ae_tupR (pe_callTy (call_tuple_rng hr.hd) rfl T.n_tuple boot_tuple (pa_cons (pe_callTy call_rangeV2 rfl T.n_range boot_range (ad_cons (ae_neg (ae_ix ix_seq vo_ix (ae_var (pv 0)) (ae_gint rfl T.g_DEPTH) (fun _ _=>rfl))) (ad_cons (ae_op op_addD vo_add (ae_ix ix_seq vo_ix (ae_var (pv 0)) (ae_gint rfl T.g_TOP) (fun _ _=>rfl)) ae_int) ad_nil))) pa_nil)))))
noncomputable def q_greatest_seen_1:List Sl→Tr PyData :=
 (aVar 0)
noncomputable def p_greatest_seen_1:List Sl→Tr Bool :=
 (aTest (aBin (cmpD fun i j=>decide (i > j)) (aVar 1) (aC (.int 0))))
noncomputable def m_greatest_seen:List Sl→Tr Re:=aDef 1 0
 (aRet (aCB max1D (aCons (aLst (aLcif (aEnum (aVar 0)) 2 [] (gTupD (gsCons (gSet 0) (gsCons (gSet 1) gsNil))) p_greatest_seen_1 q_greatest_seen_1)) aNil)))
set_option maxHeartbeats 2000000 in
theorem c_greatest_seen (T:Txt K mg):ACal (PK2 (K,cn)) P w K mg base "greatest_seen" 1 ["day"] m_greatest_seen:=acal_of T.d_greatest_seen sc_greatest_seen rfl fun f cdv A outer sh H E hr=>by
  exact (ass_one (as_ret (ae_cb (t:=tNil) (pe_callB (call_maxD rfl) rfl T.n_max boot_max (ad_cons (ae_o (ao_lcif (pe_lcif N_greatest_seen ["fall","weight"] [] rfl (ai_enum (pi_enum rfl rfl T.n_enumerate (ae_var (pv 0)))) (fun b=>(ag_tup rfl (ags_cons (ag_name (pg_name (i:=0) (show ((bN N_greatest_seen ["fall","weight"] [])).Nodup by decide +kernel) rfl (Or.inl rfl))) (ags_cons (ag_name (pg_name (i:=1) (show ((bN N_greatest_seen ["fall","weight"] [])).Nodup by decide +kernel) rfl (Or.inl rfl))) ags_nil)) (gsLen_cons (gsLen_cons gsLen_nil)))) (fun b=>(at_cmp op_gt vo_cmp (ae_var (pv 1)) ae_int (nomark _))) (fun b=>(ae_var (pv 0))) rfl (show BlkOk N_greatest_seen (defScope s_greatest_seen) _ [] from ⟨rfl,by decide +kernel,by decide +kernel,by decide +kernel,by decide +kernel⟩)) (pres_tup (pres_cons (pres_set (by decide)) (pres_cons (pres_set (by decide)) pres_nil))))) ad_nil)) vc_max1)))
noncomputable def m_next_stock:List Sl→Tr Re:=aDef 3 0
 (aRet (aCB max2D (aCons (aBin subD (aVar 1) (aVar 2)) (aCons (aNeg (aBin ixD (aVar 0) (aC (.int 1)))) aNil))))
set_option maxHeartbeats 2000000 in
theorem c_next_stock (T:Txt K mg):ACal (PK2 (K,cn)) P w K mg base "next_stock" 1 ["shop","level","fall"] m_next_stock:=acal_of T.d_next_stock sc_next_stock rfl fun f cdv A outer sh H E hr=>by
  exact (ass_one (as_ret (ae_cb (t:=tNil) (pe_callB (call_max2 rfl) rfl T.n_max boot_max (ad_cons (ae_op op_sub vo_sub (ae_var (pv 1)) (ae_var (pv 2))) (ad_cons (ae_neg (ae_ix ix_seq vo_ix (ae_var (pv 0)) (ae_gint rfl T.g_DEPTH) (fun _ _=>rfl))) ad_nil))) vc_max2)))
noncomputable def m_end_cost:List Sl→Tr Re:=aDef 2 0
 (aSeq (aIfS (aTest (aBin (cmpD fun i j=>decide (i > j)) (aVar 1) (aC (.int 0))))
  (aRet (aBin mulD' (aNeg (aBin ixD (aVar 0) (aC (.int 7)))) (aVar 1)))
  aSkip)
 (aRet (aBin mulD' (aBin ixD (aVar 0) (aC (.int 8))) (aNeg (aVar 1)))))
set_option maxHeartbeats 2000000 in
theorem c_end_cost (T:Txt K mg):ACal (PK2 (K,cn)) P w K mg base "end_cost" 1 ["shop","stock"] m_end_cost:=acal_of T.d_end_cost sc_end_cost rfl fun f cdv A outer sh H E hr=>by
  exact (ass_cons (as_if (at_cmp op_gt vo_cmp (ae_var (pv 1)) ae_int (nomark _))
  (ass_one (as_ret (ae_op op_mulD vo_mul (ae_neg (ae_ix ix_seq vo_ix (ae_var (pv 0)) (ae_gint rfl T.g_BACK) (fun _ _=>rfl))) (ae_var (pv 1)))))
  ass_nil)
 (ass_one (as_ret (ae_op op_mulD vo_mul (ae_ix ix_seq vo_ix (ae_var (pv 0)) (ae_gint rfl T.g_LATE) (fun _ _=>rfl)) (ae_neg (ae_var (pv 1)))))))
noncomputable def l_cheapest_from_1:List Sl→Tr Ou :=
 (aSeq (aSet 7 (aTup (aCons (aBin ixD (aVar 2) (aBin subD (aVar 6) (aVar 1))) (aCons (aVar 6) aNil))))
 (aSeq (aAsg (gTupD (gsCons (gSet 8) (gsCons (gSet 9) gsNil))) (aCB min2T (aCons (aVar 7) (aCons (aTup (aCons (aBin addD (aBin mulD' (aVar 3) (aBin ixD (aVar 0) (aC (.int 2)))) (aBin ixD (aVar 5) (aC (.int 0)))) (aCons (aBin ixD (aVar 5) (aC (.int 1))) aNil))) aNil))))
 (aSeq (aApp 4 (aTup (aCons (aBin subD (aVar 8) (aBin mulD' (aBin mulD' (aVar 3) (aBin ixD (aVar 0) (aC (.int 3)))) (aVar 6))) (aCons (aVar 9) aNil))))
 (aSet 5 (aCB min2T (aCons (aVar 7) (aCons (aVar 5) aNil)))))))
noncomputable def m_cheapest_from:List Sl→Tr Re:=aDef 4 6
 (aSeq (aSetO 4 (aLo aNil))
 (aSeq (aSet 5 (aTup (aCons (aBin ixD (aVar 2) (aNeg (aC (.int 1)))) (aCons (aBin ixD (aVar 0) (aC (.int 0))) aNil))))
 (aSeq (aFor (aRevR2 (aCons (aVar 1) (aCons (aBin addD (aBin ixD (aVar 0) (aC (.int 0))) (aC (.int 1))) aNil))) (gSet 6) l_cheapest_from_1)
 (aSeq (aRev 4)
 (aRetV 4)))))
set_option maxHeartbeats 2000000 in
theorem c_cheapest_from (T:Txt K mg):ACal (PK2 (K,cn)) P w K mg base "cheapest_from" 1 ["shop","low","by_level","scale"] m_cheapest_from:=acal_of T.d_cheapest_from sc_cheapest_from rfl fun f cdv A outer sh H E hr=>by
  exact (ass_cons (as_setO (ps_set (i:=4) sc_cheapest_from.nd rfl (Or.inl rfl) (ao_lst ad_nil)))
 (ass_cons (as_set (ps_set (i:=5) sc_cheapest_from.nd rfl (Or.inl rfl) (ae_tup (ad_cons (ae_ix ix_seq vo_ix (ae_var (pv 2)) (ae_neg ae_int) (fun _ _=>rfl)) (ad_cons (ae_ix ix_seq vo_ix (ae_var (pv 0)) (ae_gint rfl T.g_TOP) (fun _ _=>rfl)) ad_nil)))))
 (ass_cons (as_for PassesOwn.never rfl (ai_revr2 (pi_rev rfl T.n_reversed (pe_callTy call_rangeV2 rfl T.n_range boot_range (ad_cons (ae_var (pv 1)) (ad_cons (ae_op op_addD vo_add (ae_ix ix_seq vo_ix (ae_var (pv 0)) (ae_gint rfl T.g_TOP) (fun _ _=>rfl)) ae_int) ad_nil))))) (ag_name (pg_name (i:=6) sc_cheapest_from.nd rfl (Or.inl rfl)))
  (ass_cons (as_set (ps_set (i:=7) sc_cheapest_from.nd rfl (Or.inl rfl) (ae_tup (ad_cons (ae_ix ix_seq vo_ix (ae_var (pv 2)) (ae_op op_sub vo_sub (ae_var (pv 6)) (ae_var (pv 1))) (fun _ _=>rfl)) (ad_cons (ae_var (pv 6)) ad_nil)))))
 (ass_cons (as_asg (ps_asg (ae_cb (t:=tNil) (pe_callB (call_min2T hr rfl) rfl T.n_min boot_min (ad_cons (ae_var (pv 7)) (ad_cons (ae_tup (ad_cons (ae_op op_addD vo_add (ae_op op_mulD vo_mul (ae_var (pv 3)) (ae_ix ix_seq vo_ix (ae_var (pv 0)) (ae_gint rfl T.g_START) (fun _ _=>rfl))) (ae_ix ix_seq vo_ix (ae_var (pv 5)) ae_int (fun _ _=>rfl))) (ad_cons (ae_ix ix_seq vo_ix (ae_var (pv 5)) ae_int (fun _ _=>rfl)) ad_nil))) ad_nil))) vc_min2T) (ag_tup rfl (ags_cons (ag_name (pg_name (i:=8) sc_cheapest_from.nd rfl (Or.inl rfl))) (ags_cons (ag_name (pg_name (i:=9) sc_cheapest_from.nd rfl (Or.inl rfl))) ags_nil)) (gsLen_cons (gsLen_cons gsLen_nil)))))
 (ass_cons (as_app (ps_expr (pe_bm PySem.F.plainAttrs_list PySem.F.slot_list_append PySem.F.type_list_append mt_append (pv 4) (pa_cons (ae_tup (ad_cons (ae_op op_sub vo_sub (ae_var (pv 8)) (ae_op op_mulD vo_mul (ae_op op_mulD vo_mul (ae_var (pv 3)) (ae_ix ix_seq vo_ix (ae_var (pv 0)) (ae_gint rfl T.g_PIECE) (fun _ _=>rfl))) (ae_var (pv 6)))) (ad_cons (ae_var (pv 9)) ad_nil))) pa_nil))))
 (ass_one (as_set (ps_set (i:=5) sc_cheapest_from.nd rfl (Or.inl rfl) (ae_cb (t:=tNil) (pe_callB (call_min2T hr rfl) rfl T.n_min boot_min (ad_cons (ae_var (pv 7)) (ad_cons (ae_var (pv 5)) ad_nil))) vc_min2T))))))))
 (ass_cons (as_rev (ps_expr (pe_bm0 PySem.F.plainAttrs_list PySem.F.slot_list_reverse PySem.F.type_list_reverse mt_reverse (pv 4))))
 (ass_one (as_retV (pv 4)))))))
noncomputable def m_is_cheapest:List Sl→Tr Re:=aDef 5 2
 (aSeq (aSet 5 (aBin addD (aVar 3) (aBin ixD (aVar 0) (aC (.int 1)))))
 (aSeq (aSet 6 (aBin addD (aBin mulD' (aVar 2) (aBin ixD (aVar 0) (aC (.int 2)))) (aBin ixD (aVar 1) (aBin addD (aVar 4) (aBin ixD (aVar 0) (aC (.int 1)))))))
 (aRet (aAndV (aBin (cmpD fun i j=>decide (i≤j)) (aVar 6) (aBin ixD (aVar 1) (aVar 5))) (aBin eqD (aBin ixD (aVar 1) (aBin addD (aVar 4) (aBin ixD (aVar 0) (aC (.int 1))))) (aCB min1D (aCons (aSl (aVar 1) (aP1 (aBin addD (aVar 5) (aC (.int 1)))) aP0) aNil)))))))
set_option maxHeartbeats 2000000 in
theorem c_is_cheapest (T:Txt K mg):ACal (PK2 (K,cn)) P w K mg base "is_cheapest" 1 ["shop","by_level","scale","stock","level"] m_is_cheapest:=acal_of T.d_is_cheapest sc_is_cheapest rfl fun f cdv A outer sh H E hr=>by
  exact (ass_cons (as_set (ps_set (i:=5) sc_is_cheapest.nd rfl (Or.inl rfl) (ae_op op_addD vo_add (ae_var (pv 3)) (ae_ix ix_seq vo_ix (ae_var (pv 0)) (ae_gint rfl T.g_DEPTH) (fun _ _=>rfl)))))
 (ass_cons (as_set (ps_set (i:=6) sc_is_cheapest.nd rfl (Or.inl rfl) (ae_op op_addD vo_add (ae_op op_mulD vo_mul (ae_var (pv 2)) (ae_ix ix_seq vo_ix (ae_var (pv 0)) (ae_gint rfl T.g_START) (fun _ _=>rfl))) (ae_ix ix_seq vo_ix (ae_var (pv 1)) (ae_op op_addD vo_add (ae_var (pv 4)) (ae_ix ix_seq vo_ix (ae_var (pv 0)) (ae_gint rfl T.g_DEPTH) (fun _ _=>rfl))) (fun _ _=>rfl)))))
 (ass_one (as_ret (ae_and (ae_cmp op_le vo_cmp (ae_var (pv 6)) (ae_ix ix_seq vo_ix (ae_var (pv 1)) (ae_var (pv 5)) (fun _ _=>rfl)) (nomark _)) (ae_one (ae_cmp (op_eqA hr) vo_eq (ae_ix ix_seq vo_ix (ae_var (pv 1)) (ae_op op_addD vo_add (ae_var (pv 4)) (ae_ix ix_seq vo_ix (ae_var (pv 0)) (ae_gint rfl T.g_DEPTH) (fun _ _=>rfl))) (fun _ _=>rfl)) (ae_cb (t:=tNil) (pe_callB (call_minD rfl) rfl T.n_min boot_min (ad_cons (ae_sl (ae_var (pv 1)) (ap_some (ae_op op_addD vo_add (ae_var (pv 5)) ae_int)) ap_none) ad_nil)) vc_min1) (nomark _))))))))
noncomputable abbrev m_law_draw:=m_draw
theorem c_law_draw (T:Txt K mg):ACal (PK2 (K,cn)) P w K mg base "_law_draw" 1 ["_law_pen_here","_law_many"] m_law_draw:=draw1 rfl (ok_draw T)
noncomputable def q_law_reach_1:List Sl→Tr PyData :=
 (aVar 0)
noncomputable def p_law_reach_1:List Sl→Tr Bool :=
 (aTest (aBin (cmpD fun i j=>decide (i > j)) (aVar 1) (aC (.int 0))))
noncomputable def q_law_reach_2:List Sl→Tr PyData :=
 (aCB max1D (aCons (aLst (aLcif (aEnum (aVar 0)) 2 [] (gTupD (gsCons (gSet 0) (gsCons (gSet 1) gsNil))) p_law_reach_1 q_law_reach_1)) aNil))
noncomputable def m_law_reach:List Sl→Tr Re:=aDef 1 0
 (aRet (aCB sumD (aCons (aLst (aLc (aIt (aVar 0)) 1 [] (gSet 0) q_law_reach_2)) aNil)))
set_option maxHeartbeats 2000000 in
theorem c_law_reach (T:Txt K mg):ACal (PK2 (K,cn)) P w K mg base "_law_reach" 1 ["_law_falls_here"] m_law_reach:=acal_of T.d__law_reach sc__law_reach rfl fun f cdv A outer sh H E hr=>by
  exact (ass_one (as_ret (ae_cb (t:=tNil) (pe_callB (call_sumD rfl) rfl T.n_sum boot_sum (ad_cons (ae_o (ao_lc (pe_lc N__law_reach ["_law_one"] [] rfl (ai_seq (ae_var (pv 0))) (fun b=>(ag_name (pg_name (i:=0) (show ((bN N__law_reach ["_law_one"] [])).Nodup by decide +kernel) rfl (Or.inl rfl)))) (fun b=>(ae_cb (t:=tNil) (pe_callB (call_maxD rfl) rfl T.n_max boot_max (ad_cons (ae_o (ao_lcif (pe_lcif (bN N__law_reach ["_law_one"] []) ["_law_fall","_law_weight"] [] rfl (ai_enum (pi_enum rfl rfl T.n_enumerate (ae_var (pv 0)))) (fun b=>(ag_tup rfl (ags_cons (ag_name (pg_name (i:=0) (show ((bN (bN N__law_reach ["_law_one"] []) ["_law_fall","_law_weight"] [])).Nodup by decide +kernel) rfl (Or.inl rfl))) (ags_cons (ag_name (pg_name (i:=1) (show ((bN (bN N__law_reach ["_law_one"] []) ["_law_fall","_law_weight"] [])).Nodup by decide +kernel) rfl (Or.inl rfl))) ags_nil)) (gsLen_cons (gsLen_cons gsLen_nil)))) (fun b=>(at_cmp op_gt vo_cmp (ae_var (pv 1)) ae_int (nomark _))) (fun b=>(ae_var (pv 0))) rfl (BlkOk.leaf rfl (by decide +kernel) (by decide +kernel))) (pres_tup (pres_cons (pres_set (by decide)) (pres_cons (pres_set (by decide)) pres_nil))))) ad_nil)) vc_max1)) rfl (show BlkOk N__law_reach (defScope s__law_reach) _ [] from ⟨rfl,by decide +kernel,by decide +kernel,by decide +kernel,by decide +kernel⟩)) (pres_set (by decide)))) ad_nil)) vc_sum)))
noncomputable def m_day_cost:List Sl→Tr Re:=aDef 3 3
 (aSeq (aSet 3 (aRe (aCall m_next_stock (aaCons (aVar 0) (aaCons (aVar 1) (aaCons (aVar 2) aaNil))))))
 (aSeq (aSet 4 (aBin subD (aVar 3) (aBin subD (aVar 1) (aVar 2))))
 (aSeq (aSet 5 (aIf (aTest (aBin (cmpD fun i j=>decide (i > j)) (aVar 3) (aC (.int 0)))) (aBin mulD' (aBin ixD (aVar 0) (aC (.int 4))) (aVar 3)) (aBin mulD' (aBin ixD (aVar 0) (aC (.int 5))) (aNeg (aVar 3)))))
 (aRet (aBin addD (aVar 5) (aBin mulD' (aBin ixD (aVar 0) (aC (.int 6))) (aVar 4)))))))
set_option maxHeartbeats 2000000 in
theorem c_day_cost (T:Txt K mg):ACal (PK2 (K,cn)) P w K mg base "day_cost" 2 ["shop","level","fall"] m_day_cost:=acal_of T.d_day_cost sc_day_cost rfl fun f cdv A outer sh H E hr=>by
  exact (ass_cons (as_set (ps_set (i:=3) sc_day_cost.nd rfl (Or.inl rfl) (ae_r (ar_call (c_next_stock T) (hr.mono (by decide)) rfl (aa_cons (ae_var (pv 0)) (aa_cons (ae_var (pv 1)) (aa_cons (ae_var (pv 2)) aa_nil)))))))
 (ass_cons (as_set (ps_set (i:=4) sc_day_cost.nd rfl (Or.inl rfl) (ae_op op_sub vo_sub (ae_var (pv 3)) (ae_op op_sub vo_sub (ae_var (pv 1)) (ae_var (pv 2))))))
 (ass_cons (as_set (ps_set (i:=5) sc_day_cost.nd rfl (Or.inl rfl) (ae_if (at_cmp op_gt vo_cmp (ae_var (pv 3)) ae_int (nomark _)) (ae_op op_mulD vo_mul (ae_ix ix_seq vo_ix (ae_var (pv 0)) (ae_gint rfl T.g_KEEP) (fun _ _=>rfl)) (ae_var (pv 3))) (ae_op op_mulD vo_mul (ae_ix ix_seq vo_ix (ae_var (pv 0)) (ae_gint rfl T.g_LACK) (fun _ _=>rfl)) (ae_neg (ae_var (pv 3)))))))
 (ass_one (as_ret (ae_op op_addD vo_add (ae_var (pv 5)) (ae_op op_mulD vo_mul (ae_ix ix_seq vo_ix (ae_var (pv 0)) (ae_gint rfl T.g_LOST) (fun _ _=>rfl)) (ae_var (pv 4)))))))))
noncomputable def q_end_costs_1:List Sl→Tr PyData :=
 (aRe (aCall m_end_cost (aaCons (aVar 1) (aaCons (aVar 0) aaNil))))
noncomputable def m_end_costs:List Sl→Tr Re:=aDef 1 0
 (aRetO (aLc (aIt (aRe (aCall m_stocks (aaCons (aVar 0) aaNil)))) 1 [0] (gSet 0) q_end_costs_1))
set_option maxHeartbeats 2000000 in
theorem c_end_costs (T:Txt K mg):ACal (PK2 (K,cn)) P w K mg base "end_costs" 2 ["shop"] m_end_costs:=acal_of T.d_end_costs sc_end_costs rfl fun f cdv A outer sh H E hr=>by
  exact (ass_one (as_retO (ao_lc (pe_lc N_end_costs ["stock"] [0] rfl (ai_seq (ae_r (ar_call (c_stocks T) (hr.mono (by decide)) rfl (aa_cons (ae_var (pv 0)) aa_nil)))) (fun b=>(ag_name (pg_name (i:=0) (show ((bN N_end_costs ["stock"] [0])).Nodup by decide +kernel) rfl (Or.inl rfl)))) (fun b=>(ae_r (ar_call (c_end_cost T) (hr.mono (by decide)) rfl (aa_cons (ae_var (pv 1)) (aa_cons (ae_var (pv 0)) aa_nil))))) rfl (show BlkOk N_end_costs (defScope s_end_costs) _ [0] from ⟨rfl,by decide +kernel,by decide +kernel,by decide +kernel,by decide +kernel⟩)) (pres_set (by decide)))))
noncomputable def m_cheapest:List Sl→Tr Re:=aDef 3 0
 (aRetR (aCall m_cheapest_from (aaCons (aVar 0) (aaCons (aNeg (aBin ixD (aVar 0) (aC (.int 1)))) (aaCons (aVar 1) (aaCons (aVar 2) aaNil))))))
set_option maxHeartbeats 2000000 in
theorem c_cheapest (T:Txt K mg):ACal (PK2 (K,cn)) P w K mg base "cheapest" 2 ["shop","by_level","scale"] m_cheapest:=acal_of T.d_cheapest sc_cheapest rfl fun f cdv A outer sh H E hr=>by
  exact (ass_one (as_retR (ar_call (c_cheapest_from T) (hr.mono (by decide)) rfl (aa_cons (ae_var (pv 0)) (aa_cons (ae_neg (ae_ix ix_seq vo_ix (ae_var (pv 0)) (ae_gint rfl T.g_DEPTH) (fun _ _=>rfl))) (aa_cons (ae_var (pv 1)) (aa_cons (ae_var (pv 2)) aa_nil)))))))
noncomputable def q_free_from_1:List Sl→Tr PyData :=
 (aRe (aCall m_greatest_seen (aaCons (aVar 0) aaNil)))
noncomputable def m_free_from:List Sl→Tr Re:=aDef 3 0
 (aRet (aBin subD (aCB sumD (aCons (aLst (aLc (aIt (aSl (aVar 1) (aP1 (aVar 2)) aP0)) 1 [] (gSet 0) q_free_from_1)) aNil)) (aBin ixD (aVar 0) (aC (.int 1)))))
set_option maxHeartbeats 2000000 in
theorem c_free_from (T:Txt K mg):ACal (PK2 (K,cn)) P w K mg base "free_from" 2 ["shop","falls","t"] m_free_from:=acal_of T.d_free_from sc_free_from rfl fun f cdv A outer sh H E hr=>by
  exact (ass_one (as_ret (ae_op op_sub vo_sub (ae_cb (t:=tNil) (pe_callB (call_sumD rfl) rfl T.n_sum boot_sum (ad_cons (ae_o (ao_lc (pe_lc N_free_from ["day"] [] rfl (ai_seq (ae_sl (ae_var (pv 1)) (ap_some (ae_var (pv 2))) ap_none)) (fun b=>(ag_name (pg_name (i:=0) (show ((bN N_free_from ["day"] [])).Nodup by decide +kernel) rfl (Or.inl rfl)))) (fun b=>(ae_r (ar_call (c_greatest_seen T) (hr.mono (by decide)) rfl (aa_cons (ae_var (pv 0)) aa_nil)))) rfl (show BlkOk N_free_from (defScope s_free_from) _ [] from ⟨rfl,by decide +kernel,by decide +kernel,by decide +kernel,by decide +kernel⟩)) (pres_set (by decide)))) ad_nil)) vc_sum) (ae_ix ix_seq vo_ix (ae_var (pv 0)) (ae_gint rfl T.g_DEPTH) (fun _ _=>rfl)))))
noncomputable def l_law_prices_1:List Sl→Tr Ou :=
 (aSeq (aSet 4 (aLst (aLo (aCons (aRe (aCall m_law_draw (aaPen 0 (aaCons (aC (.int 10)) aaNil)))) (aCons (aRe (aCall m_law_draw (aaPen 0 (aaCons (aC (.int 40)) aaNil)))) (aCons (aRe (aCall m_law_draw (aaPen 0 (aaCons (aC (.int 1000001)) aaNil)))) (aCons (aBin ixD (aLst (aLo (aCons (aC (.int 0)) (aCons (aC (.int 1)) (aCons (aC (.int 7)) (aCons (aC (.int 1000000)) aNil)))))) (aRe (aCall m_law_draw (aaPen 0 (aaCons (aC (.int 4)) aaNil))))) aNil)))))))
 (aApp 2 (aBin ixD (aVar 4) (aVar 1))))
noncomputable def m_law_prices:List Sl→Tr Re:=aDef 1 4
 (aSeq (aSet 1 (aRe (aCall m_law_draw (aaPen 0 (aaCons (aC (.int 4)) aaNil)))))
 (aSeq (aSetO 2 (aLo aNil))
 (aSeq (aFor (aRng1 (aCons (aC (.int 7)) aNil)) (gSet 3) l_law_prices_1)
 (aSeq (aIfS (aTest (aBin eqD (aRe (aCall m_law_draw (aaPen 0 (aaCons (aC (.int 4)) aaNil)))) (aC (.int 0))))
  (aSetIx 2 (aC (.int 0)) (aC (.int 0)))
  aSkip)
 (aSeq (aIfS (aTest (aBin (cmpD fun i j=>decide (i > j)) (aRe (aCall m_law_draw (aaPen 0 (aaCons (aC (.int 3)) aaNil)))) (aC (.int 0))))
  (aFz 2 (aSet 2 (aBin addD (aSl (aVar 2) aP0 (aP1 (aC (.int 5)))) (aLst (aCBo sortD (aCons (aSl (aVar 2) (aP1 (aC (.int 5))) aP0) aNil))))))
  aSkip)
 (aFz 2 (aRet (aCB tupD (aCons (aVar 2) aNil)))))))))
set_option maxHeartbeats 2000000 in
theorem c_law_prices (T:Txt K mg):ACal (PK2 (K,cn)) P w K mg base "_law_prices" 2 ["_law_pen_here"] m_law_prices:=acal_of T.d__law_prices sc__law_prices rfl fun f cdv A outer sh H E hr=>by
  exact (ass_cons (as_set (ps_set (i:=1) sc__law_prices.nd rfl (Or.inl rfl) (ae_r (ar_call (c_law_draw T) (hr.mono (by decide)) rfl (aa_pen (pv 0) (aa_cons ae_int aa_nil))))))
 (ass_cons (as_setO (ps_set (i:=2) sc__law_prices.nd rfl (Or.inl rfl) (ao_lst ad_nil)))
 (ass_cons (as_for PassesOwn.never rfl (ai_rng1 (pi_range1 rfl T.n_range (ad_cons ae_int ad_nil))) (ag_name (pg_name (i:=3) sc__law_prices.nd rfl (Or.inl rfl)))
  (ass_cons (as_set (ps_set (i:=4) sc__law_prices.nd rfl (Or.inl rfl) (ae_o (ao_lst (ad_cons (ae_r (ar_call (c_law_draw T) (hr.mono (by decide)) rfl (aa_pen (pv 0) (aa_cons ae_int aa_nil)))) (ad_cons (ae_r (ar_call (c_law_draw T) (hr.mono (by decide)) rfl (aa_pen (pv 0) (aa_cons ae_int aa_nil)))) (ad_cons (ae_r (ar_call (c_law_draw T) (hr.mono (by decide)) rfl (aa_pen (pv 0) (aa_cons ae_int aa_nil)))) (ad_cons (ae_ix ix_seq vo_ix (ae_o (ao_lst (ad_cons ae_int (ad_cons ae_int (ad_cons ae_int (ad_cons ae_int ad_nil)))))) (ae_r (ar_call (c_law_draw T) (hr.mono (by decide)) rfl (aa_pen (pv 0) (aa_cons ae_int aa_nil)))) (fun _ _=>rfl)) ad_nil))))))))
 (ass_one (as_app (ps_expr (pe_bm PySem.F.plainAttrs_list PySem.F.slot_list_append PySem.F.type_list_append mt_append (pv 2) (pa_cons (ae_ix ix_seq vo_ix (ae_var (pv 4)) (ae_var (pv 1)) (fun _ _=>rfl)) pa_nil)))))))
 (ass_cons (as_if (at_cmp (op_eqA hr) vo_eq (ae_r (ar_call (c_law_draw T) (hr.mono (by decide)) rfl (aa_pen (pv 0) (aa_cons ae_int aa_nil)))) ae_int (nomark _))
  (ass_one (as_setIx (ps_asg ae_int (pg_sub (pv 2) ae_int set_list))))
  ass_nil)
 (ass_cons (as_if (at_cmp op_gt vo_cmp (ae_r (ar_call (c_law_draw T) (hr.mono (by decide)) rfl (aa_pen (pv 0) (aa_cons ae_int aa_nil)))) ae_int (nomark _))
  (ass_one (as_fz (k:=2) (as_set (ps_set (i:=2) sc__law_prices.nd rfl (Or.inl rfl) (ae_op op_addD vo_add (ae_sl (ae_var (pv 2)) ap_none (ap_some ae_int)) (ae_o (ao_cb (t:=tNil) (pe_callB call_sortedI rfl T.n_sorted boot_sorted (ad_cons (ae_sl (ae_var (pv 2)) (ap_some ae_int) ap_none) ad_nil)) vc_sort)))))))
  ass_nil)
 (ass_one (as_fz (k:=2) (as_ret (ae_cb (t:=tNil) (pe_callTy call_tuple_of rfl T.n_tuple boot_tuple (ad_cons (ae_var (pv 2)) ad_nil)) vc_tup)))))))))
noncomputable def l_law_falls_1:List Sl→Tr Ou :=
 (aApp 6 (aBin ixD (aLst (aLo (aCons (aC (.int 1)) (aCons (aRe (aCall m_law_draw (aaPen 0 (aaCons (aC (.int 2)) aaNil)))) (aCons (aRe (aCall m_law_draw (aaPen 0 (aaCons (aC (.int 4)) aaNil)))) (aCons (aRe (aCall m_law_draw (aaPen 0 (aaCons (aC (.int 1001)) aaNil)))) aNil)))))) (aVar 5)))
noncomputable def l_law_falls_2:List Sl→Tr Ou :=
 (aSeq (aSet 5 (aRe (aCall m_law_draw (aaPen 0 (aaCons (aC (.int 4)) aaNil)))))
 (aSeq (aSetO 6 (aLo aNil))
 (aSeq (aFor (aRng1 (aCons (aBin addD (aC (.int 1)) (aRe (aCall m_law_draw (aaPen 0 (aaCons (aVar 2) aaNil))))) aNil)) (gSet 7) l_law_falls_1)
 (aSeq (aIfS (aTest (aBin eqD (aCBF sumD (aaLend 6 aaNil)) (aC (.int 0))))
  (aSetIx 6 (aRe (aCall m_law_draw (aaPen 0 (aaCons (aCBF lenD (aaLend 6 aaNil)) aaNil)))) (aBin addD (aC (.int 1)) (aRe (aCall m_law_draw (aaPen 0 (aaCons (aC (.int 9)) aaNil))))))
  aSkip)
 (aFz 6 (aApp 3 (aCB tupD (aCons (aVar 6) aNil))))))))
noncomputable def m_law_falls:List Sl→Tr Re:=aDef 3 5
 (aSeq (aSetO 3 (aLo aNil))
 (aSeq (aFor (aRng1 (aCons (aVar 1) aNil)) (gSet 4) l_law_falls_2)
 (aFz 3 (aRet (aCB tupD (aCons (aVar 3) aNil))))))
set_option maxHeartbeats 2000000 in
theorem c_law_falls (T:Txt K mg):ACal (PK2 (K,cn)) P w K mg base "_law_falls" 2 ["_law_pen_here","_law_days","_law_most"] m_law_falls:=acal_of T.d__law_falls sc__law_falls rfl fun f cdv A outer sh H E hr=>by
  exact (ass_cons (as_setO (ps_set (i:=3) sc__law_falls.nd rfl (Or.inl rfl) (ao_lst ad_nil)))
 (ass_cons (as_for PassesOwn.never rfl (ai_rng1 (pi_range1 rfl T.n_range (ad_cons (ae_var (pv 1)) ad_nil))) (ag_name (pg_name (i:=4) sc__law_falls.nd rfl (Or.inl rfl)))
  (ass_cons (as_set (ps_set (i:=5) sc__law_falls.nd rfl (Or.inl rfl) (ae_r (ar_call (c_law_draw T) (hr.mono (by decide)) rfl (aa_pen (pv 0) (aa_cons ae_int aa_nil))))))
 (ass_cons (as_setO (ps_set (i:=6) sc__law_falls.nd rfl (Or.inl rfl) (ao_lst ad_nil)))
 (ass_cons (as_for PassesOwn.never rfl (ai_rng1 (pi_range1 rfl T.n_range (ad_cons (ae_op op_addD vo_add ae_int (ae_r (ar_call (c_law_draw T) (hr.mono (by decide)) rfl (aa_pen (pv 0) (aa_cons (ae_var (pv 2)) aa_nil))))) ad_nil))) (ag_name (pg_name (i:=7) sc__law_falls.nd rfl (Or.inl rfl)))
  (ass_one (as_app (ps_expr (pe_bm PySem.F.plainAttrs_list PySem.F.slot_list_append PySem.F.type_list_append mt_append (pv 6) (pa_cons (ae_ix ix_seq vo_ix (ae_o (ao_lst (ad_cons ae_int (ad_cons (ae_r (ar_call (c_law_draw T) (hr.mono (by decide)) rfl (aa_pen (pv 0) (aa_cons ae_int aa_nil)))) (ad_cons (ae_r (ar_call (c_law_draw T) (hr.mono (by decide)) rfl (aa_pen (pv 0) (aa_cons ae_int aa_nil)))) (ad_cons (ae_r (ar_call (c_law_draw T) (hr.mono (by decide)) rfl (aa_pen (pv 0) (aa_cons ae_int aa_nil)))) ad_nil)))))) (ae_var (pv 5)) (fun _ _=>rfl)) pa_nil))))))
 (ass_cons (as_if (at_cmp (op_eqA hr) vo_eq (ae_cbF pkLow (pe_callB (call_sumD rfl) rfl T.n_sum boot_sum (ab_lend (pv 6) ab_nil)) vc_sum) ae_int (nomark _))
  (ass_one (as_setIx (ps_asg (ae_op op_addD vo_add ae_int (ae_r (ar_call (c_law_draw T) (hr.mono (by decide)) rfl (aa_pen (pv 0) (aa_cons ae_int aa_nil))))) (pg_sub (pv 6) (ae_r (ar_call (c_law_draw T) (hr.mono (by decide)) rfl (aa_pen (pv 0) (aa_cons (ae_cbF pkLow (pe_callB call_len_seq rfl T.n_len boot_len (ab_lend (pv 6) ab_nil)) vc_len) aa_nil)))) set_list))))
  ass_nil)
 (ass_one (as_fz (k:=6) (as_app (ps_expr (pe_bm PySem.F.plainAttrs_list PySem.F.slot_list_append PySem.F.type_list_append mt_append (pv 3) (pa_cons (ae_cb (t:=tNil) (pe_callTy call_tuple_of rfl T.n_tuple boot_tuple (ad_cons (ae_var (pv 6)) ad_nil)) vc_tup) pa_nil)))))))))))
 (ass_one (as_fz (k:=3) (as_ret (ae_cb (t:=tNil) (pe_callTy call_tuple_of rfl T.n_tuple boot_tuple (ad_cons (ae_var (pv 3)) ad_nil)) vc_tup))))))
noncomputable def m_law_dearer:List Sl→Tr Re:=aDef 3 1
 (aSeq (aSet 3 (aBin ixD (aLst (aLo (aCons (aC (.int 1)) (aCons (aBin addD (aC (.int 1)) (aRe (aCall m_law_draw (aaPen 0 (aaCons (aC (.int 20)) aaNil))))) (aCons (aBin addD (aC (.int 1)) (aRe (aCall m_law_draw (aaPen 0 (aaCons (aC (.int 1000000)) aaNil))))) aNil))))) (aRe (aCall m_law_draw (aaPen 0 (aaCons (aC (.int 3)) aaNil))))))
 (aRet (aBin addD (aBin addD (aSl (aVar 1) aP0 (aP1 (aVar 2))) (aTup (aCons (aCB min2D (aCons (aC (.int 1000000)) (aCons (aBin addD (aBin ixD (aVar 1) (aVar 2)) (aVar 3)) aNil))) aNil))) (aSl (aVar 1) (aP1 (aBin addD (aVar 2) (aC (.int 1)))) aP0))))
set_option maxHeartbeats 2000000 in
theorem c_law_dearer (T:Txt K mg):ACal (PK2 (K,cn)) P w K mg base "_law_dearer" 2 ["_law_pen_here","_law_shop_here","_law_at"] m_law_dearer:=acal_of T.d__law_dearer sc__law_dearer rfl fun f cdv A outer sh H E hr=>by
  exact (ass_cons (as_set (ps_set (i:=3) sc__law_dearer.nd rfl (Or.inl rfl) (ae_ix ix_seq vo_ix (ae_o (ao_lst (ad_cons ae_int (ad_cons (ae_op op_addD vo_add ae_int (ae_r (ar_call (c_law_draw T) (hr.mono (by decide)) rfl (aa_pen (pv 0) (aa_cons ae_int aa_nil))))) (ad_cons (ae_op op_addD vo_add ae_int (ae_r (ar_call (c_law_draw T) (hr.mono (by decide)) rfl (aa_pen (pv 0) (aa_cons ae_int aa_nil))))) ad_nil))))) (ae_r (ar_call (c_law_draw T) (hr.mono (by decide)) rfl (aa_pen (pv 0) (aa_cons ae_int aa_nil)))) (fun _ _=>rfl))))
 (ass_one (as_ret (ae_op op_addD vo_add (ae_op op_addD vo_add (ae_sl (ae_var (pv 1)) ap_none (ap_some (ae_var (pv 2)))) (ae_tup (ad_cons (ae_cb (t:=tNil) (pe_callB (call_min2 rfl) rfl T.n_min boot_min (ad_cons ae_int (ad_cons (ae_op op_addD vo_add (ae_ix ix_seq vo_ix (ae_var (pv 1)) (ae_var (pv 2)) (fun _ _=>rfl)) (ae_var (pv 3))) ad_nil))) vc_min2) ad_nil))) (ae_sl (ae_var (pv 1)) (ap_some (ae_op op_addD vo_add (ae_var (pv 2)) ae_int)) ap_none)))))
noncomputable def l_weighed_1:List Sl→Tr Ou :=
 (aSeq (aSet 8 (aBin ixD (aVar 3) (aBin addD (aRe (aCall m_next_stock (aaCons (aVar 0) (aaCons (aVar 2) (aaCons (aVar 6) aaNil))))) (aBin ixD (aVar 0) (aC (.int 1))))))
 (aAug iaddD 5 (aBin mulD' (aVar 7) (aBin addD (aBin mulD' (aVar 4) (aRe (aCall m_day_cost (aaCons (aVar 0) (aaCons (aVar 2) (aaCons (aVar 6) aaNil)))))) (aVar 8)))))
noncomputable def m_weighed:List Sl→Tr Re:=aDef 5 4
 (aSeq (aSet 5 (aC (.int 0)))
 (aSeq (aFor (aEnum (aVar 1)) (gTupD (gsCons (gSet 6) (gsCons (gSet 7) gsNil))) l_weighed_1)
 (aRetV 5)))
set_option maxHeartbeats 2000000 in
theorem c_weighed (T:Txt K mg):ACal (PK2 (K,cn)) P w K mg base "weighed" 3 ["shop","day","level","ahead","scale"] m_weighed:=acal_of T.d_weighed sc_weighed rfl fun f cdv A outer sh H E hr=>by
  exact (ass_cons (as_set (ps_set (i:=5) sc_weighed.nd rfl (Or.inl rfl) ae_int))
 (ass_cons (as_for PassesOwn.never rfl (ai_enum (pi_enum rfl rfl T.n_enumerate (ae_var (pv 1)))) (ag_tup rfl (ags_cons (ag_name (pg_name (i:=6) sc_weighed.nd rfl (Or.inl rfl))) (ags_cons (ag_name (pg_name (i:=7) sc_weighed.nd rfl (Or.inl rfl))) ags_nil)) (gsLen_cons (gsLen_cons gsLen_nil)))
  (ass_cons (as_set (ps_set (i:=8) sc_weighed.nd rfl (Or.inl rfl) (ae_ix ix_seq vo_ix (ae_var (pv 3)) (ae_op op_addD vo_add (ae_r (ar_call (c_next_stock T) (hr.mono (by decide)) rfl (aa_cons (ae_var (pv 0)) (aa_cons (ae_var (pv 2)) (aa_cons (ae_var (pv 6)) aa_nil))))) (ae_ix ix_seq vo_ix (ae_var (pv 0)) (ae_gint rfl T.g_DEPTH) (fun _ _=>rfl))) (fun _ _=>rfl))))
 (ass_one (as_aug vo_iadd (ps_aug (i:=5) sc_weighed.nd rfl (Or.inl rfl) (ae_op op_mulD vo_mul (ae_var (pv 7)) (ae_op op_addD vo_add (ae_op op_mulD vo_mul (ae_var (pv 4)) (ae_r (ar_call (c_day_cost T) (hr.mono (by decide)) rfl (aa_cons (ae_var (pv 0)) (aa_cons (ae_var (pv 2)) (aa_cons (ae_var (pv 6)) aa_nil)))))) (ae_var (pv 8)))) (pip iop_add))))))
 (ass_one (as_retV (pv 5)))))
noncomputable def w_marks_by_1:List Sl→Tr Bool :=
 (aAnd (aTest (aBin (cmpD fun i j=>decide (i > j)) (aVar 5) (aVar 3))) (aTest (aBin eqD (aBin ixD (aBin ixD (aVar 4) (aBin addD (aBin subD (aVar 5) (aC (.int 1))) (aBin ixD (aVar 0) (aC (.int 1))))) (aC (.int 1))) (aBin subD (aVar 5) (aC (.int 1))))))
noncomputable def l_marks_by_1:List Sl→Tr Ou :=
 (aAug subD 5 (aC (.int 1)))
noncomputable def l_marks_by_2:List Sl→Tr Ou :=
 (aIfS (aNot (aTru (aRe (aCall m_is_cheapest (aaCons (aVar 0) (aaCons (aVar 1) (aaCons (aVar 2) (aaCons (aVar 7) (aaCons (aVar 6) aaNil)))))))))
  (aRet (aTup (aCons (aC (.str "none")) (aCons (aVar 7) (aCons (aBin subD (aVar 5) (aC (.int 1))) aNil)))))
  aSkip)
noncomputable def m_marks_by:List Sl→Tr Re:=aDef 4 4
 (aSeq (aSet 4 (aRe (aCall m_cheapest (aaCons (aVar 0) (aaCons (aVar 1) (aaCons (aVar 2) aaNil))))))
 (aSeq (aSet 5 (aBin ixD (aVar 0) (aC (.int 0))))
 (aSeq (whL w_marks_by_1 l_marks_by_1 100000)
 (aSeq (aIfS (aTest (aBin eqD (aVar 5) (aVar 3)))
  (aRet (aTup (aCons (aC (.str "marks")) (aCons (aVar 3) (aCons (aVar 3) aNil)))))
  aSkip)
 (aSeq (aSet 6 (aBin ixD (aBin ixD (aVar 4) (aBin addD (aBin subD (aVar 5) (aC (.int 1))) (aBin ixD (aVar 0) (aC (.int 1))))) (aC (.int 1))))
 (aSeq (aFor (aRevR2 (aCons (aVar 3) (aCons (aBin subD (aVar 5) (aC (.int 1))) aNil))) (gSet 7) l_marks_by_2)
 (aRet (aTup (aCons (aC (.str "marks")) (aCons (aVar 5) (aCons (aVar 6) aNil)))))))))))
set_option maxHeartbeats 2000000 in
theorem c_marks_by (T:Txt K mg):ACal (PK2 (K,cn)) P w K mg base "marks_by" 3 ["shop","by_level","scale","least"] m_marks_by:=acal_of T.d_marks_by sc_marks_by rfl fun f cdv A outer sh H E hr=>by
  exact (ass_cons (as_set (ps_set (i:=4) sc_marks_by.nd rfl (Or.inl rfl) (ae_r (ar_call (c_cheapest T) (hr.mono (by decide)) rfl (aa_cons (ae_var (pv 0)) (aa_cons (ae_var (pv 1)) (aa_cons (ae_var (pv 2)) aa_nil)))))))
 (ass_cons (as_set (ps_set (i:=5) sc_marks_by.nd rfl (Or.inl rfl) (ae_ix ix_seq vo_ix (ae_var (pv 0)) (ae_gint rfl T.g_TOP) (fun _ _=>rfl))))
 (ass_cons (as_while 100000 PassesOwn.never (at_w (aw_and (at_cmp op_gt vo_cmp (ae_var (pv 5)) (ae_var (pv 3)) (nomark _)) (aw_and1 (at_cmp (op_eqA hr) vo_eq (ae_ix ix_seq vo_ix (ae_ix ix_seq vo_ix (ae_var (pv 4)) (ae_op op_addD vo_add (ae_op op_sub vo_sub (ae_var (pv 5)) ae_int) (ae_ix ix_seq vo_ix (ae_var (pv 0)) (ae_gint rfl T.g_DEPTH) (fun _ _=>rfl))) (fun _ _=>rfl)) ae_int (fun _ _=>rfl)) (ae_op op_sub vo_sub (ae_var (pv 5)) ae_int) (nomark _)))))
  (ass_one (as_aug vo_sub (ps_aug (i:=5) sc_marks_by.nd rfl (Or.inl rfl) ae_int (pip iop_sub)))))
 (ass_cons (as_if (at_cmp (op_eqA hr) vo_eq (ae_var (pv 5)) (ae_var (pv 3)) (nomark _))
  (ass_one (as_ret (ae_tup (ad_cons ae_str (ad_cons (ae_var (pv 3)) (ad_cons (ae_var (pv 3)) ad_nil))))))
  ass_nil)
 (ass_cons (as_set (ps_set (i:=6) sc_marks_by.nd rfl (Or.inl rfl) (ae_ix ix_seq vo_ix (ae_ix ix_seq vo_ix (ae_var (pv 4)) (ae_op op_addD vo_add (ae_op op_sub vo_sub (ae_var (pv 5)) ae_int) (ae_ix ix_seq vo_ix (ae_var (pv 0)) (ae_gint rfl T.g_DEPTH) (fun _ _=>rfl))) (fun _ _=>rfl)) ae_int (fun _ _=>rfl))))
 (ass_cons (as_for PassesOwn.never rfl (ai_revr2 (pi_rev rfl T.n_reversed (pe_callTy call_rangeV2 rfl T.n_range boot_range (ad_cons (ae_var (pv 3)) (ad_cons (ae_op op_sub vo_sub (ae_var (pv 5)) ae_int) ad_nil))))) (ag_name (pg_name (i:=7) sc_marks_by.nd rfl (Or.inl rfl)))
  (ass_one (as_if (at_not (at_tru (ae_r (ar_call (c_is_cheapest T) (hr.mono (by decide)) rfl (aa_cons (ae_var (pv 0)) (aa_cons (ae_var (pv 1)) (aa_cons (ae_var (pv 2)) (aa_cons (ae_var (pv 7)) (aa_cons (ae_var (pv 6)) aa_nil)))))))))
  (ass_one (as_ret (ae_tup (ad_cons ae_str (ad_cons (ae_var (pv 7)) (ad_cons (ae_op op_sub vo_sub (ae_var (pv 5)) ae_int) ad_nil))))))
  ass_nil)))
 (ass_one (as_ret (ae_tup (ad_cons ae_str (ad_cons (ae_var (pv 5)) (ad_cons (ae_var (pv 6)) ad_nil))))))))))))
noncomputable def m_law_shop:List Sl→Tr Re:=aDef 2 5
 (aSeq (aSet 2 (aBin addD (aC (.int 1)) (aRe (aCall m_law_draw (aaPen 0 (aaCons (aC (.int 6)) aaNil))))))
 (aSeq (aSet 3 (aRe (aCall m_law_falls (aaPen 0 (aaCons (aVar 2) (aaCons (aBin ixD (aLst (aLo (aCons (aC (.int 8)) (aCons (aC (.int 8)) (aCons (aC (.int 8)) (aCons (aC (.int 6)) (aCons (aC (.int 5)) (aCons (aC (.int 4)) aNil)))))))) (aBin subD (aVar 2) (aC (.int 1)))) aaNil))))))
 (aSeq (aSet 4 (aBin subD (aC (.int 39)) (aRe (aCall m_law_reach (aaCons (aVar 3) aaNil)))))
 (aSeq (aSet 5 (aRe (aCall m_law_draw (aaPen 0 (aaCons (aBin addD (aCB min2D (aCons (aVar 4) (aCons (aBin ixD (aLst (aLo (aCons (aC (.int 2)) (aCons (aC (.int 12)) (aCons (aC (.int 12)) aNil))))) (aRe (aCall m_law_draw (aaPen 0 (aaCons (aC (.int 3)) aaNil))))) aNil))) (aC (.int 1))) aaNil)))))
 (aSeq (aSet 6 (aRe (aCall m_law_draw (aaPen 0 (aaCons (aC (.int 8)) aaNil)))))
 (aSeq (aIfS (aTru (aVar 1))
  (aSet 6 (aBin addD (aBin subD (aC (.int 39)) (aVar 4)) (aCB min2D (aCons (aBin subD (aVar 4) (aVar 5)) (aCons (aRe (aCall m_law_draw (aaPen 0 (aaCons (aC (.int 4)) aaNil)))) aNil)))))
  aSkip)
 (aRetO (aLo (aCons (aBin addD (aTup (aCons (aVar 5) (aCons (aVar 6) aNil))) (aRe (aCall m_law_prices (aaPen 0 aaNil)))) (aCons (aVar 3) aNil))))))))))
set_option maxHeartbeats 2000000 in
theorem c_law_shop (T:Txt K mg):ACal (PK2 (K,cn)) P w K mg base "_law_shop" 3 ["_law_pen_here","_law_is_free"] m_law_shop:=acal_of T.d__law_shop sc__law_shop rfl fun f cdv A outer sh H E hr=>by
  exact (ass_cons (as_set (ps_set (i:=2) sc__law_shop.nd rfl (Or.inl rfl) (ae_op op_addD vo_add ae_int (ae_r (ar_call (c_law_draw T) (hr.mono (by decide)) rfl (aa_pen (pv 0) (aa_cons ae_int aa_nil)))))))
 (ass_cons (as_set (ps_set (i:=3) sc__law_shop.nd rfl (Or.inl rfl) (ae_r (ar_call (c_law_falls T) (hr.mono (by decide)) rfl (aa_pen (pv 0) (aa_cons (ae_var (pv 2)) (aa_cons (ae_ix ix_seq vo_ix (ae_o (ao_lst (ad_cons ae_int (ad_cons ae_int (ad_cons ae_int (ad_cons ae_int (ad_cons ae_int (ad_cons ae_int ad_nil)))))))) (ae_op op_sub vo_sub (ae_var (pv 2)) ae_int) (fun _ _=>rfl)) aa_nil)))))))
 (ass_cons (as_set (ps_set (i:=4) sc__law_shop.nd rfl (Or.inl rfl) (ae_op op_sub vo_sub ae_int (ae_r (ar_call (c_law_reach T) (hr.mono (by decide)) rfl (aa_cons (ae_var (pv 3)) aa_nil))))))
 (ass_cons (as_set (ps_set (i:=5) sc__law_shop.nd rfl (Or.inl rfl) (ae_r (ar_call (c_law_draw T) (hr.mono (by decide)) rfl (aa_pen (pv 0) (aa_cons (ae_op op_addD vo_add (ae_cb (t:=tNil) (pe_callB (call_min2 rfl) rfl T.n_min boot_min (ad_cons (ae_var (pv 4)) (ad_cons (ae_ix ix_seq vo_ix (ae_o (ao_lst (ad_cons ae_int (ad_cons ae_int (ad_cons ae_int ad_nil))))) (ae_r (ar_call (c_law_draw T) (hr.mono (by decide)) rfl (aa_pen (pv 0) (aa_cons ae_int aa_nil)))) (fun _ _=>rfl)) ad_nil))) vc_min2) ae_int) aa_nil))))))
 (ass_cons (as_set (ps_set (i:=6) sc__law_shop.nd rfl (Or.inl rfl) (ae_r (ar_call (c_law_draw T) (hr.mono (by decide)) rfl (aa_pen (pv 0) (aa_cons ae_int aa_nil))))))
 (ass_cons (as_if (at_tru (ae_var (pv 1)))
  (ass_one (as_set (ps_set (i:=6) sc__law_shop.nd rfl (Or.inl rfl) (ae_op op_addD vo_add (ae_op op_sub vo_sub ae_int (ae_var (pv 4))) (ae_cb (t:=tNil) (pe_callB (call_min2 rfl) rfl T.n_min boot_min (ad_cons (ae_op op_sub vo_sub (ae_var (pv 4)) (ae_var (pv 5))) (ad_cons (ae_r (ar_call (c_law_draw T) (hr.mono (by decide)) rfl (aa_pen (pv 0) (aa_cons ae_int aa_nil)))) ad_nil))) vc_min2)))))
  ass_nil)
 (ass_one (as_retO (ao_lst (ad_cons (ae_op op_addD vo_add (ae_tup (ad_cons (ae_var (pv 5)) (ad_cons (ae_var (pv 6)) ad_nil))) (ae_r (ar_call (c_law_prices T) (hr.mono (by decide)) rfl (aa_pen (pv 0) aa_nil)))) (ad_cons (ae_var (pv 3)) ad_nil)))))))))))
noncomputable def q_level_sums_1:List Sl→Tr PyData :=
 (aBin addD (aBin mulD' (aBin mulD' (aVar 5) (aBin ixD (aVar 1) (aC (.int 3)))) (aVar 0)) (aRe (aCall m_weighed (aaCons (aVar 1) (aaCons (aVar 2) (aaCons (aVar 0) (aaCons (aVar 3) (aaCons (aVar 4) aaNil))))))))
noncomputable def m_level_sums:List Sl→Tr Re:=aDef 4 1
 (aSeq (aSet 4 (aBin mulD' (aVar 3) (aCB sumD (aCons (aVar 1) aNil))))
 (aRetO (aLc (aIt (aRe (aCall m_stocks (aaCons (aVar 0) aaNil)))) 1 [0,1,2,3,4] (gSet 0) q_level_sums_1)))
set_option maxHeartbeats 2000000 in
theorem c_level_sums (T:Txt K mg):ACal (PK2 (K,cn)) P w K mg base "level_sums" 4 ["shop","day","ahead","scale"] m_level_sums:=acal_of T.d_level_sums sc_level_sums rfl fun f cdv A outer sh H E hr=>by
  exact (ass_cons (as_set (ps_set (i:=4) sc_level_sums.nd rfl (Or.inr rfl) (ae_op op_mulD vo_mul (ae_var (pv 3)) (ae_cb (t:=tNil) (pe_callB (call_sumD rfl) rfl T.n_sum boot_sum (ad_cons (ae_var (pv 1)) ad_nil)) vc_sum))))
 (ass_one (as_retO (ao_lc (pe_lc N_level_sums ["level"] [0,1,2,3,4] rfl (ai_seq (ae_r (ar_call (c_stocks T) (hr.mono (by decide)) rfl (aa_cons (ae_var (pv 0)) aa_nil)))) (fun b=>(ag_name (pg_name (i:=0) (show ((bN N_level_sums ["level"] [0,1,2,3,4])).Nodup by decide +kernel) rfl (Or.inl rfl)))) (fun b=>(ae_op op_addD vo_add (ae_op op_mulD vo_mul (ae_op op_mulD vo_mul (ae_var (pv 5)) (ae_ix ix_seq vo_ix (ae_var (pv 1)) (ae_gint rfl T.g_PIECE) (fun _ _=>rfl))) (ae_var (pv 0))) (ae_r (ar_call (c_weighed T) (hr.mono (by decide)) rfl (aa_cons (ae_var (pv 1)) (aa_cons (ae_var (pv 2)) (aa_cons (ae_var (pv 0)) (aa_cons (ae_var (pv 3)) (aa_cons (ae_var (pv 4)) aa_nil))))))))) rfl (show BlkOk N_level_sums (defScope s_level_sums) _ [0,1,2,3,4] from ⟨rfl,by decide +kernel,by decide +kernel,by decide +kernel,by decide +kernel⟩)) (pres_set (by decide))))))
noncomputable def q_day_sums_1:List Sl→Tr PyData :=
 (aVar 0)
noncomputable def l_day_sums_1:List Sl→Tr Ou :=
 (aSeq (aSet 6 (aRe (aCall m_level_sums (aaCons (aVar 0) (aaCons (aVar 5) (aaCons (aVar 3) (aaCons (aVar 4) aaNil)))))))
 (aSeq (aAug imulD 4 (aCB sumD (aCons (aVar 5) aNil)))
 (aSet 3 (aLst (aLc (aIt (aRe (aCall m_cheapest (aaCons (aVar 0) (aaCons (aVar 6) (aaCons (aVar 4) aaNil)))))) 2 [] (gTupD (gsCons (gSet 0) (gsCons (gSet 1) gsNil))) q_day_sums_1)))))
noncomputable def m_day_sums:List Sl→Tr Re:=aDef 3 4
 (aSeq (aSet 3 (aRe (aCall m_end_costs (aaCons (aVar 0) aaNil))))
 (aSeq (aSet 4 (aC (.int 1)))
 (aSeq (aFor (aRevI (aSl (aVar 1) (aP1 (aBin addD (aVar 2) (aC (.int 1)))) aP0)) (gSet 5) l_day_sums_1)
 (aRet (aTup (aCons (aRe (aCall m_level_sums (aaCons (aVar 0) (aaCons (aBin ixD (aVar 1) (aVar 2)) (aaCons (aVar 3) (aaCons (aVar 4) aaNil)))))) (aCons (aBin mulD' (aVar 4) (aCB sumD (aCons (aBin ixD (aVar 1) (aVar 2)) aNil))) aNil)))))))
set_option maxHeartbeats 2000000 in
theorem c_day_sums (T:Txt K mg):ACal (PK2 (K,cn)) P w K mg base "day_sums" 5 ["shop","falls","t"] m_day_sums:=acal_of T.d_day_sums sc_day_sums rfl fun f cdv A outer sh H E hr=>by
  exact (ass_cons (as_set (ps_set (i:=3) sc_day_sums.nd rfl (Or.inl rfl) (ae_r (ar_call (c_end_costs T) (hr.mono (by decide)) rfl (aa_cons (ae_var (pv 0)) aa_nil)))))
 (ass_cons (as_set (ps_set (i:=4) sc_day_sums.nd rfl (Or.inl rfl) ae_int))
 (ass_cons (as_for PassesOwn.never rfl (ai_rev (pi_rev rfl T.n_reversed (ae_sl (ae_var (pv 1)) (ap_some (ae_op op_addD vo_add (ae_var (pv 2)) ae_int)) ap_none))) (ag_name (pg_name (i:=5) sc_day_sums.nd rfl (Or.inl rfl)))
  (ass_cons (as_set (ps_set (i:=6) sc_day_sums.nd rfl (Or.inl rfl) (ae_r (ar_call (c_level_sums T) (hr.mono (by decide)) rfl (aa_cons (ae_var (pv 0)) (aa_cons (ae_var (pv 5)) (aa_cons (ae_var (pv 3)) (aa_cons (ae_var (pv 4)) aa_nil))))))))
 (ass_cons (as_aug vo_imul (ps_aug (i:=4) sc_day_sums.nd rfl (Or.inl rfl) (ae_cb (t:=tNil) (pe_callB (call_sumD rfl) rfl T.n_sum boot_sum (ad_cons (ae_var (pv 5)) ad_nil)) vc_sum) (pip iop_mulG)))
 (ass_one (as_setLcD (ps_setLc (i:=3) N_day_sums ["cost","level"] [] rfl sc_day_sums.nd rfl rfl (ai_seq (ae_r (ar_call (c_cheapest T) (hr.mono (by decide)) rfl (aa_cons (ae_var (pv 0)) (aa_cons (ae_var (pv 6)) (aa_cons (ae_var (pv 4)) aa_nil)))))) (fun b=>(ag_tup rfl (ags_cons (ag_name (pg_name (i:=0) (show ((bN N_day_sums ["cost","level"] [])).Nodup by decide +kernel) rfl (Or.inl rfl))) (ags_cons (ag_name (pg_name (i:=1) (show ((bN N_day_sums ["cost","level"] [])).Nodup by decide +kernel) rfl (Or.inl rfl))) ags_nil)) (gsLen_cons (gsLen_cons gsLen_nil)))) (fun b=>(ae_var (pv 0))) rfl (show BlkOk N_day_sums (defScope s_day_sums) _ [] from ⟨rfl,by decide +kernel,by decide +kernel,by decide +kernel,by decide +kernel⟩) rfl) (pres_tup (pres_cons (pres_set (by decide)) (pres_cons (pres_set (by decide)) pres_nil))))))))
 (ass_one (as_ret (ae_tup (ad_cons (ae_r (ar_call (c_level_sums T) (hr.mono (by decide)) rfl (aa_cons (ae_var (pv 0)) (aa_cons (ae_ix ix_seq vo_ix (ae_var (pv 1)) (ae_var (pv 2)) (fun _ _=>rfl)) (aa_cons (ae_var (pv 3)) (aa_cons (ae_var (pv 4)) aa_nil)))))) (ad_cons (ae_op op_mulD vo_mul (ae_var (pv 4)) (ae_cb (t:=tNil) (pe_callB (call_sumD rfl) rfl T.n_sum boot_sum (ad_cons (ae_ix ix_seq vo_ix (ae_var (pv 1)) (ae_var (pv 2)) (fun _ _=>rfl)) ad_nil)) vc_sum)) ad_nil))))))))
noncomputable def m_marks:List Sl→Tr Re:=aDef 4 2
 (aSeq (aAsg (gTupD (gsCons (gSet 4) (gsCons (gSet 5) gsNil))) (aRe (aCall m_day_sums (aaCons (aVar 0) (aaCons (aVar 1) (aaCons (aVar 2) aaNil))))))
 (aRetR (aCall m_marks_by (aaCons (aVar 0) (aaCons (aVar 4) (aaCons (aVar 5) (aaCons (aVar 3) aaNil)))))))
set_option maxHeartbeats 2000000 in
theorem c_marks (T:Txt K mg):ACal (PK2 (K,cn)) P w K mg base "marks" 6 ["shop","falls","t","least"] m_marks:=acal_of T.d_marks sc_marks rfl fun f cdv A outer sh H E hr=>by
  exact (ass_cons (as_asg (ps_asg (ae_r (ar_call (c_day_sums T) (hr.mono (by decide)) rfl (aa_cons (ae_var (pv 0)) (aa_cons (ae_var (pv 1)) (aa_cons (ae_var (pv 2)) aa_nil))))) (ag_tup rfl (ags_cons (ag_name (pg_name (i:=4) sc_marks.nd rfl (Or.inl rfl))) (ags_cons (ag_name (pg_name (i:=5) sc_marks.nd rfl (Or.inl rfl))) ags_nil)) (gsLen_cons (gsLen_cons gsLen_nil)))))
 (ass_one (as_retR (ar_call (c_marks_by T) (hr.mono (by decide)) rfl (aa_cons (ae_var (pv 0)) (aa_cons (ae_var (pv 4)) (aa_cons (ae_var (pv 5)) (aa_cons (ae_var (pv 3)) aa_nil))))))))
noncomputable def m_law_rises:List Sl→Tr Re:=aDef 5 2
 (aSeq (aSet 5 (aRe (aCall m_marks (aaCons (aVar 0) (aaCons (aVar 2) (aaCons (aVar 3) (aaCons (aVar 4) aaNil)))))))
 (aSeq (aSet 6 (aRe (aCall m_marks (aaCons (aVar 1) (aaCons (aVar 2) (aaCons (aVar 3) (aaCons (aVar 4) aaNil)))))))
 (aSeq (aIfS (aOr (aTest (aBin neD (aBin ixD (aVar 5) (aC (.int 0))) (aC (.str "marks")))) (aTest (aBin neD (aBin ixD (aVar 6) (aC (.int 0))) (aC (.str "marks")))))
  (aRet (aC (.bool false)))
  aSkip)
 (aRet (aAndV (aBin (cmpD fun i j=>decide (i≤j)) (aBin ixD (aVar 5) (aC (.int 1))) (aBin ixD (aVar 6) (aC (.int 1)))) (aBin (cmpD fun i j=>decide (i≤j)) (aBin ixD (aVar 5) (aC (.int 2))) (aBin ixD (aVar 6) (aC (.int 2)))))))))
set_option maxHeartbeats 2000000 in
theorem c_law_rises (T:Txt K mg):ACal (PK2 (K,cn)) P w K mg base "_law_rises" 7 ["_law_one","_law_other","_law_falls_here","_law_t","_law_begin"] m_law_rises:=acal_of T.d__law_rises sc__law_rises rfl fun f cdv A outer sh H E hr=>by
  exact (ass_cons (as_set (ps_set (i:=5) sc__law_rises.nd rfl (Or.inl rfl) (ae_r (ar_call (c_marks T) (hr.mono (by decide)) rfl (aa_cons (ae_var (pv 0)) (aa_cons (ae_var (pv 2)) (aa_cons (ae_var (pv 3)) (aa_cons (ae_var (pv 4)) aa_nil))))))))
 (ass_cons (as_set (ps_set (i:=6) sc__law_rises.nd rfl (Or.inl rfl) (ae_r (ar_call (c_marks T) (hr.mono (by decide)) rfl (aa_cons (ae_var (pv 1)) (aa_cons (ae_var (pv 2)) (aa_cons (ae_var (pv 3)) (aa_cons (ae_var (pv 4)) aa_nil))))))))
 (ass_cons (as_if (at_w (aw_or (at_cmp (op_neA hr) vo_ne (ae_ix ix_seq vo_ix (ae_var (pv 5)) ae_int (fun _ _=>rfl)) ae_str (nomark _)) (aw_or1 (at_cmp (op_neA hr) vo_ne (ae_ix ix_seq vo_ix (ae_var (pv 6)) ae_int (fun _ _=>rfl)) ae_str (nomark _)))))
  (ass_one (as_ret ae_bl))
  ass_nil)
 (ass_one (as_ret (ae_and (ae_cmp op_le vo_cmp (ae_ix ix_seq vo_ix (ae_var (pv 5)) ae_int (fun _ _=>rfl)) (ae_ix ix_seq vo_ix (ae_var (pv 6)) ae_int (fun _ _=>rfl)) (nomark _)) (ae_one (ae_cmp op_le vo_cmp (ae_ix ix_seq vo_ix (ae_var (pv 5)) ae_int (fun _ _=>rfl)) (ae_ix ix_seq vo_ix (ae_var (pv 6)) ae_int (fun _ _=>rfl)) (nomark _)))))))))
noncomputable def m_law_day_right:List Sl→Tr Re:=aDef 4 4
 (aSeq (aSet 4 (aRe (aCall m_free_from (aaCons (aVar 1) (aaCons (aVar 2) (aaCons (aVar 3) aaNil))))))
 (aSeq (aIfS (aTest (aBin (cmpD fun i j=>decide (i > j)) (aVar 4) (aBin ixD (aVar 1) (aC (.int 0)))))
  (aRet (aC (.bool true)))
  aSkip)
 (aSeq (aSet 4 (aBin addD (aVar 4) (aBin ixD (aLst (aLo (aCons (aC (.int 0)) (aCons (aRe (aCall m_law_draw (aaPen 0 (aaCons (aBin addD (aBin subD (aBin ixD (aVar 1) (aC (.int 0))) (aVar 4)) (aC (.int 1))) aaNil)))) aNil)))) (aRe (aCall m_law_draw (aaPen 0 (aaCons (aC (.int 2)) aaNil)))))))
 (aSeq (aSet 5 (aRe (aCall m_law_dearer (aaPen 0 (aaCons (aVar 1) (aaCons (aC (.int 5)) aaNil))))))
 (aSeq (aSet 6 (aRe (aCall m_law_dearer (aaPen 0 (aaCons (aVar 1) (aaCons (aC (.int 4)) aaNil))))))
 (aSeq (aSet 7 (aRe (aCall m_law_dearer (aaPen 0 (aaCons (aVar 5) (aaCons (aC (.int 4)) aaNil))))))
 (aSeq (aIfS (aOr (aNot (aTru (aRe (aCall m_law_rises (aaCons (aVar 1) (aaCons (aVar 5) (aaCons (aVar 2) (aaCons (aVar 3) (aaCons (aVar 4) aaNil))))))))) (aNot (aTru (aRe (aCall m_law_rises (aaCons (aVar 6) (aaCons (aVar 1) (aaCons (aVar 2) (aaCons (aVar 3) (aaCons (aVar 4) aaNil))))))))))
  (aRet (aC (.bool false)))
  aSkip)
 (aRet (aAndV (aRe (aCall m_law_rises (aaCons (aVar 6) (aaCons (aRe (aCall m_law_dearer (aaPen 0 (aaCons (aVar 6) (aaCons (aC (.int 5)) aaNil))))) (aaCons (aVar 2) (aaCons (aVar 3) (aaCons (aVar 4) aaNil))))))) (aRe (aCall m_law_rises (aaCons (aVar 7) (aaCons (aVar 5) (aaCons (aVar 2) (aaCons (aVar 3) (aaCons (aVar 4) aaNil))))))))))))))))
set_option maxHeartbeats 2000000 in
theorem c_law_day_right (T:Txt K mg):ACal (PK2 (K,cn)) P w K mg base "_law_day_right" 8 ["_law_pen_here","_law_shop_here","_law_falls_here","_law_t"] m_law_day_right:=acal_of T.d__law_day_right sc__law_day_right rfl fun f cdv A outer sh H E hr=>by
  exact (ass_cons (as_set (ps_set (i:=4) sc__law_day_right.nd rfl (Or.inl rfl) (ae_r (ar_call (c_free_from T) (hr.mono (by decide)) rfl (aa_cons (ae_var (pv 1)) (aa_cons (ae_var (pv 2)) (aa_cons (ae_var (pv 3)) aa_nil)))))))
 (ass_cons (as_if (at_cmp op_gt vo_cmp (ae_var (pv 4)) (ae_ix ix_seq vo_ix (ae_var (pv 1)) ae_int (fun _ _=>rfl)) (nomark _))
  (ass_one (as_ret ae_bl))
  ass_nil)
 (ass_cons (as_set (ps_set (i:=4) sc__law_day_right.nd rfl (Or.inl rfl) (ae_op op_addD vo_add (ae_var (pv 4)) (ae_ix ix_seq vo_ix (ae_o (ao_lst (ad_cons ae_int (ad_cons (ae_r (ar_call (c_law_draw T) (hr.mono (by decide)) rfl (aa_pen (pv 0) (aa_cons (ae_op op_addD vo_add (ae_op op_sub vo_sub (ae_ix ix_seq vo_ix (ae_var (pv 1)) ae_int (fun _ _=>rfl)) (ae_var (pv 4))) ae_int) aa_nil)))) ad_nil)))) (ae_r (ar_call (c_law_draw T) (hr.mono (by decide)) rfl (aa_pen (pv 0) (aa_cons ae_int aa_nil)))) (fun _ _=>rfl)))))
 (ass_cons (as_set (ps_set (i:=5) sc__law_day_right.nd rfl (Or.inl rfl) (ae_r (ar_call (c_law_dearer T) (hr.mono (by decide)) rfl (aa_pen (pv 0) (aa_cons (ae_var (pv 1)) (aa_cons ae_int aa_nil)))))))
 (ass_cons (as_set (ps_set (i:=6) sc__law_day_right.nd rfl (Or.inl rfl) (ae_r (ar_call (c_law_dearer T) (hr.mono (by decide)) rfl (aa_pen (pv 0) (aa_cons (ae_var (pv 1)) (aa_cons ae_int aa_nil)))))))
 (ass_cons (as_set (ps_set (i:=7) sc__law_day_right.nd rfl (Or.inl rfl) (ae_r (ar_call (c_law_dearer T) (hr.mono (by decide)) rfl (aa_pen (pv 0) (aa_cons (ae_var (pv 5)) (aa_cons ae_int aa_nil)))))))
 (ass_cons (as_if (at_w (aw_or (at_not (at_tru (ae_r (ar_call (c_law_rises T) (hr.mono (by decide)) rfl (aa_cons (ae_var (pv 1)) (aa_cons (ae_var (pv 5)) (aa_cons (ae_var (pv 2)) (aa_cons (ae_var (pv 3)) (aa_cons (ae_var (pv 4)) aa_nil))))))))) (aw_or1 (at_not (at_tru (ae_r (ar_call (c_law_rises T) (hr.mono (by decide)) rfl (aa_cons (ae_var (pv 6)) (aa_cons (ae_var (pv 1)) (aa_cons (ae_var (pv 2)) (aa_cons (ae_var (pv 3)) (aa_cons (ae_var (pv 4)) aa_nil))))))))))))
  (ass_one (as_ret ae_bl))
  ass_nil)
 (ass_one (as_ret (ae_and (ae_r (ar_call (c_law_rises T) (hr.mono (by decide)) rfl (aa_cons (ae_var (pv 6)) (aa_cons (ae_r (ar_call (c_law_dearer T) (hr.mono (by decide)) rfl (aa_pen (pv 0) (aa_cons (ae_var (pv 6)) (aa_cons ae_int aa_nil))))) (aa_cons (ae_var (pv 2)) (aa_cons (ae_var (pv 3)) (aa_cons (ae_var (pv 4)) aa_nil))))))) (ae_one (ae_r (ar_call (c_law_rises T) (hr.mono (by decide)) rfl (aa_cons (ae_var (pv 7)) (aa_cons (ae_var (pv 5)) (aa_cons (ae_var (pv 2)) (aa_cons (ae_var (pv 3)) (aa_cons (ae_var (pv 4)) aa_nil))))))))))))))))))
noncomputable def l_law_1:List Sl→Tr Ou :=
 (aIfS (aNot (aTru (aRe (aCall m_law_day_right (aaPen 1 (aaCons (aVar 4) (aaCons (aVar 3) (aaCons (aVar 5) aaNil))))))))
  (aRet (aC (.bool false)))
  aSkip)
noncomputable def m_law:List Sl→Tr Ou :=
 (aSeq (aAsg (gLstD (gsCons (gSet 2) (gsCons (gSet 3) gsNil))) (aRe (aCall m_law_shop (aaPen 1 (aaCons (aC (.bool true)) aaNil)))))
 (aSeq (aSet 2 (aBin addD (aSl (aVar 2) aP0 (aP1 (aC (.int 7)))) (aTup (aCons (aCB min1D (aCons (aSl (aVar 2) (aP1 (aC (.int 7))) aP0) aNil)) (aCons (aCB max1D (aCons (aSl (aVar 2) (aP1 (aC (.int 7))) aP0) aNil)) aNil)))))
 (aSeq (aSet 4 (aBin addD (aBin addD (aSl (aVar 2) aP0 (aP1 (aC (.int 2)))) (aTup (aCons (aC (.int 0)) aNil))) (aSl (aVar 2) (aP1 (aC (.int 3))) aP0)))
 (aSeq (aIfS (aNot (aTru (aRe (aCall m_law_day_right (aaPen 1 (aaCons (aVar 2) (aaCons (aVar 3) (aaCons (aBin subD (aCB lenD (aCons (aVar 3) aNil)) (aC (.int 1))) aaNil))))))))
  (aRet (aC (.bool false)))
  aSkip)
 (aSeq (aFor (aIt (aLst (aCBo srtSD (aCons (aLst (aLo (aCons (aC (.int 0)) (aCons (aRe (aCall m_law_draw (aaPen 1 (aaCons (aCB lenD (aCons (aVar 3) aNil)) aaNil)))) aNil)))) aNil)))) (gSet 5) l_law_1)
 (aRet (aC (.bool true))))))))
noncomputable abbrev law0:List Sl:=.un::.pen::List.replicate 4 .un
set_option maxHeartbeats 4000000 in
theorem ok_law (T:Txt K mg) {f:Addr} {fd:FuncData} (F:Fun K "law" "law" s_law f fd) (hl:(m_law law0).ok 0 fun _ o=>o=.ret (.d (.bool true))):FnOk P w K mg base CX0 9 f fd ["_law_script"] (spLaw K):=by
  refine F.ok sc_law (fun vs H Q E h=>?_) (fun cdv A outer s H vs Q E hr h=>?_)
  · obtain ⟨a,ns,rfl,_⟩:=h
    rfl
  · obtain ⟨a,ns,rfl,hS,hlen,k⟩:=h
    have hu:=hu_of hr
    refine ⟨_,(pss_cons (ps_set (i:=1) sc_law.nd rfl (Or.inl rfl) (pe_callC (ok_pen T) (hr.mono (by decide)) rfl (pa_cons (pv 0) pa_nil)))
 (pss_ex (t:=fun cn=>TAs (PK2 (K,cn)) m_law) fun cn=>(ass_cons (as_asg (ps_asg (ae_r (ar_call (c_law_shop T) (hr.mono (by decide)) rfl (aa_pen (pv 1) (aa_cons ae_bl aa_nil)))) (ag_lst rfl (ags_cons (ag_name (pg_name (i:=2) sc_law.nd rfl (Or.inl rfl))) (ags_cons (ag_name (pg_name (i:=3) sc_law.nd rfl (Or.inl rfl))) ags_nil)) (gsLen_cons (gsLen_cons gsLen_nil)))))
 (ass_cons (as_set (ps_set (i:=2) sc_law.nd rfl (Or.inl rfl) (ae_op op_addD vo_add (ae_sl (ae_var (pv 2)) ap_none (ap_some ae_int)) (ae_tup (ad_cons (ae_cb (t:=tNil) (pe_callB (call_minD rfl) rfl T.n_min boot_min (ad_cons (ae_sl (ae_var (pv 2)) (ap_some ae_int) ap_none) ad_nil)) vc_min1) (ad_cons (ae_cb (t:=tNil) (pe_callB (call_maxD rfl) rfl T.n_max boot_max (ad_cons (ae_sl (ae_var (pv 2)) (ap_some ae_int) ap_none) ad_nil)) vc_max1) ad_nil))))))
 (ass_cons (as_set (ps_set (i:=4) sc_law.nd rfl (Or.inl rfl) (ae_op op_addD vo_add (ae_op op_addD vo_add (ae_sl (ae_var (pv 2)) ap_none (ap_some ae_int)) (ae_tup (ad_cons ae_int ad_nil))) (ae_sl (ae_var (pv 2)) (ap_some ae_int) ap_none))))
 (ass_cons (as_if (at_not (at_tru (ae_r (ar_call (c_law_day_right T) (hr.mono (by decide)) rfl (aa_pen (pv 1) (aa_cons (ae_var (pv 2)) (aa_cons (ae_var (pv 3)) (aa_cons (ae_op op_sub vo_sub (ae_cb (t:=tNil) (pe_callB call_len_seq rfl T.n_len boot_len (ad_cons (ae_var (pv 3)) ad_nil)) vc_len) ae_int) aa_nil))))))))
  (ass_one (as_ret ae_bl))
  ass_nil)
 (ass_cons (as_for PassesOwn.never rfl (ai_seq (ae_o (ao_srtS (pe_callB (call_sortS rfl) rfl T.n_sorted boot_sorted (pa_cons (pe_callTy (call_setI rfl) rfl T.n_set boot_set (ad_cons (ae_o (ao_lst (ad_cons ae_int (ad_cons (ae_r (ar_call (c_law_draw T) (hr.mono (by decide)) rfl (aa_pen (pv 1) (aa_cons (ae_cb (t:=tNil) (pe_callB call_len_seq rfl T.n_len boot_len (ad_cons (ae_var (pv 3)) ad_nil)) vc_len) aa_nil)))) ad_nil)))) ad_nil)) pa_nil))))) (ag_name (pg_name (i:=5) sc_law.nd rfl (Or.inl rfl)))
  (ass_one (as_if (at_not (at_tru (ae_r (ar_call (c_law_day_right T) (hr.mono (by decide)) rfl (aa_pen (pv 1) (aa_cons (ae_var (pv 4)) (aa_cons (ae_var (pv 3)) (aa_cons (ae_var (pv 5)) aa_nil))))))))
  (ass_one (as_ret ae_bl))
  ass_nil)))
 (ass_one (as_ret ae_bl))))))))),?_⟩
    refine ⟨_,rfl,a,ns,rfl,hS,hlen,fun p H' hp hP hs=>?_⟩
    exact law_start (n:=4) hP rfl rfl (fun H'=>k H') hl
end
end My
set_option Elab.async false
set_option linter.all false
set_option maxRecDepth 100000
local macro_rules | `(tactic| simp_arith [$ls,*] $[$loc]?) => do let b : Lean.TSyntaxArray ``Lean.Parser.Tactic.simpLemma ← (("L2.ev_var0 L2.ev_varS L2.ev_C L2.ev_bin L2.ev_bin1 L2.ev_add L2.ev_addT L2.ev_addL L2.ev_sub L2.ev_cmp L2.ev_eqI L2.ev_neI L2.ev_eqB L2.ev_eqS L2.ev_neS L2.ev_ixL L2.ev_ixT L2.at_0 L2.at_1 L2.at_2 L2.at_3 L2.at_4 L2.at_5 L2.at_6 L2.at_7 L2.at_8 L2.ev_neg L2.ev_neg1 L2.ev_test L2.ev_tst1 L2.ev_tru L2.ev_truB L2.ev_truI L2.ev_truL L2.ev_truT L2.ev_truN L2.ev_and L2.ev_or L2.ev_not L2.ev_and1t L2.ev_and1f L2.ev_or1t L2.ev_or1f L2.ev_not1 L2.ev_andV L2.ev_andV1t L2.ev_andV1f L2.ev_if L2.ev_if1t L2.ev_if1f L2.ev_nil L2.ev_cons L2.ev_cons1 L2.ev_cons2 L2.ev_tup L2.ev_tup1 L2.ev_lst L2.ev_lst1 L2.ev_lo L2.ev_lo1 L2.small_le L2.ev_cb L2.ev_cbo L2.ev_lenL L2.ev_lenT L2.ev_max2 L2.ev_min2 L2.ev_tupL L2.ev_tupT L2.ev_sumL L2.ev_sumT L2.ev_maxL L2.ev_sl L2.ev_sl1 L2.ev_sl2 L2.ev_sl3L L2.ev_sl3T L2.ev_p0 L2.ev_p1 L2.ev_pa1 L2.ev_tupR L2.ev_tupR1 L2.ev_aaNil L2.ev_aaCons L2.ev_aa1 L2.ev_aa2 L2.ev_pen0 L2.ev_penS L2.ev_aaPen L2.ev_aap L2.ev_call L2.ev_re L2.ev_re1 L2.ev_def L2.ev_finN L2.ev_finR L2.ev_seq L2.ev_seqN L2.ev_seqR L2.ev_seqB L2.ev_seqC L2.ev_skip L2.ev_ifs L2.ev_ifst L2.ev_ifsf L2.ev_ret L2.ev_ret1 L2.ev_retO L2.ev_retO1 L2.ev_retR L2.ev_retR1 L2.ev_retVd L2.ev_retVo L2.ev_retVs L2.ev_set L2.ev_set1 L2.ev_setO L2.ev_setO1 L2.ls_0 L2.ls_S L2.ev_aug L2.ev_aug1 L2.ev_aug2 L2.ev_iadd L2.ev_own0 L2.ev_ownS L2.ev_app L2.ev_app1 L2.ev_app2 L2.ev_rev L2.ev_rev1 L2.ev_fz L2.fz_o L2.fz_d L2.fz_p L2.fz_u L2.fz_S L2.ev_asg L2.ev_asg1 L2.ev_nx1 L2.g_set L2.g_tup L2.g_nil L2.g_cons L2.g_some L2.ev_it L2.ev_it1L L2.ev_it1T L2.ev_rng1 L2.ev_enum L2.ev_enu1 L2.ev_enu2 L2.ev_for L2.ev_for1 L2.for_nil L2.ev_lc L2.ev_lc1 L2.ev_lc2 L2.mt_nil L2.mt_cons L2.mt_1 L2.mt_2 L2.ev_len0o L2.ev_len0d L2.ev_lenS L2.ev_lend L2.ev_lcif L2.ev_lci1 L2.ev_lci2 L2.ev_ifE L2.ev_if2t L2.ev_if2f L2.ev_if3 L2.ev_cbF L2.ev_cbf1 L2.ev_fl1I L2.ev_six L2.ev_six1 L2.ev_six2 L2.g_lst2 L2.ev_revI L2.ev_rvi1 L2.ev_rvi2 L2.ev_revR2 L2.ev_rvr2 L2.ev_min2T Tw.shp_0 Tw.shp_1 Tw.shp_2 Tw.shp_3 Tw.shp_4 Tw.shp_5 Tw.shp_6 Tw.shp_7 Tw.shp_8 L2.ev_mul L2.ev_imul L2.rb2 L2.Tr.of_some L2.Tr.bind_assoc L2.Tr.draw_bind List.cons_append List.nil_append List.replicate_succ List.replicate_zero List.length_cons List.length_nil L2.Re.val_d L2.Re.val_own L2.blk L2.blS List.map_cons List.map_nil List.getElem?_cons_zero List.getElem?_cons_succ Option.getD_some Nat.reduceAdd Nat.reduceLeDiff List.isEmpty_cons".splitOn " ").toArray.map fun s => Lean.mkIdent s.toName).mapM fun i => `(Lean.Parser.Tactic.simpLemma| $i:ident); `(tactic| simp only [$b,*, $ls,*] $[$loc]?)
namespace My
open PySem PySem.Spec PyProof.Rows L2 Tw
theorem e_stocks {s:Shp} (h:s.Ok):m_stocks [.d s.d]=.ret (.d (.tuple (rngL (-s.depth) (s.top+1)))):=by
  have:=h.t0
  have:=h.d0
  have:=h.td
  have hr:rngOk (-s.depth) (s.top+1)=true:=by
    unfold rngOk
    rw [inR_of (by omega) (by omega),inR_of (by omega) (by omega)]
    simp
    omega
  simp_arith [m_stocks,ev_tupR1 hr]
theorem e_next (s:Shp) (y f:Int):m_next_stock [.d s.d,.d (.int y),.d (.int f)]=.ret (.d (.int (s.nx y f))):=by
  simp_arith [m_next_stock,Shp.nx]
theorem e_end {s:Shp} (h:s.Ok) {x:Int} (hx:nb 20 x):m_end_cost [.d s.d,.d (.int x)]=.ret (.d (.int (s.fin x))):=by
  have f1:=nb_fit (nb_neg h.back) (by decide)
  have f2:=nb_fit h.late (by decide)
  have f3:=nb_fit hx (by decide)
  have f4:=nb_fit (nb_neg hx) (by decide)
  by_cases hp:x > 0
  · simp_arith [m_end_cost,decide_eq_true hp,f1,f3,Shp.fin,if_pos hp]
  · simp_arith [m_end_cost,decide_eq_false hp,f2,f4,Shp.fin,if_neg hp]
theorem e_day {s:Shp} (h:s.Ok) {y f:Int} (hy:nb 20 y) (hf:nb 40 f):m_day_cost [.d s.d,.d (.int y),.d (.int f)]=.ret (.d (.int (s.day y f))):=by
  have hd:nb 7 s.depth:=by have:=h.t0; have:=h.d0; have:=h.td; exact nb_of (by show -128 < _; omega) (by show _ < 128; omega)
  have hn:nb 50 (s.nx y f):=by
    unfold Shp.nx maxI
    exact nb_ite (nb_mono (nb_neg hd) (by decide)) (nb_mono (nb_sub hy hf) (by decide))
  have f1:=nb_fit h.keep (by decide)
  have f2:=nb_fit hn (by decide)
  have f3:=nb_fit (nb_neg hn) (by decide)
  have f4:=nb_fit h.lack (by decide)
  have f5:=nb_fit h.lost (by decide)
  have f6:=nb_fit (nb_sub hn (nb_sub hy hf)) (by decide)
  have e:=e_next s y f
  by_cases hp:s.nx y f > 0
  · simp_arith [m_day_cost,e,decide_eq_true hp,f1,f2,f5,f6,Shp.day,if_pos hp]
  · simp_arith [m_day_cost,e,decide_eq_false hp,f3,f4,f5,f6,Shp.day,if_neg hp]
theorem e_ends {s:Shp} (h:s.Ok):m_end_costs [.d s.d]=.ret (.own ((s.row s.fin).map PyData.int)):=by
  have:=h.t0
  have:=h.d0
  have:=h.td
  have hs:small (rngL (-s.depth) (s.top+1)).length=true:=small_le (by rw [rngL_len]; omega)
  have e:mapT (lc2 (gSet 0) q_end_costs_1 (blk 1 [0] [.d s.d])) (rngL (-s.depth) (s.top+1))=.ret ((s.row s.fin).map PyData.int):=by
    refine Eq.trans (mapT_rng (f:=fun x=>.int (s.fin x)) fun z h1 h2=>?_) ?_
    · have e1:=e_end h (x:=z) (nb_of (by show -1048576 < _; omega) (by show _ < 1048576; omega))
      simp_arith [q_end_costs_1,e1]
    · unfold Shp.row Shp.n
      rw [List.map_map]
      rfl
  simp_arith [m_end_costs,e_stocks h,hs] at e ⊢
  simp_arith [e]
end My
set_option Elab.async false
set_option linter.all false
set_option maxRecDepth 100000
namespace My
open PySem PySem.Spec PyProof.Rows L2 Tw
theorem lenI (l:List Int):(l.map PyData.int).length=l.length:=List.length_map ..
theorem e_weighed {s:Shp} (h:s.Ok) {day:List Int} (hd:DayB day) {y:Int} (y1:-s.depth≤y) (y2:y≤s.top) {A:Int→Int} {b:Nat} (hA:Bd s b A) {sc:Int} (hs:nb b sc) (hb:b≤2000) :
    m_weighed [.d s.d,.d (tI day),.d (.int y),.d (lI (s.row A)),.d (.int sc)]=.ret (.d (.int (s.wg day y A sc))):=by
  have:=h.t0
  have:=h.d0
  have:=h.td
  have hy:nb 20 y:=nb_of (by show -1048576 < _; omega) (by show _ < 1048576; omega)
  apply al_eq
  simp_arith [m_weighed,tI,lI]
  refine al_bind (n:=0) (n':=0) (P:=fun o=>∃ J1 J2 J3:Sl,o=.next [.d s.d,.d (.tuple (day.map PyData.int)),.d (.int y),.d (.list ((s.row A).map PyData.int)),.d (.int sc),.d (.int (s.wg day y A sc)),J1,J2,J3]) ?_ (by decide) ?_
  · refine al_forQ (n:=0) (fun pre ρ=>∃ J1 J2 J3:Sl,ρ=[.d s.d,.d (.tuple (day.map PyData.int)),.d (.int y),.d (.list ((s.row A).map PyData.int)),.d (.int sc),.d (.int (s.wg day y A sc - ws (fun f=>sc * s.day y f+A (s.nx y f)) pre.length (day.drop pre.length))),J1,J2,J3]) ⟨.un,.un,.un,?_⟩ (by simp) ?_ ?_
    · have:s.wg day y A sc - ws (fun f=>sc * s.day y f+A (s.nx y f)) 0 day=0:=by unfold Shp.wg; omega
      simp only [List.length_nil,List.drop_zero,this]
    · rintro pre x post ρ e ⟨J1,J2,J3,rfl⟩
      obtain ⟨w,hw,rfl⟩:=enum_mid e
      rw [List.getElem?_map] at hw
      obtain ⟨v,hv,rfl⟩:=Option.map_eq_some_iff.mp hw
      refine ⟨_,rfl,?_⟩
      have hl:pre.length < day.length:=(List.getElem?_eq_some_iff.mp hv).1
      have hlen:=hd.len
      have hf:nb 40 (pre.length:Int):=nb_of (by show -1099511627776 < _; omega) (by show _ < 1099511627776; omega)
      have e1:=e_next s y pre.length
      have e2:=e_day h hy hf
      have n1:=nx_ge s y pre.length
      have n2:=nx_le h y2 (show (0:Int)≤pre.length by omega)
      have e3:=row_atI (f:=A) n1 n2
      have v1:nb 30 v:=hd.nb v (List.mem_of_getElem? hv)
      have b1:=nb_mul hs (day_nb h hy hf)
      have f1:=nb_fit hs (by omega)
      have f2:=nb_fit (day_nb h hy hf) (by decide)
      have f3:=nb_fit v1 (by decide)
      have f4:=nb_fit (nb_add b1 (hA _ n1 n2)) (by omega)
      simp_arith [l_weighed_1,e1,e2,e3,f1,f2,f3,f4]
      have ed:day.drop pre.length=v::day.drop (pre.length+1):=by
        rw [List.drop_eq_getElem_cons hl]
        congr 1
        exact (List.getElem?_eq_some_iff.mp hv).2
      have el:(pre++[PyData.tuple [PyData.int pre.length,PyData.int v]]).length=pre.length+1:=by simp
      have ee:s.wg day y A sc - ws (fun f=>sc * s.day y f+A (s.nx y f)) pre.length (day.drop pre.length)+v * (sc * s.day y pre.length+A (s.nx y pre.length)) =
          s.wg day y A sc - ws (fun f=>sc * s.day y f+A (s.nx y f)) (pre++[PyData.tuple [PyData.int pre.length,PyData.int v]]).length (day.drop (pre++[PyData.tuple [PyData.int pre.length,PyData.int v]]).length):=by
        rw [el,ed,ws]
        omega
      rw [ee]
      exact al_ret ⟨_,rfl,_,_,_,rfl⟩
    · rintro ρ ⟨J1,J2,J3,rfl⟩
      refine ⟨J1,J2,J3,?_⟩
      rw [enumD_len,lenI,List.drop_length,ws,Int.sub_zero]
  · rintro _ ⟨J1,J2,J3,rfl⟩
    simp_arith [List.isEmpty_cons]
    exact al_ret rfl
theorem e_levels {s:Shp} (h:s.Ok) {day:List Int} (hd:DayB day) {A:Int→Int} {b:Nat} (hA:Bd s b A) {sc:Int} (hs:nb b sc) (hb:b≤2000) :
    m_level_sums [.d s.d,.d (tI day),.d (lI (s.row A)),.d (.int sc)]=.ret (.own ((s.row (s.sm day A sc)).map PyData.int)):=by
  have:=h.t0
  have:=h.d0
  have:=h.td
  have f1:=nb_fit hs (by omega)
  have f2:=nb_fit (sum_nbD hd) (by decide)
  have f3:=nb_fit (nb_mul hs (sum_nbD hd)) (by omega)
  have f4:=nb_fit h.piece (by decide)
  have f5:=nb_fit (nb_mul (nb_mul hs (sum_nbD hd)) h.piece) (by omega)
  have es:cb1 sumD [tI day]=.ret (.int day.sum):=ev_sumT day
  have hsm:small (rngL (-s.depth) (s.top+1)).length=true:=small_le (by rw [rngL_len]; omega)
  have e:mapT (lc2 (gSet 0) q_level_sums_1 (blk 1 [0,1,2,3,4] [.d s.d,.d (tI day),.d (lI (s.row A)),.d (.int sc),.d (.int (sc * day.sum))])) (rngL (-s.depth) (s.top+1))=.ret ((s.row (s.sm day A sc)).map PyData.int):=by
    refine Eq.trans (mapT_rng (f:=fun x=>.int (s.sm day A sc x)) fun z h1 h2=>?_) ?_
    · have e1:=e_weighed h hd (y:=z) (by omega) (by omega) hA hs hb
      have hz:nb 20 z:=nb_of (by show -1048576 < _; omega) (by show _ < 1048576; omega)
      have f6:=nb_fit hz (by decide)
      simp_arith [q_level_sums_1,e1,f3,f4,f5,f6]
      rfl
    · unfold Shp.row Shp.n
      rw [List.map_map]
      rfl
  simp_arith [m_level_sums,e_stocks h,hsm,es,f1,f2] at e ⊢
  simp_arith [e]
end My
set_option Elab.async false
set_option linter.all false
set_option maxRecDepth 100000
namespace My
open PySem PySem.Spec PyProof.Rows L2 Tw
theorem at_last {xs:List PyData} {v:PyData} (h:xs[xs.length - 1]?=some v):atI xs (-1)=some v:=by
  have hl:xs≠[]:=fun e=>by subst e; cases h
  have hp:0 < xs.length:=List.length_pos_iff.mpr hl
  obtain ⟨k,hk⟩:=Nat.exists_eq_succ_of_ne_zero (Nat.ne_of_gt hp)
  unfold atI ixN
  have e0:(-1:Int)+(xs.length:Int)=(k:Int):=by rw [hk]; show (-1:Int)+((k:Int)+1)=k; rw [Int.add_comm,Int.add_assoc]; exact Int.add_zero _
  have e:((-1:Int)+(xs.length:Int)).toNat=xs.length - 1:=by rw [e0,hk]; exact Int.toNat_natCast k
  rw [if_neg (by decide),if_pos (by omega)]
  show xs[((-1:Int)+(xs.length:Int)).toNat]?=some v
  rw [e]
  exact h
noncomputable def pairD (g:Int→Int) (top K P x:Int):PyData:=.tuple [.int (cst g top K P x),.int (lvl g top K x)]
theorem rev_down {lo hi:Int} {F:Int→PyData}:((List.range (hi - lo).toNat).map fun (i:Nat)=>F (hi - 1 - i)).reverse=(rangeI lo (hi - lo).toNat).map F:=by
  unfold rangeI
  rw [List.map_map]
  apply List.ext_getElem?
  intro i
  by_cases hi':i < (hi - lo).toNat
  · rw [List.getElem?_reverse (by simpa using hi'),List.length_map,List.length_range,List.getElem?_map,List.getElem?_map,List.getElem?_range (by omega),List.getElem?_range hi']
    show some (F (hi - 1 - (((hi - lo).toNat - 1 - i:Nat):Int)))=some (F (lo+(i:Int)))
    congr 2
    omega
  · rw [List.getElem?_eq_none (by simpa using hi'),List.getElem?_eq_none (by simpa using hi')]
theorem e_cheap_from {s:Shp} (h:s.Ok) {low:Int} (hl:low≤s.top) (hl0:-1000≤low) {g:Int→Int} {b:Nat} (hg:∀ x,low≤x→x≤s.top→nb b (g x)) {sc:Int} (hs:nb b sc) (hK:0≤sc * s.start) (hb:b≤3000) :
    m_cheapest_from [.d s.d,.d (.int low),.d (lI ((rangeI low (s.top+1 - low).toNat).map g)),.d (.int sc)]=.ret (.own ((rangeI low (s.top+1 - low).toNat).map (pairD g s.top (sc * s.start) (sc * s.piece)))):=by
  have:=h.t0
  have:=h.d0
  have:=h.td
  have hn:0 < (s.top+1 - low).toNat:=by omega
  have hlen:(((rangeI low (s.top+1 - low).toNat).map g).map PyData.int).length=(s.top+1 - low).toNat:=by rw [List.length_map,List.length_map,rangeI_length]
  have hat:∀ x,low≤x→x≤s.top→(((rangeI low (s.top+1 - low).toNat).map g).map PyData.int)[(x - low).toNat]?=some (.int (g x)):=fun x h1 h2=>by
    unfold rangeI
    rw [List.map_map,List.map_map,List.getElem?_map,List.getElem?_range (by omega)]
    show some (PyData.int (g (low+((x - low).toNat:Int))))=_
    congr 3
    omega
  have hlast:atI (((rangeI low (s.top+1 - low).toNat).map g).map PyData.int) (-1)=some (.int (g s.top)):=at_last (by
    rw [hlen]
    have:=hat s.top hl (Int.le_refl _)
    have e:(s.top - low).toNat=(s.top+1 - low).toNat - 1:=by
      obtain ⟨k,hk⟩:=Int.eq_ofNat_of_zero_le (Int.sub_nonneg_of_le hl)
      have hk2:s.top+1 - low=((k+1:Nat):Int):=by omega
      rw [hk,hk2]
      rfl
    rw [e] at this
    exact this)
  have r1:inR low=true:=inR_of (by omega) (by omega)
  have r2:inR (s.top+1)=true:=inR_of (by omega) (by omega)
  have f1:=nb_fit hs (by omega)
  have f2:=nb_fit h.start (by decide)
  have f3:=nb_fit h.piece (by decide)
  have f4:=nb_fit (nb_mul hs h.piece) (by omega)
  apply al_eq
  simp_arith [m_cheapest_from,lI,hlast,ev_rg2 r1 r2]
  refine al_bind (n:=0) (n':=0) (P:=fun o=>∃ J5 J6 J7 J8 J9:Sl,o=.next [.d s.d,.d (.int low),.d (.list (((rangeI low (s.top+1 - low).toNat).map g).map PyData.int)),.d (.int sc),.own ((List.range (s.top+1 - low).toNat).map fun (i:Nat)=>pairD g s.top (sc * s.start) (sc * s.piece) (s.top+1 - 1 - i)),J5,J6,J7,J8,J9]) ?_ (by decide) ?_
  · refine al_forQ (n:=0) (fun pre ρ=>∃ J6 J7 J8 J9:Sl,ρ=[.d s.d,.d (.int low),.d (.list (((rangeI low (s.top+1 - low).toNat).map g).map PyData.int)),.d (.int sc),.own ((List.range pre.length).map fun (i:Nat)=>pairD g s.top (sc * s.start) (sc * s.piece) (s.top+1 - 1 - i)),.d (.tuple [.int (bst g s.top (pre.length - 1)).1,.int (bst g s.top (pre.length - 1)).2]),J6,J7,J8,J9]) ⟨.un,.un,.un,.un,rfl⟩ (by simp) ?_ ?_
    · rintro pre x post ρ e ⟨J6,J7,J8,J9,rfl⟩
      obtain ⟨rfl,hpre⟩:=rngR_mid e
      refine ⟨_,rfl,?_⟩
      generalize hk:pre.length=k at hpre ⊢
      have hx1:low≤s.top+1 - 1 - (k:Int):=by omega
      have hx2:s.top+1 - 1 - (k:Int)≤s.top:=by omega
      have ha:atI (((rangeI low (s.top+1 - low).toNat).map g).map PyData.int) (s.top+1 - 1 - (k:Int) - low)=some (.int (g (s.top+1 - 1 - (k:Int)))):=atI_ge (by omega) (hat _ hx1 hx2)
      have hxn:nb 20 (s.top+1 - 1 - (k:Int)):=nb_of (by show -1048576 < _; omega) (by show _ < 1048576; omega)
      have f5:=nb_fit hxn (by decide)
      have hsm:small (((List.range k).map fun (i:Nat)=>pairD g s.top (sc * s.start) (sc * s.piece) (s.top+1 - 1 - i)).length+1)=true:=small_le (by rw [List.length_map,List.length_range]; omega)
      have el:(pre++[PyData.int (s.top+1 - 1 - (k:Int))]).length=k+1:=by rw [List.length_append,hk]; rfl
      have m1:cb1 min2T [.tuple [.int (g (s.top+1 - 1 - (k:Int))),.int (s.top+1 - 1 - (k:Int))],.tuple [.int (sc * s.start+(bst g s.top (k - 1)).1),.int (bst g s.top (k - 1)).2]]=.ret (.tuple [.int (pck g s.top (sc * s.start) (s.top+1 - 1 - (k:Int))).1,.int (pck g s.top (sc * s.start) (s.top+1 - 1 - (k:Int))).2]):=by
        rw [ev_min2T]
        cases k with
        | zero =>
          have ex:s.top+1 - 1 - ((0:Nat):Int)=s.top:=by simp
          rw [ex,pck_top,if_neg]
          show ¬ (sc * s.start+g s.top < g s.top∨sc * s.start+g s.top=g s.top∧s.top < s.top)
          omega
        | succ n =>
          have ex:s.top+1 - 1 - ((n+1:Nat):Int)=s.top - ((n+1:Nat):Int):=by omega
          rw [ex,pck_at,Nat.add_sub_cancel]
          have hb:=(bst_lvl g s.top n).1
          by_cases hc:sc * s.start+(bst g s.top n).1 < g (s.top - ((n+1:Nat):Int))
          · rw [if_pos (.inl hc),if_pos hc]
          · rw [if_neg (by omega),if_neg hc]
      have m2:cb1 min2T [.tuple [.int (g (s.top+1 - 1 - (k:Int))),.int (s.top+1 - 1 - (k:Int))],.tuple [.int (bst g s.top (k - 1)).1,.int (bst g s.top (k - 1)).2]]=.ret (.tuple [.int (bst g s.top k).1,.int (bst g s.top k).2]):=by
        rw [ev_min2T]
        cases k with
        | zero =>
          have ex:s.top+1 - 1 - ((0:Nat):Int)=s.top:=by simp
          rw [ex,if_neg]
          · rfl
          · show ¬ (g s.top < g s.top∨g s.top=g s.top∧s.top < s.top)
            omega
        | succ n =>
          have ex:s.top+1 - 1 - ((n+1:Nat):Int)=s.top - ((n+1:Nat):Int):=by omega
          rw [ex,Nat.add_sub_cancel]
          have hb:=(bst_lvl g s.top n).1
          rw [bst]
          by_cases hc:(bst g s.top n).1 < g (s.top - ((n+1:Nat):Int))
          · rw [if_pos (.inl hc),if_pos hc]
          · rw [if_neg (by omega),if_neg hc]
      simp_arith [l_cheapest_from_1,ha,m1,m2,f1,f2,f3,f4,f5,hsm]
      rw [el,List.range_succ,List.map_append]
      exact al_ret ⟨_,rfl,_,_,_,_,rfl⟩
    · rintro ρ ⟨J6,J7,J8,J9,rfl⟩
      rw [List.length_reverse,rngL_len]
      exact ⟨_,J6,J7,J8,J9,rfl⟩
  · rintro _ ⟨J5,J6,J7,J8,J9,rfl⟩
    simp_arith [List.isEmpty_cons]
    rw [rev_down]
    exact al_ret rfl
theorem e_cheap {s:Shp} (h:s.Ok) {g:Int→Int} {b:Nat} (hg:Bd s b g) {sc:Int} (hs:nb b sc) (h0:0≤sc) (hb:b≤3000) :
    m_cheapest [.d s.d,.d (lI (s.row g)),.d (.int sc)]=.ret (.own ((rangeI (-s.depth) s.n).map (pairD g s.top (sc * s.start) (sc * s.piece)))):=by
  have:=h.t0
  have:=h.d0
  have:=h.td
  have e:=e_cheap_from h (low:=-s.depth) (by omega) (by omega) (fun x h1 h2=>hg x h1 h2) hs (Int.mul_nonneg h0 h.start0) hb
  simp_arith [m_cheapest]
  unfold Shp.row Shp.n
  rw [e]
  simp_arith [List.isEmpty_cons]
theorem costs_of {g:Int→Int} {top K P:Int}:∀ l:List Int,mapT (lc2 (gTupD (gsCons (gSet 0) (gsCons (gSet 1) gsNil))) q_day_sums_1 [.un,.un]) (l.map (pairD g top K P))=.ret ((l.map (cst g top K P)).map PyData.int)
  | []=>rfl
  | x::l=>by
    have ih:=costs_of (g:=g) (top:=top) (K:=K) (P:=P) l
    have e0:lc2 (gTupD (gsCons (gSet 0) (gsCons (gSet 1) gsNil))) q_day_sums_1 [.un,.un] (pairD g top K P x)=.ret (.int (cst g top K P x)):=by
      simp_arith [q_day_sums_1,pairD]
    rw [List.map_cons,mapT,e0,Tr.ret_bind,ih]
    rfl
theorem e_day_sums {s:Shp} (h:s.Ok) {fs:List (List Int)} (hf:∀ l∈fs,DayB l) (hl:fs.length≤6) {t:Nat} {day:List Int} (ht:fs[t]?=some day) :
    m_day_sums [.d s.d,.d (fD fs),.d (.int t)]=.ret (.d (.tuple [lI (s.row (s.sms day (fs.drop (t+1)))),.int ((s.bk (fs.drop (t+1))).2 * day.sum)])):=by
  have hsub:∀ k,∀ l∈(fs.drop (t+1)).drop k,DayB l:=fun k l hl=>hf l (List.mem_of_mem_drop (List.mem_of_mem_drop hl))
  have hlen:(fs.drop (t+1)).length≤6:=by rw [List.length_drop]; omega
  have hd:DayB day:=hf day (List.mem_of_getElem? ht)
  have hat:atI (fs.map tI) (t:Int)=some (tI day):=atI_ge (by omega) (by
    rw [List.getElem?_map,Int.toNat_natCast,ht]; rfl)
  have es:∀ l:List Int,cb1 sumD [tI l]=.ret (.int l.sum):=fun l=>ev_sumT l
  have hR:∀ k,(fs.drop (t+1)).length≤6→Bd s 1900 (s.bk ((fs.drop (t+1)).drop k)).1∧nb 1900 (s.bk ((fs.drop (t+1)).drop k)).2:=fun k hk=>by
    obtain ⟨h1,h2⟩:=bk_nb h (hsub k)
    have:((fs.drop (t+1)).drop k).length≤6:=by rw [List.length_drop]; omega
    exact ⟨fun x a b=>nb_mono (h1 x a b) (by omega),nb_mono h2 (by omega)⟩
  have hsc:∀ k,0 < (s.bk ((fs.drop (t+1)).drop k)).2:=fun k=>bk_sc (hsub k)
  apply al_eq
  simp_arith [m_day_sums,fD,e_ends h,cut_tail]
  generalize fs.drop (t+1)=R at *
  have hR':=fun k=>hR k hlen
  refine al_bind (n:=0) (n':=0) (P:=fun o=>∃ J5 J6:Sl,o=.next [.d s.d,.d (.tuple (fs.map tI)),.d (.int t),.d (lI (s.row (s.bk R).1)),.d (.int (s.bk R).2),J5,J6]) ?_ (by decide) ?_
  · refine al_forQ (n:=0) (fun pre ρ=>∃ J5 J6:Sl,ρ=[.d s.d,.d (.tuple (fs.map tI)),.d (.int t),.d (lI (s.row (s.bk (R.drop (R.length - pre.length))).1)),.d (.int (s.bk (R.drop (R.length - pre.length))).2),J5,J6]) ⟨.un,.un,?_⟩ (by simp) ?_ ?_
    · rw [List.length_nil,Nat.sub_zero,List.drop_length]
      rfl
    · rintro pre x post ρ e ⟨J5,J6,rfl⟩
      obtain ⟨d,rfl,hpl,hdr⟩:=revT_mid e
      refine ⟨_,rfl,?_⟩
      have hdd:DayB d:=hsub (R.length - (pre.length+1)) d (by rw [hdr]; simp)
      obtain ⟨k1,k2⟩:=hR' (R.length - pre.length)
      have k3:=hsc (R.length - pre.length)
      have e1:=e_levels h hdd k1 k2 (by decide)
      have b1:=sm_nb h hdd k1 k2
      have b2:=nb_mul k2 (sum_nbD hdd)
      have f1:=nb_fit k2 (by decide)
      have f2:=nb_fit (sum_nbD hdd) (by decide)
      have e2:=e_cheap h (b:=1900+151) b1 (nb_mono b2 (by decide)) (Int.le_of_lt (Int.mul_pos k3 hdd.pos)) (by decide)
      have hsm:small ((rangeI (-s.depth) s.n).map (pairD (s.sm d (s.bk (R.drop (R.length - pre.length))).1 (s.bk (R.drop (R.length - pre.length))).2) s.top ((s.bk (R.drop (R.length - pre.length))).2 * d.sum * s.start) ((s.bk (R.drop (R.length - pre.length))).2 * d.sum * s.piece))).length=true:=small_le (by
        rw [List.length_map,rangeI_length]
        have:=h.n_eq; have:=h.td; omega)
      unfold lI at e1 e2
      simp_arith [l_day_sums_1,lI,e1,es,f1,f2,e2,hsm,costs_of]
      have el:(pre++[tI d]).length=pre.length+1:=by simp
      rw [el,hdr]
      exact al_ret ⟨_,rfl,_,_,rfl⟩
    · rintro ρ ⟨J5,J6,rfl⟩
      refine ⟨J5,J6,?_⟩
      rw [List.length_reverse,List.length_map,Nat.sub_self,List.drop_zero]
  · rintro _ ⟨J5,J6,rfl⟩
    obtain ⟨k1,k2⟩:=hR' 0
    rw [List.drop_zero] at k1 k2
    have e1:=e_levels h hd k1 k2 (by decide)
    have f1:=nb_fit k2 (by decide)
    have f2:=nb_fit (sum_nbD hd) (by decide)
    simp_arith [hat,e1,es,f1,f2]
    exact al_ret rfl
end My
set_option Elab.async false
set_option linter.all false
set_option maxRecDepth 100000
set_option exponentiation.threshold 9000
namespace My
open PySem PySem.Spec PyProof.Rows L2 Tw
end My
set_option Elab.async false
set_option linter.all false
set_option maxRecDepth 100000
namespace My
open PySem PySem.Spec PyProof.Rows L2 Tw
theorem ev_drw (n:Int):m_law_draw [.pen,.d (.int n)]=.draw n fun r=>.ret (.d (.int r)):=rfl
theorem max_eq {ls:List Int} (h:∃ n∈ls,n > 0):cb1 max1D [.list ((snF 0 ls).map PyData.int)]=.ret (.int (great ls)):=max1_of _ (snF_ne (k:=0) h)
theorem seenG_eq:∀ (ns:List Int) (k:Nat),mapO (lci2 (gTupD (gsCons (gSet 0) (gsCons (gSet 1) gsNil))) p_greatest_seen_1 q_greatest_seen_1 [.un,.un]) (enu k ns)=.ret ((snF k ns).map PyData.int)
  | [],k=>rfl
  | n::ns,k=>by
    have ih:=seenG_eq ns (k+1)
    have e0:lci2 (gTupD (gsCons (gSet 0) (gsCons (gSet 1) gsNil))) p_greatest_seen_1 q_greatest_seen_1 [.un,.un] (.tuple [.int k,.int n])=.ret (if n > 0 then some (.int k) else none):=by
      by_cases h:n > 0
      · simp_arith [p_greatest_seen_1,q_greatest_seen_1,decide_eq_true h,if_pos h]
      · simp_arith [p_greatest_seen_1,q_greatest_seen_1,decide_eq_false h,if_neg h]
    rw [enu,mapO,e0,Tr.ret_bind,ih,Tr.ret_bind,snF]
    unfold mapC
    by_cases h:n > 0
    · rw [if_pos h,if_pos h]; rfl
    · rw [if_neg h,if_neg h]
theorem e_great {ls:List Int} (h:∃ n∈ls,n > 0) (hl:ls.length≤100):m_greatest_seen [.d (tI ls)]=.ret (.d (.int (great ls))):=by
  have hs:small (enu 0 ls).length=true:=small_le (by rw [enu_len]; omega)
  simp_arith [m_greatest_seen,it_tI,enu_eq,hs,seenG_eq,max_eq h]
theorem seen_eq:∀ (ns:List Int) (k:Nat),mapO (lci2 (gTupD (gsCons (gSet 0) (gsCons (gSet 1) gsNil))) p_law_reach_1 q_law_reach_1 [.un,.un]) (enu k ns)=.ret ((snF k ns).map PyData.int)
  | [],k=>rfl
  | n::ns,k=>by
    have ih:=seen_eq ns (k+1)
    have e0:lci2 (gTupD (gsCons (gSet 0) (gsCons (gSet 1) gsNil))) p_law_reach_1 q_law_reach_1 [.un,.un] (.tuple [.int k,.int n])=.ret (if n > 0 then some (.int k) else none):=by
      by_cases h:n > 0
      · simp_arith [p_law_reach_1,q_law_reach_1,decide_eq_true h,if_pos h]
      · simp_arith [p_law_reach_1,q_law_reach_1,decide_eq_false h,if_neg h]
    rw [enu,mapO,e0,Tr.ret_bind,ih,Tr.ret_bind,snF]
    unfold mapC
    by_cases h:n > 0
    · rw [if_pos h,if_pos h]; rfl
    · rw [if_neg h,if_neg h]
theorem q_reach {ls:List Int} (h:∃ n∈ls,n > 0) (hl:ls.length≤100):q_law_reach_2 [.d (tI ls)]=.ret (.int (great ls)):=by
  have hs:small (enu 0 ls).length=true:=small_le (by rw [enu_len]; omega)
  simp_arith [q_law_reach_2,it_tI,enu_eq,hs,seen_eq,max_eq h]
theorem reach_map:∀ {fs:List (List Int)},(∀ l∈fs,DayOk 8 l)→mapT (lc2 (gSet 0) q_law_reach_2 [.un]) (fs.map tI)=.ret ((fs.map great).map PyData.int)
  | [],_=>rfl
  | ls::fs,h=>by
    have ih:=reach_map (fs:=fs) fun l hl=>h l (List.mem_cons_of_mem _ hl)
    have hd:=h ls (by simp)
    have e0:lc2 (gSet 0) q_law_reach_2 [.un] (tI ls)=.ret (.int (great ls)):=q_reach hd.pos (Nat.le_trans hd.len (by decide))
    rw [List.map_cons,mapT,e0,Tr.ret_bind,ih]
    rfl
theorem e_reach {fs:List (List Int)} (h:∀ l∈fs,DayOk 8 l) (hl:fs.length≤100):m_law_reach [.d (fD fs)]=.ret (.d (.int (reach fs))):=by
  have hs:small (fs.map tI).length=true:=small_le (by rw [List.length_map]; omega)
  have e:=reach_map h
  have es:cb1 sumD [.list ((fs.map great).map PyData.int)]=.ret (.int (reach fs)):=ev_sumL _
  simp_arith [m_law_reach,it_fD,hs,e,es]
noncomputable def okP (ps:List Int):Prop:=ps.length=7∧∀ p∈ps,0≤p∧p≤1000000
theorem cut_a (a b c d e f g:PyData):L2.cutD [a,b,c,d,e,f,g] none (some 5)=[a,b,c,d,e]:=rfl
theorem cut_b (a b c d e f g:PyData):L2.cutD [a,b,c,d,e,f,g] (some 5) none=[f,g]:=rfl
theorem pr1 {w:Int} (w0:0≤w) (w1:w < 4) {ns:List Int} (hl:ns.length≤100) (A B:Sl):Al (l_law_prices_1 [.pen,.d (.int w),.own (ns.map PyData.int),A,B]) 4 fun o=>∃ (y:Int) (B':Sl),o=.next [.pen,.d (.int w),.own ((ns++[y]).map PyData.int),A,B']∧0≤y∧y≤1000000:=by
  have hs:small ((ns.map PyData.int).length+1)=true:=small_le (by rw [List.length_map]; omega)
  simp_arith [l_law_prices_1,ev_drw]
  refine al_drw (n:=3) (by decide) (by decide) (by decide) fun a a0 a1=>?_
  try simp_arith [ev_drw]
  refine al_drw (n:=2) (by decide) (by decide) (by decide) fun b b0 b1=>?_
  try simp_arith [ev_drw]
  refine al_drw (n:=1) (by decide) (by decide) (by decide) fun c c0 c1=>?_
  try simp_arith [ev_drw]
  refine al_drw (n:=0) (by decide) (by decide) (by decide) fun d d0 d1=>?_
  obtain ⟨z,hz,z0,z1⟩:=pickI (xs:=[PyData.int 0,.int 1,.int 7,.int 1000000]) (lo:=0) (hi:=1000000) (by simp [intIn]) d0 d1
  obtain ⟨y,hy,y0,y1⟩:=pickI (xs:=[PyData.int a,.int b,.int c,.int z]) (lo:=0) (hi:=1000000) (by simp [intIn]; omega) w0 w1
  simp_arith [ev_drw,hz,hy,hs]
  have em:ns.map PyData.int++[PyData.int y]=(ns++[y]).map PyData.int:=by rw [List.map_append]; rfl
  rw [em]
  exact al_ret ⟨y,_,rfl,y0,y1⟩
theorem s_prices:Al (m_law_prices [.pen]) 40 fun r=>∃ ps,r=.d (tI ps)∧okP ps:=by
  have r1:rng1 [.int 7]=.ret (rngL 0 7):=ev_rg1 rfl
  simp_arith [m_law_prices,ev_drw]
  refine al_drw (n:=39) (by decide) (by decide) (by decide) fun w w0 w1=>?_
  try simp_arith [ev_drw,r1]
  refine al_bind (n:=28) (n':=10) (P:=fun o=>∃ (ns:List Int) (A B:Sl),o=.next [.pen,.d (.int w),.own (ns.map PyData.int),A,B]∧okP ns) ?_ (by decide) ?_
  · refine al_forQ (n:=4) (fun pre ρ=>∃ (ns:List Int) (A B:Sl),ρ=[.pen,.d (.int w),.own (ns.map PyData.int),A,B]∧ns.length=pre.length∧∀ p∈ns,0≤p∧p≤1000000) ⟨[],_,_,rfl,rfl,fun _ q=>by cases q⟩ (by rw [rngL_len]; decide) ?_ ?_
    · rintro pre x post ρ e ⟨ns,A,B,rfl,hl,hn⟩
      obtain ⟨rfl,hpre⟩:=rngL_mid e
      refine ⟨_,rfl,al_mono (pr1 w0 w1 (by omega) _ _) (Nat.le_refl _) ?_⟩
      rintro _ ⟨y,B',rfl,y0,y1⟩
      refine ⟨_,rfl,ns++[y],_,_,rfl,by simp [hl],fun q hq=>?_⟩
      rcases List.mem_append.mp hq with hq | hq
      · exact hn q hq
      · simp at hq
        subst hq
        exact ⟨y0,y1⟩
    · rintro ρ ⟨ns,A,B,rfl,hl,hn⟩
      rw [rngL_len] at hl
      exact ⟨ns,A,B,rfl,hl,hn⟩
  · rintro _ ⟨ns,A,B,rfl,hn⟩
    try simp_arith [ev_drw]
    refine al_drw (n:=9) (by decide) (by decide) (by decide) fun r r0 r1=>?_
    try simp_arith [ev_drw]
    refine al_bind (n:=0) (n':=9) (P:=fun o=>∃ ns:List Int,o=.next [.pen,.d (.int w),.own (ns.map PyData.int),A,B]∧okP ns) ?_ (by decide) ?_
    · cases hb:(r == 0)
      · simp_arith [ev_drw]
        exact al_ret ⟨ns,rfl,hn⟩
      · obtain ⟨hl,hb⟩:=hn
        obtain ⟨a,b,c,d,e,f,g,rfl⟩:=list7 hl
        simp_arith [ev_drw,ev_six3 (xs:=[PyData.int a,.int b,.int c,.int d,.int e,.int f,.int g]) (y:=0) (t:=0) rfl]
        refine al_ret ⟨[0,b,c,d,e,f,g],rfl,rfl,fun p hp=>?_⟩
        rcases List.mem_cons.mp hp with rfl | hp
        · decide
        · exact hb p (List.mem_cons_of_mem _ hp)
    · rintro _ ⟨ns,rfl,hl,hb⟩
      obtain ⟨a,b,c,d,e,f,g,rfl⟩:=list7 hl
      simp_arith [ev_drw]
      refine al_drw (n:=8) (by decide) (by decide) (by decide) fun r r0 r1=>?_
      try simp_arith [ev_drw]
      by_cases hr:r > 0
      · have hp:=sortI_perm [f,g]
        have hsl:(sortI [f,g]).length=2:=by rw [hp.length_eq]; rfl
        obtain ⟨x,y,exy⟩:∃ x y,sortI [f,g]=[x,y]:=by
          match h:sortI [f,g],hsl with
          | [x,y],_=>exact ⟨x,y,rfl⟩
        have es:=ev_sort [f,g] (by show 2 < 64; decide)
        rw [exy] at es hp
        simp only [List.map_cons,List.map_nil] at es
        have hs:small 7=true:=small_le (by decide)
        simp_arith [decide_eq_true hr,ev_drw,cut_a,cut_b,es,ev_addL (xs:=[PyData.int a,.int b,.int c,.int d,.int e]) (ys:=[PyData.int x,.int y]) hs]
        refine al_ret ⟨[a,b,c,d,e,x,y],rfl,rfl,fun p hp'=>?_⟩
        rcases List.mem_append.mp (show p∈[a,b,c,d,e]++[x,y] from hp') with q | q
        · exact hb p (List.mem_append_left [f,g] q)
        · exact hb p (List.mem_append_right [a,b,c,d,e] (hp.mem_iff.mp q))
      · simp_arith [decide_eq_false hr,ev_drw]
        exact al_ret ⟨[a,b,c,d,e,f,g],rfl,rfl,hb⟩
end My
set_option Elab.async false
set_option linter.all false
set_option maxRecDepth 100000
namespace My
open PySem PySem.Spec PyProof.Rows L2 Tw
theorem fa1 {w:Int} (w0:0≤w) (w1:w < 4) {ns:List Int} (hl:ns.length≤100) (A B C D E:Sl):Al (l_law_falls_1 [.pen,A,B,C,D,.d (.int w),.own (ns.map PyData.int),E]) 3 fun o=>∃ y:Int,o=.next [.pen,A,B,C,D,.d (.int w),.own ((ns++[y]).map PyData.int),E]∧0≤y∧y≤1001:=by
  have hs:small ((ns.map PyData.int).length+1)=true:=small_le (by rw [List.length_map]; omega)
  simp_arith [l_law_falls_1,ev_drw]
  refine al_drw (n:=2) (by decide) (by decide) (by decide) fun a a0 a1=>?_
  try simp_arith [ev_drw]
  refine al_drw (n:=1) (by decide) (by decide) (by decide) fun b b0 b1=>?_
  try simp_arith [ev_drw]
  refine al_drw (n:=0) (by decide) (by decide) (by decide) fun c c0 c1=>?_
  obtain ⟨y,hy,y0,y1⟩:=pickI (xs:=[PyData.int 1,.int a,.int b,.int c]) (lo:=0) (hi:=1001) (by simp [intIn]; omega) w0 w1
  simp_arith [ev_drw,hy,hs]
  have em:ns.map PyData.int++[PyData.int y]=(ns++[y]).map PyData.int:=by rw [List.map_append]; rfl
  rw [em]
  exact al_ret ⟨y,rfl,y0,y1⟩
theorem fa2 {most:Int} (m0:1≤most) (m1:most≤8) {fs:List (List Int)} (hf:∀ ls∈fs,DayOk most.toNat ls) (hfl:fs.length≤50) (A C D E F:Sl) :
    Al (l_law_falls_2 [.pen,A,.d (.int most),.own (fs.map tI),C,D,E,F]) 30 fun o=>∃ (ls:List Int) (D' E' F':Sl),o=.next [.pen,A,.d (.int most),.own ((fs++[ls]).map tI),C,D',E',F']∧DayOk most.toNat ls:=by
  have hs2:small ((fs.map tI).length+1)=true:=small_le (by rw [List.length_map]; omega)
  simp_arith [l_law_falls_2,ev_drw]
  refine al_drw (n:=29) (by decide) (by decide) (by decide) fun w w0 w1=>?_
  try simp_arith [ev_drw]
  refine al_drw (n:=28) (by omega) (by omega) (by decide) fun q q0 q1=>?_
  have r1:rng1 [.int (1+q)]=.ret (rngL 0 (1+q)):=ev_rg1 (inR_of (by omega) (by omega))
  simp_arith [ev_drw,r1]
  refine al_bind (n:=24) (n':=2) (P:=fun o=>∃ (ns:List Int) (E:Sl),o=.next [.pen,A,.d (.int most),.own (fs.map tI),C,.d (.int w),.own (ns.map PyData.int),E]∧(ns.length:Int)=1+q∧∀ n∈ns,0≤n∧n≤1001) ?_ (by decide) ?_
  · refine al_forQ (n:=3) (fun pre2 ρ=>∃ (ns:List Int) (E:Sl),ρ=[.pen,A,.d (.int most),.own (fs.map tI),C,.d (.int w),.own (ns.map PyData.int),E]∧ns.length=pre2.length∧∀ n∈ns,0≤n∧n≤1001) ⟨[],_,rfl,rfl,fun _ q=>by cases q⟩ (by rw [rngL_len]; omega) ?_ ?_
    · rintro pre2 x2 post2 ρ2 e2 ⟨ns,E,rfl,hl2,hn⟩
      obtain ⟨rfl,hpre2⟩:=rngL_mid e2
      refine ⟨_,rfl,al_mono (fa1 w0 w1 (by omega) _ _ _ _ _) (Nat.le_refl _) ?_⟩
      rintro _ ⟨y,rfl,y0,y1⟩
      refine ⟨_,rfl,ns++[y],_,rfl,by simp [hl2],fun n hn'=>?_⟩
      rcases List.mem_append.mp hn' with hq | hq
      · exact hn n hq
      · simp at hq
        subst hq
        exact ⟨y0,y1⟩
    · rintro ρ ⟨ns,E,rfl,hl2,hn⟩
      rw [rngL_len] at hl2
      exact ⟨ns,E,rfl,by omega,hn⟩
  · rintro _ ⟨ns,E,rfl,hl2,hn⟩
    by_cases h0:ns.sum=0
    · have e0:(ns.sum == 0)=true:=by rw [h0]; rfl
      simp_arith [ev_drw,e0]
      refine al_drw (n:=1) (by decide) (by decide) (by decide) fun v v0 v1=>?_
      simp_arith [ev_drw,List.length_map]
      refine al_drw (n:=0) (by omega) (by omega) (by decide) fun r r0 r1=>?_
      have hi:ixN (ns.map PyData.int).length r=some r.toNat:=by
        rw [List.length_map]
        unfold ixN
        rw [if_pos r0,if_pos r1]
      have es:(ns.map PyData.int).set r.toNat (.int (1+v))=(ns.set r.toNat (1+v)).map PyData.int:=List.map_set.symm
      simp_arith [ev_drw,ev_six3 hi,es,hs2]
      have em:fs.map tI++[PyData.tuple ((ns.set r.toNat (1+v)).map PyData.int)]=(fs++[ns.set r.toNat (1+v)]).map tI:=by rw [List.map_append]; rfl
      rw [em]
      refine al_ret ⟨ns.set r.toNat (1+v),_,_,_,rfl,⟨by rw [List.length_set]; omega,⟨1+v,List.mem_set (by omega) _,by omega⟩,fun n hm'=>?_⟩⟩
      rcases List.mem_or_eq_of_mem_set hm' with q | q
      · exact hn n q
      · subst q; omega
    · have e0:(ns.sum == 0)=false:=beq_eq_false_iff_ne.mpr h0
      simp_arith [ev_drw,e0,hs2]
      have em:fs.map tI++[PyData.tuple (ns.map PyData.int)]=(fs++[ns]).map tI:=by rw [List.map_append]; rfl
      rw [em]
      exact al_ret ⟨ns,_,_,_,rfl,by omega,sum_pos (fun n h=>(hn n h).1) h0,hn⟩
theorem s_falls {days most:Int} (d0:1≤days) (d1:days≤6) (m0:1≤most) (m1:most≤8):Al (m_law_falls [.pen,.d (.int days),.d (.int most)]) 180 fun r=>∃ fs,r=.d (fD fs)∧(fs.length:Int)=days∧∀ ls∈fs,DayOk most.toNat ls:=by
  have r1:rng1 [.int days]=.ret (rngL 0 days):=ev_rg1 (inR_of (by omega) (by omega))
  simp_arith [m_law_falls,ev_drw,r1]
  refine al_bind (n:=180) (n':=0) (P:=fun o=>∃ (fs:List (List Int)) (A B C D:Sl),o=.next [.pen,.d (.int days),.d (.int most),.own (fs.map tI),A,B,C,D]∧(fs.length:Int)=days∧∀ ls∈fs,DayOk most.toNat ls) ?_ (by decide) ?_
  · refine al_forQ (n:=30) (fun pre ρ=>∃ (fs:List (List Int)) (A B C D:Sl),ρ=[.pen,.d (.int days),.d (.int most),.own (fs.map tI),A,B,C,D]∧fs.length=pre.length∧∀ ls∈fs,DayOk most.toNat ls) ⟨[],_,_,_,_,rfl,rfl,fun _ q=>by cases q⟩ (by rw [rngL_len]; omega) ?_ ?_
    · rintro pre x post ρ e ⟨fs,A,B,C,D,rfl,hl,hf⟩
      obtain ⟨rfl,hpre⟩:=rngL_mid e
      refine ⟨_,rfl,al_mono (fa2 m0 m1 hf (by omega) _ _ _ _ _) (Nat.le_refl _) ?_⟩
      rintro o ⟨ls,D',E',F',rfl,hd⟩
      refine ⟨_,rfl,fs++[ls],_,_,_,_,rfl,by simp [hl],fun z hz=>?_⟩
      rcases List.mem_append.mp hz with hz | hz
      · exact hf z hz
      · simp at hz
        subst hz
        exact hd
    · rintro ρ ⟨fs,A,B,C,D,rfl,hl,hf⟩
      rw [rngL_len] at hl
      exact ⟨fs,_,_,_,_,rfl,by omega,hf⟩
  · rintro _ ⟨fs,A,B,C,D,rfl,hl,hf⟩
    try simp_arith [ev_drw]
    exact al_ret ⟨fs,rfl,hl,hf⟩
theorem most_at {u:Int} (u0:0≤u) (u1:u < 6):∃ m:Int,atI [PyData.int 8,.int 8,.int 8,.int 6,.int 5,.int 4] (1+u - 1)=some (.int m)∧1≤m∧m≤8∧(1+u) * (m - 1)≤21:=by
  have:u=0∨u=1∨u=2∨u=3∨u=4∨u=5:=by omega
  rcases this with rfl | rfl | rfl | rfl | rfl | rfl
  · exact ⟨8,at_0,by decide,by decide,by decide⟩
  · exact ⟨8,at_1,by decide,by decide,by decide⟩
  · exact ⟨8,at_2,by decide,by decide,by decide⟩
  · exact ⟨6,at_3,by decide,by decide,by decide⟩
  · exact ⟨5,at_4,by decide,by decide,by decide⟩
  · exact ⟨4,at_5,by decide,by decide,by decide⟩
theorem s_shop (b:Bool):Al (m_law_shop [.pen,.d (.bool b)]) 300 fun r=>∃ (s:Shp) (fs:List (List Int)),r=.own [s.d,fD fs]∧s.Dr∧FalOk fs∧(b=true→reach fs≤s.depth):=by
  simp_arith [m_law_shop,ev_drw]
  refine al_drw (n:=299) (by decide) (by decide) (by decide) fun u u0 u1=>?_
  obtain ⟨m,hm,m0,m1,hum⟩:=most_at u0 u1
  simp_arith [ev_drw,hm]
  refine al_bind (n:=180) (n':=100) (s_falls (days:=1+u) (by omega) (by omega) m0 m1) (by decide) ?_
  rintro _ ⟨fs,rfl,hl,hf⟩
  have hF:FalOk fs:=⟨fun ls h=>(hf ls h).mono (by omega),by omega,by omega⟩
  have er:=e_reach hF.f (by omega)
  obtain ⟨r0,r1⟩:=reach_le (most:=m.toNat) (by omega) hf
  have hr:reach fs≤21:=by
    have e1:((m.toNat:Nat):Int)=m:=by omega
    rw [hl,e1] at r1
    omega
  simp_arith [ev_drw,er]
  refine al_drw (n:=99) (by decide) (by decide) (by decide) fun v v0 v1=>?_
  obtain ⟨z,hz,z0,z1⟩:=pickI (xs:=[PyData.int 2,.int 12,.int 12]) (lo:=2) (hi:=12) (by simp [intIn]) v0 v1
  have hmin:2≤minI (39 - reach fs) z∧minI (39 - reach fs) z≤12:=by unfold minI; split <;> omega
  simp_arith [ev_drw,hz]
  refine al_drw (n:=98) (by omega) (by omega) (by decide) fun t t0 t1=>?_
  try simp_arith [ev_drw]
  refine al_drw (n:=97) (by decide) (by decide) (by decide) fun d d0 d1=>?_
  try simp_arith [ev_drw]
  have fin:∀ {dd:Int},0≤dd→t+dd≤39→(b=true→reach fs≤dd)→∀ A B C:Sl,Al (((aRetO (aLo (aCons (aBin addD (aTup (aCons (aVar 5) (aCons (aVar 6) aNil))) (aRe (aCall m_law_prices (aaPen 0 aaNil)))) (aCons (aVar 3) aNil)))) [.pen,A,B,.d (fD fs),C,.d (.int t),.d (.int dd)]).bind finR) 50 fun r=>∃ (s:Shp) (fs:List (List Int)),r=.own [s.d,fD fs]∧s.Dr∧FalOk fs∧(b=true→reach fs≤s.depth):=fun {dd} hd hdd hbd A B C=>by
    have hs2:small 2=true:=small_le (by decide)
    simp_arith [ev_drw]
    refine al_bind (n:=40) (n':=0) s_prices (by decide) ?_
    rintro _ ⟨ps,rfl,hpl,hp⟩
    obtain ⟨a1,a2,a3,a4,a5,a6,a7,rfl⟩:=list7 hpl
    simp_arith [tI,ev_drw]
    exact al_ret ⟨⟨t,dd,a1,a2,a3,a4,a5,a6,a7⟩,fs,by rw [← shp_of],⟨by show 0≤t; omega,hd,hdd,hp⟩,hF,hbd⟩
  cases b
  · simp only [ev_ifsf,ev_skip,Tr.ret_bind,ev_seqN]
    exact al_mono (fin (by omega) (by omega) (fun z=>by cases z) _ _ _) (by decide) fun _ h=>h
  · simp only [ev_ifst]
    simp only [ev_set,ev_bin,ev_bin1,ev_sub,ev_add,ev_C,ev_cb,ev_cons,ev_cons1,ev_cons2,ev_nil,ev_min2,ev_re,ev_re1,ev_call,ev_aaPen,ev_pen0,ev_aap,ev_aaCons,ev_aa1,ev_aa2,ev_aaNil,ev_drw,ev_set1,ev_var0,ev_varS,Tr.ret_bind,Tr.bind_assoc,Tr.draw_bind,Re.val_d,ls_0,ls_S]
    refine al_drw (n:=96) (by decide) (by decide) (by decide) fun w w0 w1=>?_
    have ht:t≤39 - reach fs:=by
      have:minI (39 - reach fs) z≤39 - reach fs:=by unfold minI; split <;> omega
      omega
    have hm2:0≤minI (39 - reach fs - t) w∧minI (39 - reach fs - t) w≤39 - reach fs - t:=by unfold minI; split <;> omega
    simp only [ev_set,ev_bin,ev_bin1,ev_sub,ev_add,ev_C,ev_cb,ev_cons,ev_cons1,ev_cons2,ev_nil,ev_min2,ev_re,ev_re1,ev_call,ev_set1,ev_var0,ev_varS,Tr.ret_bind,Tr.bind_assoc,Tr.draw_bind,Re.val_d,ls_0,ls_S,ev_seqN]
    exact al_mono (fin (by omega) (by omega) (fun _=>by omega) _ _ _) (by decide) fun _ ⟨s,fs,h1,h2,h3,h4⟩=>⟨s,fs,h1,h2,h3,fun _=>h4 rfl⟩
end My
set_option Elab.async false
set_option linter.all false
set_option maxRecDepth 100000
namespace My
open PySem PySem.Spec PyProof.Rows L2 Tw
theorem row_tail {s:Shp} {g:Int→Int} {x:Int} (h1:-s.depth≤x) (h2:x≤s.top):L2.cutD ((s.row g).map PyData.int) (some (x+s.depth+1)) none=((rangeI (x+1) (s.top - x).toNat).map g).map PyData.int:=by
  unfold L2.cutD
  have e1:HT.sIx ((s.row g).map PyData.int).length 0 (some (x+s.depth+1))=(x+s.depth+1).toNat:=by
    unfold HT.sIx
    rw [List.length_map,row_len]
    unfold Shp.n
    simp only
    split <;> omega
  have e2:HT.sIx ((s.row g).map PyData.int).length ((s.row g).map PyData.int).length none=s.n:=by
    unfold HT.sIx
    rw [List.length_map,row_len]
  rw [e1,e2]
  unfold Shp.row rangeI
  rw [List.map_map,List.map_map,List.map_map,List.map_map]
  apply List.ext_getElem?
  intro i
  by_cases hi:i < (s.top - x).toNat
  · rw [List.getElem?_take_of_lt (by unfold Shp.n; omega),List.getElem?_drop,List.getElem?_map,List.getElem?_map,List.getElem?_range (by unfold Shp.n; omega),List.getElem?_range hi]
    show some (PyData.int (g (-s.depth+(((x+s.depth+1).toNat+i:Nat):Int))))=some (PyData.int (g (x+1+(i:Int))))
    congr 3
    omega
  · rw [List.getElem?_eq_none (by rw [List.length_take,List.length_drop,List.length_map,List.length_range]; unfold Shp.n; omega),List.getElem?_eq_none (by rw [List.length_map,List.length_range]; omega)]
end My
set_option Elab.async false
set_option linter.all false
set_option maxRecDepth 100000
namespace My
open PySem PySem.Spec PyProof.Rows L2 Tw
theorem e_is_chp {s:Shp} (h:s.Ok) {g:Int→Int} (hg:Bd s 3000 g) {B:Int} (hB:nb 3000 B) {x G:Int} (x1:-s.depth≤x) (x2:x < G) (G2:G≤s.top) :
    m_is_cheapest [.d s.d,.d (lI (s.row g)),.d (.int B),.d (.int x),.d (.int G)]=.ret (.d (.bool (chkD g s.top (B * s.start) G x))):=by
  have a1:=row_atI (s:=s) (f:=g) (x:=x) x1 (by omega)
  have a2:=row_atI (s:=s) (f:=g) (x:=G) (by omega) G2
  have a3:=row_tail (s:=s) (g:=g) (x:=x) x1 (by omega)
  have f1:=nb_fit hB (by decide)
  have f2:=nb_fit h.start (by decide)
  have hne:(rangeI (x+1) (s.top - x).toNat).map g≠[]:=by
    intro z
    have:=congrArg List.length z
    rw [List.length_map,rangeI_length] at this
    simp at this
    omega
  have m1:=min1_of _ hne
  have ck:=chk_iff (g:=g) (K:=B * s.start) x2 G2
  unfold chkD
  by_cases c1:B * s.start+g G≤g x
  · simp_arith [m_is_cheapest,lI,a1,a2,a3,f1,f2,m1,decide_eq_true c1]
    congr 3
    by_cases c2:g G=minL ((rangeI (x+1) (s.top - x).toNat).map g)
    · rw [decide_eq_true (ck.mp ⟨c1,c2⟩),c2]
      simp
    · rw [decide_eq_false (fun z=>c2 (ck.mpr z).2)]
      simp [c2]
  · simp_arith [m_is_cheapest,lI,a1,a2,a3,f1,f2,m1,decide_eq_false c1]
    rw [decide_eq_false (fun z=>c1 (ck.mpr z).1)]
noncomputable abbrev mbE (s:Shp) (R:PyData) (B least:Int) (P:PyData) (x:Int) (a b:Sl):List Sl:=[.d s.d,.d R,.d (.int B),.d (.int least),.d P,.d (.int x),a,b]
theorem e_marks_by {s:Shp} (h:s.Ok) {g:Int→Int} (hg:Bd s 3000 g) {B:Int} (hB:nb 3000 B) (hB0:0≤B) {least:Int} (l1:-s.depth≤least) (l2:least≤s.top) :
    m_marks_by [.d s.d,.d (lI (s.row g)),.d (.int B),.d (.int least)]=.ret (.d (mkD g s.top (B * s.start) least)):=by
  have:=h.t0
  have:=h.d0
  have:=h.td
  have e1:=e_cheap h hg hB hB0 (by decide)
  have hpk:∀ x,-s.depth≤x→x≤s.top→atI ((rangeI (-s.depth) s.n).map (pairD g s.top (B * s.start) (B * s.piece))) (x+s.depth)=some (pairD g s.top (B * s.start) (B * s.piece) x):=fun x x1 x2=>by
    refine atI_ge (by omega) ?_
    unfold rangeI
    rw [List.map_map,List.getElem?_map,List.getElem?_range (by unfold Shp.n; omega)]
    show some (pairD g s.top (B * s.start) (B * s.piece) (-s.depth+((x+s.depth).toNat:Int)))=_
    congr 2
    omega
  obtain ⟨N,hN⟩:∃ N:Nat,s.top=least+N:=⟨(s.top - least).toNat,by omega⟩
  have hlv:∀ x,x≤s.top→x≤lvl g s.top (B * s.start) x∧lvl g s.top (B * s.start) x≤s.top:=fun x hx=>⟨(pck_is (g:=g) (K:=B * s.start) hx).1,(pck_is (g:=g) (K:=B * s.start) hx).2.1⟩
  generalize hP:PyData.list ((rangeI (-s.depth) s.n).map (pairD g s.top (B * s.start) (B * s.piece)))=P at *
  have key:=wh_down (p:=w_marks_by_1) (s:=l_marks_by_1) (E:=fun j=>mbE s (lI (s.row g)) B least P (least+j) .un .un) (o:=ownD g s.top (B * s.start) least) (N:=N) (by
      simp_arith [w_marks_by_1,mbE]
      have:decide (least+0 > least)=false:=decide_eq_false (by omega)
      simp_arith [this]) (fun j hj=>by
      have c1:decide (least+((j:Int)+1) > least)=true:=decide_eq_true (by omega)
      have c2:=hpk (least+j) (by omega) (by omega)
      have c3:least+((j:Int)+1) - 1+s.depth=least+j+s.depth:=by omega
      have c4:least+((j:Int)+1) - 1=least+j:=by omega
      subst hP
      simp_arith [w_marks_by_1,mbE,pairD,c1,c3,c2,c4]
      unfold ownD
      congr 1) (fun j hj=>by
      have c4:least+((j:Int)+1) - 1=least+j:=by omega
      simp_arith [l_marks_by_1,mbE,c4]) N (100000 - (N+1)) (Nat.le_refl _)
  have eN:N+1+(100000 - (N+1))=100000:=by omega
  rw [eN] at key
  simp only [mbE,← hN] at key
  have hsm:((least+(N:Int)) - least).toNat=N:=by omega
  simp_arith [m_marks_by,e1,hP,key]
  unfold mkD
  rw [show (s.top - least).toNat=N by omega]
  rcases lsr_find (o:=ownD g s.top (B * s.start) least) N with ⟨z1,z2⟩ | ⟨l,z1,z2,z3,z4,z5⟩
  · rw [z1,z2]
    have e0:least+0=least:=by omega
    simp_arith [e0,beq_self_eq_true]
    rfl
  · rw [z1,z2]
    have e0:((least+(l+1)) == least)=false:=by
      rw [beq_eq_false_iff_ne]; omega
    have e2:least+(l+1) - 1=least+l:=by omega
    have c2:=hpk (least+l) (by omega) (by omega)
    have r1:rng2 [.int least,.int (least+l)]=.ret (rngL least (least+l)):=ev_rg2 (inR_of (by omega) (by omega)) (inR_of (by omega) (by omega))
    generalize hG:lvl g s.top (B * s.start) (least+l)=G at *
    have hG1:least+l < G:=by
      have a:=(hlv (least+l) (by omega)).1
      have b:¬ lvl g s.top (B * s.start) (least+l)=least+l:=by
        unfold ownD at z5
        exact of_decide_eq_false z5
      omega
    have hG2:G≤s.top:=by
      have a:=(hlv (least+l) (by omega)).2
      omega
    have kf:=for_find (g:=gSet 7) (s:=l_marks_by_2) (f:=fun y=>match y with | .int w=>if chkD g s.top (B * s.start) G w=true then none else some (Re.d (mkn w (least+l))) | _=>none)
      (fun ρ=>∃ a,ρ=mbE s (lI (s.row g)) B least P (least+(l+1)) (.d (.int G)) a) (xs:=(rngL least (least+l)).reverse) (ρ:=mbE s (lI (s.row g)) B least P (least+(l+1)) (.d (.int G)) .un) (fun y hy ρ hρ=>by
        obtain ⟨w,rfl,w1,w2⟩:=rngL_mem (List.mem_reverse.mp hy)
        obtain ⟨a,rfl⟩:=hρ
        refine ⟨_,rfl,?_⟩
        have ec:=e_is_chp h hg hB (x:=w) (G:=G) (by omega) (by omega) hG2
        show (∃ r,(if chkD g s.top (B * s.start) G w=true then none else some (Re.d (mkn w (least+l))))=some r∧l_marks_by_2 (mbE s (lI (s.row g)) B least P (least+(l+1)) (.d (.int G)) (.d (.int w)))=_)∨_∧∃ ρ2,l_marks_by_2 (mbE s (lI (s.row g)) B least P (least+(l+1)) (.d (.int G)) (.d (.int w)))=_∧_
        cases hc:chkD g s.top (B * s.start) G w with
        | true =>
          rw [hc] at ec
          refine .inr ⟨by show (if chkD g s.top (B * s.start) G w=true then none else _)=none; rw [hc]; rfl,_,?_,.d (.int w),rfl⟩
          simp_arith [l_marks_by_2,mbE,ec,Bool.not_true]
        | false =>
          rw [hc] at ec
          refine .inl ⟨_,rfl,?_⟩
          simp_arith [l_marks_by_2,mbE,ec,Bool.not_false,e2]
          rfl) ⟨_,rfl⟩
    have hfind:(rngL least (least+l)).reverse.findSome? (fun y=>match y with | .int w=>if chkD g s.top (B * s.start) G w=true then none else some (Re.d (mkn w (least+l))) | _=>none)=((rangeI 0 l.toNat).reverse.find? (fun k=>!chkD g s.top (B * s.start) G (least+k))).map fun k=>Re.d (mkn (least+k) (least+l)):=by
      have er:rngL least (least+l)=(rangeI 0 l.toNat).map fun k=>PyData.int (least+k):=by
        unfold rngL rangeI
        rw [show (least+l - least).toNat=l.toNat by omega,List.map_map,List.map_map]
        refine List.map_congr_left fun i _=>?_
        show PyData.int (least+(i:Int))=PyData.int (least+(0+(i:Int)))
        congr 1
        omega
      rw [er,← List.map_reverse]
      generalize (rangeI 0 l.toNat).reverse=L
      induction L with
      | nil=>rfl
      | cons k L ih =>
        rw [List.map_cons,List.findSome?_cons]
        cases hc:chkD g s.top (B * s.start) G (least+k) with
        | true =>
          rw [List.find?_cons_of_neg (by simp [hc])]
          simp only [hc,if_true]
          exact ih
        | false =>
          rw [List.find?_cons_of_pos (by simp [hc])]
          simp [hc]
    rw [hfind] at kf
    simp only [mbE] at kf
    subst hP
    cases hfd:(rangeI 0 l.toNat).reverse.find? (fun k=>!chkD g s.top (B * s.start) G (least+k)) with
    | some k =>
      rw [hfd] at kf
      rcases kf with ⟨r,q1,q2⟩ | ⟨q1,_⟩
      · cases q1
        simp only [pairD,hG] at c2
        try simp only [pairD] at q2
        simp_arith [pairD,e0,e2,c2,r1,q2]
        rw [hG,hfd]
      · cases q1
    | none =>
      rw [hfd] at kf
      rcases kf with ⟨r,q1,q2⟩ | ⟨q1,ρ2,q2,a,rfl⟩
      · cases q1
      · simp only [pairD,hG] at c2
        try simp only [pairD] at q2
        have e3:least+(l+1)=least+l+1:=by omega
        simp_arith [pairD,e0,e2,c2,r1,q2]
        rw [e3,hG,hfd]
        rfl
theorem e_marks {s:Shp} (h:s.Ok) {fs:List (List Int)} (hf:∀ l∈fs,DayB l) (hl:fs.length≤6) {t:Nat} {day:List Int} (ht:fs[t]?=some day) {least:Int} (l1:-s.depth≤least) (l2:least≤s.top) :
    m_marks [.d s.d,.d (fD fs),.d (.int t),.d (.int least)]=.ret (.d (mkD (s.sms day (fs.drop (t+1))) s.top ((s.bk (fs.drop (t+1))).2 * day.sum * s.start) least)):=by
  have e1:=e_day_sums h hf hl ht
  have hd:DayB day:=hf day (List.mem_of_getElem? ht)
  obtain ⟨k1,k2⟩:=bk_nb h (fs:=fs.drop (t+1)) fun l hl=>hf l (List.mem_of_mem_drop hl)
  have hlen:(fs.drop (t+1)).length≤6:=by rw [List.length_drop]; omega
  have c1:=sm_nb h hd k1 k2
  have c2:=nb_mul k2 (sum_nbD hd)
  have hpos:0 < (s.bk (fs.drop (t+1))).2 * day.sum:=Int.mul_pos (bk_sc fun l hl=>hf l (List.mem_of_mem_drop hl)) hd.pos
  have e2:=e_marks_by h (g:=s.sms day (fs.drop (t+1))) (fun x x1 x2=>nb_mono (c1 x x1 x2) (by omega)) (nb_mono c2 (by omega)) (Int.le_of_lt hpos) l1 l2
  simp_arith [m_marks,e1,e2]
end My
set_option Elab.async false
set_option linter.all false
set_option maxRecDepth 100000
set_option exponentiation.threshold 9000
namespace My
open PySem PySem.Spec PyProof.Rows L2 Tw
theorem cut_from (xs:List PyData) (t:Nat):sl3 (.tuple xs) (some (t:Int)) none=.ret (.tuple (xs.drop t)):=by
  show Tr.ret (PyData.tuple (L2.cutD xs (some (t:Int)) none))=_
  unfold L2.cutD
  rw [HT.sIx_nat,HT.sIx_none]
  rcases Nat.le_total t xs.length with hle | hle
  · rw [Nat.min_eq_left hle,List.take_of_length_le (by rw [List.length_drop]; exact Nat.le_refl _)]
  · rw [Nat.min_eq_right hle,List.drop_eq_nil_of_le (Nat.le_refl _),List.drop_eq_nil_of_le hle]
    simp
theorem mapT_day {h:PyData→Tr PyData} {f:List Int→Int}:∀ {fs:List (List Int)},(∀ l∈fs,h (tI l)=.ret (.int (f l)))→mapT h (fs.map tI)=.ret ((fs.map f).map PyData.int)
  | [],_=>rfl
  | l::fs,hl=>by
    have ih:=mapT_day (h:=h) (f:=f) (fs:=fs) fun q hq=>hl q (List.mem_cons_of_mem _ hq)
    rw [List.map_cons,mapT,hl l (by simp),Tr.ret_bind,ih]
    rfl
structure FOk (fs:List (List Int)):Prop where
  b:∀ l∈fs,DayB l∧∃ n∈l,n > 0
  len:fs.length≤6
theorem FOk.B {fs:List (List Int)} (h:FOk fs):∀ l∈fs,DayB l:=fun l hl=>(h.b l hl).1
theorem FOk.drop {fs:List (List Int)} (h:FOk fs) (t:Nat):FOk (fs.drop t):=⟨fun l hl=>h.b l (List.mem_of_mem_drop hl),by rw [List.length_drop]; have:=h.len; omega⟩
theorem lc_one (q:List Sl→Tr PyData) (x:PyData):lc2 (gSet 0) q [.un] x=q [.d x]:=rfl
theorem m_reach {q:List Sl→Tr PyData} (hq:∀ l:List Int,(∃ n∈l,n > 0)→l.length≤100→lc2 (gSet 0) q [.un] (tI l)=.ret (.int (great l))) {fs:List (List Int)} (hf:FOk fs):mapT (lc2 (gSet 0) q [.un]) (fs.map tI)=.ret ((fs.map great).map PyData.int) :=
  mapT_day fun l hl=>hq l (hf.b l hl).2 (by have:=(hf.b l hl).1.len; omega)
theorem cut_fD (fs:List (List Int)) (t:Nat):sl3 (fD fs) (some (t:Int)) none=.ret (fD (fs.drop t)):=by
  unfold fD
  rw [cut_from,List.map_drop]
theorem e_free {s:Shp} {fs:List (List Int)} (hf:FOk fs) (t:Nat):m_free_from [.d s.d,.d (fD fs),.d (.int t)]=.ret (.d (.int (reach (fs.drop t) - s.depth))):=by
  have hm:=m_reach (q:=q_free_from_1) (fun l h1 h2=>by
    have e:=e_great h1 h2
    rw [lc_one]
    simp_arith [q_free_from_1,e]) (hf.drop t)
  have hs:small ((fs.drop t).map tI).length=true:=small_le (by rw [List.length_map]; have:=(hf.drop t).len; omega)
  have er:(List.map great (fs.drop t)).sum=reach (fs.drop t):=rfl
  simp_arith [m_free_from,cut_fD,it_fD,hs,hm,er]
theorem reach_drop {fs:List (List Int)} (hp:∀ l∈fs,∃ n∈l,n > 0):∀ t:Nat,0≤reach (fs.drop t)∧reach (fs.drop t)≤reach fs:=by
  induction fs with
  | nil=>intro t; rw [List.drop_nil]; exact ⟨by decide,Int.le_refl _⟩
  | cons d fs ih =>
    have hp':∀ l∈fs,∃ n∈l,n > 0:=fun l hl=>hp l (List.mem_cons_of_mem _ hl)
    intro t
    cases t with
    | zero=>exact ⟨reach_0 hp,Int.le_refl _⟩
    | succ t =>
      obtain ⟨a,b⟩:=ih hp' t
      rw [List.drop_succ_cons,reach_cons]
      have g0:0≤great d:=by
        have h1:=(maxL_spec (snF_ne (k:=0) (hp d (by simp)))).1
        have h2:=(snF_mem h1).1
        unfold great
        omega
      omega
structure Dy (s:Shp) (fs:List (List Int)) (t:Nat) (day:List Int):Prop where
  ht:fs[t]?=some day
  kc:KC ((s.bk (fs.drop (t+1))).2 * day.sum * s.start) (reach (fs.drop t) - s.depth) s.top (s.sms day (fs.drop (t+1)))
  k0:0≤(s.bk (fs.drop (t+1))).2 * day.sum * s.start
theorem dy_of {s:Shp} (h:s.Ok) (c:s.Cv) {fs:List (List Int)} (hf:FOk fs) {t:Nat} (ht:t < fs.length):∃ day,Dy s fs t day:=by
  obtain ⟨day,hday⟩:∃ day,fs[t]?=some day:=⟨_,List.getElem?_eq_getElem ht⟩
  have ed:fs.drop t=day::fs.drop (t+1):=List.drop_eq_getElem?_toList_append .. |>.trans (by rw [hday]; rfl)
  have kc:=kc_sms c h.start0 (d:=day) (fs:=fs.drop (t+1)) (fun l hl=>hf.B l (List.mem_of_mem_drop (i:=t) (by rw [ed]; exact hl))) (fun l hl=>(hf.b l (List.mem_of_mem_drop (i:=t) (by rw [ed]; exact hl))).2)
  rw [← ed] at kc
  have hrB:∀ l∈fs.drop (t+1),DayB l:=fun l hl=>hf.B l (List.mem_of_mem_drop hl)
  exact ⟨day,hday,kc,Int.mul_nonneg (Int.le_of_lt (Int.mul_pos (bk_sc hrB) (hf.B day (List.mem_of_getElem? hday)).pos)) h.start0⟩
theorem uniq_le:∀ l:List Int,(uniq l).length≤l.length
  | []=>Nat.le_refl _
  | x::l=>by
    have:=uniq_le l
    rw [uniq]
    split
    · rw [List.length_cons]; omega
    · rw [List.length_cons,List.length_cons]; omega
theorem max1_tI {ns:List Int} (h:ns≠[]):cb1 max1D [tI ns]=.ret (.int (maxL ns)):=by
  unfold cb1 max1D onL tI
  simp [h]
theorem min1_tI {ns:List Int} (h:ns≠[]):cb1 min1D [tI ns]=.ret (.int (minL ns)):=by
  unfold cb1 min1D onL tI
  simp [h]
theorem sl_c7 (s:Shp):sl3 s.d none (some 7)=.ret (.tuple [.int s.top,.int s.depth,.int s.start,.int s.piece,.int s.keep,.int s.lack,.int s.lost]):=by unfold Shp.d; rfl
theorem sl_7c (s:Shp):sl3 s.d (some 7) none=.ret (tI [s.back,s.late]):=by unfold Shp.d; rfl
theorem sl_c2 (s:Shp):sl3 s.d none (some 2)=.ret (.tuple [.int s.top,.int s.depth]):=by unfold Shp.d; rfl
theorem sl_3c (s:Shp):sl3 s.d (some 3) none=.ret (.tuple [.int s.piece,.int s.keep,.int s.lack,.int s.lost,.int s.back,.int s.late]):=by unfold Shp.d; rfl
noncomputable def Shp.mm (s:Shp):Shp:={ s with back:=minL [s.back,s.late],late:=maxL [s.back,s.late] }
noncomputable def Shp.st (s:Shp) (z:Int):Shp:={ s with start:=z }
theorem mm_d (s:Shp):PyData.tuple [.int s.top,.int s.depth,.int s.start,.int s.piece,.int s.keep,.int s.lack,.int s.lost,.int (minL [s.back,s.late]),.int (maxL [s.back,s.late])]=(Shp.mm s).d:=shp_of
theorem st_d (s:Shp) (z:Int):PyData.tuple [.int s.top,.int s.depth,.int z,.int s.piece,.int s.keep,.int s.lack,.int s.lost,.int s.back,.int s.late]=(Shp.st s z).d:=shp_of
theorem mm_dr {s:Shp} (h:s.Dr):(Shp.mm s).Dr:=by
  have hp:=h.p
  have m1:=(minL_spec (ns:=[s.back,s.late]) (by simp)).1
  have m2:=(maxL_spec (ns:=[s.back,s.late]) (by simp)).1
  have a1:=hp (minL [s.back,s.late]) (by simp only [List.mem_cons,List.not_mem_nil,or_false] at m1 ⊢; omega)
  have a2:=hp (maxL [s.back,s.late]) (by simp only [List.mem_cons,List.not_mem_nil,or_false] at m2 ⊢; omega)
  refine ⟨h.t0,h.d0,h.td,fun n hn=>?_⟩
  simp only [Shp.mm,List.mem_cons,List.not_mem_nil,or_false] at hn
  simp only [List.mem_cons,List.not_mem_nil,or_false,forall_eq_or_imp,forall_eq] at hp
  obtain ⟨h1,h2,h3,h4,h5,h6,h7⟩:=hp
  rcases hn with rfl | rfl | rfl | rfl | rfl | rfl | rfl <;> assumption
theorem mm_cv {s:Shp} (h:s.Dr):(Shp.mm s).Cv:=by
  have hp:=h.p
  have m1:=(minL_spec (ns:=[s.back,s.late]) (by simp)).2
  have m2:=(maxL_spec (ns:=[s.back,s.late]) (by simp)).2
  have a1:=m1 s.back (by simp)
  have a2:=m2 s.back (by simp)
  simp only [List.mem_cons,List.not_mem_nil,or_false,forall_eq_or_imp,forall_eq] at hp
  exact ⟨hp.2.2.1.1,hp.2.2.2.1.1,by show minL [s.back,s.late]≤maxL [s.back,s.late]; omega⟩
theorem st_dr {s:Shp} (h:s.Dr) {z:Int} (z0:0≤z) (z1:z≤1000000):(Shp.st s z).Dr:=by
  have hp:=h.p
  refine ⟨h.t0,h.d0,h.td,fun n hn=>?_⟩
  simp only [Shp.st,List.mem_cons,List.not_mem_nil,or_false] at hn
  simp only [List.mem_cons,List.not_mem_nil,or_false,forall_eq_or_imp,forall_eq] at hp
  obtain ⟨h1,h2,h3,h4,h5,h6,h7⟩:=hp
  rcases hn with rfl | rfl | rfl | rfl | rfl | rfl | rfl
  · exact ⟨z0,z1⟩
  all_goals assumption
theorem st_cv {s:Shp} (h:s.Cv) (z:Int):(Shp.st s z).Cv:=⟨h.k0,h.l0,h.bl⟩

theorem e_rises {s s':Shp} (h:s.Ok) (h':s'.Ok) (c:s.Cv) (c':s'.Cv) (r:s.Ri s') {fs:List (List Int)} (hf:FOk fs) {t:Nat} (ht:t < fs.length) (hz:s.start=0∨t+1=fs.length) {least:Int} (l0:reach (fs.drop t) - s.depth≤least) (l1:-s.depth≤least) (l2:least≤s.top) :
    m_law_rises [.d s.d,.d s'.d,.d (fD fs),.d (.int t),.d (.int least)]=.ret (.d (.bool true)):=by
  obtain ⟨day,D⟩:=dy_of h c hf ht
  obtain ⟨day',D'⟩:=dy_of h' c' hf ht
  have:day'=day:=by
    have:=D'.ht
    rw [D.ht] at this
    cases this
    rfl
  subst this
  have em:=e_marks h hf.B hf.len D.ht l1 l2
  have em':=e_marks h' hf.B hf.len D.ht (least:=least) (by rw [r.depth]; exact l1) (by rw [r.top]; exact l2)
  have kc:=D.kc
  have k0:=D.k0
  have kc':=D'.kc
  have ed:fs.drop t=day'::fs.drop (t+1):=List.drop_eq_getElem?_toList_append .. |>.trans (by rw [D.ht]; rfl)
  have hz':s.start=0∨fs.drop (t+1)=[]:=by
    rcases hz with e | e
    · exact .inl e
    · right; rw [e,List.drop_length]
  have dn:=dn_sms r (d:=day') (fs:=fs.drop (t+1)) hz' (fun l hl=>hf.B l (List.mem_of_mem_drop (i:=t) (by rw [ed]; exact hl))) (fun l hl=>(hf.b l (List.mem_of_mem_drop (i:=t) (by rw [ed]; exact hl))).2)
  rw [← ed] at dn
  rw [sc_ri (s:=s) (s':=s'),r.start,r.depth,r.top] at kc'
  rw [sc_ri (s:=s) (s':=s'),r.start,r.top] at em'
  obtain ⟨L,G,e1,hm⟩:=mk_of k0 kc l0 l2
  obtain ⟨L',G',e1',hm'⟩:=mk_of k0 kc' l0 l2
  obtain ⟨q1,q2⟩:=mk_rise k0 hm hm' (dn.sub l0 (Int.le_refl _)) l2
  rw [e1] at em
  rw [e1'] at em'
  unfold mks at em em'
  simp_arith [m_law_rises,em,em',beq_self_eq_true,Bool.not_true,decide_eq_true q1,decide_eq_true q2]
theorem sl_5 (s:Shp):sl3 s.d none (some 5)=.ret (.tuple [.int s.top,.int s.depth,.int s.start,.int s.piece,.int s.keep]):=by unfold Shp.d; rfl
theorem sl_6 (s:Shp):sl3 s.d (some (5+1)) none=.ret (.tuple [.int s.lost,.int s.back,.int s.late]):=by unfold Shp.d; rfl
theorem sl_4 (s:Shp):sl3 s.d none (some 4)=.ret (.tuple [.int s.top,.int s.depth,.int s.start,.int s.piece]):=by unfold Shp.d; rfl
theorem sl_45 (s:Shp):sl3 s.d (some (4+1)) none=.ret (.tuple [.int s.lack,.int s.lost,.int s.back,.int s.late]):=by unfold Shp.d; rfl
noncomputable def Shp.lk (s:Shp) (z:Int):Shp:={ s with lack:=z }
noncomputable def Shp.kp (s:Shp) (z:Int):Shp:={ s with keep:=z }
theorem lk_d (s:Shp) (z:Int):PyData.tuple [.int s.top,.int s.depth,.int s.start,.int s.piece,.int s.keep,.int z,.int s.lost,.int s.back,.int s.late]=(Shp.lk s z).d:=shp_of
theorem kp_d (s:Shp) (z:Int):PyData.tuple [.int s.top,.int s.depth,.int s.start,.int s.piece,.int z,.int s.lack,.int s.lost,.int s.back,.int s.late]=(Shp.kp s z).d:=shp_of
theorem lk_dr {s:Shp} (h:s.Dr) {z:Int} (z0:0≤z) (z1:z≤1000000):(Shp.lk s z).Dr:=by
  have hp:=h.p
  refine ⟨h.t0,h.d0,h.td,fun n hn=>?_⟩
  simp only [Shp.lk,List.mem_cons,List.not_mem_nil,or_false] at hn
  simp only [List.mem_cons,List.not_mem_nil,or_false,forall_eq_or_imp,forall_eq] at hp
  obtain ⟨h1,h2,h3,h4,h5,h6,h7⟩:=hp
  rcases hn with rfl | rfl | rfl | rfl | rfl | rfl | rfl
  all_goals first | assumption | exact ⟨z0,z1⟩
theorem kp_dr {s:Shp} (h:s.Dr) {z:Int} (z0:0≤z) (z1:z≤1000000):(Shp.kp s z).Dr:=by
  have hp:=h.p
  refine ⟨h.t0,h.d0,h.td,fun n hn=>?_⟩
  simp only [Shp.kp,List.mem_cons,List.not_mem_nil,or_false] at hn
  simp only [List.mem_cons,List.not_mem_nil,or_false,forall_eq_or_imp,forall_eq] at hp
  obtain ⟨h1,h2,h3,h4,h5,h6,h7⟩:=hp
  rcases hn with rfl | rfl | rfl | rfl | rfl | rfl | rfl
  all_goals first | assumption | exact ⟨z0,z1⟩
theorem pick3 {a b i:Int} (a0:0≤a) (b0:0≤b) (a1:a≤2000000) (b1:b≤2000000) (i0:0≤i) (i1:i < 3):∃ m,atI [PyData.int 1,.int (1+a),.int (1+b)] i=some (.int m)∧1≤m:=by
  obtain ⟨z,hz,z0,z1⟩:=pickI (xs:=[PyData.int 1,.int (1+a),.int (1+b)]) (lo:=1) (hi:=3000000) (by simp [intIn]; omega) i0 i1
  exact ⟨z,hz,z0⟩
theorem s_lack {s:Shp} (h:s.Dr) (c:s.Cv):Al (m_law_dearer [.pen,.d s.d,.d (.int 5)]) 3 fun r=>∃ s':Shp,r=.d s'.d∧s'.Dr∧s'.Cv∧s.Ri s':=by
  have hp:=h.p
  simp only [List.mem_cons,List.not_mem_nil,or_false,forall_eq_or_imp,forall_eq] at hp
  obtain ⟨h1,h2,h3,h4,h5,h6,h7⟩:=hp
  simp_arith [m_law_dearer,ev_drw]
  refine al_drw (n:=2) (by decide) (by decide) (by decide) fun a a0 a1=>?_
  try simp_arith [ev_drw]
  refine al_drw (n:=1) (by decide) (by decide) (by decide) fun b b0 b1=>?_
  try simp_arith [ev_drw]
  refine al_drw (n:=0) (by decide) (by decide) (by decide) fun i i0 i1=>?_
  obtain ⟨m,hm,m1⟩:=pick3 a0 b0 (by omega) (by omega) i0 i1
  have z0:s.lack≤minI 1000000 (s.lack+m)∧minI 1000000 (s.lack+m)≤1000000:=by unfold minI; split <;> omega
  simp_arith [ev_drw,hm,sl_5,sl_6,lk_d]
  generalize minI 1000000 (s.lack+m)=z at *
  exact al_ret ⟨Shp.lk s z,rfl,lk_dr h (by omega) z0.2,⟨c.k0,by show 0≤z; omega,c.bl⟩,⟨rfl,rfl,rfl,rfl,rfl,rfl,rfl,Int.le_refl _,z0.1⟩⟩
theorem s_keep {s:Shp} (h:s.Dr) (c:s.Cv):Al (m_law_dearer [.pen,.d s.d,.d (.int 4)]) 3 fun r=>∃ s':Shp,r=.d s'.d∧s'.Dr∧s'.Cv∧s'.Ri s:=by
  have hp:=h.p
  simp only [List.mem_cons,List.not_mem_nil,or_false,forall_eq_or_imp,forall_eq] at hp
  obtain ⟨h1,h2,h3,h4,h5,h6,h7⟩:=hp
  simp_arith [m_law_dearer,ev_drw]
  refine al_drw (n:=2) (by decide) (by decide) (by decide) fun a a0 a1=>?_
  try simp_arith [ev_drw]
  refine al_drw (n:=1) (by decide) (by decide) (by decide) fun b b0 b1=>?_
  try simp_arith [ev_drw]
  refine al_drw (n:=0) (by decide) (by decide) (by decide) fun i i0 i1=>?_
  obtain ⟨m,hm,m1⟩:=pick3 a0 b0 (by omega) (by omega) i0 i1
  have z0:s.keep≤minI 1000000 (s.keep+m)∧minI 1000000 (s.keep+m)≤1000000:=by unfold minI; split <;> omega
  simp_arith [ev_drw,hm,sl_4,sl_45,kp_d]
  generalize minI 1000000 (s.keep+m)=z at *
  exact al_ret ⟨Shp.kp s z,rfl,kp_dr h (by omega) z0.2,⟨by show 0≤z; omega,c.l0,c.bl⟩,⟨rfl,rfl,rfl,rfl,rfl,rfl,rfl,z0.1,Int.le_refl _⟩⟩
theorem s_dayr {s:Shp} (hs:s.Dr) (c:s.Cv) {fs:List (List Int)} (hf:FOk fs) {t:Nat} (ht:t < fs.length) (hz:s.start=0∨t+1=fs.length) :
    Al (m_law_day_right [.pen,.d s.d,.d (fD fs),.d (.int t)]) 14 fun r=>r=.d (.bool true):=by
  have h:=hs.ok
  have ef:=e_free (s:=s) hf t
  have hp:∀ l∈fs,∃ n∈l,n > 0:=fun l hl=>(hf.b l hl).2
  have r0:=(reach_drop hp t).1
  have td:=hs.td
  have t0:=hs.t0
  have d0:=hs.d0
  by_cases hb:reach (fs.drop t) - s.depth > s.top
  · have cb:decide (reach (fs.drop t) - s.depth > s.top)=true:=decide_eq_true hb
    simp_arith [m_law_day_right,ev_drw,ef,cb]
    exact al_ret rfl
  have cb:decide (reach (fs.drop t) - s.depth > s.top)=false:=decide_eq_false hb
  simp_arith [m_law_day_right,ev_drw,ef,cb]
  refine al_drw (n:=13) (by omega) (by omega) (by decide) fun u u0 u1=>?_
  try simp_arith [ev_drw]
  refine al_drw (n:=12) (by omega) (by omega) (by decide) fun i i0 i1=>?_
  obtain ⟨v,hv,v0,v1⟩:=pickI (xs:=[PyData.int 0,.int u]) (lo:=0) (hi:=s.top - (reach (fs.drop t) - s.depth)) (by simp [intIn]; omega) i0 i1
  simp_arith [ev_drw,hv]
  refine al_bind (n:=3) (n':=9) (s_lack hs c) (by decide) ?_
  rintro _ ⟨sl,rfl,dl,cl,rl⟩
  simp_arith [ev_drw]
  refine al_bind (n:=3) (n':=6) (s_keep hs c) (by decide) ?_
  rintro _ ⟨sk,rfl,dk,ck,rk⟩
  simp_arith [ev_drw]
  refine al_bind (n:=3) (n':=3) (s_keep dl cl) (by decide) ?_
  rintro _ ⟨sb,rfl,db,cb',rb⟩
  have q1:=e_rises h dl.ok c cl rl hf ht hz (least:=reach (fs.drop t) - s.depth+v) (by omega) (by omega) (by omega)
  have q2:=e_rises dk.ok h ck c rk hf ht (by rw [← rk.start]; exact hz) (least:=reach (fs.drop t) - s.depth+v) (by rw [← rk.depth]; omega) (by rw [← rk.depth]; omega) (by rw [← rk.top]; omega)
  have q3:=e_rises db.ok dl.ok cb' cl rb hf ht (by rw [← rb.start,rl.start]; exact hz) (least:=reach (fs.drop t) - s.depth+v) (by rw [← rb.depth,rl.depth]; omega) (by rw [← rb.depth,rl.depth]; omega) (by rw [← rb.top,rl.top]; omega)
  simp_arith [ev_drw,q1,q2,Bool.not_true]
  refine al_bind (n:=3) (n':=0) (s_lack dk ck) (by decide) ?_
  rintro _ ⟨sx,rfl,dx,cx,rx⟩
  have q4:=e_rises dk.ok dx.ok ck cx rx hf ht (by rw [← rk.start]; exact hz) (least:=reach (fs.drop t) - s.depth+v) (by rw [← rk.depth]; omega) (by rw [← rk.depth]; omega) (by rw [← rk.top]; omega)
  simp_arith [ev_drw,q3,q4]
  exact al_ret rfl
theorem srtS_of {ns:List Int} (h1:ns.length < 4000) (h2:(uniq ns).length < 64):srtSD [.list (ns.map PyData.int)]=some ((setS ns).map PyData.int):=by
  show ((ints? _).bind _)=_
  rw [ints?_map]
  show (if _ then _ else _)=_
  rw [if_pos (decide_eq_true ⟨h1,h2⟩)]
theorem law_true:Al (m_law law0) 2000 fun o=>o=.ret (.d (.bool true)):=by
  simp_arith [m_law,law0,ev_drw]
  refine al_bind (n:=300) (n':=1000) (s_shop true) (by decide) ?_
  rintro _ ⟨s,fs,rfl,hs,hF,hre⟩
  have hf:FOk fs:=⟨fun l hl=>⟨hF.B l hl,(hF.f l hl).pos⟩,hF.l1⟩
  have l0:=hF.l0
  have l1:=hF.l1
  have e1:=max1_tI (ns:=[s.back,s.late]) (by simp)
  have e2:=min1_tI (ns:=[s.back,s.late]) (by simp)
  simp_arith [ev_drw,sl_c7,sl_7c,e1,e2,mm_d]
  have hs':=mm_dr hs
  have hc:=mm_cv hs
  generalize Shp.mm s=o at *
  have hd0:=st_dr hs' (z:=0) (by decide) (by decide)
  have hc0:=st_cv hc 0
  have ez:(fs.length:Int) - 1=((fs.length - 1:Nat):Int):=by omega
  simp_arith [ev_drw,sl_c2,sl_3c,st_d,len_fD,ez]
  refine al_bind (n:=14) (n':=900) (s_dayr hs' hc hf (t:=fs.length - 1) (by omega) (.inr (by omega))) (by decide) ?_
  rintro _ rfl
  simp_arith [ev_drw,Bool.not_true,len_fD]
  refine al_drw (n:=800) (by omega) (by omega) (by decide) fun u u0 u1=>?_
  have hu:(uniq [0,u]).length≤2:=uniq_le [0,u]
  have ec:cbo1 srtSD [.list [.int 0,.int u]]=.ret ((setS [0,u]).map PyData.int):=by
    have es:=srtS_of (ns:=[0,u]) (by simp) (by omega)
    show Tr.of (srtSD _)=_
    exact congrArg Tr.of es
  have hmem:∀ x∈setS [0,u],0≤x∧x < fs.length:=fun x hx=>by
    have:=(setS_mem _ x).mp hx
    simp only [List.mem_cons,List.not_mem_nil,or_false] at this
    omega
  have hsl:(setS [0,u]).length≤2:=by rw [setS_len]; exact hu
  simp_arith [ev_drw,ec]
  generalize setS [0,u]=X at *
  refine al_bind (n:=28) (n':=0) (P:=fun q=>∃ J:Sl,q=.next [.un,.pen,.d o.d,.d (fD fs),.d (Shp.st o 0).d,J]) ?_ (by decide) ?_
  · refine al_for (n:=14) (fun ρ=>∃ J:Sl,ρ=[.un,.pen,.d o.d,.d (fD fs),.d (Shp.st o 0).d,J]) ⟨_,rfl⟩ (by rw [List.length_map]; omega) ?_ ?_
    · rintro y ρ hy ⟨J,rfl⟩
      obtain ⟨x,hx,rfl⟩:=List.mem_map.mp hy
      obtain ⟨x1,x2⟩:=hmem x hx
      obtain ⟨k,rfl⟩:∃ k:Nat,x=k:=⟨x.toNat,by omega⟩
      refine ⟨_,rfl,?_⟩
      simp_arith [l_law_1,ev_drw]
      refine al_bind (n:=14) (n':=0) (s_dayr hd0 hc0 hf (t:=k) (by omega) (.inl rfl)) (by decide) ?_
      rintro _ rfl
      simp_arith [ev_drw,Bool.not_true]
      exact al_ret ⟨_,rfl,_,rfl⟩
    · rintro ρ ⟨J,rfl⟩
      exact ⟨J,rfl⟩
  · rintro _ ⟨J,rfl⟩
    simp_arith [ev_drw]
    exact al_ret rfl
end My
set_option Elab.async false
set_option linter.all false
set_option maxRecDepth 100000
open PySem PySem.W PyProof.Rows L2
set_option maxRecDepth 100000 in
set_option maxHeartbeats 0 in
theorem PySem.Challenge.cw_twomarks_k33_whole_dearer_lacking_and_ke_holds : PySem.Challenge.rw_twomarks_k33_whole_dearer_lacking_and_ke.Holds := by
  refine My.hd ?_
  k_fill
  refine L2.walk_ofK (l:=PySem.Challenge.rw_twomarks_k33_whole_dearer_lacking_and_ke) (n:=63) (k:=9) (x:="_law_script") (CX:=CX0) (sp:=L2.spLaw) rfl (by decide) rfl ⟨rfl,by decide,by decide,rfl⟩ (fun w h Y=>PySem.W.kIn_of Y) ?F ?S ?C
  case F =>
    intro w mg fa h KX G hmg
    have d_stocks:Def (L2.KOf KX) mg "stocks" My.s_stocks ["shop"]:=by
      dsimp only [L2.KOf]
      refine' L2.def_mk KX G ?a ?l ?c ?k ?b
      (case a=>k_is); (case l=>k_is); (case c=>k_is); (case k=>k_is)
      (case b=>intro _ _ _ _ _ _ us hl; obtain ⟨_,rfl⟩:=L2.len1 hl; rfl)
    have d_greatest_seen:Def (L2.KOf KX) mg "greatest_seen" My.s_greatest_seen ["day"]:=by
      dsimp only [L2.KOf]
      refine' L2.def_mk KX G ?a ?l ?c ?k ?b
      (case a=>k_is); (case l=>k_is); (case c=>k_is); (case k=>k_is)
      (case b=>intro _ _ _ _ _ _ us hl; obtain ⟨_,rfl⟩:=L2.len1 hl; rfl)
    have d_next_stock:Def (L2.KOf KX) mg "next_stock" My.s_next_stock ["shop","level","fall"]:=by
      dsimp only [L2.KOf]
      refine' L2.def_mk KX G ?a ?l ?c ?k ?b
      (case a=>k_is); (case l=>k_is); (case c=>k_is); (case k=>k_is)
      (case b=>intro _ _ _ _ _ _ us hl; obtain ⟨_,_,_,rfl⟩:=L2.len3 hl; rfl)
    have d_day_cost:Def (L2.KOf KX) mg "day_cost" My.s_day_cost ["shop","level","fall"]:=by
      dsimp only [L2.KOf]
      refine' L2.def_mk KX G ?a ?l ?c ?k ?b
      (case a=>k_is); (case l=>k_is); (case c=>k_is); (case k=>k_is)
      (case b=>intro _ _ _ _ _ _ us hl; obtain ⟨_,_,_,rfl⟩:=L2.len3 hl; rfl)
    have d_end_cost:Def (L2.KOf KX) mg "end_cost" My.s_end_cost ["shop","stock"]:=by
      dsimp only [L2.KOf]
      refine' L2.def_mk KX G ?a ?l ?c ?k ?b
      (case a=>k_is); (case l=>k_is); (case c=>k_is); (case k=>k_is)
      (case b=>intro _ _ _ _ _ _ us hl; obtain ⟨_,_,rfl⟩:=L2.len2 hl; rfl)
    have d_end_costs:Def (L2.KOf KX) mg "end_costs" My.s_end_costs ["shop"]:=by
      dsimp only [L2.KOf]
      refine' L2.def_mk KX G ?a ?l ?c ?k ?b
      (case a=>k_is); (case l=>k_is); (case c=>k_is); (case k=>k_is)
      (case b=>intro _ _ _ _ _ _ us hl; obtain ⟨_,rfl⟩:=L2.len1 hl; rfl)
    have d_weighed:Def (L2.KOf KX) mg "weighed" My.s_weighed ["shop","day","level","ahead","scale"]:=by
      dsimp only [L2.KOf]
      refine' L2.def_mk KX G ?a ?l ?c ?k ?b
      (case a=>k_is); (case l=>k_is); (case c=>k_is); (case k=>k_is)
      (case b=>intro _ _ _ _ _ _ us hl; obtain ⟨_,_,_,_,_,rfl⟩:=L2.len5 hl; rfl)
    have d_level_sums:Def (L2.KOf KX) mg "level_sums" My.s_level_sums ["shop","day","ahead","scale"]:=by
      dsimp only [L2.KOf]
      refine' L2.def_mk KX G ?a ?l ?c ?k ?b
      (case a=>k_is); (case l=>k_is); (case c=>k_is); (case k=>k_is)
      (case b=>intro _ _ _ _ _ _ us hl; obtain ⟨_,_,_,_,rfl⟩:=L2.len4 hl; rfl)
    have d_cheapest_from:Def (L2.KOf KX) mg "cheapest_from" My.s_cheapest_from ["shop","low","by_level","scale"]:=by
      dsimp only [L2.KOf]
      refine' L2.def_mk KX G ?a ?l ?c ?k ?b
      (case a=>k_is); (case l=>k_is); (case c=>k_is); (case k=>k_is)
      (case b=>intro _ _ _ _ _ _ us hl; obtain ⟨_,_,_,_,rfl⟩:=L2.len4 hl; rfl)
    have d_cheapest:Def (L2.KOf KX) mg "cheapest" My.s_cheapest ["shop","by_level","scale"]:=by
      dsimp only [L2.KOf]
      refine' L2.def_mk KX G ?a ?l ?c ?k ?b
      (case a=>k_is); (case l=>k_is); (case c=>k_is); (case k=>k_is)
      (case b=>intro _ _ _ _ _ _ us hl; obtain ⟨_,_,_,rfl⟩:=L2.len3 hl; rfl)
    have d_day_sums:Def (L2.KOf KX) mg "day_sums" My.s_day_sums ["shop","falls","t"]:=by
      dsimp only [L2.KOf]
      refine' L2.def_mk KX G ?a ?l ?c ?k ?b
      (case a=>k_is); (case l=>k_is); (case c=>k_is); (case k=>k_is)
      (case b=>intro _ _ _ _ _ _ us hl; obtain ⟨_,_,_,rfl⟩:=L2.len3 hl; rfl)
    have d_is_cheapest:Def (L2.KOf KX) mg "is_cheapest" My.s_is_cheapest ["shop","by_level","scale","stock","level"]:=by
      dsimp only [L2.KOf]
      refine' L2.def_mk KX G ?a ?l ?c ?k ?b
      (case a=>k_is); (case l=>k_is); (case c=>k_is); (case k=>k_is)
      (case b=>intro _ _ _ _ _ _ us hl; obtain ⟨_,_,_,_,_,rfl⟩:=L2.len5 hl; rfl)
    have d_marks_by:Def (L2.KOf KX) mg "marks_by" My.s_marks_by ["shop","by_level","scale","least"]:=by
      dsimp only [L2.KOf]
      refine' L2.def_mk KX G ?a ?l ?c ?k ?b
      (case a=>k_is); (case l=>k_is); (case c=>k_is); (case k=>k_is)
      (case b=>intro _ _ _ _ _ _ us hl; obtain ⟨_,_,_,_,rfl⟩:=L2.len4 hl; rfl)
    have d_marks:Def (L2.KOf KX) mg "marks" My.s_marks ["shop","falls","t","least"]:=by
      dsimp only [L2.KOf]
      refine' L2.def_mk KX G ?a ?l ?c ?k ?b
      (case a=>k_is); (case l=>k_is); (case c=>k_is); (case k=>k_is)
      (case b=>intro _ _ _ _ _ _ us hl; obtain ⟨_,_,_,_,rfl⟩:=L2.len4 hl; rfl)
    have d_free_from:Def (L2.KOf KX) mg "free_from" My.s_free_from ["shop","falls","t"]:=by
      dsimp only [L2.KOf]
      refine' L2.def_mk KX G ?a ?l ?c ?k ?b
      (case a=>k_is); (case l=>k_is); (case c=>k_is); (case k=>k_is)
      (case b=>intro _ _ _ _ _ _ us hl; obtain ⟨_,_,_,rfl⟩:=L2.len3 hl; rfl)
    have d__law_pen:Def (L2.KOf KX) mg "_law_pen" My.s__law_pen ["_law_script"]:=by
      dsimp only [L2.KOf]
      refine' L2.def_mk KX G ?a ?l ?c ?k ?b
      (case a=>k_is); (case l=>k_is); (case c=>k_is); (case k=>k_is)
      (case b=>intro _ _ _ _ _ _ us hl; obtain ⟨_,rfl⟩:=L2.len1 hl; rfl)
    have d__law_draw:Def (L2.KOf KX) mg "_law_draw" My.s__law_draw ["_law_pen_here","_law_many"]:=by
      dsimp only [L2.KOf]
      refine' L2.def_mk KX G ?a ?l ?c ?k ?b
      (case a=>k_is); (case l=>k_is); (case c=>k_is); (case k=>k_is)
      (case b=>intro _ _ _ _ _ _ us hl; obtain ⟨_,_,rfl⟩:=L2.len2 hl; rfl)
    have d__law_prices:Def (L2.KOf KX) mg "_law_prices" My.s__law_prices ["_law_pen_here"]:=by
      dsimp only [L2.KOf]
      refine' L2.def_mk KX G ?a ?l ?c ?k ?b
      (case a=>k_is); (case l=>k_is); (case c=>k_is); (case k=>k_is)
      (case b=>intro _ _ _ _ _ _ us hl; obtain ⟨_,rfl⟩:=L2.len1 hl; rfl)
    have d__law_falls:Def (L2.KOf KX) mg "_law_falls" My.s__law_falls ["_law_pen_here","_law_days","_law_most"]:=by
      dsimp only [L2.KOf]
      refine' L2.def_mk KX G ?a ?l ?c ?k ?b
      (case a=>k_is); (case l=>k_is); (case c=>k_is); (case k=>k_is)
      (case b=>intro _ _ _ _ _ _ us hl; obtain ⟨_,_,_,rfl⟩:=L2.len3 hl; rfl)
    have d__law_reach:Def (L2.KOf KX) mg "_law_reach" My.s__law_reach ["_law_falls_here"]:=by
      dsimp only [L2.KOf]
      refine' L2.def_mk KX G ?a ?l ?c ?k ?b
      (case a=>k_is); (case l=>k_is); (case c=>k_is); (case k=>k_is)
      (case b=>intro _ _ _ _ _ _ us hl; obtain ⟨_,rfl⟩:=L2.len1 hl; rfl)
    have d__law_shop:Def (L2.KOf KX) mg "_law_shop" My.s__law_shop ["_law_pen_here","_law_is_free"]:=by
      dsimp only [L2.KOf]
      refine' L2.def_mk KX G ?a ?l ?c ?k ?b
      (case a=>k_is); (case l=>k_is); (case c=>k_is); (case k=>k_is)
      (case b=>intro _ _ _ _ _ _ us hl; obtain ⟨_,_,rfl⟩:=L2.len2 hl; rfl)
    have d__law_dearer:Def (L2.KOf KX) mg "_law_dearer" My.s__law_dearer ["_law_pen_here","_law_shop_here","_law_at"]:=by
      dsimp only [L2.KOf]
      refine' L2.def_mk KX G ?a ?l ?c ?k ?b
      (case a=>k_is); (case l=>k_is); (case c=>k_is); (case k=>k_is)
      (case b=>intro _ _ _ _ _ _ us hl; obtain ⟨_,_,_,rfl⟩:=L2.len3 hl; rfl)
    have d__law_rises:Def (L2.KOf KX) mg "_law_rises" My.s__law_rises ["_law_one","_law_other","_law_falls_here","_law_t","_law_begin"]:=by
      dsimp only [L2.KOf]
      refine' L2.def_mk KX G ?a ?l ?c ?k ?b
      (case a=>k_is); (case l=>k_is); (case c=>k_is); (case k=>k_is)
      (case b=>intro _ _ _ _ _ _ us hl; obtain ⟨_,_,_,_,_,rfl⟩:=L2.len5 hl; rfl)
    have d__law_day_right:Def (L2.KOf KX) mg "_law_day_right" My.s__law_day_right ["_law_pen_here","_law_shop_here","_law_falls_here","_law_t"]:=by
      dsimp only [L2.KOf]
      refine' L2.def_mk KX G ?a ?l ?c ?k ?b
      (case a=>k_is); (case l=>k_is); (case c=>k_is); (case k=>k_is)
      (case b=>intro _ _ _ _ _ _ us hl; obtain ⟨_,_,_,_,rfl⟩:=L2.len4 hl; rfl)
    have d_law:Def (L2.KOf KX) mg "law" My.s_law ["_law_script"]:=by
      dsimp only [L2.KOf]
      refine' L2.def_mk KX G ?a ?l ?c ?k ?b
      (case a=>k_is); (case l=>k_is); (case c=>k_is); (case k=>k_is)
      (case b=>intro _ _ _ _ _ _ us hl; obtain ⟨_,rfl⟩:=L2.len1 hl; rfl)
    have T:My.Txt (L2.KOf KX) mg:=by
      dsimp only [L2.KOf] at *
      refine' My.txt_mk KX G ?z_len ?z_abs ?z_max ?z_min ?z_tuple ?z_range ?z_sorted ?z_sum ?z_enumerate ?z_reversed ?z_set ?z_TOP ?z_DEPTH ?z_START ?z_PIECE ?z_KEEP ?z_LACK ?z_LOST ?z_BACK ?z_LATE d_stocks d_greatest_seen d_next_stock d_day_cost d_end_cost d_end_costs d_weighed d_level_sums d_cheapest_from d_cheapest d_day_sums d_is_cheapest d_marks_by d_marks d_free_from d__law_pen d__law_draw d__law_prices d__law_falls d__law_reach d__law_shop d__law_dearer d__law_rises d__law_day_right d_law
      (case z_len=>k_is)
      (case z_abs=>k_is)
      (case z_max=>k_is)
      (case z_min=>k_is)
      (case z_tuple=>k_is)
      (case z_range=>k_is)
      (case z_sorted=>k_is)
      (case z_sum=>k_is)
      (case z_enumerate=>k_is)
      (case z_reversed=>k_is)
      (case z_set=>k_is)
      (case z_TOP=>k_is)
      (case z_DEPTH=>k_is)
      (case z_START=>k_is)
      (case z_PIECE=>k_is)
      (case z_KEEP=>k_is)
      (case z_LACK=>k_is)
      (case z_LOST=>k_is)
      (case z_BACK=>k_is)
      (case z_LATE=>k_is)
    obtain ⟨f,fd,F,hm,_⟩:=T.d_law.ex
    have e0:=hmg.symm.trans hm
    cases e0
    refine ⟨fd,?_,fun base _ _=>My.ok_law T F (L2.Tr.ok_mono (L2.Tr.all_ok My.law_true.out (by decide)) fun _ _ h=>h.2)⟩
    obtain ⟨oc,od,kV,doc,pm,an,cdv,ct,osl,rfl,lk,hcd⟩:=F.ex
    exact fun s u=>.of_eq rfl
  case S=>exact fun K H a ns hl _ hS=>⟨a,ns,rfl,hS,hl,fun _=>rfl⟩
  case C=>exact fun _ _ _ _ z=>z

